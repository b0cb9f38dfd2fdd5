import PyProof.Rows.All
import Wide.All
import OpenK.AllK
import Wide.FinOn
import Lean
import PyProof.EqAt
import PyProof.EqKinds
import PyProof.TupleCall
import KE.KDictSum
import KE.KMinKey
import PyProof.Rows.CallKwBuiltin
import PyProof.SumWalkG
import PyProof.WalksMore
import PyProof.AutoSeq1
import PySem.Challenge.RW_evenpoints_k20_how_uneven
set_option Elab.async false
set_option linter.all false
set_option maxRecDepth 100000
set_option maxHeartbeats 4000000
open And renaming intro->EY, imp_right->E6
open Array renaming length_toList->HP, all_eq_true_iff_forall_mem->IL, toArray_toList->Ku, mk->Ll
open Bool renaming and_eq_true_iff->Fb, or_eq_true_iff->FC, false_ne_true->FO, false_eq_true->GB, not_false->HY, not_true->Ip, eq_iff_iff->Jn
open Classical renaming choose_spec->E5, choose->Gm
open Exists renaming imp->Fi
open False renaming elim->GR
open ForInStep renaming yield->Jq
open Iff renaming rfl->Ju
open Int renaming natAbs_natCast->Gj, toNat_natCast->GO, fmod_nonneg_of_pos->GT, gcd->G6, natAbs_mul->Hb, mul_le_mul_of_nonneg_right->Hg, eq_ofNat_of_zero_le->Hq, toNat->Hu, fdiv_eq_ediv_of_nonneg->Hw, fmod_lt_of_pos->Hz, le_trans->Jc, fmod_add_mul_fdiv->Ki, natCast_mul->Km, mul_le_mul->KB, mul_nonneg->KC, mul_comm->Lh, mul_pos->Lv, le_refl->Lx
open List renaming mem_cons_of_mem->E9, length_map->Fd, mem_cons_self->Ff, length_append->Fj, mem_append_right->Fu, take_of_length_le->Fv, size_toArray->Fw, take_succ_eq_append_getElem->Fz, getElem?_eq_getElem->FA, length_cons->FJ, getElem?_eq_some_iff->FK, getElem?_set_ne->FM, mem_cons->FN, replicate->FQ, getElem?_set_self->FR, getD_eq_getElem?_getD->FW, map_append->FY, getElem?_map->F0, mem_append->Ga, mem_singleton->Gb, length_take->Gc, getElem_mem->Ge, range->Gh, map_cons->Gi, Nodup->Gk, mem_map->Gn, flatMap_cons->Gp, lookup_cons->Gu, drop_eq_getElem_cons->Gx, length_filterMap_le->Gz, find?_cons->GE, getElem?_set->GH, replicate_succ->GL, map_map->GM, filterMap_cons->GX, all_eq_true->G5, foldl_append->G9, flatMap_append->G_, drop_length->Hj, lookup->Hl, mem_of_getElem?->Hm, nodup_cons->Hs, map_congr_left->Ht, flatMap_singleton->Hv, length_filter_le->HA, mem_append_left->HC, append_nil->HG, flatten_cons->HJ, foldl_cons->HK, length_drop->HU, mem_range->HV, mem_filterMap->HZ, pairwise_cons->Ia, append_assoc->Il, length_range->Io, exists_cons_of_ne_nil->Is, mem_of_mem_take->Iu, getElem?_append_left->Iv, mem_flatMap->Iy, any_cons->IJ, drop_of_length_le->IP, length_singleton->I_, take_append_drop->Jb, cons_append->Jd, map_flatMap->Je, eq_nil_of_length_eq_zero->Jf, map_take->Jh, mem_filter->Jl, length_nil->Jp, getElem?_append_right->Jy, map_nil->JE, length_zipIdx->JG, mem_of_find?_eq_some->JL, getElem?_replicate->JU, length_eq_zero_iff->J0, filterMap_eq_map'->J9, of_mem_zip->Kd, getElem?_eq_none->Kf, filterMap_append->Ko, map->Ks, mem_of_mem_drop->Kw, pairwise_append->Kx, length_pos_iff->KM, length_flatMap->KN, map_id->KO, map_drop->K7
open List.Pairwise renaming nil->JN
open List.cons renaming injEq->GG
open Nat renaming lt_of_lt_of_le->E8, le_refl->Fa, pow_le_pow_right->Ft, zero_le->FI, le_trans->FP, ne_of_lt->FZ, lt_irrefl->Ha, lt_of_le_of_lt->H_, ne_of_gt->Ic, le_of_succ_le->Im, lt_succ_of_lt->IV, mul_add->IW, min_eq_left->Jt, add_mul->Jw, mul_comm->JF, min_eq_right->J3, lt_succ_self->J4, mul_lt_mul''->J6, mul_ne_zero->Kl, pow_succ->Kn, mul_le_mul_right->Ky, le_of_lt->Lc, pow_add->Lw
open Nat.succ renaming inj->Li
open Ne renaming symm->KF
open Option renaming isSome_iff_exists->HH, map_eq_some_iff->IM
open Option.some renaming inj->Gr
open Or renaming inr->GA, inl->G3
open PyProof.Rows renaming slot_tuple_getitem->Go, callWith_type1->G1, IntsAre->Jo, assignInOrder_cons->JB, subscriptTail_builtinR->J7, envOfC->Ke, AllBare->KE, subscriptTail->KZ, seqObj->Lu
open PySem renaming PyData->EW, wpAny_bind->EZ, Value->E7, Shared->E_, starEach->Fg, wpAny_pure->Fh, foldedSetIterable->FF, sizeLine_eq->FG, wpAny->FH, Program->FS, model->FT, wpAny_mono->FX, mainGlobals->Gq, wpAny_newObj_type->Gs, Paired->Gy, mem_of_lookup->GC, World->GD, Around->GJ, wpAny_callSpecial?_slot->GP, backTo->GQ, wpAny_standAt->GW, wpAny_comprehension_free->GY, swapsWith->G0, cellsFrom->G7, letOwnedTupleGo->Hd, wpAny_field->Hi, codeAny->Hr, wpAny_call_entry->Hy, wpAny_truthy_bool->HE, wpAny_passesOwn->HF, binaryOp->HQ, FuncData->HR, wpAny_holding->HS, assignEach->HW, wpAny_Call_Name_kw->H0, wpAny_setField_rec->Ib, compareOp->Ie, sysModules->Ij, wpAny_pyIter_list->Ik, assign->Iq, keywordEach->Iz, bootBuiltins->IB, behindInMarks->IF, NameKind->IG, attributeBase->II, wpAny_assign_Name->IQ, Keyword->IR, sliceBounds->IS, newFunctionEnv->I0, exec_Assign_Name_used->Ja, wpAny_rule->Jj, wpAny_execs_nil->Jm, theTreesLotGoes->Jr, wpAny_pyIter_tuple->JC, codeAny_mono->JD, wpAny_seqItems->JK, wpAny_sequenceKey->JM, swapsWithSole->JR, swappedStores->JS, backToKw->JT, getItem->JV, wpAny_letGo->JX, plainId_quiet->JY, noFill_tuple_add->J1, codeAny_compStart_list->J8, importedModules->Ka, pyNext->Kc, codeAny_loop->Kg, wpAny_updateSeq->Kk, call_meets->Kr, wpAny_loadName_local->Kt, intBits_le_iff->Kz, wpAny_tryCatch->KA, wpAny_loadName_cell->KG, standAt->KH, subscripted->KI, wpAny_noted->KJ, tupleKind->KR, assignInOrder->KS, PassesOwn->KU, seq_tuple_add->KW, IsPart->KY, compTurn->K0, noteFrame->K1, compPost->K4, comprehension->K5, valueAt->K_, callerA->La, concat_meets->Ld, wpAny_typeOf->Lg, Operator->Lm, pyIter->Ln, Result->Lo, BindsTo->Lp, pushCells->Lq, seqItems?->Lr, wpAny_of_eq->Ls, IsEnum->Ly, cLine->LA, Params->LB, relabel->LD, atKey->LF
open PySem.Around renaming under_plainId->Kv
open PySem.AutoSeq1 renaming wpAny_loadPart'->IE
open PySem.Builtin renaming bitAnd->IZ
open PySem.Builtin.Builtins renaming bindParams->Jv
open PySem.Builtin.List renaming listTooLong->HL, listFitsIndex->Ir
open PySem.Builtin.Slice renaming slicePlaces->HB, sliceAdjust->Iw, sliceApplied->Jz
open PySem.Builtin.SmallTypes renaming nextOf->GV, ownedTupleHandOut->Ix, ownedTupleIsFree->IA
open PySem.Builtin.Tuple renaming tupleExact->HI, tupleItemsOf->JA
open PySem.Calls renaming Name_function_global->Jx
open PySem.F renaming plain_max_loop->G8, args_tuple_add_2->IC, entry_tuple_add->IH, slot_tuple_add->IN, slot_list_append->JO, type_list_append->JP, plainAttrs_list->JW, entry_max_loop->J_
open PySem.Heap renaming get?_push_of_some->E4, lt_size->Fq, get?_push_size->FB, get?_update_other->GS, SameBut->HM, size_push->HX, get?_update_self->Kj
open PySem.Heap.SameBut renaming refl->JQ, update->KL
open PySem.NameKind renaming free->Gw, cell->Ho
open PySem.Obj renaming mapSeq->K9
open PySem.Paired renaming length->Ii
open PySem.PassesOwn renaming never->FU
open PySem.PyData renaming int->Fm, eqv->FV, tuple->Gf, str->Gv, depthAll->GF, canLayAll0->GI, canLay0->GN, depth->Hf, list->Ih, strOk->ID, leavesShort->IK, bool->IT, showable->Js, bulkAll->JJ, leavesShortAll->Kh
open PySem.PyData.int renaming injEq->J5
open PySem.PyData.list renaming injEq->IU
open PySem.PyData.tuple renaming injEq->GK
open PySem.SeqAt renaming shaped->F_
open PySem.Str renaming ofString->EX
open PySem.Value renaming ref->HD, none->Ji, int->Kb, str->KQ, bool->K8
open PySem.W renaming codeIn->Fo, keepIn->Fp, mg_none_of->FE, boot_heap->GU, Frag->HN, OpenLaw->Kp, boot_drawn->Kq, boot_toks->KP, nsIn->Lj, fnOf->Lk, OpenLaw->LC
open Rat renaming le_of_lt->GZ, intCast_mul->G4, not_lt->Hh, div_def->Ig, lt_irrefl->Jg, le_trans->JH, lt_of_le_of_ne->JI, normalize->JZ, not_le->Lb, le_refl->Lz
open Sum renaming inr->Gg, inl->Hn
open ToString renaming toString->K6
open True renaming intro->Jk
open PySem PySem.Spec PyProof.Rows
variable{loose N N':List Str}{α β:Type}{xs xs':List EW}{us:List E7}{a b it:Addr}{P:FS}{w:GD}{h h':Heap}{t' i j n f:Nat}{x qual:Str}{A:GJ}{E Q:E7->E_->Prop}{u:E7}{e c tg iter:Expr}{s:E_}{pos pos' px cpos spos:Pos}{pins:List (Addr×Obj)}{fp:List Addr}{fd:HR}{ps:List (List Rat)}{mg:Str->Option E7}{scope:Scope}{ns:List Int}{XP:(Str->Option E7)->Heap->Prop}{d:EW}{r q:Rat}{cl:List (Str×Addr)}{ifs:List Expr}{tn:Nat->Heap->Prop}{Rp:Addr->Lo->E_->Prop}{n':Nat×List Int}{xss:List (List EW)}{rs:List Rat}
noncomputable section
namespace L2
open PySem
noncomputable def n_(s:Stmt)(j:Nat):Stmt:=match s with
 | .ClassDef _ _ _ body _ _ _ _ _ _ _=>body.getD j (.Pass ⟨0,0,0,0⟩)
 | _=>.Pass ⟨0,0,0,0⟩
noncomputable def defArgs(s:Stmt):Arguments:=match s with
 | .FunctionDef _ a _ _ _ _ _ _ _ _=>a
 | _=>{posonlyargs:=[],args:=[],vararg:=none,kwonlyargs:=[],kw_defaults:=[],kwarg:=none,defaults:=[]}
noncomputable def defBody(s:Stmt):List Stmt:=match s with
 | .FunctionDef _ _ b _ _ _ _ _ _ _=>b
 | _=>[]
noncomputable def defScope(s:Stmt):Scope:=match s with
 | .FunctionDef _ _ _ _ _ _ sc _ _ _=>sc
 | _=>{kind:=.function,names:=[],isGenerator:=false,isCoroutine:=false}
end L2
namespace L2.TT
open PySem PySem.W
noncomputable def DE(tb:String->Option Builtin)(p:FS)(w:GD)(m:Nat)(ann:Option E7):Nat->SharedT->Thread->Option SharedT
 | 0,_,_=>none
 | n+1,s,t=>match through t with
   | true=>some s
   | false=>match stepOk m ann t with
     | false=>none
     | true=>match stepT (denote tb) p w s t with
       | some r=>DE tb p w m ann n r.1 r.2
       | none=>none
theorem rj{tb:String->Option Builtin}{p:FS}{w:GD}{m:Nat}{ann:Option E7}:∀{n:Nat}{s s':SharedT}{t:Thread},DE tb p w m ann n s t=some s'->topRun tb p w m ann n s.abs t=some s'.abs
 | 0,_,_,_,h=>by cases h
 | n+1,s,s',t,h=>by
   unfold DE at h
   unfold topRun
   cases he:through t with
   | true=>rw[he]at h;cases h;rfl
   | false =>
     rw[he]at h
     cases hk:stepOk m ann t with
     | false=>rw[hk]at h;cases h
     | true =>
       rw[hk]at h
       cases hs:stepT (denote tb) p w s t with
       | none=>rw[hs]at h;cases h
       | some r=>rw[hs]at h;rw[stepT_spec hs];exact rj h
noncomputable def bt(os:List Obj):Nat->Nat->Nat->BT
 | 0,_,_=>.nil
 | f+1,a,b=>match os[b]? with
   | some o=>.node o (bt os f (2*a) (a+b)) (bt os f (2*a) (2*a+b))
   | none=>.nil
theorem boot_abs(P:LB):absHeap (bt (GU P).objs.toList 12 1 0) (GU P).objs.size (GU P).life=GU P:=by kernel_rfl
abbrev xj(p q:FS)(loose:List Str)(Xt:E_->Bool){α:Type}(Yf:E_->α)(h₀:Heap)(s:E_) :=
 (staticsOk (Ka p.main.body) h₀ s.heap&&namesBound p s.heap&&gensDone s&&laidKept h₀ s.heap,openSeen q loose (Ka p.main.body) Xt true s,Yf s)
theorem left_of{p q:FS}{Xt:E_->Bool}{Yf:E_->α}{Ya:GD->α}{N m M:Nat}{ann:Option E7}
 (e:opening p=plainProg p.main.scope.names)(hN:Nat.ble 600 N=true)(f:∀s,fenceModules? p s=some s)(le:Nat.ble M N=true)
 (size:∀w:GD,((GU w.params).isNs Gq,(GU w.params).objs.size,(GU w.params).nsMap Gq "__annotations__")=(true,m,ann))
 (run:∀(w:GD)(os:OsState),(DE treeTable p w m ann M ⟨bt (GU w.params).objs.toList 12 1 0,(GU w.params).objs.size,(GU w.params).life,Ll [],Kq,KP,os⟩ (topStub p)).map (fun s=>xj p q loose Xt Yf (GU w.params) s.abs)=some (true,openGood q loose,Ya w)) :
 LeftO p q loose Xt Yf Ya N:=fun w=>by
 obtain⟨⟨h,gs,d,k,os⟩,eo,e'⟩:=IM.mp (boot_open e hN f w)
 obtain⟨rfl,rfl,rfl,rfl⟩:h=GU w.params/\gs=Ll []/\d=Kq/\k=KP:=by simpa using e'
 obtain⟨z1,z2,z3⟩:_/\_/\_:=by simpa only[Prod.mk.injEq]using size w
 obtain⟨s',r,l⟩:=IM.mp (run w os)
 obtain⟨l1,l2,l3⟩:_/\_/\_:=by simpa only[xj,Prod.mk.injEq]using l
 have r:=rj r
 have hb:SharedT.abs ⟨bt (GU w.params).objs.toList 12 1 0,(GU w.params).objs.size,(GU w.params).life,Ll [],Kq,KP,os⟩=⟨GU w.params,Ll [],Kq,KP,os⟩:=by
  show E_.mk (absHeap _ _ _) _ _ _ _=_
  rw[boot_abs]
 rw[hb]at r
 have r:=topRun_mono (N-M) _ _ _ _ r
 rw[show M+(N-M)=N by have:=Nat.le_of_ble_eq_true le;omega]at r
 have t:topFrom treeTable p w N ⟨GU w.params,Ll [],Kq,KP,os⟩=some s'.abs:=by
  unfold topFrom
  dsimp only
  rw[z1,z2,z3,r]
  show(match staticsOk (Ka p.main.body) (GU w.params) s'.abs.heap&&namesBound p s'.abs.heap&&gensDone s'.abs&&laidKept (GU w.params) s'.abs.heap with|true=>_|false=>_)=_
  rw[l1]
 unfold openEnds
 rw[eo]
 show(topFrom treeTable p w N _).map _=_
 rw[t]
 exact congrArg some (Prod.ext l2 l3)
end L2.TT
namespace K20
open PySem
def Ch(i:Nat):Stmt:=PySem.Challenge.pw_evenpoints_k20_how_uneven.main.body.getD i (.Pass ⟨0,0,0,0⟩)
end K20
noncomputable def PySem.W.Fast.tw17849194041158268371:PySem.Program:=PySem.Challenge.pw_evenpoints_k20_how_uneven
theorem PySem.W.Fast.te17849194041158268371:PySem.Challenge.pw_evenpoints_k20_how_uneven=PySem.W.Fast.tw17849194041158268371:=rfl
namespace K20
open PySem PySem.W L2
def BM:Stmt:=Ch 0
def BL:Stmt:=Ch 1
def BK:Stmt:=Ch 2
def BJ:Stmt:=Ch 3
def BI:Stmt:=Ch 4
def BH:Stmt:=Ch 5
def BG:Stmt:=Ch 6
def BF:Stmt:=Ch 7
def BE:Stmt:=Ch 8
def BD:Stmt:=Ch 9
def AE:Stmt:=Ch 10
def AD:Stmt:=Ch 11
def AC:Stmt:=Ch 12
def AB:Stmt:=Ch 13
def AA:Stmt:=Ch 14
def Az:Stmt:=Ch 15
def A6:Stmt:=Ch 16
def Ay:Stmt:=Ch 17
def Ax:Stmt:=Ch 18
def Aw:Stmt:=Ch 19
def A5:Stmt:=Ch 20
def Av:Stmt:=Ch 21
def Au:Stmt:=Ch 22
def A4:Stmt:=Ch 23
def At:Stmt:=Ch 24
def As:Stmt:=Ch 25
def Ar:Stmt:=Ch 26
def Aq:Stmt:=Ch 27
def Ap:Stmt:=Ch 28
def Ao:Stmt:=Ch 29
def An:Stmt:=Ch 30
def Am:Stmt:=Ch 31
def Al:Stmt:=Ch 32
def Ak:Stmt:=Ch 33
def Aj:Stmt:=Ch 34
def Ai:Stmt:=Ch 35
def Ah:Stmt:=Ch 36
def A3:Stmt:=Ch 37
def Ag:Stmt:=Ch 38
def Af:Stmt:=Ch 39
def Ae:Stmt:=Ch 40
def Ad:Stmt:=Ch 41
def Ac:Stmt:=Ch 42
def Ab:Stmt:=Ch 43
def Aa:Stmt:=Ch 44
def z_:Stmt:=Ch 45
def z9:Stmt:=Ch 46
def z8:Stmt:=Ch 47
def zZ:Stmt:=Ch 48
def zY:Stmt:=Ch 49
def zX:Stmt:=Ch 50
def zW:Stmt:=Ch 51
def zV:Stmt:=Ch 52
def zU:Stmt:=Ch 53
def CU:FS:={PySem.Challenge.pw_evenpoints_k20_how_uneven with main:={PySem.Challenge.pw_evenpoints_k20_how_uneven.main with body:=[BM,BL,BK,BJ,BI,BH,BG,BF,BE,BD,AE,AD,AC,AB,AA,Az,A6,Ay,Ax,Aw,A5,Av,Au,A4,At,As,Ar,Aq,Ap,Ao,An,Am,Al,Ak,Aj,Ai,Ah,A3,Ag,Af,Ae,Ad,Ac,Ab,Aa,z_,z9,z8,zZ,zY,zX,zW,zV,zU]}}
def rwN:LC:={PySem.Challenge.rw_evenpoints_k20_how_uneven with prog:=CU}
noncomputable def zview:FS:={PySem.Challenge.pw_evenpoints_k20_how_uneven with main:={PySem.Challenge.pw_evenpoints_k20_how_uneven.main with body:=[BL,BK,BJ,BH,BG,BF,BE,BD,AE,AD,AC,AB,AA,Az,Ay,Ax,Aw,Av,Au,At,As,Ar,Aq,Ap,Ao,An,Am,Al,Ak,Aj,Ai,Ah,Ag,Af,Ae,Ad,Ac,Ab,Aa,z_,z9,z8,zZ,zY,zX,zW,zV,zU]}}
theorem rw_eq:PySem.Challenge.rw_evenpoints_k20_how_uneven=rwN:=rfl
noncomputable def BW(P:LB)(x:Str)(t:Nat)(v:E7):DictEntry:=⟨EW.keyHash P x,.str x t,v⟩
noncomputable def BV(n q:Str)(s:Stmt)(pm cd:E7):Obj:=⟨.type "function", none,.func (fnOf n q (defArgs s) (defBody s) (defScope s) .none .none .none pm none cd .none),#[]⟩
noncomputable def BY(n q:Str)(a b c:Nat)(l x y:Int)(r:Nat)(z:Int)(r2:Nat)(v1 v2 v3:E7)(r3:Nat)(u:Int)(c2:Nat):Obj:=⟨.type "code", none,.fields #[.str n a,.str q b,.str "/claim/cut.py" c,.int l 0,.int x 0,.int 0 0,.int 0 0,.int y 0,.ref r,.bool true,.int z 0,.ref r2,v1,v2,v3,.ref r3,.int u 0,.int l 0,.str "/claim/cut.py" c2],#[]⟩
noncomputable def BS:E7:=.str "evenpoints.errors" 187
noncomputable def BR:E7:=.str "evenpoints.fractions" 257
noncomputable def BQ:E7:=.str "evenpoints.boxes" 336
noncomputable def BP:E7:=.str "evenpoints.points" 367
noncomputable def BO:E7:=.str "evenpoints.looks" 382
noncomputable def BN:E7:=.str "law_evenpoints_k20_how_uneven" 478
abbrev BU(n:Str):=BV n n
abbrev BX(n:Str):=BY n n
noncomputable def heapK(P:LB):Frag :=
 (nat_lit 2,(.mk .none none (.dict #[] 0) #[])) ::
 (nat_lit 3,(.mk (.type "dict") none (.dict #[BW P "__name__" 165 (.str "law_evenpoints_k20_how_uneven" 478),BW P "__doc__" 166 .none,BW P "__package__" 167 .none,BW P "__loader__" 168 (.builtin "__main__.__loader__#opaque"),BW P "__spec__" 169 .none,BW P "__annotations__" 170 (.ref 6),BW P "__builtins__" 171 (.ref 4),BW P "__file__" 173 (.str "/claim/cut.py" 172),BW P "__cached__" 174 .none,BW P "EvenError" 206 (.ref 24),BW P "Nought" 231 (.ref 44),BW P "TooMany" 256 (.ref 63),BW P "ZERO" 261 (.ref 66),BW P "ONE" 264 (.ref 67),BW P "common_divisor" 272 (.ref 74),BW P "fraction" 281 (.ref 81),BW P "plus" 289 (.ref 88),BW P "less" 297 (.ref 95),BW P "times" 305 (.ref 102),BW P "is_below" 313 (.ref 109),BW P "lesser" 321 (.ref 116),BW P "greater" 329 (.ref 123),BW P "in_size" 335 (.ref 128),BW P "side_size" 346 (.ref 135),BW P "goes_ahead" 355 (.ref 142),BW P "lies" 366 (.ref 149),BW P "sides_of" 375 (.ref 156),BW P "numbers_at" 381 (.ref 161),BW P "MOST_LOOKS" 385 (.int 3000 384),BW P "BELOW_ALL" 389 (.ref 162),BW P "side_looks" 395 (.ref 167),BW P "many_side_looks" 404 (.ref 174),BW P "many_looks" 414 (.ref 181),BW P "looks_by_side" 420 (.ref 186),BW P "marked" 426 (.ref 191),BW P "widened" 432 (.ref 196),BW P "counted_looks" 438 (.ref 201),BW P "misses" 452 (.ref 208),BW P "first_greatest" 461 (.ref 215),BW P "worst" 469 (.ref 222),BW P "unevenness" 477 (.ref 229),BW P "_law_feed" 486 (.ref 236),BW P "_law_draw" 498 (.ref 243),BW P "_law_frac" 508 (.ref 250),BW P "_law_cmp" 518 (.ref 257),BW P "_law_number" 531 (.ref 264),BW P "_law_points" 537 (.ref 269),BW P "_law_world" 547 (.ref 276),BW P "_law_sorted" 553 (.ref 281),BW P "_law_side_looks" 559 (.ref 286),BW P "_law_lies" 570 (.ref 293),BW P "_law_side_size" 576 (.ref 298),BW P "_law_side_rows" 582 (.ref 303),BW P "_law_ones" 590 (.ref 310),BW P "_law_misses" 613 (.ref 317),BW P "_law_greatest" 619 (.ref 322),BW P "law" 625 (.ref 327)] 57) #[])) ::
 (nat_lit 6,(.mk (.type "dict") none (.dict #[] 0) #[])) ::
 (nat_lit 15,(.mk (.type "tuple") none (.seq #[(.type "ValueError")] 0) #[])) ::
 (nat_lit 22,(.mk (.type "tuple") none (.seq #[] 0) #[])) ::
 (nat_lit 23,(.mk (.type "dict") none (.dict #[BW P "__module__" 196 (.str "evenpoints.errors" 187),BW P "__firstlineno__" 200 (.int 2 199),BW P "__static_attributes__" 201 (.ref 22),BW P "__weakref__" 203 (.ref 25),BW P "__doc__" 204 .none] 3) #[])) ::
 (nat_lit 24,(.mk (.type "type") none (.cls (.mk "EvenError" [(.type "ValueError")] [(.ref 24),(.type "ValueError"),(.type "Exception"),(.type "BaseException"),(.type "object")] 23 "EvenError" true [] [(.ref 44),(.ref 63)] false none false)) #[(some (.ref 15)),none,(some (.str "EvenError" 189)),(some (.str "EvenError" 197)),(some (.builtin "ValueError.__new__")),(some (.bool true))])) ::
 (nat_lit 25,(.mk (.type "getset_descriptor") none (.fields #[(.str "__weakref__" 202),(.ref 24),(.builtin "ExceptionGroup.__weakref__"),.none]) #[])) ::
 (nat_lit 28,(.mk (.type "tuple") none (.seq #[(.ref 24)] 0) #[])) ::
 (nat_lit 40,BY "__init__" "Nought.__init__" 219 220 221 6 2 3 35 181 36 .none (.ref 37) (.ref 38) 39 224 225) ::
 (nat_lit 41,BV "__init__" "Nought.__init__" (n_ (Ch 2) 0) BS (.ref 40)) ::
 (nat_lit 42,(.mk (.type "tuple") none (.seq #[(.str "word" 227)] 0) #[])) ::
 (nat_lit 43,(.mk (.type "dict") none (.dict #[BW P "__module__" 214 (.str "evenpoints.errors" 187),BW P "__firstlineno__" 218 (.int 4 217),BW P "__init__" 226 (.ref 41),BW P "__static_attributes__" 228 (.ref 42),BW P "__doc__" 229 .none] 2) #[])) ::
 (nat_lit 44,(.mk (.type "type") none (.cls (.mk "Nought" [(.ref 24)] [(.ref 44),(.ref 24),(.type "ValueError"),(.type "Exception"),(.type "BaseException"),(.type "object")] 43 "Nought" true [] [] false none false)) #[(some (.ref 28)),none,(some (.str "Nought" 207)),(some (.str "Nought" 215)),(some (.builtin "ValueError.__new__")),(some (.bool true))])) ::
 (nat_lit 47,(.mk (.type "tuple") none (.seq #[(.ref 24)] 0) #[])) ::
 (nat_lit 59,BY "__init__" "TooMany.__init__" 244 245 246 10 2 3 54 181 55 .none (.ref 56) (.ref 57) 58 249 250) ::
 (nat_lit 60,BV "__init__" "TooMany.__init__" (n_ (Ch 3) 0) BS (.ref 59)) ::
 (nat_lit 61,(.mk (.type "tuple") none (.seq #[(.str "word" 252)] 0) #[])) ::
 (nat_lit 62,(.mk (.type "dict") none (.dict #[BW P "__module__" 239 (.str "evenpoints.errors" 187),BW P "__firstlineno__" 243 (.int 8 242),BW P "__init__" 251 (.ref 60),BW P "__static_attributes__" 253 (.ref 61),BW P "__doc__" 254 .none] 2) #[])) ::
 (nat_lit 63,(.mk (.type "type") none (.cls (.mk "TooMany" [(.ref 24)] [(.ref 63),(.ref 24),(.type "ValueError"),(.type "Exception"),(.type "BaseException"),(.type "object")] 62 "TooMany" true [] [] false none false)) #[(some (.ref 47)),none,(some (.str "TooMany" 232)),(some (.str "TooMany" 240)),(some (.builtin "ValueError.__new__")),(some (.bool true))])) ::
 (nat_lit 66,(.mk (.type "tuple") none (.seq #[(.int 0 259),(.int 1 260)] 0) #[])) ::
 (nat_lit 67,(.mk (.type "tuple") none (.seq #[(.int 1 262),(.int 1 263)] 0) #[])) ::
 (nat_lit 73,BX "common_divisor" 265 266 267 15 2 3 68 181 69 .none (.ref 70) (.ref 71) 72 270 271) ::
 (nat_lit 74,BU "common_divisor" (Ch 7) BR (.ref 73)) ::
 (nat_lit 80,BX "fraction" 273 274 275 19 2 3 75 181 76 .none (.ref 77) (.ref 78) 79 279 280) ::
 (nat_lit 81,BU "fraction" (Ch 8) BR (.ref 80)) ::
 (nat_lit 87,BX "plus" 282 283 284 26 2 3 82 181 83 .none (.ref 84) (.ref 85) 86 287 288) ::
 (nat_lit 88,BU "plus" (Ch 9) BR (.ref 87)) ::
 (nat_lit 94,BX "less" 290 291 292 28 2 3 89 181 90 .none (.ref 91) (.ref 92) 93 295 296) ::
 (nat_lit 95,BU "less" (Ch 10) BR (.ref 94)) ::
 (nat_lit 101,BX "times" 298 299 300 30 2 3 96 181 97 .none (.ref 98) (.ref 99) 100 303 304) ::
 (nat_lit 102,BU "times" (Ch 11) BR (.ref 101)) ::
 (nat_lit 108,BX "is_below" 306 307 308 32 2 3 103 181 104 .none (.ref 105) (.ref 106) 107 311 312) ::
 (nat_lit 109,BU "is_below" (Ch 12) BR (.ref 108)) ::
 (nat_lit 115,BX "lesser" 314 315 316 34 2 3 110 181 111 .none (.ref 112) (.ref 113) 114 319 320) ::
 (nat_lit 116,BU "lesser" (Ch 13) BR (.ref 115)) ::
 (nat_lit 122,BX "greater" 322 323 324 36 2 3 117 181 118 .none (.ref 119) (.ref 120) 121 327 328) ::
 (nat_lit 123,BU "greater" (Ch 14) BR (.ref 122)) ::
 (nat_lit 127,BX "in_size" 330 331 332 38 1 3 124 181 125 .none .none .none 126 333 334) ::
 (nat_lit 128,BU "in_size" (Ch 15) BR (.ref 127)) ::
 (nat_lit 134,BX "side_size" 338 339 340 44 1 3 129 181 130 .none (.ref 131) (.ref 132) 133 344 345) ::
 (nat_lit 135,BU "side_size" (Ch 17) BQ (.ref 134)) ::
 (nat_lit 141,BX "goes_ahead" 347 348 349 52 3 3 136 181 137 .none (.ref 138) (.ref 139) 140 353 354) ::
 (nat_lit 142,BU "goes_ahead" (Ch 18) BQ (.ref 141)) ::
 (nat_lit 148,BX "lies" 356 357 358 56 3 3 143 181 144 .none (.ref 145) (.ref 146) 147 364 365) ::
 (nat_lit 149,BU "lies" (Ch 19) BQ (.ref 148)) ::
 (nat_lit 155,BX "sides_of" 369 370 371 65 1 3 150 181 151 .none (.ref 152) (.ref 153) 154 373 374) ::
 (nat_lit 156,BU "sides_of" (Ch 21) BP (.ref 155)) ::
 (nat_lit 160,BX "numbers_at" 376 377 378 67 2 3 157 181 158 .none .none .none 159 379 380) ::
 (nat_lit 161,BU "numbers_at" (Ch 22) BP (.ref 160)) ::
 (nat_lit 162,(.mk (.type "tuple") none (.seq #[(.int (Neg.neg 1) 387),(.int 1 388)] 0) #[])) ::
 (nat_lit 166,BX "side_looks" 390 391 392 72 2 3 163 181 164 .none .none .none 165 393 394) ::
 (nat_lit 167,BU "side_looks" (Ch 26) BO (.ref 166)) ::
 (nat_lit 173,BX "many_side_looks" 396 397 398 81 2 3 168 181 169 .none (.ref 170) (.ref 171) 172 402 403) ::
 (nat_lit 174,BU "many_side_looks" (Ch 27) BO (.ref 173)) ::
 (nat_lit 180,BX "many_looks" 405 406 407 86 2 3 175 181 176 .none (.ref 177) (.ref 178) 179 412 413) ::
 (nat_lit 181,BU "many_looks" (Ch 28) BO (.ref 180)) ::
 (nat_lit 185,BX "looks_by_side" 415 416 417 91 2 3 182 181 183 .none .none .none 184 418 419) ::
 (nat_lit 186,BU "looks_by_side" (Ch 29) BO (.ref 185)) ::
 (nat_lit 190,BX "marked" 421 422 423 95 2 3 187 181 188 .none .none .none 189 424 425) ::
 (nat_lit 191,BU "marked" (Ch 30) BO (.ref 190)) ::
 (nat_lit 195,BX "widened" 427 428 429 99 2 3 192 181 193 .none .none .none 194 430 431) ::
 (nat_lit 196,BU "widened" (Ch 31) BO (.ref 195)) ::
 (nat_lit 200,BX "counted_looks" 433 434 435 103 2 3 197 181 198 .none .none .none 199 436 437) ::
 (nat_lit 201,BU "counted_looks" (Ch 32) BO (.ref 200)) ::
 (nat_lit 207,BX "misses" 439 440 441 111 2 3 202 181 203 .none (.ref 204) (.ref 205) 206 450 451) ::
 (nat_lit 208,BU "misses" (Ch 33) BO (.ref 207)) ::
 (nat_lit 214,BX "first_greatest" 453 454 455 118 1 3 209 181 210 .none (.ref 211) (.ref 212) 213 459 460) ::
 (nat_lit 215,BU "first_greatest" (Ch 34) BO (.ref 214)) ::
 (nat_lit 221,BX "worst" 462 463 464 124 2 3 216 181 217 .none (.ref 218) (.ref 219) 220 467 468) ::
 (nat_lit 222,BU "worst" (Ch 35) BO (.ref 221)) ::
 (nat_lit 228,BX "unevenness" 470 471 472 126 2 3 223 181 224 .none (.ref 225) (.ref 226) 227 475 476) ::
 (nat_lit 229,BU "unevenness" (Ch 36) BO (.ref 228)) ::
 (nat_lit 235,BX "_law_feed" 480 481 482 129 1 3 230 181 231 .none (.ref 232) (.ref 233) 234 484 485) ::
 (nat_lit 236,BU "_law_feed" (Ch 38) BN (.ref 235)) ::
 (nat_lit 242,BX "_law_draw" 487 488 489 131 2 3 237 181 238 .none (.ref 239) (.ref 240) 241 496 497) ::
 (nat_lit 243,BU "_law_draw" (Ch 39) BN (.ref 242)) ::
 (nat_lit 249,BX "_law_frac" 499 500 501 148 2 3 244 181 245 .none (.ref 246) (.ref 247) 248 506 507) ::
 (nat_lit 250,BU "_law_frac" (Ch 40) BN (.ref 249)) ::
 (nat_lit 256,BX "_law_cmp" 509 510 511 153 2 3 251 181 252 .none (.ref 253) (.ref 254) 255 516 517) ::
 (nat_lit 257,BU "_law_cmp" (Ch 41) BN (.ref 256)) ::
 (nat_lit 263,BX "_law_number" 519 520 521 157 3 3 258 181 259 .none (.ref 260) (.ref 261) 262 529 530) ::
 (nat_lit 264,BU "_law_number" (Ch 42) BN (.ref 263)) ::
 (nat_lit 268,BX "_law_points" 532 533 534 169 3 3 265 181 266 .none .none .none 267 535 536) ::
 (nat_lit 269,BU "_law_points" (Ch 43) BN (.ref 268)) ::
 (nat_lit 275,BX "_law_world" 538 539 540 183 1 3 270 181 271 .none (.ref 272) (.ref 273) 274 545 546) ::
 (nat_lit 276,BU "_law_world" (Ch 44) BN (.ref 275)) ::
 (nat_lit 280,BX "_law_sorted" 548 549 550 190 1 3 277 181 278 .none .none .none 279 551 552) ::
 (nat_lit 281,BU "_law_sorted" (Ch 45) BN (.ref 280)) ::
 (nat_lit 285,BX "_law_side_looks" 554 555 556 197 2 3 282 181 283 .none .none .none 284 557 558) ::
 (nat_lit 286,BU "_law_side_looks" (Ch 46) BN (.ref 285)) ::
 (nat_lit 292,BX "_law_lies" 560 561 562 209 3 3 287 181 288 .none (.ref 289) (.ref 290) 291 568 569) ::
 (nat_lit 293,BU "_law_lies" (Ch 47) BN (.ref 292)) ::
 (nat_lit 297,BX "_law_side_size" 571 572 573 215 1 3 294 181 295 .none .none .none 296 574 575) ::
 (nat_lit 298,BU "_law_side_size" (Ch 48) BN (.ref 297)) ::
 (nat_lit 302,BX "_law_side_rows" 577 578 579 224 3 3 299 181 300 .none .none .none 301 580 581) ::
 (nat_lit 303,BU "_law_side_rows" (Ch 49) BN (.ref 302)) ::
 (nat_lit 309,BX "_law_ones" 583 584 585 233 1 3 304 181 305 .none (.ref 306) (.ref 307) 308 588 589) ::
 (nat_lit 310,BU "_law_ones" (Ch 50) BN (.ref 309)) ::
 (nat_lit 316,BX "_law_misses" 591 592 593 239 2 3 311 181 312 .none (.ref 313) (.ref 314) 315 611 612) ::
 (nat_lit 317,BU "_law_misses" (Ch 51) BN (.ref 316)) ::
 (nat_lit 321,BX "_law_greatest" 614 615 616 255 2 3 318 181 319 .none .none .none 320 617 618) ::
 (nat_lit 322,BU "_law_greatest" (Ch 52) BN (.ref 321)) ::
 (nat_lit 326,BX "law" 620 621 622 262 1 3 323 181 324 .none .none .none 325 623 624) ::
 (nat_lit 327,BU "law" (Ch 53) BN (.ref 326))::[]
noncomputable def heapA:List Addr:=nat_lit 2::nat_lit 3::nat_lit 6::nat_lit 15::nat_lit 22::nat_lit 23::nat_lit 24::nat_lit 25::nat_lit 28::nat_lit 40::nat_lit 41::nat_lit 42::nat_lit 43::nat_lit 44::nat_lit 47::nat_lit 59::nat_lit 60::nat_lit 61::nat_lit 62::nat_lit 63::nat_lit 66::nat_lit 67::nat_lit 73::nat_lit 74::nat_lit 80::nat_lit 81::nat_lit 87::nat_lit 88::nat_lit 94::nat_lit 95::nat_lit 101::nat_lit 102::nat_lit 108::nat_lit 109::nat_lit 115::nat_lit 116::nat_lit 122::nat_lit 123::nat_lit 127::nat_lit 128::nat_lit 134::nat_lit 135::nat_lit 141::nat_lit 142::nat_lit 148::nat_lit 149::nat_lit 155::nat_lit 156::nat_lit 160::nat_lit 161::nat_lit 162::nat_lit 166::nat_lit 167::nat_lit 173::nat_lit 174::nat_lit 180::nat_lit 181::nat_lit 185::nat_lit 186::nat_lit 190::nat_lit 191::nat_lit 195::nat_lit 196::nat_lit 200::nat_lit 201::nat_lit 207::nat_lit 208::nat_lit 214::nat_lit 215::nat_lit 221::nat_lit 222::nat_lit 228::nat_lit 229::nat_lit 235::nat_lit 236::nat_lit 242::nat_lit 243::nat_lit 249::nat_lit 250::nat_lit 256::nat_lit 257::nat_lit 263::nat_lit 264::nat_lit 268::nat_lit 269::nat_lit 275::nat_lit 276::nat_lit 280::nat_lit 281::nat_lit 285::nat_lit 286::nat_lit 292::nat_lit 293::nat_lit 297::nat_lit 298::nat_lit 302::nat_lit 303::nat_lit 309::nat_lit 310::nat_lit 316::nat_lit 317::nat_lit 321::nat_lit 322::nat_lit 326::nat_lit 327::[]
theorem heapE:∀P,heapA=(heapK P).map (·.1):=fun _=>rfl
theorem yc:∀w:GD,((GU w.params).isNs Gq,(GU w.params).objs.size,(GU w.params).nsMap Gq "__annotations__")=(true,11,some (.ref 6)):=fun w=>by kernel_rfl
set_option maxHeartbeats 0 in
theorem zleft:LeftO CU zview [] (fun s=>xlAt zview [] s&&recOk (RowW.records rwN.row.toRowW) s) (Hook.obs (kHook heapK heapA heapE)) (Hook.val (kHook heapK heapA heapE)) 4728 :=
 L2.TT.left_of (M:=4728) (by kernel_rfl) rfl (fun s=>by kernel_rfl) rfl yc fun w os=>by kernel_rfl
end K20
namespace L2
abbrev EA:=Sum Int Str
noncomputable def jU:EA->E7->Bool
 | .inl k,v=>E7.isInt k v
 | .inr x,v=>E7.isStrOf x v
noncomputable def Br(w:GD):EA->Int
 | .inl k=>hashInt k
 | .inr x=>hashStr w x
theorem be:∀{k:EA}{v:E7},jU k v=true->(∃i t,k=Hn i/\v=Kb i t)\/(∃x t,k=Gg x/\v=KQ x t)
 | .inl i,v,h=>by
   obtain⟨t,e⟩:=E7.isInt_shape (k:=i) (v:=v) h
   exact .inl ⟨i,t,rfl,e⟩
 | .inr x,v,h=>by
   obtain⟨t,e⟩:=E7.isStrOf_shape (x:=x) (v:=v) h
   exact .inr ⟨x,t,rfl,e⟩
theorem nW(i:Int)(t:Tok):jU (.inl i) (.int i t)=true:=by simp[jU,E7.isInt]
theorem nV(x:Str)(t:Tok):jU (.inr x) (.str x t)=true:=by simp[jU,E7.isStrOf]
theorem xp(a b:Int):decide ((Hn a:EA)=Hn b)=(a==b):=by
 by_cases e:a=b
 · subst e;simp
 · have h:¬(Hn a:EA)=Hn b:=fun q=>e (Hn.inj q)
   rw[decide_eq_false h]
   exact(beq_eq_false_iff_ne.mpr e).symm
theorem xm(a b:Str):decide ((Gg a:EA)=Gg b)=decide (a=b):=by
 by_cases e:a=b
 · subst e;simp
 · have h:¬(Gg a:EA)=Gg b:=fun q=>e (Gg.inj q)
   rw[decide_eq_false h,decide_eq_false e]
theorem xo(a:Int)(b:Str):decide ((Hn a:EA)=Gg b)=false:=decide_eq_false (fun q=>nomatch q)
theorem xn(a:Str)(b:Int):decide ((Gg a:EA)=Hn b)=false:=decide_eq_false (fun q=>nomatch q)
noncomputable def bA(prog:FS)(w:GD):PySem.KeyKind prog w EA where
 is:=jU
 hash:=Br w
 inj:=fun v a b ha hb=>by
  rcases be ha with⟨i,t,rfl,rfl⟩|⟨x,t,rfl,rfl⟩
  · rcases be hb with⟨j,u,rfl,e⟩|⟨y,u,rfl,e⟩
    · injection e with e1 _;rw[e1]
    · exact nomatch e
  · rcases be hb with⟨j,u,rfl,e⟩|⟨y,u,rfl,e⟩
    · exact nomatch e
    · injection e with e1 _;rw[e1]
 byValue:=fun k v h=>by
   rcases be h with⟨i,t,rfl,rfl⟩|⟨x,t,rfl,rfl⟩<;>rfl
 pyHash:=fun hv h=>by
  rcases be hv with⟨i,t,rfl,rfl⟩|⟨x,t,rfl,rfl⟩
  · exact wpAny_pyHash_int h
  · exact wpAny_pyHash_str h
 eqBool:=fun hu hv h=>by
  rcases be hu with⟨i,t,rfl,rfl⟩|⟨x,t,rfl,rfl⟩
  · rcases be hv with⟨j,u,rfl,rfl⟩|⟨y,u,rfl,rfl⟩
    · rw[xp]at h;exact wpAny_eqBool_int h
    · rw[xo]at h;exact SeqAt.EqAt.int_str i t y u _ _ _ _ h
  · rcases be hv with⟨j,u,rfl,rfl⟩|⟨y,u,rfl,rfl⟩
    · rw[xn]at h;exact SeqAt.EqAt.str_int x t j u _ _ _ _ h
    · rw[xm]at h;exact wpAny_eqBool_str h
 «strs»:=fun k x t v h=>by
  rcases be h with⟨i,u,rfl,e⟩|⟨y,u,rfl,e⟩
  · exact nomatch e
  · injection e with e1 _
    subst e1
    cases v<;>rfl
theorem jR(prog:FS)(w:GD)(i:Int)(t:Tok):(bA prog w).is (.inl i) (.int i t)=true:=nW i t
theorem jQ(prog:FS)(w:GD)(x:Str)(t:Tok):(bA prog w).is (.inr x) (.str x t)=true:=nV x t
inductive V where
 | non|bl (b:Bool)|int (i:Int)|str (x:Str)|byt (b:Array UInt8)|flt (b:UInt64)|ref (a:Addr)|ty (n:String)
 deriving DecidableEq
noncomputable def RelV:V->E7->Prop
 | .non,u=>u=Ji
 | .bl b,u=>u=K8 b
 | .int i,u=>∃t,u=Kb i t
 | .str x,u=>∃t,u=KQ x t
 | .byt b,u=>∃t,u=E7.bytes b t
 | .flt b,u=>∃t,u=E7.float b t
 | .ref a,u=>u=HD a
 | .ty n,u=>u=E7.type n
abbrev cu:List V->List E7->Prop:=Gy RelV
theorem cu.length{xs:List V}(r:cu xs us):xs.length=us.length:=Ii r
theorem cu.get:∀{xs:List V}{us:List E7}{i:Nat}{x:V},cu xs us->xs[i]?=some x->∃u,us[i]?=some u/\RelV x u
 | _,_,_,_,.nil,e=>by simp at e
 | _,_,0,_,.cons r _,e=>by simp at e;subst e;exact⟨_,rfl,r⟩
 | _,_,i+1,x,.cons _ t,e=>by
   obtain⟨u,h1,h2⟩:=cu.get (i:=i) (x:=x) t (by simpa using e)
   exact⟨u,by simpa using h1,h2⟩
theorem cu.append:∀{xs ys:List V}{us ws:List E7},cu xs us->cu ys ws->cu (xs++ys) (us++ws)
 | _,_,_,_,.nil,s=>s
 | _,_,_,_,.cons r t,s=>.cons r (cu.append t s)
theorem cu.take:∀{xs:List V}{us:List E7}(n:Nat),cu xs us->cu (xs.take n) (us.take n)
 | _,_,0,_=>.nil
 | _,_,_+1,.nil=>.nil
 | _,_,n+1,.cons r t=>.cons r (cu.take n t)
theorem cu.drop:∀{xs:List V}{us:List E7}(n:Nat),cu xs us->cu (xs.drop n) (us.drop n)
 | _,_,0,r=>r
 | _,_,_+1,.nil=>.nil
 | _,_,n+1,.cons _ t=>cu.drop n t
noncomputable def uO:Option V->Option E7->Prop
 | some v,some u=>RelV v u
 | none,none=>True
 | _,_=>False
noncomputable def KV{κ:Type}:List (κ×V)->List (κ×E7)->Prop:=Gy fun(p:κ×V)(q:κ×E7)=>p.1=q.1/\RelV p.2 q.2
noncomputable def kV:EA->V
 | .inl i=>.int i
 | .inr x=>.str x
inductive HO where
 | lst (xs:List V)
 | tup (xs:List V)
 | dK (kvs:List (EA×V))|dT (kvs:List (List EA×V))
 | set (S:Int->Bool) (n:Nat)
 | ins (C dx:Addr) (fs:List (Str×V))
 | own (x:Addr)
 | xd (fs:List (Str×V))
 | met (f x:Addr)
 | rng (lo hi:Int)
 | frz (o:Obj) (u:HO)
 | tbl (ps:Array E7)
 | ext (φ:Heap->Prop)
abbrev Hp:=Addr->Option HO
noncomputable def Cb(H:Hp)(a:Addr)(o:HO):Hp:=fun b=>if b=a then some o else H b
theorem ar{H:Hp}{o:HO}:Cb H a o a=some o:=by unfold Cb;rw[if_pos rfl]
theorem ak{H:Hp}{o:HO}(h:b≠a):Cb H a o b=H b:=by unfold Cb;rw[if_neg h]
theorem y7{H:Hp}{o u:HO}(h:H a=some o)(h':H b=some u)(d:o≠u):a≠b:=by
 intro e;subst e;rw[h]at h';exact d (Gr h')
theorem aO{H:Hp}{o:HO}(h:H a=some o)(h':H b=none):a≠b:=by
 intro e;subst e;rw[h]at h';cases h'
section
variable(P:FS)(w:GD)
noncomputable def oY(h:Heap)(a:Addr)(items:Array E7):Prop:=∃o,h.get? a=some o/\o.cls = .type "tuple" /\ (∃n,o.data = .seq items n)/\o.dict=none
theorem oY.tup{h:Heap}{a:Addr}{items:Array E7}(x:oY h a items):IsTup h a items:=let ⟨o,e1,e2,e3,_⟩:=x;⟨o,e1,e2,e3⟩
theorem oY.new(h:Heap)(items:Array E7):oY (h.push {cls:=.type "tuple", data:=.seq items}) h.objs.size items:=⟨_,FB _ rfl,rfl,⟨_,rfl⟩,rfl⟩
noncomputable def cE(H:Hp)(h:Heap)(a:Addr):HO->Prop
 | .lst xs=>xs.length<=sizeLine/\∃(its:List E7)(n:Nat),cu xs its/\h.get? a=some {cls:=.type "list", data:=.seq its.toArray n}
 | .tup xs=>xs.length<=sizeLine/\∃its:List E7,cu xs its/\oY h a its.toArray
 | .dK kvs=>kvs.length<=sizeLine/\(a==Ij)=false/\∃vs,KV kvs vs/\h.DictOf (bA P w) a vs
 | .dT kvs=>kvs.length<=sizeLine/\(a==Ij)=false/\∃xs:List (List EA×Addr×E7),
     Gy (fun(p:List EA×V)(q:List EA×Addr×E7)=>p.1=q.1/\H q.2.1=some (.tup (p.1.map kV))/\RelV p.2 q.2.2) kvs xs /\
     ∃o es ep,h.get? a=some o/\o.ExactDict/\o.data = .dict es ep/\es.toList=xs.map (entryOfKey (KR (bA P w)))/\(xs.map (·.1)).Nodup
 | .set S n=>h.SetOf (intKind P w) a S n
 | .ins C dx fs=>H dx=some (.own a)/\fs.length<=1000/\dx≠a/\h.get? a=some (W.instObj C dx) /\
     ∃mA,h.Ns1 dx mA/\(∀f,uO (fs.lookup f) (mA f))/\PySem.Within mA (fs.map (·.1))
 | .own _=>∃o,h.get? a=some o
 | .xd fs=>∃mA,h.Ns1 a mA/\∀f,uO (fs.lookup f) (mA f)
 | .rng lo hi=>∃t u v,h.get? a=some {cls:=.type "range", data:=.fields #[.int lo t,.int hi u,.int 1 v]}
 | .frz o u=>h.get? a=some o/\cE H h a u
 | .tbl ps=>h.get? a=some {cls:=.none,data:=.fields ps}
 | .met f x=>h.get? a=some (W.methodObj (.ref f) (.ref x))
 | .ext φ=>φ h/\(∃o,h.get? a=some o)/\∀h1 h2:Heap,φ h1->(∀o,h1.get? a=some o->h2.get? a=some o)->φ h2
noncomputable def EL(H:Hp)(h:Heap):Prop:=∀a o,H a=some o->cE P w H h a o
end
section
variable{P:FS}{w:GD}{H H':Hp}{h h':Heap}{a:Addr}{o:HO}
theorem cE.lt(x:cE P w H h a o):a<h.objs.size:=by
 cases o with
 | lst xs=>obtain⟨_,_,_,_,e⟩:=x;exact Fq e
 | tup xs=>obtain⟨_,_,_,p⟩:=x;exact p.tup.lt
 | dK kvs=>obtain⟨_,_,_,_,o,_,_,e,_⟩:=x;exact Fq e
 | dT kvs=>obtain⟨_,_,_,_,o,_,_,e,_⟩:=x;exact Fq e
 | set S n=>obtain⟨o,_,_,_,e,_⟩:=x;exact Fq e
 | ins C dx fs=>obtain⟨_,_,_,e,_⟩:=x;exact Fq e
 | own y=>obtain⟨_,e⟩:=x;exact Fq e
 | xd fs=>obtain⟨_,⟨_,_,_,e,_⟩,_⟩:=x;exact Fq e
 | rng lo hi=>obtain⟨_,_,_,e⟩:=x;exact Fq e
 | frz ob u=>obtain⟨e,_⟩:=x;exact Fq e
 | tbl ps=>exact Fq (show h.get? a=some _ from x)
 | met f y=>exact Fq (show h.get? a=some _ from x)
 | ext φ=>obtain⟨_,⟨_,e⟩,_⟩:=x;exact Fq e
theorem Gy.mapP{α β:Type}{F G:α->β->Prop}:∀{l₁:List α}{l₂:List β},Gy F l₁ l₂->(∀a b,F a b->G a b)->Gy G l₁ l₂
 | _,_,.nil,_=>.nil
 | _,_,.cons r t,f=>.cons (f _ _ r) (Gy.mapP t f)
theorem cE.stay(x:cE P w H h a o)(k:∀b u,(b=a\/H b=some (.own a))->h.get? b=some u->h'.get? b=some u)
 (ho:∀b,H b=some (.own a)->H' b=some (.own a))(ht:∀b xs,H b=some (.tup xs)->H' b=some (.tup xs)):cE P w H' h' a o:=by
 induction o with
 | lst xs=>obtain⟨z,its,n,r,e⟩:=x;exact⟨z,its,n,r,k _ _ (.inl rfl) e⟩
 | tup xs=>obtain⟨z,its,r,ob,e,c⟩:=x;exact⟨z,its,r,ob,k _ _ (.inl rfl) e,c⟩
 | dK kvs=>obtain⟨z,y,vs,r,ob,es,ep,e,c⟩:=x;exact⟨z,y,vs,r,ob,es,ep,k _ _ (.inl rfl) e,c⟩
 | dT kvs =>
   obtain⟨z,y,xs,r,ob,es,ep,e,c⟩:=x
   exact⟨z,y,xs,Gy.mapP r fun p q z=>⟨z.1,ht _ _ z.2.1,z.2.2⟩,ob,es,ep,k _ _ (.inl rfl) e,c⟩
 | set S n=>obtain⟨ob,es,ep,t,e,c⟩:=x;exact⟨ob,es,ep,t,k _ _ (.inl rfl) e,c⟩
 | ins C dx fs =>
   obtain⟨d,z,ne,e,mA,⟨od,es,ep,e2,c⟩,r⟩:=x
   exact⟨ho _ d,z,ne,k _ _ (.inl rfl) e,mA,⟨od,es,ep,k _ _ (.inr d) e2,c⟩,r⟩
 | own y=>obtain⟨ob,e⟩:=x;exact⟨ob,k _ _ (.inl rfl) e⟩
 | xd fs=>obtain⟨mA,⟨od,es,ep,e,c⟩,r⟩:=x;exact⟨mA,⟨od,es,ep,k _ _ (.inl rfl) e,c⟩,r⟩
 | rng lo hi=>obtain⟨t,u,v,e⟩:=x;exact⟨t,u,v,k _ _ (.inl rfl) e⟩
 | frz ob u ih=>obtain⟨e,q⟩:=x;exact⟨k _ _ (.inl rfl) e,ih q⟩
 | tbl ps =>
   have e:h.get? a=some {cls:=.none,data:=.fields ps}:=x
   show h'.get? a=some {cls:=.none,data:=.fields ps}
   exact k a _ (.inl rfl) e
 | met f y =>
   have e:h.get? a=some (W.methodObj (.ref f) (.ref y)):=x
   show h'.get? a=some (W.methodObj (.ref f) (.ref y))
   exact k a _ (.inl rfl) e
 | ext φ=>obtain⟨p,⟨o,e⟩,st⟩:=x;exact⟨st _ _ p fun o q=>k _ _ (.inl rfl) q,⟨o,k _ _ (.inl rfl) e⟩,st⟩
theorem EL.lt(x:EL P w H h)(e:H a=some o):a<h.objs.size:=(x a o e).lt
theorem EL.fresh(x:EL P w H h)(e:h.objs.size<=a):H a=none:=by
 cases q:H a with
 | none=>rfl
 | some u=>exact absurd (E8 (x.lt q) e) (Ha _)
theorem EL.kept(x:EL P w H h)(k:∀b u,h.get? b=some u->h'.get? b=some u):EL P w H h':=fun a o e =>
 (x a o e).stay (fun b u _ q=>k b u q) (fun _ q=>q) fun _ _ q=>q
theorem EL.laid(x:EL P w H h)(k:∀b u,h.get? b=some u->h'.get? b=some u)(hp:h.objs.size<=a)(new:cE P w (Cb H a o) h' a o):EL P w (Cb H a o) h':=fun b u e=>by
 have hn:=x.fresh hp
 by_cases hb:b=a
 · subst hb;rw[ar]at e;cases e;exact new
 · rw[ak hb]at e
   exact(x b u e).stay (fun c v _ q=>k c v q) (fun c q=>by rw[ak (aO q hn)];exact q) fun c xs q=>by rw[ak (aO q hn)];exact q
end
noncomputable def Rd(H:Hp)(a:Addr)(u:HO):Prop:=H a=some u\/∃o,H a=some (.frz o u)
theorem Rd.ok{H:Hp}{u:HO}(r:Rd H a u)(x:EL P w H h):cE P w H h a u:=by
 rcases r with r|⟨o,r⟩
 · exact x a u r
 · obtain⟨_,q⟩:=x a _ r
   exact q
noncomputable def Ew:Option HO->Prop
 | some (.lst _)=>True
 | some (.dK _)=>True
 | some (.dT _)=>True
 | some (.set _ _)=>True
 | some (.ins _ _ _)=>True
 | some (.ext _)=>True
 | _=>False
section
variable{P:FS}{w:GD}{H:Hp}{h h':Heap}{x e:Addr}{o':HO}
theorem EL.write(ok:EL P w H h)(mu:Ew (H x))(he:e=x\/H e=some (.own x))(k:∀b u,b≠e->h.get? b=some u->h'.get? b=some u)(heo:∃u,h'.get? e=some u)
 (new:cE P w (Cb H x o') h' x o'):EL P w (Cb H x o') h':=fun b u q=>by
 have nown:∀c y,H c=some (.own y)->c≠x:=fun c y r z=>by subst z;rw[r]at mu;exact mu
 have ntup:∀c xs,H c=some (.tup xs)->c≠x:=fun c xs r z=>by subst z;rw[r]at mu;exact mu
 by_cases hb:b=x
 · subst hb;rw[ar]at q;cases q;exact new
 · rw[ak hb]at q
   by_cases hbe:b=e
   · have q':H b=some (.own x):=by
       rcases he with z|z
       · exact absurd (hbe.trans z) hb
       · rw[hbe];exact z
     rw[q]at q';cases q'
     obtain⟨v,hv⟩:=heo
     exact⟨v,by rw[hbe];exact hv⟩
   · refine(ok b u q).stay (fun c v hc r=>k c v ?_ r) (fun c r=>by rw[ak (nown c b r)];exact r) fun c xs r=>by rw[ak (ntup c xs r)];exact r
     rcases hc with rfl|hc
     · exact hbe
     · rintro rfl
       rcases he with z|z
       · exact nown c b hc z
       · rw[hc]at z;cases z;exact hb rfl
end
structure Un (fs ex:List Addr) (H H':Hp) (h h':Heap):Prop where
 keep:∀b o,h.get? b=some o->H b=none->b∉fs->b∉ex->h'.get? b=some o
 slot:∀b o,h.get? b=some o->H b=none->b∈fs->b∉ex->∃sl,h'.get? b=some {o with slots:=sl}
 free:∀b o,h.get? b=some o->H b=none->b∉ex->H' b=none
 there:∀b o,h.get? b=some o->b∉ex->∃o',h'.get? b=some o'
 tups:∀b xs,H b=some (.tup xs)->H' b=some (.tup xs)
 frzs:∀b o u,H b=some (.frz o u)->H' b=some (.frz o u)
 tbls:∀b ps,H b=some (.tbl ps)->∃more,H' b=some (.tbl (ps++more))
section
variable{fs fs' ex ex':List Addr}{H H1 H2:Hp}{h h1 h2 h':Heap}{a x e:Addr}{o:HO}
theorem Un.any(u:Un fs ex H H1 h h1){ob:Obj}(q:h.get? b=some ob)(n:H b=none)(hx:b∉ex):∃sl,h1.get? b=some {ob with slots:=sl}:=by
 by_cases hb:b∈fs
 · exact u.slot b ob q n hb hx
 · exact⟨ob.slots,u.keep b ob q n hb hx⟩
theorem Un.kept(k:∀b u,h.get? b=some u->h'.get? b=some u):Un fs ex H H h h' :=
 ⟨fun b ob q _ _ _=>k b ob q,fun b ob q _ _ _=>⟨ob.slots,k b ob q⟩,fun _ _ _ n _=>n,fun b ob q _=>⟨ob,k b ob q⟩,fun _ _ q=>q,fun _ _ _ q=>q,fun _ ps q=>⟨#[],by rw[q];simp⟩⟩
theorem Un.refl:Un fs ex H H h h:=Un.kept fun _ _ q=>q
theorem Un.laid(k:∀b u,h.get? b=some u->h'.get? b=some u)(hp:h.objs.size<=a)(hn:H a=none):Un fs ex H (Cb H a o) h h' where
 keep:=fun b u q _ _ _=>k b u q
 slot:=fun b u q _ _ _=>⟨u.slots,k b u q⟩
 free:=fun b u q n _=>by rw[ak (FZ (E8 (Fq q) hp))];exact n
 there:=fun b u q _=>⟨u,k b u q⟩
 tups:=fun b xs q=>by rw[ak (aO q hn)];exact q
 frzs:=fun b u xs q=>by rw[ak (aO q hn)];exact q
 tbls:=fun b ps q=>⟨#[],by rw[ak (aO q hn),q];simp⟩
theorem Un.write(mu:Ew (H x))(he:e=x\/H e=some (.own x))(k:∀b u,b≠e->h.get? b=some u->h'.get? b=some u)(heo:∃u,h'.get? e=some u):Un fs ex H (Cb H x o) h h':=by
 have hx:∀b,H b=none->b≠x:=fun b n z=>by subst z;rw[n]at mu;exact mu
 have hb:∀b,H b=none->b≠e:=fun b n z=>by
  subst z
  rcases he with r|r
  · exact hx b n r
  · rw[n]at r;cases r
 have hm:∀b u,H b=some u->¬Ew (some u)->b≠x:=fun b u q nm z=>by subst z;rw[q]at mu;exact nm mu
 refine⟨fun b u q n _ _=>k b u (hb b n) q,fun b u q n _ _=>⟨u.slots,k b u (hb b n) q⟩,fun b u q n _=>by rw[ak (hx b n)];exact n,fun b u q _=>?_,
  fun b xs q=>by rw[ak (hm b _ q fun z=>z)];exact q,fun b u xs q=>by rw[ak (hm b _ q fun z=>z)];exact q,fun b ps q=>⟨#[],by rw[ak (hm b _ q fun z=>z),q];simp⟩⟩
 by_cases hbe:b=e
 · subst hbe;exact heo
 · exact⟨u,k b u hbe q⟩
end
noncomputable def Cg(h:Heap)(H:Hp):List Addr:=(Gh h.objs.size).filter fun a=>(H a).isSome
noncomputable def qb(h:Heap)(H:Hp):Heap:=W.hideAll h (Cg h H)
theorem oa(h:Heap)(H:Hp):(qb h H).objs.size=h.objs.size:=W.hideAll_size _ _
theorem qa{H:Hp}{o:Obj}(e:h.get? b=some o)(n:H b=none):(qb h H).get? b=some o :=
 W.hideAll_get _ e fun hm=>by
  have q:(H b).isSome=true:=(Jl.mp hm).2
  rw[n]at q;simp at q
theorem tP{H:Hp}{o:Obj}(e:(qb h H).get? b=some o):h.get? b=some o/\H b=none:=by
 have e':h.get? b=some o:=W.of_hideAll (Cg h H) e
 refine⟨e',?_⟩
 cases q:H b with
 | none=>rfl
 | some x =>
   have hm:b∈Cg h H:=Jl.mpr ⟨HV.mpr (Fq e'),by simp[q]⟩
   have z:(qb h H).get? b=none:=W.hideAll_none (Cg h H) hm
   rw[z]at e;cases e
noncomputable def uH(g h:Heap)(L:Addr):List (Addr×Obj):=(Gh h.objs.size).filterMap fun a=>if a=L\/(g.get? a).isSome=true then none else(h.get? a).map fun o=>(a,o)
noncomputable def rest(g h:Heap)(L d:Addr):List (Addr×Obj):=(uH g h L).filter fun p=>decide (p.1≠d)
structure Mod (K:W.Frag) (mg:Str->Option E7) (base:Heap):Prop where
 kin:K.In base
 glob:base.Ns Gq mg
 blt:∃mb,base.Ns builtinsNs mb/\∀x:Str,x ≠ "__name__" -> mb x=IB x
 nolimit:base.NoLimit
structure Cx where
 prog:FS
 w:GD
 K:W.Frag
 mg:Str->Option E7
 base:Heap
 A:GJ
 N:List Str
 s₀:E_
 H₀:Hp
 env:Env
 outer:List Env
 stack:List Env
 ex:List Addr
 fn:Str->Bool
 calm:Bool
 pn:List (Addr×Obj)
 xe:E7->E_->Prop
noncomputable def frs(l:List Env):List Addr:=l.filterMap (·.frame)
abbrev Cx.fs(X:Cx):List Addr:=frs X.outer
noncomputable def DW(sc:Scope)(x:Str):Prop:=sc.names.lookup x=some .local\/sc.names.lookup x=some .cell\/sc.names.lookup x=some .free
noncomputable def Loc(sc:Scope)(x:Str):Prop:=sc.names.lookup x=some .local\/sc.names.lookup x=some .cell
noncomputable def Look(env:Env)(h:Heap)(m:Str->Option E7)(x:Str)(u:E7):Prop :=
 (env.kindOf x=some .local/\m x=some u)\/((env.kindOf x=some .cell\/env.kindOf x=some .free)/\∃c,env.cells.lookup x=some c/\h.IsCell c (some u))
structure Cx.Ok (X:Cx):Prop where
 mod:Mod X.K X.mg X.base
 kind:X.env.scope.kind = .function
 glob:X.env.globals=Gq
 blt:X.env.builtins=builtinsNs
 above:X.s₀.heap.objs.size<=X.env.locals
 inj:∀x y c,X.env.cells.lookup x=some c->X.env.cells.lookup y=some c->x=y
 has:∀x,(X.env.kindOf x=some .cell\/X.env.kindOf x=some .free)->∃c,X.env.cells.lookup x=some c
 cab:∀x c,X.fn x=true->X.env.cells.lookup x=some c->X.s₀.heap.objs.size<=c
 hd:X.calm=true->X.A.handled=none
 frames:X.A.frames=some X.stack
 stk:X.stack=X.outer\/(X.stack=X.env::X.outer/\X.env.frame=some X.env.locals)
 exf:∀b∈X.ex,b≠X.env.locals/\∀x c,X.env.cells.lookup x=some c->c≠b
 bs:∀b o,X.base.get? b=some o->X.s₀.heap.get? b=some o/\X.H₀ b=none
 bsz:X.base.objs.size<=X.s₀.heap.objs.size
 noex:∀b o,X.base.get? b=some o->b∉X.ex
 exfs:∀b∈X.ex,b∉X.fs
 funs:X.s₀.heap.FunFrames X.base X.outer
 frf:∀b∈X.fs,X.H₀ b=none
structure Inv (X:Cx) (pins:List (Addr×Obj)) (σ:List (Option V)) (H:Hp) (s:E_):Prop where
 ok:X.Ok
 os:s.os=X.s₀.os
 bare:KE s.gens
 base:Un X.fs X.ex X.H₀ H X.s₀.heap s.heap
 loc:∃m,s.heap.Ns X.env.locals m/\∀(i:Nat)(x:Str)(v:V),X.N[i]?=some x->σ[i]?=some (some v)->DW X.env.scope x->∃u,RelV v u/\Look X.env s.heap m x u
 cell:∀x c,X.env.cells.lookup x=some c->∃v,s.heap.IsCell c v
 free:H X.env.locals=none
 freeC:∀x c,X.env.cells.lookup x=some c->H c=none
 pin:∀p∈X.pn++pins,s.heap.get? p.1=some p.2/\H p.1=none/\p.1≠X.env.locals/\p.1∉X.fs/\∀v,p.2.data ≠ .cell v
 hok:EL X.prog X.w H s.heap
 len:σ.length=X.N.length
section
variable{X:Cx}{pins:List (Addr×Obj)}{σ:List (Option V)}{H H':Hp}{s:E_}{h':Heap}
theorem Cx.Ok.nofr(ok:X.Ok){o:Obj}(e:X.base.get? b=some o):b∉X.fs:=fun hb=>by
 have:=(ok.funs.mem hb).1
 rw[e]at this;cases this
theorem Inv.bs(I:Inv X pins σ H s):∀b o,X.base.get? b=some o->s.heap.get? b=some o/\H b=none:=fun b o e =>
 ⟨I.base.keep b o (I.ok.bs b o e).1 (I.ok.bs b o e).2 (I.ok.nofr e) (I.ok.noex b o e),I.base.free b o (I.ok.bs b o e).1 (I.ok.bs b o e).2 (I.ok.noex b o e)⟩
theorem Inv.bk(I:Inv X pins σ H s):∀b o,X.base.get? b=some o->s.heap.get? b=some o:=fun b o e=>(I.bs b o e).1
theorem Inv.mod(I:Inv X pins σ H s):Mod X.K X.mg X.base:=I.ok.mod
theorem Inv.kIn(I:Inv X pins σ H s):X.K.In s.heap:=I.ok.mod.kin.keeps I.bk
theorem Inv.lt(I:Inv X pins σ H s):X.env.locals<s.heap.objs.size:=let ⟨_,hn,_⟩:=I.loc;hn.lt
theorem Inv.sz(I:Inv X pins σ H s):X.s₀.heap.objs.size<=s.heap.objs.size:=FP I.ok.above (Lc I.lt)
theorem Inv.nofs(I:Inv X pins σ H s)(h:s.heap.objs.size<=a):a∉X.fs:=fun hb=>by
 obtain⟨_,o,ho,_⟩:=I.ok.funs.mem hb
 exact absurd (E8 (Fq ho) (FP I.sz h)) (Ha _)
theorem Inv.cne(I:Inv X pins σ H s):∀x c,X.env.cells.lookup x=some c->c≠X.env.locals:=fun x c e z=>by
 obtain⟨v,o,ho,hd⟩:=I.cell x c e
 obtain⟨m,⟨o',es,ep,ho',hd',_⟩,_⟩:=I.loc
 rw[z,ho']at ho;cases ho;rw[hd']at hd;cases hd
theorem Inv.funs(I:Inv X pins σ H s):s.heap.FunFrames X.base X.outer:=by
 have all:∀(l:List Env),(∀b∈frs l,b∈X.fs)->X.s₀.heap.FunFrames X.base l->s.heap.FunFrames X.base l:=by
  intro l
  induction l with
  | nil=>intro _ _;trivial
  | cons env r ih =>
    intro hs hl
    obtain⟨hk,⟨L,o,hf,hn,ho,hd⟩,hr⟩:=hl
    have hL:L∈X.fs:=hs L (by unfold frs;rw[GX,hf];exact Ff)
    obtain⟨sl,e⟩:=I.base.slot L o ho (I.ok.frf L hL) hL fun z=>I.ok.exfs L z hL
    exact⟨hk,⟨L,_,hf,hn,e,hd⟩,ih (fun b hb=>hs b (by unfold frs;rw[GX,hf];exact E9 _ hb)) hr⟩
 exact all X.outer (fun _ hb=>hb) I.ok.funs
theorem Inv.stack(I:Inv X pins σ H s):s.heap.FunFrames X.base X.stack:=by
 rcases I.ok.stk with e|⟨e,hf⟩
 · rw[e];exact I.funs
 · rw[e]
   obtain⟨m,hn,_⟩:=I.loc
   refine .cons (by rw[I.ok.kind];decide) hf hn ?_ I.funs
   exact Heap.get?_none_of_le (FP I.ok.bsz I.ok.above)
theorem Inv.stkSub(I:Inv X pins σ H s):∀b∈frs X.stack,b∈X.env.locals::X.fs:=fun b hb=>by
 rcases I.ok.stk with e|⟨e,hf⟩
 · rw[e]at hb;exact E9 _ hb
 · rw[e]at hb
   unfold frs at hb
   rw[GX,hf]at hb
   exact hb
theorem Inv.stkFree(I:Inv X pins σ H s):∀b∈frs X.stack,H b=none:=fun b hb=>by
 rcases FN.mp (I.stkSub b hb)with e|hb
 · rw[e];exact I.free
 · obtain⟨_,o,ho,_⟩:=I.ok.funs.mem hb
   exact I.base.free b o ho (I.ok.frf b hb) fun z=>I.ok.exfs b z hb
theorem Inv.step{g':Array GenState}{d':Drawn}{ch:List Addr}(I:Inv X pins σ H s)
 (hch:∀b∈ch,(b∈X.ex\/X.s₀.heap.objs.size<=b)/\b≠X.env.locals/\(∀x c,X.env.cells.lookup x=some c->c≠b)/\∀p∈X.pn++pins,p.1≠b)
 (keep:∀b o,b≠X.env.locals->b∉X.fs->b∉ch->s.heap.get? b=some o->H b=none->h'.get? b=some o)
 (slot:∀b o,b≠X.env.locals->b∈X.fs->b∉ch->s.heap.get? b=some o->H b=none->∃sl,h'.get? b=some {o with slots:=sl})(free:∀b o,b∉ch->s.heap.get? b=some o->H b=none->H' b=none)
 (there:∀b o,b∉ch->s.heap.get? b=some o->∃o',h'.get? b=some o')
 (tups:∀b xs,H b=some (.tup xs)->H' b=some (.tup xs))(frzs:∀b o u,H b=some (.frz o u)->H' b=some (.frz o u))(tbls:∀b ps,H b=some (.tbl ps)->∃more,H' b=some (.tbl (ps++more)))
 (ns:∀m,s.heap.Ns X.env.locals m->h'.Ns X.env.locals m)(hok:EL X.prog X.w H' h')(hg:KE g') :
 Inv X pins σ H' {s with heap:=h',gens:=g',drawn:=d',toks:=t' }:=by
 have neL:∀b o,X.s₀.heap.get? b=some o->b≠X.env.locals:=fun b o e=>FZ (E8 (Fq e) I.ok.above)
 have neC:∀b o,X.s₀.heap.get? b=some o->b∉X.ex->b∉ch:=fun b o e hx hb=>by
  rcases(hch b hb).1 with z|z
  · exact hx z
  · exact absurd (E8 (Fq e) z) (Ha _)
 have cellK:∀x c,X.env.cells.lookup x=some c->∀v,s.heap.IsCell c v->h'.IsCell c v:=fun x c e v ⟨o,ho,hd⟩=>by
  have nch:c∉ch:=fun z=>(hch c z).2.2.1 x c e rfl
  by_cases hc:c∈X.fs
  · obtain⟨sl,q⟩:=slot c o (I.cne x c e) hc nch ho (I.freeC x c e)
    exact⟨_,q,hd⟩
  · exact⟨o,keep c o (I.cne x c e) hc nch ho (I.freeC x c e),hd⟩
 refine⟨I.ok,I.os,hg,⟨fun b o e n hb hx=>?_,fun b o e n hb hx=>?_,fun b o e n hx=>?_,fun b o e hx=>?_,fun b xs e=>tups b xs (I.base.tups b xs e),fun b o xs e=>frzs b o xs (I.base.frzs b o xs e),fun b ps e=>?_⟩,?_,fun x c e=>?_,?_,fun x c e=>?_,fun p hp=>?_,hok,I.len⟩
 · exact keep b o (neL b o e) hb (neC b o e hx) (I.base.keep b o e n hb hx) (I.base.free b o e n hx)
 · obtain⟨sl,e1⟩:=I.base.slot b o e n hb hx
   obtain⟨sl',e2⟩:=slot b _ (neL b o e) hb (neC b o e hx) e1 (I.base.free b o e n hx)
   exact⟨sl',e2⟩
 · obtain⟨o',e1⟩:=I.base.there b o e hx
   exact free b o' (neC b o e hx) e1 (I.base.free b o e n hx)
 · obtain⟨o',e1⟩:=I.base.there b o e hx
   exact there b o' (neC b o e hx) e1
 · obtain⟨m1,e1⟩:=I.base.tbls b ps e
   obtain⟨m2,e2⟩:=tbls b _ e1
   exact⟨m1++m2,by rw[e2,Array.append_assoc]⟩
 · obtain⟨m,hn,hl⟩:=I.loc
   refine⟨m,ns m hn,fun i x v e1 e2 e3=>?_⟩
   obtain⟨u,r,l⟩:=hl i x v e1 e2 e3
   refine⟨u,r,?_⟩
   rcases l with l|⟨k,c,e,z⟩
   · exact .inl l
   · exact .inr ⟨k,c,e,cellK x c e _ z⟩
 · obtain⟨v,z⟩:=I.cell x c e
   exact⟨v,cellK x c e v z⟩
 · obtain⟨m,⟨o,_,_,ho,_⟩,_⟩:=I.loc
   exact free _ o (fun z=>(hch _ z).2.1 rfl) ho I.free
 · obtain⟨v,o,ho,hd⟩:=I.cell x c e
   exact free c o (fun z=>(hch c z).2.2.1 x c e rfl) ho (I.freeC x c e)
 · obtain⟨e,n,ne,nf,d⟩:=I.pin p hp
   have nch:p.1∉ch:=fun z=>(hch p.1 z).2.2.2 p hp rfl
   exact⟨keep p.1 p.2 ne nf nch e n,free p.1 p.2 nch e n,ne,nf,d⟩
theorem Inv.un(I:Inv X pins σ H s)(u:Un X.fs [] H H' s.heap h')(hok:EL X.prog X.w H' h'):Inv X pins σ H' {s with heap:=h',toks:=t' }:=by
 obtain⟨m,⟨o,es,ep,ho,r⟩,_⟩:=id I.loc
 obtain⟨sl,hL⟩:=u.any ho I.free (by simp)
 exact I.step (g':=s.gens) (d':=s.drawn) (ch:=[]) (fun _ z=>nomatch z) (fun b o _ hb _ e n=>u.keep b o e n hb (by simp)) (fun b o _ hb _ e n=>u.slot b o e n hb (by simp)) (fun b o _ e n=>u.free b o e n (by simp)) (fun b o _ e=>u.there b o e (by simp)) u.tups u.frzs u.tbls (fun m' hm=>by
  obtain⟨o',es',ep',ho',r'⟩:=hm
  rw[ho]at ho';cases ho'
  exact⟨_,es',ep',hL,r'⟩) hok I.bare
theorem Inv.call{g':Array GenState}{d':Drawn}{ch:List Addr}(I:Inv X pins σ H s)(u:Un (frs X.stack) ch H H' s.heap h')(hok:EL X.prog X.w H' h')(hg:KE g')
 (hch:∀b∈ch,(b∈X.ex\/X.s₀.heap.objs.size<=b)/\b≠X.env.locals/\(∀x c,X.env.cells.lookup x=some c->c≠b)/\∀p∈X.pn++pins,p.1≠b) :
 Inv X pins σ H' {s with heap:=h',gens:=g',drawn:=d',toks:=t' }:=by
 obtain⟨m,⟨o,es,ep,ho,r⟩,_⟩:=id I.loc
 obtain⟨sl,hL⟩:=u.any ho I.free fun z=>(hch _ z).2.1 rfl
 exact I.step (ch:=ch) hch (fun b o hL hb hc e n=>u.keep b o e n (fun z=>(FN.mp (I.stkSub b z)).elim hL hb) hc) (fun b o _ _ hc e n=>u.any e n hc) (fun b o hc e n=>u.free b o e n hc) (fun b o hc e=>u.there b o e hc) u.tups u.frzs u.tbls (fun m' hm=>by
  obtain⟨o',es',ep',ho',r'⟩:=hm
  rw[ho]at ho';cases ho'
  exact⟨_,es',ep',hL,r'⟩) hok hg
theorem Inv.turned(I:Inv X pins σ H s)(k:∀b o,b≠it->s.heap.get? b=some o->h'.get? b=some o)(hn:H it=none)(hL:it≠X.env.locals)
 (h1:it∈X.ex\/X.s₀.heap.objs.size<=it)(h2:∀x c,X.env.cells.lookup x=some c->c≠it)(h3:∀p∈X.pn++pins,p.1≠it):Inv X pins σ H {s with heap:=h',toks:=t' }:=by
 have nit:∀b u,H b=some u->b≠it:=fun b u e z=>by rw[z,hn]at e;cases e
 refine I.step (g':=s.gens) (d':=s.drawn) (ch:=[it]) (fun b hb=>?_) (fun b o _ _ hc e _=>k b o (fun z=>hc (by simp[z])) e) (fun b o _ _ hc e _=>⟨o.slots,k b o (fun z=>hc (by simp[z])) e⟩) (fun _ _ _ _ n=>n)
  (fun b o hc e=>⟨o,k b o (fun z=>hc (by simp[z])) e⟩) (fun _ _ e=>e) (fun _ _ _ e=>e) (fun b ps e=>⟨#[],by rw[e];simp⟩) (fun m hm=>?_) (fun b u e=>?_) I.bare
 · have e:b=it:=by simpa using hb
   subst e
   exact⟨h1,hL,h2,h3⟩
 · obtain⟨o,es,ep,ho,r⟩:=hm
   exact⟨o,es,ep,k _ o (KF hL) ho,r⟩
 · refine(I.hok b u e).stay (fun c v hc q=>k c v ?_ q) (fun _ q=>q) fun _ _ q=>q
   rcases hc with z|z
   · rw[z];exact nit b u e
   · exact nit c _ z
theorem Inv.tok(I:Inv X pins σ H s)(t:Nat):Inv X pins σ H {s with toks:=t}:=I.un (h':=s.heap) (t':=t) Un.refl I.hok
theorem Inv.kept{t':Nat}(I:Inv X pins σ H s)(k:∀b u,s.heap.get? b=some u->h'.get? b=some u):Inv X pins σ H {s with heap:=h',toks:=t' }:=I.un (Un.kept k) (I.hok.kept k)
theorem Inv.laid{a:Addr}{o:HO}{t':Nat}(I:Inv X pins σ H s)(k:∀b u,s.heap.get? b=some u->h'.get? b=some u)(hp:s.heap.objs.size<=a)(new:cE X.prog X.w (Cb H a o) h' a o) :
 Inv X pins σ (Cb H a o) {s with heap:=h',toks:=t' }:=I.un (Un.laid k hp (I.hok.fresh hp)) (I.hok.laid k hp new)
theorem Inv.write{x e:Addr}{o:HO}{t':Nat}(I:Inv X pins σ H s)(mu:Ew (H x))(he:e=x\/H e=some (.own x))(k:∀b u,b≠e->s.heap.get? b=some u->h'.get? b=some u)(heo:∃u,h'.get? e=some u)
 (new:cE X.prog X.w (Cb H x o) h' x o):Inv X pins σ (Cb H x o) {s with heap:=h',toks:=t' }:=I.un (Un.write mu he k heo) (I.hok.write mu he k heo new)
theorem Inv.pins_of{pins':List (Addr×Obj)}(I:Inv X pins σ H s)(h:∀p∈pins',s.heap.get? p.1=some p.2/\H p.1=none/\p.1≠X.env.locals/\p.1∉X.fs/\∀v,p.2.data ≠ .cell v):Inv X pins' σ H s :=
 ⟨I.ok,I.os,I.bare,I.base,I.loc,I.cell,I.free,I.freeC,fun p hp=>(Ga.mp hp).elim (fun z=>I.pin p (HC _ z)) (h p),I.hok,I.len⟩
theorem kK(hN:N.Nodup)(a:N[i]?=some x)(b:N[j]?=some x):i=j:=by
 obtain⟨h1,e1⟩:=FK.mp a
 obtain⟨h2,e2⟩:=FK.mp b
 exact(List.getElem_inj hN).mp (e1.trans e2.symm)
theorem dI{M:Model}{v:V}{Q:Unit->E_->Prop}(I:Inv X pins σ H s)(hN:X.N.Nodup)(hi:X.N[i]?=some x)(hx:Loc X.env.scope x)(r:RelV v u)
 (h:∀s',Inv X pins (σ.set i (some v)) H s'->(∃a,HM a s.heap s'.heap/\(a=X.env.locals\/X.env.cells.lookup x=some a))->Q () s')(hf:X.fn x=true\/X.env.scope.names.lookup x=some .local:=by first|exact .inl rfl|exact .inr rfl|assumption):FH M A (storeName X.env x u) Q E s:=by
 obtain⟨m,hn,hl⟩:=id I.loc
 have hcls:(X.env.scope.kind == .class||(X.env.scope.kind == .module&&X.env.locals != X.env.globals))=false:=by rw[I.ok.kind];rfl
 have hiσ:i<σ.length:=by rw[I.len];exact(FK.mp hi).1
 have cne:=I.cne
 have tracked:∀{a:Addr}{h':Heap},(∃o,s.heap.get? a=some o/\H a=none)->HM a s.heap h'->EL X.prog X.w H h':=fun{a h'} ha hs b ob e=>by
  obtain⟨_,_,hfree⟩:=ha
  refine(I.hok b ob e).stay (fun c w' hc q=>(hs.2 c ?_).trans q) (fun _ q=>q) fun _ _ q=>q
  rintro rfl
  rcases hc with rfl|hc
  · rw[hfree]at e;cases e
  · rw[hfree]at hc;cases hc
 rcases hx with hk|hk
 · refine wpAny_storeName_local hk hn (fun h' hn' hs=>?_) hcls
   obtain⟨oL,_,_,hoL,_⟩:=id hn
   refine h _ ⟨I.ok,I.os,I.bare,⟨fun b o e n hb hx=>?_,fun b o e n hb hx=>?_,I.base.free,fun b o e hx=>?_,I.base.tups,I.base.frzs,I.base.tbls⟩,⟨_,hn',fun j y v' e1 e2 e3=>?_⟩,fun y c e=>?_,I.free,I.freeC,fun p hp=>?_,tracked ⟨oL,hoL,I.free⟩ hs,by simpa using I.len⟩ ⟨_,hs,.inl rfl⟩
   · exact(hs.2 b (FZ (E8 (Fq e) I.ok.above))).trans (I.base.keep b o e n hb hx)
   · obtain⟨sl,e1⟩:=I.base.slot b o e n hb hx
     exact⟨sl,(hs.2 b (FZ (E8 (Fq e) I.ok.above))).trans e1⟩
   · obtain⟨o',e1⟩:=I.base.there b o e hx
     exact⟨o',(hs.2 b (FZ (E8 (Fq e) I.ok.above))).trans e1⟩
   · by_cases hj:j=i
     · subst hj
       rw[hi]at e1;cases e1
       rw[FR hiσ]at e2
       cases e2
       exact⟨u,r,.inl ⟨hk,by simp⟩⟩
     · rw[FM (KF hj)]at e2
       obtain⟨u',r',q⟩:=hl j y v' e1 e2 e3
       refine⟨u',r',?_⟩
       rcases q with⟨k,e⟩|⟨k,c,e,z⟩
       · refine .inl ⟨k,?_⟩
         have:y≠x:=fun e=>hj (kK hN e1 (e▸hi))
         simp[this,e]
       · exact .inr ⟨k,c,e,z.sameBut hs (cne y c e)⟩
   · obtain⟨w',z⟩:=I.cell y c e
     exact⟨w',z.sameBut hs (cne y c e)⟩
   · obtain⟨e,n,ne,nf,d⟩:=I.pin p hp
     exact⟨(hs.2 p.1 ne).trans e,n,ne,nf,d⟩
 · have hfn:X.fn x=true:=by
     rcases hf with z|z
     · exact z
     · rw[z]at hk;cases hk
   obtain⟨c,hc⟩:=I.ok.has x (.inl hk)
   obtain⟨w',z⟩:=I.cell x c hc
   refine wpAny_storeName_cell I.ok.kind hk hc z (fun h' hc' hs=>?_)
   obtain⟨oc,hoc,hocd⟩:=id z
   refine h {s with heap:=h' } ⟨I.ok,I.os,I.bare,⟨fun b o e n hb hx=>?_,fun b o e n hb hx=>?_,I.base.free,fun b o e hx=>?_,I.base.tups,I.base.frzs,I.base.tbls⟩,⟨m,hn.sameBut hs (KF (cne x c hc)),fun j y v' e1 e2 e3=>?_⟩,fun y c' e=>?_,I.free,I.freeC,fun p hp=>?_,tracked ⟨oc,hoc,I.freeC x c hc⟩ hs,by simpa using I.len⟩ ⟨c,hs,.inr hc⟩
   · exact(hs.2 b (FZ (E8 (Fq e) (I.ok.cab x c hfn hc)))).trans (I.base.keep b o e n hb hx)
   · obtain⟨sl,e1⟩:=I.base.slot b o e n hb hx
     exact⟨sl,(hs.2 b (FZ (E8 (Fq e) (I.ok.cab x c hfn hc)))).trans e1⟩
   · obtain⟨o',e1⟩:=I.base.there b o e hx
     exact⟨o',(hs.2 b (FZ (E8 (Fq e) (I.ok.cab x c hfn hc)))).trans e1⟩
   · by_cases hj:j=i
     · subst hj
       rw[hi]at e1;cases e1
       rw[FR hiσ]at e2
       cases e2
       exact⟨u,r,.inr ⟨.inl hk,c,hc,hc'⟩⟩
     · rw[FM (KF hj)]at e2
       obtain⟨u',r',q⟩:=hl j y v' e1 e2 e3
       refine⟨u',r',?_⟩
       rcases q with q|⟨k,c',e,z'⟩
       · exact .inl q
       · refine .inr ⟨k,c',e,z'.sameBut hs ?_⟩
         rintro rfl
         exact hj (kK hN e1 (I.ok.inj _ _ _ e hc▸hi))
   · by_cases hcc:c'=c
     · subst hcc;exact⟨_,hc'⟩
     · obtain⟨w2,z2⟩:=I.cell y c' e
       exact⟨w2,z2.sameBut hs hcc⟩
   · obtain⟨e,n,ne,nf,d⟩:=I.pin p hp
     refine⟨(hs.2 p.1 ?_).trans e,n,ne,nf,d⟩
     intro q
     rw[q,hoc]at e
     have q':oc=p.2:=Gr e
     exact d w' (by rw[<- q'];exact hocd)
theorem dJ{M:Model}{v:V}{Q:Unit->E_->Prop}(I:Inv X pins σ H s)(hN:X.N.Nodup)(hi:X.N[i]?=some x)(hx:Loc X.env.scope x)(r:RelV v u)
 (h:∀s',Inv X pins (σ.set i (some v)) H s'->Q () s')(hf:X.fn x=true\/X.env.scope.names.lookup x=some .local:=by first|exact .inl rfl|exact .inr rfl|assumption):FH M A (storeName X.env x u) Q E s :=
 dI I hN hi hx r (fun s' I' _=>h s' I') hf
end
abbrev XK:=E7->Option Addr->Hp->Prop
abbrev St:=List (Option V)
abbrev VK:=V->Hp->Prop
abbrev TE:=St->Hp->VK->Prop
abbrev TT:=St->Hp->(Bool->Hp->Prop)->Prop
abbrev TA:=St->Hp->(List V->Hp->Prop)->Prop
structure Ends where
 nx:St->Hp->Prop
 rt:VK
 bk:St->Hp->Prop:=fun _ _=>False
 ct:St->Hp->Prop:=fun _ _=>False
abbrev TS:=Ends->St->Hp->Prop
noncomputable def EP(X:Cx)(pins:List (Addr×Obj))(σ:St)(Q:VK)(u:E7)(s':E_):Prop:=∃v H',Inv X pins σ H' s'/\RelV v u/\Q v H'
noncomputable def TP(X:Cx)(pins:List (Addr×Obj))(σ:St)(Q:Bool->Hp->Prop)(b:Bool)(s':E_):Prop:=∃H',Inv X pins σ H' s'/\Q b H'
noncomputable def AP(X:Cx)(pins:List (Addr×Obj))(σ:St)(Q:List V->Hp->Prop)(us:List E7)(s':E_):Prop:=∃vs H',Inv X pins σ H' s'/\cu vs us/\Q vs H'
noncomputable def SP(X:Cx)(pins:List (Addr×Obj))(D:Ends)(f:Flow)(s':E_):Prop :=
 match f with
 | .next=>∃σ' H',Inv X pins σ' H' s'/\D.nx σ' H'
 | .brk=>∃σ' H',Inv X pins σ' H' s'/\D.bk σ' H'
 | .cont=>∃σ' H',Inv X pins σ' H' s'/\D.ct σ' H'
 | .ret u=>∃v σ' H',Inv X pins σ' H' s'/\RelV v u/\D.rt v H'
noncomputable def PE(X:Cx)(e:Expr)(t:TE):Prop :=
 ∀(pins:List (Addr×Obj))(s:E_)(σ:St)(H:Hp)(Q:VK),Inv X pins σ H s->t σ H Q->FH (FT X.prog X.w) X.A (eval e X.env) (EP X pins σ Q) X.xe s
noncomputable def PT(X:Cx)(e:Expr)(t:TT):Prop :=
 ∀(pins:List (Addr×Obj))(s:E_)(σ:St)(H:Hp)(Q:Bool->Hp->Prop),Inv X pins σ H s->t σ H Q->FH (FT X.prog X.w) X.A (isTrue e X.env (eval e X.env)) (TP X pins σ Q) X.xe s
noncomputable def PW(X:Cx)(e:Expr)(t:TT):Prop :=
 ∀(whole:Sem E7)(pins:List (Addr×Obj))(s:E_)(σ:St)(H:Hp)(Q:Bool->Hp->Prop),Inv X pins σ H s->t σ H Q->FH (FT X.prog X.w) X.A (isTrue e X.env whole) (TP X pins σ Q) X.xe s
theorem PW.pt{X:Cx}{t:TT}(h:PW X e t):PT X e t:=h _
noncomputable def PA(X:Cx)(es:List Expr)(t:TA):Prop :=
 ∀(pos:Pos)(pins:List (Addr×Obj))(s:E_)(σ:St)(H:Hp)(Q:List V->Hp->Prop),Inv X pins σ H s->t σ H Q->FH (FT X.prog X.w) X.A (spliced (GQ pos (Fg es X.env))) (AP X pins σ Q) X.xe s
noncomputable def PS(X:Cx)(st:Stmt)(t:TS):Prop :=
 ∀(pins:List (Addr×Obj))(s:E_)(σ:St)(H:Hp)(D:Ends),Inv X pins σ H s->t D σ H->FH (FT X.prog X.w) X.A (exec st X.env) (SP X pins D) X.xe s
noncomputable def Ei(X:Cx)(st:List Stmt)(t:TS):Prop :=
 ∀(pins:List (Addr×Obj))(s:E_)(σ:St)(H:Hp)(D:Ends),Inv X pins σ H s->t D σ H->FH (FT X.prog X.w) X.A (execs st X.env) (SP X pins D) X.xe s
theorem Cj{t:Sem α}{Q Q':α->E_->Prop}{M:Model}(h:FH M A t Q E s)(hQ:∀a s,Q a s->Q' a s):FH M A t Q' E s:=FX h hQ fun _ _ x=>x
section
variable{X:Cx}
noncomputable def AK(i:Nat):TE:=fun σ H Q=>∃v,σ[i]?=some (some v)/\Q v H
noncomputable def tC(v:V):TE:=fun _ H Q=>Q v H
theorem cR(hN:X.N[i]?=some x)(hv:DW X.env.scope x)(hd:(x==("__debug__" : Str))=false:=by decide)(hcd:(x==("__classdict__" : Str))=false:=by decide):PE X (.Name x pos) (AK i):=by
 intro pins s σ H Q I h
 obtain⟨v,e,h⟩:=h
 obtain⟨m,hn,hl⟩:=I.loc
 obtain⟨u,r,l⟩:=hl i x v hN e hv
 have fin:EP X pins σ Q u s:=⟨v,H,I,r,h⟩
 rcases l with⟨hk,hm⟩|⟨hk,c,hc,hcell⟩
 · exact wpAny_Name (Kt I.ok.kind hk hn hm fin) hd
 · rcases hk with hk|hk
   · exact wpAny_Name (KG I.ok.kind hk hc hcell fin) hd
   · exact wpAny_Name (wpAny_loadName_free I.ok.kind hk hc hcell fin hcd) hd
theorem kH{i j pos}:PE X (.Constant (.int i) j pos) (tC (.int i)):=fun _ _ _ H _ I h=>wpAny_Constant_int ⟨.int i,H,I.tok _,⟨_,rfl⟩,h⟩
theorem yX{b j pos}:PE X (.Constant (.bool b) j pos) (tC (.bl b)):=fun _ _ _ H _ I h=>Constant_bool ⟨.bl b,H,I,rfl,h⟩
theorem cU{x j pos}:PE X (.Constant (.str x) j pos) (tC (.str x)):=fun _ _ _ H _ I h=>Calls.Constant_str ⟨.str x,H,I.tok _,⟨_,rfl⟩,h⟩
noncomputable def Gl(X:Cx)(x:Str):Prop:=X.env.kindOf x=some .globalImplicit
theorem nS{σ:St}{H:Hp}(I:Inv X pins σ H s)(hg:Gl X x)(hm:X.mg x=some u)(h:Q u s)
 (hd:(x==("__debug__" : Str))=false:=by decide):FH (FT X.prog X.w) X.A (eval (.Name x pos) X.env) Q E s :=
 Jx I.ok.kind hg (Calls.loadGlobal_global (by rw[I.ok.glob];exact I.mod.glob.keeps I.bk) hm h) hd
theorem fS{σ:St}{H:Hp}(I:Inv X pins σ H s)(hg:Gl X x)(hm:X.mg x=none)(hv:IB x=some u)(h:Q u s)
 (hn:x ≠ "__name__" := by decide)(hd:(x==("__debug__" : Str))=false:=by decide):FH (FT X.prog X.w) X.A (eval (.Name x pos) X.env) Q E s:=by
 obtain⟨mb,h1,h2⟩:=I.mod.blt
 exact Jx I.ok.kind hg (Calls.loadGlobal_builtin (by rw[I.ok.glob];exact I.mod.glob.keeps I.bk) hm (by rw[I.ok.blt];exact h1.keeps I.bk) ((h2 x hn).trans hv) h) hd
theorem tF{v:V}(hg:Gl X x)(hm:X.mg x=some u)(r:RelV v u)(hd:(x==("__debug__" : Str))=false:=by decide):PE X (.Name x pos) (tC v) :=
 fun _ _ _ H _ I h=>nS I hg hm ⟨v,H,I,r,h⟩ hd
variable{a b:Expr}{ta tb:TE}{pos:Pos}
noncomputable def tB(t:TE):TT:=fun σ H Q=>t σ H fun x H1=>∃c,x = .bl c/\Q c H1
theorem wq{t:TE}(h:PE X e t)(he:∀whole,isTrue e X.env whole=(do let v <- whole;KH e.pos;holding [v] (truthy v)):=by intro _;rfl):PT X e (tB t):=by
 intro pins s σ H Q I hw
 refine isTrue_plain (Cj (h pins s σ H _ I hw) fun v s1 ⟨x,H1,I1,r1,q1⟩=>?_) (he _)
 obtain⟨d,rfl,q⟩:=q1
 cases r1
 exact HE ⟨H1,I1,q⟩
variable{tA tB':TT}{rest:List Expr}
noncomputable def Bk(t u:TT):TT:=fun σ H Q=>t σ H fun c H1=>if c=true then u σ H1 Q else Q false H1
noncomputable def Cn(t u:TT):TT:=fun σ H Q=>t σ H fun c H1=>if c=true then Q true H1 else u σ H1 Q
noncomputable def Be(t:TT):TT:=fun σ H Q=>t σ H fun c H1=>Q (!c) H1
theorem sR(ha:PT X a tA):PW X (.BoolOp .And [a] pos) tA:=by
 intro wh pins s σ H Q I h
 refine isTrue_and (Cj (ha pins s σ H Q I h) fun c s1 e=>?_)
 cases c with
 | true=>exact isTrue_and_nil e
 | false=>exact e
theorem wn(ha:PT X a tA):PW X (.BoolOp .Or [a] pos) tA:=by
 intro wh pins s σ H Q I h
 refine isTrue_or (Cj (ha pins s σ H Q I h) fun c s1 e=>?_)
 cases c with
 | false=>exact isTrue_or_nil e
 | true=>exact e
theorem wp(ha:PT X a tA)(hb:PW X (.BoolOp .And (b::rest) pos) tB'):PW X (.BoolOp .And (a::b::rest) pos) (Bk tA tB'):=by
 intro wh pins s σ H Q I h
 refine isTrue_and (Cj (ha pins s σ H _ I h) fun c s1 ⟨H1,I1,q1⟩=>?_)
 cases c with
 | true=>exact hb wh pins s1 σ H1 Q I1 q1
 | false=>exact⟨H1,I1,q1⟩
theorem yN(ha:PT X a tA)(hb:PW X (.BoolOp .Or (b::rest) pos) tB'):PW X (.BoolOp .Or (a::b::rest) pos) (Cn tA tB'):=by
 intro wh pins s σ H Q I h
 refine isTrue_or (Cj (ha pins s σ H _ I h) fun c s1 ⟨H1,I1,q1⟩=>?_)
 cases c with
 | true=>exact⟨H1,I1,q1⟩
 | false=>exact hb wh pins s1 σ H1 Q I1 q1
theorem wr(ha:PT X a tA):PT X (.UnaryOp .Not a pos) (Be tA):=by
 intro pins s σ H Q I h
 exact isTrue_not (ha pins s σ H (fun c H1=>Q (!c) H1) I h)
noncomputable def yF(ta tb:TE):TE:=fun σ H Q=>ta σ H fun x H1=>∃c,x = .bl c/\if c=true then tb σ H1 Q else Q (.bl false) H1
noncomputable def Bd(ta tb:TE):TE:=fun σ H Q=>ta σ H fun x H1=>∃c,x = .bl c/\if c=true then Q (.bl true) H1 else tb σ H1 Q
noncomputable def yz(ta:TE):TE:=fun σ H Q=>ta σ H fun x H1=>∃c,x = .bl c/\Q (.bl (!c)) H1
theorem wE{op}{t:TE}(h:PE X a t):PE X (.BoolOp op [a] pos) t:=fun pins s σ H Q I hw=>BoolOp_one (h pins s σ H Q I hw)
theorem wI(ha:PE X a ta)(hb:PE X (.BoolOp .And (b::rest) pos) tb):PE X (.BoolOp .And (a::b::rest) pos) (yF ta tb):=by
 intro pins s σ H Q I h
 refine BoolOp_and (Cj (ha pins s σ H _ I h) fun v s1 ⟨x,H1,I1,r1,q1⟩=>?_)
 obtain⟨c,rfl,q1⟩:=q1
 cases r1
 refine HE ?_
 cases c with
 | true=>exact hb pins s1 σ H1 Q I1 q1
 | false=>exact⟨.bl false,H1,I1,rfl,q1⟩
theorem yV(ha:PE X a ta)(hb:PE X (.BoolOp .Or (b::rest) pos) tb):PE X (.BoolOp .Or (a::b::rest) pos) (Bd ta tb):=by
 intro pins s σ H Q I h
 refine BoolOp_or (Cj (ha pins s σ H _ I h) fun v s1 ⟨x,H1,I1,r1,q1⟩=>?_)
 obtain⟨c,rfl,q1⟩:=q1
 cases r1
 refine HE ?_
 cases c with
 | false=>exact hb pins s1 σ H1 Q I1 q1
 | true=>exact⟨.bl true,H1,I1,rfl,q1⟩
theorem wF(ha:PE X a ta):PE X (.UnaryOp .Not a pos) (yz ta):=by
 intro pins s σ H Q I h
 refine UnaryOp_ (Cj (ha pins s σ H _ I h) fun v s1 ⟨x,H1,I1,r1,q1⟩=>?_)
 obtain⟨c,rfl,q1⟩:=q1
 cases r1
 exact not_of (HE ⟨.bl (!c),H1,I1,rfl,q1⟩)
noncomputable def Cq(t:TT)(ta tb:TE):TE:=fun σ H Q=>t σ H fun c H1=>if c=true then ta σ H1 Q else tb σ H1 Q
theorem pU(hc:PT X c tA)(ha:PE X a ta)(hb:PE X b tb):PE X (.IfExp c a b pos) (Cq tA ta tb):=by
 intro pins s σ H Q I h
 refine wpAny_IfExp (Cj (hc pins s σ H _ I h) fun d s1 ⟨H1,I1,q1⟩=>?_)
 cases d with
 | true=>exact ha pins s1 σ H1 Q I1 q1
 | false=>exact hb pins s1 σ H1 Q I1 q1
end
noncomputable def D8(K:W.Frag)(H:Hp)(a:Addr)(xs:List V):Prop :=
 Rd H a (.lst xs) \/
  ∃(o:Obj)(its:Array E7)(n:Nat),K.lookup a=some o/\o.cls = .type "list" /\ o.dict=none/\o.data = .seq its n/\its.size<=sizeLine/\cu xs its.toList
noncomputable def D7(K:W.Frag)(H:Hp)(a:Addr)(xs:List V):Prop :=
 Rd H a (.tup xs) \/
  ∃(o:Obj)(its:Array E7)(n:Nat),K.lookup a=some o/\o.cls = .type "tuple" /\ o.data = .seq its n/\its.size<=sizeLine/\cu xs its.toList/\o.dict=none
noncomputable def BA:E7->Option V
 | .none=>some .non
 | .bool b=>some (.bl b)
 | .int i _=>some (.int i)
 | .str x _=>some (.str x)
 | .bytes b _=>some (.byt b)
 | .float b _=>some (.flt b)
 | .ref a=>some (.ref a)
 | .type n=>some (.ty n)
 | _=>none
theorem RelV.abs{x:V}(r:RelV x u):BA u=some x:=by
 cases x with
 | non=>cases r;rfl
 | bl _=>cases r;rfl
 | int _=>obtain⟨t,rfl⟩:=r;rfl
 | str _=>obtain⟨t,rfl⟩:=r;rfl
 | byt _=>obtain⟨t,rfl⟩:=r;rfl
 | flt _=>obtain⟨t,rfl⟩:=r;rfl
 | ref _=>cases r;rfl
 | ty _=>cases r;rfl
theorem RelV.inj{x y:V}(r:RelV x u)(q:RelV y u):x=y:=Gr (r.abs.symm.trans q.abs)
theorem cu.inj:∀{xs ys:List V}{us:List E7},cu xs us->cu ys us->xs=ys
 | _,_,_,.nil,.nil=>rfl
 | _,_,_,.cons r t,.cons r' t'=>by rw[r.inj r',cu.inj t t']
section
variable{X:Cx}{pins:List (Addr×Obj)}{σ:St}{H:Hp}{s:E_}{a:Addr}{xs ys:List V}
theorem Inv.list(I:Inv X pins σ H s)(h:D8 X.K H a xs):∃its:List E7,cu xs its/\PlainL s.heap a its.toArray/\xs.length<=sizeLine:=by
 rcases h with h|⟨o,its,n,hk,hc,hd,hs,hz,r⟩
 · obtain⟨z,its,n,r,e⟩:=h.ok I.hok
   exact⟨its,r,⟨_,n,e,rfl,rfl,rfl⟩,z⟩
 · refine⟨its.toList,r,⟨o,n,I.kIn a o hk,hc,hd,by simpa using hs⟩,?_⟩
   have e:=r.length
   simp only[HP]at e
   omega
theorem Inv.tuple(I:Inv X pins σ H s)(h:D7 X.K H a xs):∃its:List E7,cu xs its/\IsTup s.heap a its.toArray/\xs.length<=sizeLine:=by
 rcases h with h|⟨o,its,n,hk,hc,hs,hz,r,hd⟩
 · obtain⟨z,its,r,p⟩:=h.ok I.hok
   exact⟨its,r,p.tup,z⟩
 · refine⟨its.toList,r,⟨o,I.kIn a o hk,hc,n,by simpa using hs⟩,?_⟩
   have e:=r.length
   simp only[HP]at e
   omega
theorem Inv.list_inj(I:Inv X pins σ H s)(h:D8 X.K H a xs)(h':D8 X.K H a ys):xs=ys:=by
 obtain⟨its,r,⟨o,n,e,_,_,d⟩,_⟩:=I.list h
 obtain⟨its',r',⟨o',n',e',_,_,d'⟩,_⟩:=I.list h'
 rw[e]at e';cases e'
 rw[d]at d'
 injection d' with d1 _
 have:its=its':=by simpa using congrArg Array.toList d1
 subst this
 exact r.inj r'
theorem Inv.tupleD(I:Inv X pins σ H s)(h:D7 X.K H a xs):∃ob,s.heap.get? a=some ob/\ob.cls = .type "tuple" /\ ob.dict=none:=by
 rcases h with h|⟨o,its,n,hk,hc,hs,hz,r,hd⟩
 · obtain⟨z,its,r,⟨o,e1,e2,_,e3⟩⟩:=h.ok I.hok
   exact⟨o,e1,e2,e3⟩
 · exact⟨o,I.kIn a o hk,hc,hd⟩
theorem Inv.tuple_inj(I:Inv X pins σ H s)(h:D7 X.K H a xs)(h':D7 X.K H a ys):xs=ys:=by
 obtain⟨its,r,⟨o,e,_,n,d⟩,_⟩:=I.tuple h
 obtain⟨its',r',⟨o',e',_,n',d'⟩,_⟩:=I.tuple h'
 rw[e]at e';cases e'
 rw[d]at d'
 injection d' with d1 _
 have:its=its':=by simpa using congrArg Array.toList d1
 subst this
 exact r.inj r'
end
abbrev Cx.wish(X:Cx)(E:E7->E_->Prop):Cx:={X with xe:=E}
abbrev Cx.nox(X:Cx):Cx:=X.wish fun _ _=>False
theorem Cx.Ok.wish{X:Cx}(ok:X.Ok)(E:E7->E_->Prop):(X.wish E).Ok :=
 ⟨ok.mod,ok.kind,ok.glob,ok.blt,ok.above,ok.inj,ok.has,ok.cab,ok.hd,ok.frames,ok.stk,ok.exf,ok.bs,ok.bsz,ok.noex,ok.exfs,ok.funs,ok.frf⟩
theorem Cx.Ok.unwish{X:Cx}(ok:(X.wish E).Ok):X.Ok :=
 ⟨ok.mod,ok.kind,ok.glob,ok.blt,ok.above,ok.inj,ok.has,ok.cab,ok.hd,ok.frames,ok.stk,ok.exf,ok.bs,ok.bsz,ok.noex,ok.exfs,ok.funs,ok.frf⟩
section
variable{X:Cx}{pins:List (Addr×Obj)}{σ:St}{H:Hp}{s:E_}{E:E7->E_->Prop}
theorem Inv.wish(I:Inv X pins σ H s)(E:E7->E_->Prop):Inv (X.wish E) pins σ H s:=⟨I.ok.wish E,I.os,I.bare,I.base,I.loc,I.cell,I.free,I.freeC,I.pin,I.hok,I.len⟩
theorem Inv.unwish(I:Inv (X.wish E) pins σ H s):Inv X pins σ H s:=⟨I.ok.unwish,I.os,I.bare,I.base,I.loc,I.cell,I.free,I.freeC,I.pin,I.hok,I.len⟩
theorem SP.unwish{D:Ends}{f:Flow}{s':E_}(h:SP (X.wish E) pins D f s'):SP X pins D f s':=by
 cases f with
 | next=>obtain⟨σ',H',I,q⟩:=h;exact⟨σ',H',I.unwish,q⟩
 | brk=>obtain⟨σ',H',I,q⟩:=h;exact⟨σ',H',I.unwish,q⟩
 | cont=>obtain⟨σ',H',I,q⟩:=h;exact⟨σ',H',I.unwish,q⟩
 | ret u=>obtain⟨v,σ',H',I,r,q⟩:=h;exact⟨v,σ',H',I.unwish,r,q⟩
theorem Ei.nox{st:List Stmt}{t:TS}(h:Ei X.nox st t):Ei X st t:=fun pins s σ H D I hw =>
 FX (h pins s σ H D (I.wish _) hw) (fun _ _ q=>q.unwish) fun _ _ z=>GR z
end
section
variable{X:Cx}{st:Stmt}{rest:List Stmt}{t u:TS}{e:Expr}{te:TE}{pos:Pos}
noncomputable def yA:TS:=fun D σ H=>D.nx σ H
noncomputable def Ba(t u:TS):TS:=fun D σ H=>t {D with nx:=u D} σ H
theorem nj:Ei X [] yA:=fun _ _ σ H _ I h=>Jm ⟨σ,H,I,h⟩
theorem ff(h1:PS X st t)(h2:Ei X rest u):Ei X (st::rest) (Ba t u):=by
 intro pins s σ H D I h
 refine wpAny_execs_cons (Cj (h1 pins s σ H {D with nx:=u D} I h) fun f s1 q=>?_)
 cases f with
 | next =>
   obtain⟨σ',H',I',q⟩:=q
   exact h2 pins s1 σ' H' D I' q
 | ret v=>exact q
 | brk=>exact q
 | cont=>exact q
theorem nh(h1:PS X st t):Ei X [st] t:=by
 intro pins s σ H D I h
 refine wpAny_execs_cons (Cj (h1 pins s σ H D I h) fun f s1 q=>?_)
 cases f with
 | next=>exact Jm q
 | ret v=>exact q
 | brk=>exact q
 | cont=>exact q
theorem Inv.quiet{σ:St}{H:Hp}(I:Inv X pins σ H s):interactive X.env=false:=by simp[interactive,I.ok.kind]
noncomputable def yC(te:TE):TS:=fun D σ H=>te σ H fun _ H1=>D.nx σ H1
theorem nl(he:PE X e te)(hs:G0 e none pos.line X.env=pure false:=by rfl):PS X (.Expr e pos) (yC te):=by
 intro pins s σ H D I h
 exact wpAny_Expr_any (Cj (he pins s σ H _ I h) fun v s1 ⟨x,H1,I1,r1,q1⟩=>⟨σ,H1,I1,q1⟩) I.quiet hs
noncomputable def Bb(te:TE):TS:=fun D σ H=>te σ H D.rt
theorem qT(he:PE X e te):PS X (.Return (some e) pos) (Bb te):=by
 intro pins s σ H D I h
 exact wpAny_Return_some (Cj (he pins s σ H _ I h) fun v s1 ⟨x,H1,I1,r1,q1⟩=>⟨x,σ,H1,I1,r1,q1⟩)
noncomputable def Bh(c:TT)(t u:TS):TS:=fun D σ H=>c σ H fun b H1=>if b=true then t D σ H1 else u D σ H1
theorem yS{a b:List Stmt}{tc:TT}(hc:PT X c tc)(ha:Ei X a t)(hb:Ei X b u):PS X (.If c a b pos) (Bh tc t u):=by
 intro pins s σ H D I h
 refine wpAny_If (Cj (hc pins s σ H _ I h) fun d s1 ⟨H1,I1,q1⟩=>?_)
 cases d with
 | true=>exact ha pins s1 σ H1 D I1 q1
 | false=>exact hb pins s1 σ H1 D I1 q1
noncomputable def vG:TS:=fun _ _ _=>False
theorem pQ:PS X st vG:=fun _ _ _ _ _ _ h=>h.elim
end
abbrev TG:=V->St->Hp->(St->Hp->Prop)->Prop
abbrev D6:=List V->St->Hp->(St->Hp->Prop)->Prop
noncomputable def PG(X:Cx)(target:Expr)(t:TG):Prop :=
 ∀ (pins:List (Addr×Obj))(s:E_)(σ:St)(H:Hp)(v:V)(u:E7)(Q:St->Hp->Prop),Inv X pins σ H s->RelV v u->t v σ H Q ->
   FH (FT X.prog X.w) X.A (Iq target X.env u) (fun _ s'=>∃σ' H',Inv X pins σ' H' s'/\Q σ' H') X.xe s
noncomputable def Es(X:Cx)(ts:List Expr)(t:D6):Prop :=
 ∀ (pins:List (Addr×Obj))(s:E_)(σ:St)(H:Hp)(vs:List V)(us:List E7)(Q:St->Hp->Prop),Inv X pins σ H s->cu vs us->t vs σ H Q ->
   FH (FT X.prog X.w) X.A (KS ((HW ts X.env).map (·.2)) us) (fun _ s'=>∃σ' H',Inv X pins σ' H' s'/\Q σ' H') X.xe s
abbrev D4:=V->V->Hp->VK->Prop
noncomputable def Eo(X:Cx)(op:Lm)(t:D4):Prop :=
 ∀ (pins:List (Addr×Obj))(s:E_)(σ:St)(H:Hp)(x y:V)(v u:E7)(Q:VK),Inv X pins σ H s->RelV x v->RelV y u->t x y H Q ->
   FH (FT X.prog X.w) X.A (inplaceOp op v u) (EP X pins σ Q) X.xe s
section
variable{X:Cx}{pos:Pos}
noncomputable def iP(i:Nat):TG:=fun v σ H Q=>Q (σ.set i (some v)) H
theorem tw(hN:X.N.Nodup)(hi:X.N[i]?=some x)(hx:Loc X.env.scope x)(hf:X.fn x=true\/X.env.scope.names.lookup x=some .local:=by first|exact .inl rfl|exact .inr rfl|assumption):PG X (.Name x pos) (iP i):=by
 intro pins s σ H v u Q I r h
 exact IQ (dJ I hN hi hx r (fun s' I'=>⟨_,H,I',h⟩) hf)
noncomputable def Bx:D6:=fun vs σ H Q=>vs=[]/\Q σ H
noncomputable def zt(t:TG)(u:D6):D6:=fun vs σ H Q=>∃v r,vs=v::r/\t v σ H fun σ' H'=>u r σ' H' Q
theorem tq:Es X [] Bx:=by
 intro pins s σ H vs us Q I r h
 obtain⟨e,h⟩:=h
 subst e
 cases r
 exact assignInOrder_nil ⟨σ,H,I,h⟩
theorem pS{es:List Expr}{t:TG}{u:D6}(h1:PG X e t)(h2:Es X es u)
 (hs:(HW (e::es) X.env).map (·.2)=Iq e X.env::(HW es X.env).map (·.2):=by rfl):Es X (e::es) (zt t u):=by
 intro pins s σ H vs us Q I r h
 obtain⟨v,vr,e1,h⟩:=h
 subst e1
 cases r with
 | cons r rr =>
   rw[hs]
   refine JB (Cj (h1 pins s σ H _ _ _ I r h) fun _ s1 ⟨σ1,H1,I1,q1⟩=>?_)
   exact h2 pins s1 σ1 H1 _ _ Q I1 rr q1
noncomputable def Bw(K:W.Frag)(n:Nat)(t:D6):TG:=fun v σ H Q=>∃a xs,v = .ref a/\D7 K H a xs/\xs.length=n/\t xs σ H Q
theorem wC{es:List Expr}{k:Nat}{t:D6}(hc:X.calm=true)(h:Es X es t)
 (hn:(HW es X.env).length=n:=by rfl)(hst:(HW es X.env).findIdx? (·.1)=none:=by rfl):PG X (.Tuple es k pos) (Bw X.K n t):=by
 intro pins s σ H v u Q I r hw
 obtain⟨a,xs,e1,hq,hl,hw⟩:=hw
 subst e1
 cases r
 obtain⟨its,rv,ht,hz⟩:=I.tuple hq
 refine assign_Tuple_tuple (I.ok.hd hc) ht (by simp[hn,<- hl,rv.length]) hst fun h' hx=>?_
 have I1:Inv X pins σ H {s with heap:=h' }:=I.kept (t':=s.toks) fun b o e=>hx b o (FZ (Fq e)) e
 exact h pins _ σ H xs _ Q I1 (by simpa using rv) hw
noncomputable def vJ(te:TE)(g:TG):TS:=fun D σ H=>te σ H fun x H1=>g x σ H1 D.nx
theorem ww{te:TE}{g:TG}(he:PE X e te)(hg:PG X tg g)(hs:JR [tg] e pos.line X.env=pure false:=by rfl)(hw:JS [tg] e X.env=pure none:=by rfl)
 (h1:(HW [tg] X.env).map (·.2)=[Iq tg X.env]:=by rfl):PS X (.Assign [tg] e pos) (vJ te g):=by
 intro pins s σ H D I h
 refine wpAny_Assign_stores (Cj (he pins s σ H _ I h) fun v s1 ⟨x,H1,I1,r1,q1⟩=>?_) hs hw
 rw[h1]
 exact Cj (hg pins s1 σ H1 x v _ I1 r1 q1) fun _ s2 q=>q
theorem fK{te:TE}(hN:X.N.Nodup)(hi:X.N[i]?=some x)(hx:Loc X.env.scope x)(he:PE X e te)(hs:G0 e (some (.Name x pos')) pos.line X.env=pure false:=by rfl)(hf:X.fn x=true\/X.env.scope.names.lookup x=some .local:=by first|exact .inl rfl|exact .inr rfl|assumption) :
 PS X (.Assign [.Name x pos'] e pos) (vJ te (iP i)):=by
 intro pins s σ H D I h
 refine wpAny_Assign_Name (Cj (he pins s σ H _ I h) fun v s1 ⟨y,H1,I1,r1,q1⟩=>?_) hs
 exact dJ I1 hN hi hx r1 (fun s2 I2=>⟨_,H1,I2,q1⟩) hf
noncomputable def Bc(i j:Nat)(ta:TA):TS:=fun D σ H=>ta σ H fun vs H1=>∃v w,vs=[v,w]/\D.nx ((σ.set i (some v)).set j (some w)) H1
theorem wu{y:Str}{a b:Expr}{ta:TA}{py pt:Pos}{kt k2 pt2}(hc:X.calm=true)(hN:X.N.Nodup)(hi:X.N[i]?=some x)(hj:X.N[j]?=some y)(hij:i≠j)
 (hx:X.env.scope.names.lookup x=some .local)(hy:X.env.scope.names.lookup y=some .local)(ha:PA X [a,b] ta)
 (hw:JS [.Tuple [.Name x px,.Name y py] kt pt] (.Tuple [a,b] k2 pt2) X.env=pure (some [x,y]))
 (hs:JR [.Tuple [.Name x px,.Name y py] kt pt] (.Tuple [a,b] k2 pt2) pos.line X.env=pure false:=by rfl) :
 PS X (.Assign [.Tuple [.Name x px,.Name y py] kt pt] (.Tuple [a,b] k2 pt2) pos) (Bc i j ta):=by
 intro pins s σ H D I h
 rw[exec_Assign_arm]
 refine EZ (GW ?_)
 rw[hs]
 refine EZ (Fh ?_)
 rw[if_neg (by decide)]
 refine EZ (Tuple_ (Cj (ha _ pins s σ H _ I h) fun us s1 ⟨vs,H1,I1,r1,q1⟩=>?_))
 obtain⟨v,w,e1,q1⟩:=q1
 subst e1
 obtain⟨u1,u2,rfl,rv,rw'⟩:∃u1 u2,us=[u1,u2]/\RelV v u1/\RelV w u2:=by
  cases r1 with
  | cons p q =>
    cases q with
    | cons p' q' =>
      cases q'
      exact⟨_,_,rfl,p,p'⟩
 refine Gs ?_ (by show 2<=sizeLine;decide)
 have I2:Inv X pins σ H1 {s1 with heap:=s1.heap.push {cls:=.type "tuple", data:=.seq [u1,u2].toArray}}:=I1.kept (t':=s1.toks) fun b o e=>E4 _ e
 rw[hw]
 refine EZ (Fh ?_)
 show FH (FT X.prog X.w) X.A (do rule "assign.swapped-stores"; let items <- unpackItems (.ref s1.heap.objs.size) 2 none;KS [fun v=>bindName X.env y v,fun v=>bindName X.env x v] items.reverse;pure Flow.next) _ _ _
 refine EZ (Jj (EZ (unpackItems_tuple (items:=#[u1,u2]) (I.ok.hd hc) (IsTup.new s1.heap _) fun h' hx'=>?_)))
 have I3:=I2.kept (h':=h') (t':=s1.toks) fun b o e=>hx' b o (FZ (Fq e)) e
 show FH _ _ (KS [fun v=>bindName X.env y v,fun v=>bindName X.env x v] [u2,u1] >>= fun _=>pure Flow.next) _ _ _
 refine EZ (JB (wpAny_bindName (dJ I3 hN hj (.inl hy) rw' (fun s2 I4=>?_) (.inr hy))))
 refine JB (wpAny_bindName (dJ I4 hN hi (.inl hx) rv (fun s3 I5=>assignInOrder_nil (Fh ?_)) (.inr hx)))
 rw[List.set_comm _ _ (KF hij)]at I5
 exact⟨_,H1,I5,q1⟩
noncomputable def Bj(i:Nat)(te:TE)(ti:D4):TS:=fun D σ H=>∃x,σ[i]?=some (some x)/\te σ H fun y H1=>ti x y H1 fun z H2=>D.nx (σ.set i (some z)) H2
theorem wv{te:TE}{op:Lm}{ti:D4}(hN:X.N.Nodup)(hi:X.N[i]?=some x)(hx:Loc X.env.scope x)(he:PE X e te)(ho:Eo X op ti)(hf:X.fn x=true\/X.env.scope.names.lookup x=some .local:=by first|exact .inl rfl|exact .inr rfl|assumption) :
 PS X (.AugAssign (.Name x pos') op e pos) (Bj i te ti):=by
 intro pins s σ H D I h
 obtain⟨v,e1,h⟩:=h
 obtain⟨m,hn,hl⟩:=I.loc
 have vis:DW X.env.scope x:=by rcases hx with k|k;exact .inl k;exact .inr (.inl k)
 obtain⟨u,r,l⟩:=hl i x v hi e1 vis
 refine wpAny_AugAssign_Name ?_
 have go:FH (FT X.prog X.w) X.A (eval e X.env) (fun w s₂=>FH (FT X.prog X.w) X.A (inplaceOp op u w) (fun r s₃=>FH (FT X.prog X.w) X.A (storeName X.env x r) (fun _=>SP X pins D .next) X.xe s₃) X.xe s₂) X.xe s:=by
  refine Cj (he pins s σ H _ I h) fun w s1 ⟨y,H1,I1,r1,q1⟩=>?_
  refine Cj (ho pins s1 σ H1 v y u w _ I1 r r1 q1) fun z s2 ⟨zv,H2,I2,r2,q2⟩=>?_
  exact dJ I2 hN hi hx r2 (fun s3 I3=>⟨_,H2,I3,q2⟩) hf
 rcases l with⟨hk,hm⟩|⟨hk,c,hc,hcell⟩
 · exact Kt I.ok.kind hk hn hm go
 · rcases hk with hk|hk
   · exact KG I.ok.kind hk hc hcell go
   · rcases hx with k|k
     · have:X.env.scope.names.lookup x=some .free:=hk
       rw[k]at this;cases this
     · have:X.env.scope.names.lookup x=some .free:=hk
       rw[k]at this;cases this
end
section
variable{X:Cx}{pos:Pos}
noncomputable def vF(c:TT)(tb:TS):TS:=fun D σ H=>∃W:Nat->St->Hp->Prop,(∃m,W m σ H)/\∀m σ H,W m σ H ->
 c σ H fun b H1=>if b=true then ∃N:St->Hp->Prop,(∀σ' H',N σ' H'->∃m',m'<m/\W m' σ' H')/\tb {D with nx:=N,ct:=N,bk:=D.nx} σ H1 else D.nx σ H1
theorem pP{body:List Stmt}{tc:TT}{tb:TS}(hp:KU (FT X.prog X.w) X.A X.env X.xe)(hc:PT X c tc)(hb:Ei X body tb):PS X (.While c body [] pos) (vF tc tb):=by
 intro pins s σ H D I h
 obtain⟨W,⟨m0,w0⟩,turn⟩:=h
 refine wpAny_While (codeAny_whileLoop (fun n s'=>∃σ' H',Inv X pins σ' H' s'/\W n σ' H') ?_ m0 ⟨σ,H,I,w0⟩)
 rintro n s1 ⟨σ1,H1,I1,w1⟩
 refine HF hp (Cj (hc pins s1 σ1 H1 _ I1 (turn n σ1 H1 w1)) fun b s2 ⟨H2,I2,q2⟩=>?_)
 cases b with
 | true =>
   obtain⟨N,hN,q2⟩:=q2
   rw[if_pos rfl]
   refine HF hp (Cj (hb pins s2 σ1 H2 _ I2 q2) fun f s3 q3=>?_)
   cases f with
   | next =>
     obtain⟨σ3,H3,I3,n3⟩:=q3
     obtain⟨m',hm,w3⟩:=hN σ3 H3 n3
     exact⟨m',hm,σ3,H3,I3,w3⟩
   | cont =>
     obtain⟨σ3,H3,I3,n3⟩:=q3
     obtain⟨m',hm,w3⟩:=hN σ3 H3 n3
     exact⟨m',hm,σ3,H3,I3,w3⟩
   | brk=>exact q3
   | ret v=>exact q3
 | false =>
   rw[if_neg FO]
   exact Jm ⟨σ1,H2,I2,q2⟩
end
structure It where
 go:Nat->Hp->Prop
 yld:Nat->Hp->V->Hp->Prop
 stop:Nat->Hp->Prop
noncomputable def jB(X:Cx)(pins:List (Addr×Obj))(H:Hp)(b:Addr):Prop :=
 H b=none/\b≠X.env.locals/\b∉X.fs/\(b∈X.ex\/X.s₀.heap.objs.size<=b)/\(∀x c,X.env.cells.lookup x=some c->c≠b)/\∀p∈X.pn++pins,p.1≠b
theorem Inv.fpOk{X:Cx}{σ:St}{H H':Hp}(I:Inv X pins σ H s)(hb:s.heap.objs.size<=b)(hn:H' b=none):jB X pins H' b:=by
 refine⟨hn,Ic (E8 I.lt hb),I.nofs hb,.inr (FP I.sz hb),fun x c e z=>?_,fun p hp z=>?_⟩
 · obtain⟨v,q⟩:=I.cell x c e
   exact absurd (E8 q.lt (by rw[z];exact hb)) (Ha _)
 · exact absurd (E8 (Fq (I.pin p hp).1) (by rw[z];exact hb)) (Ha _)
structure Turn (P:FS) (w:GD) (K:W.Frag) (tg:Expr) (J:It) (fp:List Addr) (it:Addr) (tn:Nat->Heap->Prop):Prop where
 mem:it∈fp
 obj:∀i h,tn i h->∀b∈fp,∃o,h.get? b=some o/\∀v,o.data ≠ .cell v
 keep:∀i h h',tn i h->(∀b∈fp,∀o,h.get? b=some o->h'.get? b=some o)->tn i h'
 item:∀(X:Cx),X.prog=P->X.w=w->X.K=K->X.calm=true->∀(i:Nat)(pins:List (Addr×Obj))(s:E_)(σ:St)(H:Hp)(E:E7->E_->Prop),Inv X pins σ H s->(∀b∈fp,jB X pins H b)->tn i s.heap->J.go i H ->
  FH (FT P w) X.A (Kc (.ref it)) (fun r s1=>∃u,r=some u /\
   FH (FT P w) X.A (Hd tg (.ref it) u) (fun _ s2=>∃x H',Inv X pins σ H' s2/\RelV x u/\J.yld i H x H'/\tn (i+1) s2.heap/\∀b∈fp,H' b=none) E s1) E s
 done:∀(X:Cx),X.prog=P->X.w=w->X.K=K->X.calm=true->∀(i:Nat)(pins:List (Addr×Obj))(s:E_)(σ:St)(H:Hp)(E:E7->E_->Prop),Inv X pins σ H s->(∀b∈fp,jB X pins H b)->tn i s.heap->J.stop i H ->
  FH (FT P w) X.A (Kc (.ref it)) (fun r s1=>r=none/\Inv X pins σ H s1) E s
 self:∀(A:GJ)(i:Nat)(s:E_)(Q:E7->E_->Prop)(E:E7->E_->Prop),tn i s.heap->Q (.ref it) s->FH (FT P w) A (Ln (.ref it)) Q E s
abbrev TI:=St->Hp->(It->Hp->Prop)->Prop
noncomputable def Er(X:Cx)(pins:List (Addr×Obj))(σ:St)(tg:Expr)(R:It->Hp->Prop)(itv:E7)(s2:E_):Prop :=
 ∃(it:Addr)(fp:List Addr)(tn:Nat->Heap->Prop)(J:It)(H':Hp),itv = .ref it/\Inv X pins σ H' s2/\Turn X.prog X.w X.K tg J fp it tn/\tn 0 s2.heap/\(∀b∈fp,jB X pins H' b)/\R J H'
noncomputable def PI(X:Cx)(tg iter:Expr)(wi:TI):Prop :=
 ∀ (pins:List (Addr×Obj))(s:E_)(σ:St)(H:Hp)(R:It->Hp->Prop),Inv X pins σ H s->wi σ H R ->
   FH (FT X.prog X.w) X.A (eval iter X.env) (fun v s1=>FH (FT X.prog X.w) X.A (Ln v) (Er X pins σ tg R) X.xe s1) X.xe s
theorem uh{M:Model}{o:Obj}{n:String}{vs:Array E7}{Q:Unit->E_->Prop}(ho:s.heap.get? it=some o)(hc:o.cls = .type n)(hd:o.data = .fields vs)
 (hn:["enumerate", "zip", "dict_itemiterator", "dict_reverseitemiterator", "odict_iterator", "itertools.zip_longest", "itertools.pairwise"].contains n=false)(hQ:Q () s):FH M A (Hd tg (.ref it) u) Q E s:=by
 unfold Hd
 cases tg<;>first
  | exact Fh hQ
  | (cases u<;>first
      | exact Fh hQ
      | (refine EZ (wpAny_load ho ?_)
         rw[hc,hd]
         show FH M A (if(["enumerate", "zip", "dict_itemiterator", "dict_reverseitemiterator", "odict_iterator", "itertools.zip_longest", "itertools.pairwise"].contains n&&vs[0]?==some (rawInt _))=true then _ else _) Q E s
         rw[if_neg (by intro h;rw[hn,Bool.false_and]at h;cases h)]
         exact Fh hQ))
noncomputable def EG(K:W.Frag)(a:Addr):It :=
 ⟨fun i H=>∃xs x,D8 K H a xs/\xs[i]?=some x,fun i H x H'=>H'=H/\∀xs,D8 K H a xs->xs[i]?=some x,fun i H=>∃xs,D8 K H a xs/\xs.length<=i⟩
noncomputable def EE(K:W.Frag)(a:Addr):It :=
 ⟨fun i H=>∃xs x,D7 K H a xs/\xs[i]?=some x,fun i H x H'=>H'=H/\∀xs,D7 K H a xs->xs[i]?=some x,fun i H=>∃xs,D7 K H a xs/\xs.length<=i⟩
noncomputable def EF(lo:Int)(n:Nat):It:=⟨fun i _=>i<n,fun i H x H'=>H'=H/\x = .int (lo+i),fun i _=>n<=i⟩
theorem i6{K:W.Frag}(a it:Addr):Turn P w K tg (EG K a) [it] it (fun i h=>h.IsListIter it a i) where
 mem:=by simp
 obj:=fun i h st b hb=>by
  have e:b=it:=by simpa using hb
  subst e
  obtain⟨o,e,c,d⟩:=st
  exact⟨o,e,fun v z=>by rw[d]at z;cases z⟩
 keep:=fun i h h' st k=>st.at fun o e=>k it (by simp) o e
 item:=by
  intro X hP hw hK hc i pins s σ H E I hf st hg
  subst hP hw hK
  obtain⟨xs,x,hq,hx⟩:=hg
  obtain⟨its,rv,p,hz⟩:=I.list hq
  obtain⟨u,hu,ru⟩:=rv.get hx
  obtain⟨f0,f1,f2,f3,f4,f5⟩:=hf it (by simp)
  refine wpAny_pyNext_list_item st p.isList (x:=u) (by simpa using hu) fun h' st' sb=>?_
  have I1:Inv X pins σ H {s with heap:=h' }:=I.turned (t':=s.toks) (fun b o hb e=>(sb.2 b hb).trans e) f0 f1 f3 f4 f5
  obtain⟨o,e,c,d⟩:=id st'
  exact⟨u,rfl,uh (s:={s with heap:=h' }) e c d (by decide) ⟨x,H,I1,ru,⟨rfl,fun ys hy=>by rw[I.list_inj hy hq];exact hx⟩,st',fun b hb=>(hf b hb).1⟩⟩
 done:=by
  intro X hP hw hK hc i pins s σ H E I hf st hg
  subst hP hw hK
  obtain⟨xs,hq,hx⟩:=hg
  obtain⟨its,rv,p,hz⟩:=I.list hq
  obtain⟨f0,f1,f2,f3,f4,f5⟩:=hf it (by simp)
  have hl:=rv.length
  exact wpAny_pyNext_list_end (I.ok.hd hc) st p.isList (by simp;omega) fun h' eb=>⟨rfl,I.turned (t':=s.toks) (fun b o hb e=>eb b o hb e) f0 f1 f3 f4 f5⟩
 self:=fun _ _ _ _ _ st h=>wpAny_pyIter_listiter st h
theorem gF{K:W.Frag}(a it:Addr):Turn P w K tg (EE K a) [it] it (fun i h=>h.IsTupleIter it a i) where
 mem:=by simp
 obj:=fun i h st b hb=>by
  have e:b=it:=by simpa using hb
  subst e
  obtain⟨o,e,c,d⟩:=st
  exact⟨o,e,fun v z=>by rw[d]at z;cases z⟩
 keep:=fun i h h' st k=>st.at fun o e=>k it (by simp) o e
 item:=by
  intro X hP hw hK hc i pins s σ H E I hf st hg
  subst hP hw hK
  obtain⟨xs,x,hq,hx⟩:=hg
  obtain⟨its,rv,p,hz⟩:=I.tuple hq
  obtain⟨u,hu,ru⟩:=rv.get hx
  obtain⟨f0,f1,f2,f3,f4,f5⟩:=hf it (by simp)
  refine wpAny_pyNext_tuple_item st (show s.heap.IsTuple a its.toArray from p) (x:=u) (by simpa using hu) fun h' st' sb=>?_
  have I1:Inv X pins σ H {s with heap:=h' }:=I.turned (t':=s.toks) (fun b o hb e=>(sb.2 b hb).trans e) f0 f1 f3 f4 f5
  obtain⟨o,e,c,d⟩:=id st'
  exact⟨u,rfl,uh (s:={s with heap:=h' }) e c d (by decide) ⟨x,H,I1,ru,⟨rfl,fun ys hy=>by rw[I.tuple_inj hy hq];exact hx⟩,st',fun b hb=>(hf b hb).1⟩⟩
 done:=by
  intro X hP hw hK hc i pins s σ H E I hf st hg
  subst hP hw hK
  obtain⟨xs,hq,hx⟩:=hg
  obtain⟨its,rv,p,hz⟩:=I.tuple hq
  obtain⟨f0,f1,f2,f3,f4,f5⟩:=hf it (by simp)
  have hl:=rv.length
  exact wpAny_pyNext_tuple_end (I.ok.hd hc) st (show s.heap.IsTuple a its.toArray from p) (by simp;omega) fun h' eb=>⟨rfl,I.turned (t':=s.toks) (fun b o hb e=>eb b o hb e) f0 f1 f3 f4 f5⟩
 self:=fun _ _ _ _ _ st h=>wpAny_pyIter_tupleiter st h
theorem ln{K:W.Frag}(it:Addr)(lo:Int)(n:Nat):Turn P w K tg (EF lo n) [it] it (fun i h=>IsRangeIter h it (lo+(i:Nat)*1) ((n:Int)-(i:Nat)) 1) where
 mem:=by simp
 obj:=fun i h st b hb=>by
  have e:b=it:=by simpa using hb
  subst e
  exact⟨_,st,fun v z=>by
   have z':Data.fields _=Data.cell v:=z
   cases z'⟩
 keep:=fun i h h' st k=>k it (by simp) _ st
 item:=by
  intro X hP hw hK hc i pins s σ H E I hf st hg
  subst hP hw hK
  obtain⟨f0,f1,f2,f3,f4,f5⟩:=hf it (by simp)
  have W:=Walks.range (prog:=X.prog) (w:=X.w) (I.ok.hd hc) it lo 1 n
  refine W.item i s _ _ hg st fun v h' tk hv st' kk=>?_
  obtain⟨t,rfl⟩:=hv
  have I1:Inv X pins σ H {s with heap:=h',toks:=tk}:=I.turned (fun b o hb e=>kk b o (by simpa using hb) e) f0 f1 f3 f4 f5
  refine⟨_,rfl,uh (s:={s with heap:=h',toks:=tk}) (n := "range_iterator") st' rfl rfl (by decide) ⟨.int (lo+i),H,I1,⟨t,?_⟩,⟨rfl,rfl⟩,st',fun b hb=>(hf b hb).1⟩⟩
  rw[Int.mul_one]
 done:=by
  intro X hP hw hK hc i pins s σ H E I hf st hg
  subst hP hw hK
  obtain⟨f0,f1,f2,f3,f4,f5⟩:=hf it (by simp)
  exact wpAny_pyNext_range_end (I.ok.hd hc) st (by have:n<=i:=hg;omega) fun h' eb=>⟨rfl,I.turned (t':=s.toks) (fun b o hb e=>eb b o hb e) f0 f1 f3 f4 f5⟩
 self:=fun _ _ _ _ _ st h=>wpAny_pyIter_rangeiter st h
section
variable{X:Cx}{tg:Expr}
noncomputable def zm(K:W.Frag)(tl:TE):TI:=fun σ H R=>tl σ H fun x H1=>∃a,x = .ref a/\(∃xs,D8 K H1 a xs)/\R (EG K a) H1
noncomputable def Bt(K:W.Frag)(tl:TE):TI:=fun σ H R=>tl σ H fun x H1=>∃a,x = .ref a/\(∃xs,D7 K H1 a xs)/\R (EE K a) H1
theorem nv{l:Expr}{tl:TE}(hl:PE X l tl):PI X tg l (zm X.K tl):=by
 intro pins s σ H R I h
 refine Cj (hl pins s σ H _ I h) fun v s1 ⟨x,H1,I1,r1,q1⟩=>?_
 obtain⟨a,e,⟨xs,hq⟩,q⟩:=q1
 subst e
 cases r1
 obtain⟨its,rv,p,hz⟩:=I1.list hq
 refine Ik p.isList ?_
 refine⟨s1.heap.objs.size,[s1.heap.objs.size],_,_,H1,rfl,I1.kept (t':=s1.toks) fun b o e=>E4 _ e,i6 a _,⟨_,FB _ rfl,rfl,rfl⟩,fun b hb=>?_,q⟩
 have e:b=s1.heap.objs.size:=by simpa using hb
 subst e
 exact I1.fpOk (Fa _) (I1.hok.fresh (Fa _))
theorem wA{l:Expr}{tl:TE}(hl:PE X l tl):PI X tg l (Bt X.K tl):=by
 intro pins s σ H R I h
 refine Cj (hl pins s σ H _ I h) fun v s1 ⟨x,H1,I1,r1,q1⟩=>?_
 obtain⟨a,e,⟨xs,hq⟩,q⟩:=q1
 subst e
 cases r1
 obtain⟨its,rv,p,hz⟩:=I1.tuple hq
 refine JC (show s1.heap.IsTuple a its.toArray from p) ?_
 refine⟨s1.heap.objs.size,[s1.heap.objs.size],_,_,H1,rfl,I1.kept (t':=s1.toks) fun b o e=>E4 _ e,gF a _,⟨_,FB _ rfl,rfl,rfl⟩,fun b hb=>?_,q⟩
 have e:b=s1.heap.objs.size:=by simpa using hb
 subst e
 exact I1.fpOk (Fa _) (I1.hok.fresh (Fa _))
theorem pJ{σ:St}{H:Hp}{R:It->Hp->Prop}{lo hi:Int}{t u v:Tok}{tk:Nat}(I:Inv X pins σ H s)(h1 : -(2^62)<=lo)(h2:lo<2^62)(h3 : -(2^62)<=hi)(h4:hi<2^62)
 (q:R (EF lo (hi-lo).toNat) H):FH (FT X.prog X.w) X.A (Ln (.ref s.heap.objs.size)) (Er X pins σ tg R) E {s with heap:=s.heap.push {cls:=.type "range", data:=.fields #[.int lo t,.int hi u,.int 1 v]},toks:=tk}:=by
 refine wpAny_pyIter_range (IsRange.new ..) (small_one h1 h2 h3 h4) ?_
 have I1:Inv X pins σ H {s with heap:=s.heap.push {cls:=.type "range", data:=.fields #[.int lo t,.int hi u,.int 1 v]},toks:=tk}:=I.kept fun b o e=>E4 _ e
 refine⟨(s.heap.push {cls:=.type "range", data:=.fields #[.int lo t,.int hi u,.int 1 v]}).objs.size,[(s.heap.push {cls:=.type "range", data:=.fields #[.int lo t,.int hi u,.int 1 v]}).objs.size],_,_,H,rfl,
  I1.kept (t':=tk) fun b o e=>E4 _ e,ln _ lo (hi-lo).toNat,?_,fun b hb=>?_,q⟩
 · have e1:lo+((0:Nat):Int)*1=lo:=by simp
   have e2:(((hi-lo).toNat:Nat):Int)-((0:Nat):Int)=Builtin.Range.rangeSize lo hi 1:=by rw[rangeSize_one];split<;>omega
   show IsRangeIter _ _ (lo+((0:Nat):Int)*1) ((((hi-lo).toNat:Nat):Int)-((0:Nat):Int)) 1
   rw[e1,e2]
   exact FB _ rfl
 · have e:b=(s.heap.push {cls:=.type "range", data:=.fields #[.int lo t,.int hi u,.int 1 v]}).objs.size:=by simpa using hb
   subst e
   exact I1.fpOk (Fa _) (I1.hok.fresh (Fa _))
noncomputable def zk(ta:TA):TI:=fun σ H R=>ta σ H fun vs H1=>∃j:Int,vs=[.int j] /\ -(2^62)<=j/\j<2^62/\R (EF 0 j.toNat) H1
theorem nu{a:Expr}{ta:TA}{p:Pos}(hg:Gl X "range")(hm:X.mg "range" = none)(ha:PA X [a] ta)(hs:Fg [a] X.env=[(false,eval a X.env)]:=by rfl):PI X tg (.Call (.Name "range" p) [a] [] pos) (zk ta):=by
 intro pins s σ H R I h
 refine Call_ (fS I hg hm boot_range (G1 (Cj (ha pos pins s σ H _ I h) fun us s1 ⟨vs,H1,I1,r1,q1⟩=>?_) hs rfl))
 obtain⟨j,e,q1,q2,q⟩:=q1
 subst e
 cases r1 with
 | cons r rr =>
   cases rr
   obtain⟨t,rfl⟩:=r
   exact call_range_1 (pJ I1 (by omega) (by omega) q1 q2 (by simpa using q))
noncomputable def Bi(wi:TI)(g:TG)(tb:TS):TS:=fun D σ H=>wi σ H fun J H1=>∃W:Nat->Nat->St->Hp->Prop,(∃m,W 0 m σ H1)/\∀i m σ H,W i m σ H ->
 (J.stop i H/\D.nx σ H)\/(J.go i H/\∃N:St->Hp->Prop,(∀σ' H',N σ' H'->∃m',m'<m/\W (i+1) m' σ' H')/\∀x H',J.yld i H x H'->g x σ H' fun σ2 H2=>tb {D with nx:=N,ct:=N,bk:=D.nx} σ2 H2)
noncomputable def eM(fp:List Addr)(h:Heap):List (Addr×Obj):=fp.filterMap fun b=>(h.get? b).map fun o=>(b,o)
theorem bx{o:Obj}(hb:b∈fp)(e:h.get? b=some o):(b,o)∈eM fp h:=HZ.mpr ⟨b,hb,by rw[e];rfl⟩
theorem nD{p:Addr×Obj}(hp:p∈eM fp h):p.1∈fp/\h.get? p.1=some p.2:=by
 obtain⟨b,hb,e⟩:=HZ.mp hp
 cases q:h.get? b with
 | none=>rw[q]at e;cases e
 | some o =>
   rw[q]at e
   have e':(b,o)=p:=Gr e
   subst e'
   exact⟨hb,q⟩
theorem Inv.pinned{σ:St}{H:Hp}(I:Inv X pins σ H s)(hf:∀b∈fp,jB X pins H b)(ho:∀b∈fp,∃o,s.heap.get? b=some o/\∀v,o.data ≠ .cell v):Inv X (pins++eM fp s.heap) σ H s :=
 I.pins_of fun p hp=>(Ga.mp hp).elim (fun z=>I.pin p (Fu _ z)) fun z=>by
  obtain⟨hb,e⟩:=nD z
  obtain⟨f0,f1,f2,_⟩:=hf p.1 hb
  obtain⟨o,e',d⟩:=ho p.1 hb
  rw[e]at e';cases e'
  exact⟨e,f0,f1,f2,d⟩
theorem Inv.unpinned{pl:List (Addr×Obj)}{σ:St}{H:Hp}(I:Inv X (pins++pl) σ H s):Inv X pins σ H s:=I.pins_of fun p hp=>I.pin p (Fu _ (HC _ hp))
theorem qU{body:List Stmt}{wi:TI}{g:TG}{tb:TS}(hp:KU (FT X.prog X.w) X.A X.env X.xe)(hc:X.calm=true)(hi:PI X tg iter wi)(hg:PG X tg g)(hb:Ei X body tb)
 (hs:∀x,FF iter X.env x=pure x:=by intro _;rfl):PS X (.For tg iter body [] pos) (Bi wi g tb):=by
 intro pins s σ H D I h
 refine wpAny_For (Cj (hi pins s σ H _ I h) fun v s1 h1=>Cj h1 fun itv s2 h2=>?_) hs
 obtain⟨it,fp,tn,J,H2,e,I2,T,st2,f2,W,⟨m0,w0⟩,turn⟩:=h2
 subst e
 have stat:∀{H':Hp},(∀b∈fp,H' b=none)->∀b∈fp,jB X pins H' b:=fun hn b hb=>⟨hn b hb,(f2 b hb).2⟩
 refine codeAny_forLoop_any (fun n s'=>∃i σ' H',Inv X pins σ' H' s'/\tn i s'.heap/\(∀b∈fp,H' b=none)/\W i n σ' H') ?_ m0 ⟨0,σ,H2,I2,st2,fun b hb=>(f2 b hb).1,w0⟩
 rintro n s3 ⟨i,σ3,H3,I3,st3,fr3,w3⟩
 rcases turn i n σ3 H3 w3 with⟨stop,qn⟩|⟨go,N,hN,step⟩
 · refine HF hp (Cj (T.done X rfl rfl rfl hc i pins s3 σ3 H3 X.xe I3 (stat fr3) st3 stop) fun r s4 ⟨hr,I4⟩=>?_)
   subst hr
   exact Jm ⟨σ3,H3,I4,qn⟩
 · refine HF hp (Cj (T.item X rfl rfl rfl hc i pins s3 σ3 H3 X.xe I3 (stat fr3) st3 go) fun r s4 ⟨u,hr,h4⟩=>?_)
   subst hr
   refine HF hp (Cj h4 fun _ s5 ⟨x,H5,I5,r5,y5,st5,fr5⟩=>?_)
   have I5':=I5.pinned (stat fr5) (T.obj _ _ st5)
   refine HF hp (Cj (hg _ s5 σ3 H5 x u _ I5' r5 (step x H5 y5)) fun _ s6 ⟨σ6,H6,I6,q6⟩=>?_)
   refine HF hp (Cj (hb _ s6 σ6 H6 _ I6 q6) fun f s7 q7=>?_)
   have again:∀{σ7:St}{H7:Hp},Inv X (pins++eM fp s5.heap) σ7 H7 s7->N σ7 H7->∃m,m<n/\∃i σ' H',Inv X pins σ' H' s7/\tn i s7.heap/\(∀b∈fp,H' b=none)/\W i m σ' H':=fun{σ7 H7} I7 n7=>by
    obtain⟨m',hm,w7⟩:=hN σ7 H7 n7
    refine⟨m',hm,i+1,σ7,H7,I7.unpinned,T.keep _ _ _ st5 fun b hb o e=>(I7.pin (b,o) (Fu _ (Fu _ (bx hb e)))).1,fun b hb=>?_,w7⟩
    obtain⟨o,e,d⟩:=T.obj _ _ st5 b hb
    exact(I7.pin (b,o) (Fu _ (Fu _ (bx hb e)))).2.1
   cases f with
   | next=>obtain⟨σ7,H7,I7,n7⟩:=q7;exact again I7 n7
   | cont=>obtain⟨σ7,H7,I7,n7⟩:=q7;exact again I7 n7
   | brk=>obtain⟨σ7,H7,I7,q7⟩:=q7;exact⟨σ7,H7,I7.unpinned,q7⟩
   | ret v=>obtain⟨x7,σ7,H7,I7,r7,q7⟩:=q7;exact⟨x7,σ7,H7,I7.unpinned,r7,q7⟩
end
abbrev R2:=V->V->Hp->VK->Prop
noncomputable def Ev(X:Cx)(f:E7->E7->Sem E7)(r:R2):Prop :=
 ∀ (pins:List (Addr×Obj))(s:E_)(σ:St)(H:Hp)(x y:V)(v u:E7)(Q:VK),Inv X pins σ H s->RelV x v->RelV y u->r x y H Q ->
   FH (FT X.prog X.w) X.A (f v u) (EP X pins σ Q) X.xe s
noncomputable def DY(X:Cx)(f:E7->Sem E7)(r:V->Hp->VK->Prop):Prop :=
 ∀ (pins:List (Addr×Obj))(s:E_)(σ:St)(H:Hp)(x:V)(v:E7)(Q:VK),Inv X pins σ H s->RelV x v->r x H Q ->
   FH (FT X.prog X.w) X.A (f v) (EP X pins σ Q) X.xe s
noncomputable def d8(X:Cx)(f:E7)(r:List V->Hp->VK->Prop):Prop :=
 ∀ (pins:List (Addr×Obj))(s:E_)(σ:St)(H:Hp)(xs:List V)(us:List E7)(Q:VK),Inv X pins σ H s->cu xs us->r xs H Q ->
   FH (FT X.prog X.w) X.A (call f us) (EP X pins σ Q) X.xe s
noncomputable def Co(r:R2)(ta tb:TE):TE:=fun σ H Q=>ta σ H fun x H1=>tb σ H1 fun y H2=>r x y H2 Q
noncomputable def Ck(r:V->Hp->VK->Prop)(ta:TE):TE:=fun σ H Q=>ta σ H fun x H1=>r x H1 Q
noncomputable def rI(C:Int->Int->Prop)(g:Int->Int->V):R2:=fun x y H Q=>∃i j,x = .int i/\y = .int j/\C i j/\Q (g i j) H
noncomputable def CQ(g:Int->Int->V):R2:=fun x y H Q=>∃i j,x = .int i/\y = .int j/\Q (g i j) H
noncomputable def rU(g:Int->V):V->Hp->VK->Prop:=fun x H Q=>∃i,x = .int i/\Q (g i) H
section
variable{X:Cx}{a b c:Expr}{ta tb tc:TE}{pos:Pos}
theorem zC(ha:PE X a ta)(hb:PE X b tb){σ:St}{H:Hp}{R:V->V->Hp->Prop}(I:Inv X pins σ H s)
 (h:ta σ H fun x H1=>tb σ H1 fun y H2=>R x y H2){f:E7->E7->Sem E7}
 (hf:∀v u s2 x y H2,Inv X pins σ H2 s2->RelV x v->RelV y u->R x y H2->FH (FT X.prog X.w) X.A (f v u) Q X.xe s2) :
 FH (FT X.prog X.w) X.A (eval a X.env) (fun v s₁=>FH (FT X.prog X.w) X.A (eval b X.env) (fun u s₂=>FH (FT X.prog X.w) X.A (f v u) Q X.xe s₂) X.xe s₁) X.xe s:=by
 refine Cj (ha pins s σ H _ I h) fun v s1 ⟨x,H1,I1,r1,q1⟩=>?_
 refine Cj (hb pins s1 σ H1 _ I1 q1) fun u s2 ⟨y,H2,I2,r2,q2⟩=>?_
 exact hf v u s2 x y H2 I2 r1 r2 q2
theorem yW{op:Lm}{r:R2}(ho:Ev X (HQ op) r)(ha:PE X a ta)(hb:PE X b tb):PE X (.BinOp a op b pos) (Co r ta tb):=by
 intro pins s σ H Q I h
 exact wpAny_BinOp (zC ha hb I h fun v u s2 x y H2 I2 rx ry q=>ho pins s2 σ H2 x y v u Q I2 rx ry q)
theorem yU{op:UnaryOp}{r:V->Hp->VK->Prop}(ho:DY X (unaryOp op) r)(ha:PE X a ta):PE X (.UnaryOp op a pos) (Ck r ta):=by
 intro pins s σ H Q I h
 exact UnaryOp_ (Cj (ha pins s σ H _ I h) fun v s1 ⟨x,H1,I1,r1,q1⟩=>ho pins s1 σ H1 x v Q I1 r1 q1)
theorem CZ{f:E7->E7->Sem E7}{C:Int->Int->Prop}{g:Int->Int->Int}
 (rule:∀(i j:Int)(t u:Tok)(s:E_)(Q:E7->E_->Prop)(E:E7->E_->Prop),C i j->Q (.int (g i j) s.toks) {s with toks:=s.toks+1}->FH (FT X.prog X.w) X.A (f (.int i t) (.int j u)) Q E s) :
 Ev X f (rI C fun i j=>.int (g i j)):=by
 intro pins s σ H x y v u Q I rx ry h
 obtain⟨i,j,rfl,rfl,hc,q⟩:=h
 obtain⟨t,rfl⟩:=rx
 obtain⟨t',rfl⟩:=ry
 exact rule i j t t' s _ _ hc ⟨.int (g i j),H,I.tok _,⟨_,rfl⟩,q⟩
theorem yZ{f:E7->E7->Sem E7}{g:Int->Int->Int}
 (rule:∀(i j:Int)(t u:Tok)(s:E_)(Q:E7->E_->Prop)(E:E7->E_->Prop),Q (.int (g i j) s.toks) {s with toks:=s.toks+1}->FH (FT X.prog X.w) X.A (f (.int i t) (.int j u)) Q E s) :
 Ev X f (CQ fun i j=>.int (g i j)):=by
 intro pins s σ H x y v u Q I rx ry h
 obtain⟨i,j,rfl,rfl,q⟩:=h
 obtain⟨t,rfl⟩:=rx
 obtain⟨t',rfl⟩:=ry
 exact rule i j t t' s _ _ ⟨.int (g i j),H,I.tok _,⟨_,rfl⟩,q⟩
theorem xR{f:E7->E7->Sem E7}{g:Int->Int->Bool}
 (rule:∀(i j:Int)(t u:Tok)(s:E_)(Q:E7->E_->Prop)(E:E7->E_->Prop),Q (.bool (g i j)) s->FH (FT X.prog X.w) X.A (f (.int i t) (.int j u)) Q E s) :
 Ev X f (CQ fun i j=>.bl (g i j)):=by
 intro pins s σ H x y v u Q I rx ry h
 obtain⟨i,j,rfl,rfl,q⟩:=h
 obtain⟨t,rfl⟩:=rx
 obtain⟨t',rfl⟩:=ry
 exact rule i j t t' s _ _ ⟨.bl (g i j),H,I,rfl,q⟩
noncomputable def rL(i j:Int):Prop:=0<=j/\j<=1000000/\i.natAbs<2^64
theorem wS:Ev X (HQ .Add) (CQ fun i j=>.int (i+j)):=yZ fun _ _ _ _ _ _ _ q=>add_int q
theorem wK:Ev X (HQ .Sub) (CQ fun i j=>.int (i-j)):=yZ fun _ _ _ _ _ _ _ q=>sub_int q
theorem tK:Ev X (HQ .Mod) (rI (fun _ j=>j≠0) fun i j=>.int (i.fmod j)):=CZ fun _ _ _ _ _ _ _ hc q=>mod_int' hc q
theorem wN:Ev X (HQ .Pow) (rI rL fun i j=>.int (i^j.toNat)):=CZ fun _ _ _ _ _ _ _ hc q=>pow_int_small hc.1 hc.2.1 hc.2.2 q
theorem wL:Ev X (HQ .LShift) (rI rL fun i j=>.int (i*2^j.toNat)):=CZ fun _ _ _ _ _ _ _ hc q=>lshift_int_small hc.1 hc.2.1 hc.2.2 q
theorem wR:Ev X (HQ .BitAnd) (CQ fun i j=>.int (IZ i j)):=yZ fun _ _ _ _ _ _ _ q=>and_int q
theorem Cd{f:E7->Sem E7}{g:Int->Int}
 (rule:∀(i:Int)(t:Tok)(s:E_)(Q:E7->E_->Prop)(E:E7->E_->Prop),Q (.int (g i) s.toks) {s with toks:=s.toks+1}->FH (FT X.prog X.w) X.A (f (.int i t)) Q E s) :
 DY X f (rU fun i=>.int (g i)):=by
 intro pins s σ H x v Q I rx h
 obtain⟨i,rfl,q⟩:=h
 obtain⟨t,rfl⟩:=rx
 exact rule i t s _ _ ⟨.int (g i),H,I.tok _,⟨_,rfl⟩,q⟩
theorem vw:DY X (unaryOp .USub) (rU fun i=>.int (-i)):=Cd fun _ _ _ _ _ q=>neg_int q
end
noncomputable def AN:V->V->Bool
 | .non,.non=>true | .non,.int _=>true | .int _,.non=>true | .non,.bl _=>true | .bl _,.non=>true | .non,.str _=>true | .str _,.non=>true
 | .int _,.int _=>true | .bl _,.bl _=>true | .str _,.str _=>true | .byt _,.byt _=>true
 | .int _,.str _=>true | .str _,.int _=>true | .bl _,.str _=>true | .str _,.bl _=>true
 | _,_=>false
noncomputable def CS:R2:=fun x y H Q=>AN x y=true/\Q (.bl (decide (x=y))) H
noncomputable def CO:R2:=fun x y H Q=>AN x y=true/\Q (.bl (!decide (x=y))) H
theorem oy{i j:Int}:decide (V.int i=V.int j)=(i==j):=by
 rw[Jn]
 simp
theorem rp{i j:Bool}:decide (V.bl i=V.bl j)=(i==j):=by
 rw[Jn]
 simp
theorem ox{i j:Str}:decide (V.str i=V.str j)=(i==j):=by
 rw[Jn]
 simp
theorem oA{i j:Array UInt8}:decide (V.byt i=V.byt j)=(i.toList==j.toList):=by
 rw[Jn]
 cases i
 cases j
 simp
section
variable{X:Cx}{a b c:Expr}{ta tb tc:TE}{pos:Pos}
theorem aW{σ:St}{H:Hp}{Q:VK}{k k':Bool}(I:Inv X pins σ H s)(q:Q (.bl k) H)(e:k=k'):EP X pins σ Q (.bool k') s:=by
 subst e
 exact⟨.bl k,H,I,rfl,q⟩
theorem cZ:Ev X (Ie .Eq) CS:=by
 intro pins s σ H x y v u Q I rx ry h
 obtain⟨hs,q⟩:=h
 cases x with
 | non =>
   cases rx
   cases y with
   | non=>cases ry;exact PySem.EqNone.eq_none_none (aW I q (by simp))
   | bl j=>cases ry;exact PySem.EqNone.eq_none_bool (aW I q (by simp))
   | int j=>obtain⟨t',rfl⟩:=ry;exact PySem.EqNone.eq_none_int (aW I q (by simp))
   | str j=>obtain⟨t',rfl⟩:=ry;exact PySem.EqNone.eq_none_str (aW I q (by simp))
   | _=>exact absurd (show false=true from hs) FO
 | bl i =>
   cases rx
   cases y with
   | non=>cases ry;exact PySem.EqNone.eq_bool_none (aW I q (by simp))
   | bl j=>cases ry;exact eq_bool (aW I q rp)
   | str j=>obtain⟨t',rfl⟩:=ry;exact PySem.EqMixed.eq_bool_str (aW I q (by simp))
   | _=>exact absurd (show false=true from hs) FO
 | int i =>
   obtain⟨t,rfl⟩:=rx
   cases y with
   | non=>cases ry;exact PySem.EqNone.eq_int_none (aW I q (by simp))
   | int j=>obtain⟨t',rfl⟩:=ry;exact eq_int (aW I q oy)
   | str j=>obtain⟨t',rfl⟩:=ry;exact PySem.EqMixed.eq_int_str (aW I q (by simp))
   | _=>exact absurd (show false=true from hs) FO
 | str i =>
   obtain⟨t,rfl⟩:=rx
   cases y with
   | non=>cases ry;exact PySem.EqNone.eq_str_none (aW I q (by simp))
   | bl j=>cases ry;exact PySem.EqMixed.eq_str_bool (aW I q (by simp))
   | int j=>obtain⟨t',rfl⟩:=ry;exact PySem.EqMixed.eq_str_int (aW I q (by simp))
   | str j=>obtain⟨t',rfl⟩:=ry;exact eq_str (aW I q ox)
   | _=>exact absurd (show false=true from hs) FO
 | byt i =>
   obtain⟨t,rfl⟩:=rx
   cases y with
   | byt j=>obtain⟨t',rfl⟩:=ry;exact W.eq_bytes (aW I q oA)
   | _=>exact absurd (show false=true from hs) FO
 | _=>cases y<;>exact absurd (show false=true from hs) FO
theorem wO:Ev X (Ie .NotEq) CO:=by
 intro pins s σ H x y v u Q I rx ry h
 obtain⟨hs,q⟩:=h
 cases x with
 | non =>
   cases rx
   cases y with
   | non=>cases ry;exact PySem.EqNone.ne_none_none (aW I q (by simp))
   | bl j=>cases ry;exact PySem.EqNone.ne_none_bool (aW I q (by simp))
   | int j=>obtain⟨t',rfl⟩:=ry;exact PySem.EqNone.ne_none_int (aW I q (by simp))
   | str j=>obtain⟨t',rfl⟩:=ry;exact PySem.EqNone.ne_none_str (aW I q (by simp))
   | _=>exact absurd (show false=true from hs) FO
 | bl i =>
   cases rx
   cases y with
   | non=>cases ry;exact PySem.EqNone.ne_bool_none (aW I q (by simp))
   | bl j=>cases ry;exact ne_bool (aW I q (congrArg not rp))
   | str j=>obtain⟨t',rfl⟩:=ry;exact PySem.EqMixed.ne_bool_str (aW I q (by simp))
   | _=>exact absurd (show false=true from hs) FO
 | int i =>
   obtain⟨t,rfl⟩:=rx
   cases y with
   | non=>cases ry;exact PySem.EqNone.ne_int_none (aW I q (by simp))
   | int j=>obtain⟨t',rfl⟩:=ry;exact ne_int (aW I q (congrArg not oy))
   | str j=>obtain⟨t',rfl⟩:=ry;exact PySem.EqMixed.ne_int_str (aW I q (by simp))
   | _=>exact absurd (show false=true from hs) FO
 | str i =>
   obtain⟨t,rfl⟩:=rx
   cases y with
   | non=>cases ry;exact PySem.EqNone.ne_str_none (aW I q (by simp))
   | bl j=>cases ry;exact PySem.EqMixed.ne_str_bool (aW I q (by simp))
   | int j=>obtain⟨t',rfl⟩:=ry;exact PySem.EqMixed.ne_str_int (aW I q (by simp))
   | str j=>obtain⟨t',rfl⟩:=ry;exact ne_str (aW I q (congrArg not ox))
   | _=>exact absurd (show false=true from hs) FO
 | byt i =>
   obtain⟨t,rfl⟩:=rx
   cases y with
   | byt j=>obtain⟨t',rfl⟩:=ry;exact W.ne_bytes (aW I q (congrArg not oA))
   | _=>exact absurd (show false=true from hs) FO
 | _=>cases y<;>exact absurd (show false=true from hs) FO
theorem iF:Ev X (Ie .Lt) (CQ fun i j=>.bl (decide (i<j))):=xR fun _ _ _ _ _ _ _ q=>lt_int q
theorem wP:Ev X (Ie .LtE) (CQ fun i j=>.bl (decide (i<=j))):=xR fun _ _ _ _ _ _ _ q=>le_int q
theorem lD:Ev X (Ie .Gt) (CQ fun i j=>.bl (decide (j<i))):=xR fun _ _ _ _ _ _ _ q=>gt_int q
theorem yY:Ev X (Ie .GtE) (CQ fun i j=>.bl (decide (j<=i))):=xR fun _ _ _ _ _ _ _ q=>ge_int q
theorem aw(b:Expr){op:CmpOp}(h:op ≠ .In:=by decide)(h2:op ≠ .NotIn:=by decide):IF op b=false:=by
 have e1:(op==CmpOp.In)=false:=by cases op<;>first|rfl|exact absurd rfl h
 have e2:(op==CmpOp.NotIn)=false:=by cases op<;>first|rfl|exact absurd rfl h2
 cases b<;>simp[IF,e1,e2]
theorem tG{op:CmpOp}{r:R2}(ho:Ev X (Ie op) r)(ha:PE X a ta)(hb:PE X b tb)(hm:IF op b=false):PE X (.Compare a [op] [b] pos) (Co r ta tb):=by
 intro pins s σ H Q I h
 exact wpAny_Compare1 (zC ha hb I h fun v u s2 x y H2 I2 rx ry q=>ho pins s2 σ H2 x y v u Q I2 rx ry q) hm
noncomputable def yw(t:TE):TT:=fun σ H Q=>t σ H fun x H'=>∃k,x = .bl k/\Q k H'
theorem sW{op:CmpOp}{r:R2}(ho:Ev X (Ie op) r)(ha:PE X a ta)(hb:PE X b tb)(hm:IF op b=false):PT X (.Compare a [op] [b] pos) (yw (Co r ta tb)):=by
 intro pins s σ H Q I h
 refine wpAny_isTrue_Compare1 (Cj (ha pins s σ H _ I h) fun v s1 ⟨x,H1,I1,r1,q1⟩=>Cj (hb pins s1 σ H1 _ I1 q1) fun u s2 ⟨y,H2,I2,r2,q2⟩ =>
  Cj (ho pins s2 σ H2 x y v u _ I2 r1 r2 q2) fun c s3 ⟨z,H3,I3,r3,k,e,q3⟩=>?_) hm
 subst e
 cases r3
 exact HE ⟨H3,I3,q3⟩
theorem kQ:(sizeLine:Nat)<2^63:=by rw[sizeLine_eq];decide
theorem vals1{x:V}(r:cu [x] us):∃u,us=[u]/\RelV x u:=by
 cases r with
 | cons r1 r2=>cases r2;exact⟨_,rfl,r1⟩
theorem vals2{x y:V}(r:cu [x,y] us):∃u w',us=[u,w']/\RelV x u/\RelV y w':=by
 cases r with
 | cons r1 r2 =>
   cases r2 with
   | cons r3 r4=>cases r4;exact⟨_,_,rfl,r1,r3⟩
theorem qB:d8 X (.builtin "abs") (fun xs H Q=>∃i,xs=[.int i]/\Q (.int (if i<0 then -i else i)) H):=by
 intro pins s σ H xs us Q I r h
 obtain⟨i,rfl,q⟩:=h
 obtain⟨u,rfl,t,rfl⟩:=vals1 r
 exact call_abs_int fun u tk=>⟨.int (if i<0 then -i else i),H,I.tok _,⟨_,rfl⟩,q⟩
theorem oQ(hc:X.calm=true):d8 X (.builtin "max") (fun xs H Q=>∃i j,xs=[.int i,.int j]/\Q (.int (if j>i then j else i)) H):=by
 intro pins s σ H xs us Q I r h
 obtain⟨i,j,rfl,q⟩:=h
 obtain⟨u,w',rfl,⟨t,rfl⟩,⟨t',rfl⟩⟩:=vals2 r
 refine max_two_ints (I.ok.hd hc) fun h' tk k=>⟨_,H,I.kept k,?_,q⟩
 by_cases hj:j>i
 · rw[if_pos hj,if_pos hj];exact⟨_,rfl⟩
 · rw[if_neg hj,if_neg hj];exact⟨_,rfl⟩
theorem oP(hc:X.calm=true):d8 X (.builtin "min") (fun xs H Q=>∃i j,xs=[.int i,.int j]/\Q (.int (if j<i then j else i)) H):=by
 intro pins s σ H xs us Q I r h
 obtain⟨i,j,rfl,q⟩:=h
 obtain⟨u,w',rfl,⟨t,rfl⟩,⟨t',rfl⟩⟩:=vals2 r
 refine min_two_ints (I.ok.hd hc) fun h' tk k=>⟨_,H,I.kept k,?_,q⟩
 by_cases hj:j<i
 · rw[if_pos hj,if_pos hj];exact⟨_,rfl⟩
 · rw[if_neg hj,if_neg hj];exact⟨_,rfl⟩
theorem oR:d8 X (.type "int") (fun xs H Q=>(∃i,xs=[.int i]/\Q (.int i) H)\/∃k,xs=[.bl k]/\Q (.int (if k then 1 else 0)) H):=by
 intro pins s σ H xs us Q I r h
 rcases h with⟨i,rfl,q⟩|⟨k,rfl,q⟩
 · obtain⟨u,rfl,t,rfl⟩:=vals1 r
   exact call_int_int ⟨.int i,H,I,⟨_,rfl⟩,q⟩
 · obtain⟨u,rfl,r1⟩:=vals1 r
   cases r1
   exact call_int_bool ⟨.int (if k then 1 else 0),H,I.tok _,⟨_,rfl⟩,q⟩
end
section
variable{prog:FS}{w:GD}{A:GJ}{E:E7->E_->Prop}{s:E_}{K:W.Frag}{x dx C f:Addr}{mA:Str->Option E7}{name:Str}{v:E7}
end
noncomputable def putF(f:Str)(v:V):List (Str×V)->List (Str×V)
 | []=>[(f,v)]
 | (g,x)::r=>if g=f then(g,v)::r else(g,x)::putF f v r
theorem uO.some_of{v:V}{o:Option E7}(r:uO (some v) o):∃u,o=some u/\RelV v u:=by
 cases o with
 | none=>exact(show False from r).elim
 | some u=>exact⟨u,rfl,r⟩
section
variable{P:FS}{w:GD}{H H':Hp}{h h':Heap}{a C dx:Addr}{fs fs':List (Str×V)}
end
section
variable{X:Cx}{pins:List (Addr×Obj)}{σ:St}{H:Hp}{s:E_}{a C dx:Addr}{fs:List (Str×V)}{f:Str}{v:V}{A:GJ}{E:E7->E_->Prop}
end
section
variable{X:Cx}{o e value:Expr}{f:Str}{pos pos' tpos:Pos}{ta tv:TE}
end
section
variable{X:Cx}{pins:List (Addr×Obj)}{σ:St}{H:Hp}{s:E_}{A:GJ}{E:E7->E_->Prop}{Q:E7->E_->Prop}{c:E7}{b:Bool}
end
structure Room (k:Nat) (A:GJ):Prop where
 hd:A.handled=none
 dp:A.depth+3*k+5<recursionLimit
 un:A.units+16*k+200<LA
 gd:A.guards=some []
theorem Room.mono{k:Nat}(r:Room k A)(h:j<=k):Room j A:=⟨r.hd,by have:=r.dp;omega,by have:=r.un;omega,r.gd⟩
theorem Room.deeper{k:Nat}(r:Room (k+1) A)(env:Env):Room k (A.deeper env) :=
 ⟨r.hd,by have:=r.dp;show A.depth+1+3*k+5<_;omega,by have:=r.un;show A.units+3+16*k+200<_;omega,r.gd⟩
theorem Room.depth{k:Nat}(r:Room k A):A.depth<recursionLimit:=by have:=r.dp;omega
theorem Room.units{k:Nat}(r:Room k A):A.units+64<LA:=by have:=r.un;omega
noncomputable def AL:TA:=fun _ H Q=>Q [] H
noncomputable def vI(ta:TE)(tr:TA):TA:=fun σ H Q=>ta σ H fun x H1=>tr σ H1 fun xs H2=>Q (x::xs) H2
section
variable{X:Cx}{e:Expr}{es:List Expr}{te:TE}{t:TA}{pos:Pos}
theorem nA:PA X [] AL:=fun _ _ _ _ H Q I h=>Calls.spliced_nil ⟨[],H,I,.nil,h⟩
theorem fM(ha:PE X e te)(hr:PA X es t)(hs:Fg (e::es) X.env=(false,eval e X.env)::Fg es X.env:=by rfl):PA X (e::es) (vI te t):=by
 intro pos pins s σ H Q I h
 rw[hs]
 show FH _ _ (spliced ((false,eval e X.env)::GQ pos (Fg es X.env))) _ _ s
 refine Calls.spliced_cons (Cj (ha pins s σ H _ I h) fun u s1 ⟨x,H1,I1,r1,q1⟩=>?_)
 exact Cj (hr pos pins s1 σ H1 _ I1 q1) fun us s2 ⟨xs,H2,I2,r2,q2⟩=>⟨x::xs,H2,I2,.cons r1 r2,q2⟩
noncomputable def A_(t:TA):TE:=fun σ H Q=>t σ H fun xs H1=>xs.length<=sizeLine/\∀p,H1 p=none->Q (.ref p) (Cb H1 p (.tup xs))
noncomputable def Bf(t:TA):TE:=fun σ H Q=>t σ H fun xs H1=>xs.length<=sizeLine/\∀p,H1 p=none->Q (.ref p) (Cb H1 p (.lst xs))
theorem wD{x1}(h:PA X es t):PE X (.Tuple es x1 pos) (A_ t):=by
 intro pins s σ H Q I hq
 refine wpAny_Tuple_spliced (Cj (h pos pins s σ H _ I hq) fun us s1 ⟨xs,H1,I1,r,z,q⟩=>⟨by rw[<- r.length];exact z,?_⟩)
 have hf:H1 s1.heap.objs.size=none:=I1.hok.fresh (Fa _)
 refine⟨.ref s1.heap.objs.size,Cb H1 s1.heap.objs.size (.tup xs),I1.laid (t':=s1.toks) (fun b u e=>E4 _ e) (Fa _) ?_,rfl,q _ hf⟩
 exact⟨z,us,r,oY.new _ _⟩
theorem wG(h:PA X es t):PE X (.List es pos) (Bf t):=by
 intro pins s σ H Q I hq
 refine wpAny_List_spliced (Cj (h pos pins s σ H _ I hq) fun us s1 ⟨xs,H1,I1,r,z,q⟩=>⟨by rw[<- r.length];exact z,?_⟩)
 have hf:H1 s1.heap.objs.size=none:=I1.hok.fresh (Fa _)
 refine⟨.ref s1.heap.objs.size,Cb H1 s1.heap.objs.size (.lst xs),I1.laid (t':=s1.toks) (fun b u e=>E4 _ e) (Fa _) ?_,rfl,q _ hf⟩
 exact⟨z,us,0,r,FB _ rfl⟩
end
abbrev Sp:=List V->Hp->VK->XK->Prop
abbrev EM:=List Env->Hp->E_->XK->E7->E_->Prop
structure Env0 (P:FS) (w:GD) (K:W.Frag) (mg:Str->Option E7) (base:Heap) (A:GJ) (outer:List Env) (s:E_) (H:Hp):Prop where
 frames:A.frames=some outer
 mod:Mod K mg base
 bs:∀b o,base.get? b=some o->s.heap.get? b=some o/\H b=none
 bsz:base.objs.size<=s.heap.objs.size
 funs:s.heap.FunFrames base outer
 frf:∀b∈frs outer,H b=none
 hok:EL P w H s.heap
 bare:KE s.gens
noncomputable def CE(outer:List Env)(P:FS)(w:GD)(H:Hp)(s:E_)(Q:VK)(u:E7)(s':E_):Prop :=
 ∃v H',s'.os=s.os/\KE s'.gens/\Un (frs outer) [] H H' s.heap s'.heap/\EL P w H' s'.heap/\RelV v u/\Q v H'
noncomputable def CR(CX:EM)(outer:List Env)(P:FS)(w:GD)(H:Hp)(s:E_)(Q:VK)(E:XK)(r:Lo)(s':E_):Prop :=
 match r with
 | .ok (.ret u)=>CE outer P w H s Q u s'
 | .ok _=>False
 | .error e=>CX outer H s E e s'
structure FnOk (P:FS) (w:GD) (K:W.Frag) (mg:Str->Option E7) (base:Heap) (CX:EM) (k:Nat) (f:Addr) (fd:HR) (ps:List Str) (sp:Sp):Prop where
 len:∀vs H Q E,sp vs H Q E->vs.length=ps.length
 run:∀(A:GJ)(outer:List Env)(s:E_)(H:Hp)(args:Args)(us:List E7)(vs:List V)(Q:VK)(E:XK),Room k A->Env0 P w K mg base A outer s H->Lp s fd args (ps.zip us)->cu vs us->sp vs H Q E ->
  Hr (FT P w) A (.call (.ref f) args) (CR CX outer P w H s Q E) s
section
variable{X:Cx}{pins:List (Addr×Obj)}{σ:St}{H:Hp}{s s':E_}
theorem Inv.env0(I:Inv X pins σ H s):Env0 X.prog X.w X.K X.mg X.base X.A X.stack s H :=
 ⟨I.ok.frames,I.ok.mod,I.bs,FP I.ok.bsz I.sz,I.stack,I.stkFree,I.hok,I.bare⟩
theorem Inv.after{Q:VK}(I:Inv X pins σ H s)(h:CE X.stack X.prog X.w H s Q u s'):EP X pins σ Q u s':=by
 obtain⟨v,H',os,bare,un,hok,r,q⟩:=h
 obtain⟨hh,g,d,t,os'⟩:=s'
 obtain rfl:os'=s.os:=os
 exact⟨v,H',I.call (h':=hh) (g':=g) (d':=d) (t':=t) (ch:=[]) un hok bare (fun b z=>absurd z (by simp)),r,q⟩
end
noncomputable def yE(sp:Sp)(dvs:List V)(E:XK)(t:TA):TE:=fun σ H Q=>t σ H fun vs H1=>sp (vs++dvs) H1 Q E
noncomputable def Binds(K:W.Frag)(fd:HR)(ps:List Str)(ds:List E7):Prop :=
 ∀(s:E_)(us:List E7),K.In s.heap->(us++ds).length=ps.length->Lp s fd ⟨us,[]⟩ (ps.zip (us++ds))
theorem Binds.all{K:W.Frag}{ps:List Str}(h:∀us:List E7,us.length=ps.length->bindArgs fd ⟨us,[]⟩=pure (ps.zip us)):Binds K fd ps []:=fun s us _ hl=>by
 rw[HG]at hl ⊢
 exact .of_eq (h us hl)
noncomputable def oX(CX:EM)(X:Cx)(E:XK):Prop:=∀(pins:List (Addr×Obj))(σ:St)(H:Hp)(s:E_)(e:E7)(s':E_),Inv X pins σ H s->CX X.stack H s E e s'->X.xe e s'
section
variable{X:Cx}{CX:EM}{k:Nat}{f C:Addr}{fd:HR}{ps:List Str}{sp:Sp}{dvs:List V}{ds:List E7}{E:XK}{x m:Str}{p pos apos:Pos}{e o:Expr}{es:List Expr}{ta:TE}{t:TA}
theorem vX{σ:St}{H:Hp}{Q:VK}{vs:List V}(F:FnOk X.prog X.w X.K X.mg X.base CX k f fd ps sp)(hr:Room k X.A)(hb:Binds X.K fd ps ds)(hd:cu dvs ds)(hx:oX CX X E)
 (I:Inv X pins σ H s)(r:cu vs us)(h:sp (vs++dvs) H Q E):FH (FT X.prog X.w) X.A (call (.ref f) us) (EP X pins σ Q) X.xe s:=by
 have r2:cu (vs++dvs) (us++ds):=r.append hd
 have hl:(us++ds).length=ps.length:=by rw[<- r2.length];exact F.len _ _ _ _ h
 refine wpAny_call (JD (F.run X.A X.stack s H ⟨us,[]⟩ (us++ds) (vs++dvs) Q E hr I.env0 (hb s us I.kIn hl) r2 h) fun r s' hq=>?_)
 cases r with
 | error e=>exact hx pins σ H s e s' I hq
 | ok fl =>
   cases fl with
   | ret u=>exact I.after hq
   | next=>exact GR hq
   | brk=>exact GR hq
   | cont=>exact GR hq
theorem jN(F:FnOk X.prog X.w X.K X.mg X.base CX k f fd ps sp)(hr:Room k X.A)(hg:Gl X x)(hm:X.mg x=some (.ref f))(hk:W.keepIn X.K (.ref f)=true)(hb:Binds X.K fd ps ds)(hd:cu dvs ds)(hx:oX CX X E)
 (ha:PA X (e::es) t)(hdb:(x==("__debug__" : Str))=false:=by decide)(he:Fg (e::es) X.env=(false,eval e X.env)::Fg es X.env:=by rfl)(hpl:(GQ pos (Fg es X.env)).any (·.1)=false:=by rfl) :
 PE X (.Call (.Name x p) (e::es) [] pos) (yE sp dvs E t):=by
 intro pins s σ H Q I h
 refine H0 (nS I hg hm ?_ hdb)
 refine W.callWith_K (h₀:=X.base) I.ok.mod.kin hk (Cj (ha pos pins s σ H _ I h) fun us s1 ⟨vs,H1,I1,r,q⟩=>⟨I1.kIn,?_⟩) he hpl
 exact vX F hr hb hd hx I1 r q
end
noncomputable def PK(X:Cx)(kws:List IR)(t:TA):Prop :=
 ∀(pos:Pos)(pins:List (Addr×Obj))(s:E_)(σ:St)(H:Hp)(Q:List V->Hp->Prop),Inv X pins σ H s->t σ H Q->FH (FT X.prog X.w) X.A (evalAll ((JT pos (Iz kws X.env)).map (·.2))) (AP X pins σ Q) X.xe s
section
variable{X:Cx}{CX:EM}{k:Nat}{f C:Addr}{fd:HR}{ps ks:List Str}{sp:Sp}{E:XK}{x m:Str}{p pos apos kpos:Pos}{e o:Expr}{es:List Expr}{kws:List IR}{te ta:TE}{t tk:TA}{nm:Option Str}
theorem wz:PK X [] AL:=fun _ _ _ _ H Q I h=>wpAny_evalAll_nil ⟨[],H,I,.nil,h⟩
theorem tm(ha:PE X e te)(hr:PK X kws t):PK X (⟨nm,e,kpos⟩::kws) (vI te t):=by
 intro pos pins s σ H Q I h
 show FH _ _ (evalAll ((do let v <- eval e X.env;KH pos;pure v)::(JT pos (Iz kws X.env)).map (·.2))) _ _ s
 refine wpAny_evalAll_cons (EZ (Cj (ha pins s σ H _ I h) fun u s1 ⟨x,H1,I1,r1,q1⟩=>EZ (GW (Fh ?_))))
 exact Cj (hr pos pins s1 σ H1 _ I1 q1) fun us s2 ⟨xs,H2,I2,r2,q2⟩=>⟨x::xs,H2,I2,.cons r1 r2,q2⟩
variable{g:List E7->List E7->List E7}{gV:List V->List V->List V}
end
structure FnScope (N P:List Str) (sc:Scope):Prop where
 kind:sc.kind = .function
 co:sc.isCoroutine=false
 gen:sc.isGenerator=false
 nd:N.Nodup
 pre:N.take P.length=P
 par:∀x∈P,sc.names.lookup x=some .local\/sc.names.lookup x=some .cell
 nofree:∀y∈sc.names,y.2 ≠ .free
theorem jv{kindOf:Str->Option IG}{x:Str}:∀{binds:List (Str×E7)}{m:Str->Option E7},(∀v,(x,v)∉binds)->bindL kindOf binds m x=m x
 | [],_,_=>rfl
 | (n,v)::r,m,h=>by
   unfold bindL
   rw[jv fun w hw=>h w (E9 _ hw)]
   split
   · have:x≠n:=by rintro rfl;exact h v Ff
     simp[this]
   · rfl
theorem jx{kindOf:Str->Option IG}{x:Str}:∀{binds:List (Str×E7)}{m:Str->Option E7},(∀v,(x,v)∉binds)->bindC kindOf binds m x=m x
 | [],_,_=>rfl
 | (n,v)::r,m,h=>by
   unfold bindC
   rw[jx fun w hw=>h w (E9 _ hw)]
   split
   · rfl
   · have:x≠n:=by rintro rfl;exact h v Ff
     simp[this]
theorem jw{kindOf:Str->Option IG}{x:Str}{v:E7}:∀{P:List Str}{vs:List E7}{i:Nat}{m:Str->Option E7},P.Nodup->P[i]?=some x->vs[i]?=some v->kindOf x=some .local ->
 bindL kindOf (P.zip vs) m x=some v
 | [],_,_,_,_,h,_,_=>by simp at h
 | _::_,[],_,_,_,_,h,_=>by simp at h
 | p::P,w::vs,0,m,nd,h1,h2,hk=>by
   simp at h1 h2;subst h1;subst h2
   show bindL kindOf ((p,w)::P.zip vs) m p=_
   unfold bindL
   rw[jv fun v hv=>(Hs.mp nd).1 (Kd hv).1,if_pos hk]
   simp
 | p::P,w::vs,i+1,m,nd,h1,h2,hk=>by
   show bindL kindOf ((p,w)::P.zip vs) m x=_
   unfold bindL
   exact jw (i:=i) (Hs.mp nd).2 (by simpa using h1) (by simpa using h2) hk
theorem jy{kindOf:Str->Option IG}{x:Str}{v:E7}:∀{P:List Str}{vs:List E7}{i:Nat}{m:Str->Option E7},P.Nodup->P[i]?=some x->vs[i]?=some v->kindOf x≠some .local ->
 bindC kindOf (P.zip vs) m x=some v
 | [],_,_,_,_,h,_,_=>by simp at h
 | _::_,[],_,_,_,_,h,_=>by simp at h
 | p::P,w::vs,0,m,nd,h1,h2,hk=>by
   simp at h1 h2;subst h1;subst h2
   show bindC kindOf ((p,w)::P.zip vs) m p=_
   unfold bindC
   rw[jx fun v hv=>(Hs.mp nd).1 (Kd hv).1,if_neg hk]
   simp
 | p::P,w::vs,i+1,m,nd,h1,h2,hk=>by
   show bindC kindOf ((p,w)::P.zip vs) m x=_
   unfold bindC
   exact jy (i:=i) (Hs.mp nd).2 (by simpa using h1) (by simpa using h2) hk
noncomputable def start(N:List Str)(vs:List V):St:=vs.map some++FQ (N.length-vs.length) none
noncomputable def o3(CX:EM)(P:FS)(w:GD)(K:W.Frag)(mg:Str->Option E7)(base:Heap)(N:List Str)(qual:Str)(scope:Scope)(f:Addr)(cd:E7)(A:GJ)(outer:List Env)(s:E_)(H:Hp)(E:XK):Cx where
 prog:=P
 w:=w
 K:=K
 mg:=mg
 base:=base
 A:=A.deeper (Ke qual scope s.heap.objs.size f cd)
 N:=N
 s₀:=s
 H₀:=H
 env:=Ke qual scope s.heap.objs.size f cd
 outer:=outer
 stack:=Ke qual scope s.heap.objs.size f cd::outer
 ex:=[]
 calm:=true
 fn:=fun _=>true
 pn:=[]
 xe:=fun e s'=>FH (FT P w) (A.deeper (Ke qual scope s.heap.objs.size f cd)) (leaving (Ke qual scope s.heap.objs.size f cd) e) (fun _ s''=>CX outer H s E e s'') (fun e' s''=>CX outer H s E e' s'') s'
theorem lc{sc:Scope}(h:sc.names.lookup x=some .cell):∃c,(G7 n sc.names []).lookup x=some c:=by
 have q:=W.cellsFrom_some sc.names n [] (.inl h)
 exact HH.mp q
theorem n6{CX:EM}{K:W.Frag}{base:Heap}{ps:List Str}{f:Addr}{cd:E7}{outer:List Env}{s1:E_}{H:Hp}{E:XK}{vs:List V}
 (S:FnScope N ps scope)(hd:A.handled=none)(e0:Env0 P w K mg base A outer s H)(hl:vs.length=ps.length)(r:cu vs us)
 (x:InCallC s s.heap.objs.size (bindL (Ke qual scope s.heap.objs.size f cd).kindOf (ps.zip us) fun _=>none) (G7 (s.heap.objs.size+1) scope.names []) (bindC (Ke qual scope s.heap.objs.size f cd).kindOf (ps.zip us) fun _=>none) s1) :
 Inv (o3 CX P w K mg base N qual scope f cd A outer s H E) [] (start N vs) H s1:=by
 have hpl:ps.length<=N.length:=by have:=congrArg List.length S.pre;rw[Gc]at this;omega
 obtain⟨h1,tk,rfl,hk⟩:=x.done
 have noA:∀b:Addr,b∉(o3 CX P w K mg base N qual scope f cd A outer s H E).ex:=fun b z=>absurd (show b∈([]:List Addr)from z) (by simp)
 refine⟨⟨e0.mod,S.kind,rfl,rfl,Fa _,fun y z c h1 h2=>?_,fun y hy=>?_,fun y c _ h=>?_,fun _=>hd,GJ.frames_deeper e0.frames,.inr ⟨rfl,rfl⟩,fun b z=>absurd z (noA b),e0.bs,e0.bsz,fun b _ _=>noA b,fun b z=>absurd z (noA b),e0.funs,e0.frf⟩,
  rfl,e0.bare,Un.kept hk,⟨_,x.toInCall.ns,fun i y v h1 h2 h3=>?_⟩,fun y c h=>⟨_,x.cell y c h⟩,e0.hok.fresh (Fa _),fun y c h=>?_,fun p hp=>absurd (show p∈([]:List (Addr×Obj))from hp) (by simp),e0.hok.kept hk,?_⟩
 · exact name_of_addr x.apart (GC h1) (GC h2)
 · have hy:scope.names.lookup y=some .cell\/scope.names.lookup y=some .free:=hy
   rcases hy with hy|hy
   · exact lc hy
   · exact absurd rfl (S.nofree _ (GC hy))
 · exact Lc (x.above y c (GC h))
 · have hi:i<vs.length:=by
     unfold start at h2
     by_cases hi:i<vs.length
     · exact hi
     · rw[Jy (by simpa using hi)]at h2
       rw[JU]at h2
       split at h2<;>cases h2
   have ha:vs[i]?=some v:=by
    unfold start at h2
    rw[Iv (by simpa using hi),F0]at h2
    cases e:vs[i]? with
    | none=>rw[e]at h2;cases h2
    | some a=>rw[e]at h2;cases h2;rfl
   obtain⟨u,hu,rv⟩:=r.get ha
   have hp:ps[i]?=some y:=by
    rw[<- S.pre,List.getElem?_take_of_lt (by omega)];exact h1
   have ndP:ps.Nodup:=by rw[<- S.pre];exact S.nd.sublist (List.take_sublist _ _)
   refine⟨u,rv,?_⟩
   rcases S.par y (Hm hp)with k|k
   · exact .inl ⟨k,jw ndP hp hu k⟩
   · obtain⟨c,e⟩:=lc (n:=s.heap.objs.size+1) k
     refine .inr ⟨.inl k,c,e,?_⟩
     have q:=x.cell y c e
     rw[jy ndP hp hu (by show scope.names.lookup y≠_;rw[k];decide)]at q
     exact q
 · exact e0.hok.fresh (Lc (x.above y c (GC h)))
 · unfold start
   show _=N.length
   rw[Fj,Fd,List.length_replicate]
   omega
theorem zx{CX:EM}{K:W.Frag}{base:Heap}{k:Nat}{f:Addr}{name:Str}{params:Arguments}{body:List Stmt}{dV kV doc pm cdv ct oc:E7}{an od:Option Addr}
 {osl:Array (Option E7)}{ps:List Str}{sp:Sp}(lk:K.lookup f=some ⟨oc,od,.func (W.fnOf name qual params body scope dV kV doc pm an cdv ct),osl⟩)(hcd:W.codeIn K cdv qual=true)(S:FnScope N ps scope)
 (len:∀vs H Q E,sp vs H Q E->vs.length=ps.length)
 (hbody:∀(A:GJ)(outer:List Env)(s:E_)(H:Hp)(vs:List V)(Q:VK)(E:XK),Room k (A.deeper (Ke qual scope s.heap.objs.size f cdv))->sp vs H Q E ->
  ∃t,Ei (o3 CX P w K mg base N qual scope f cdv A outer s H E) body t/\t {nx:=fun _ H'=>Q .non H',rt:=Q} (start N vs) H) :
 FnOk P w K mg base CX (k+1) f (W.fnOf name qual params body scope dV kV doc pm an cdv ct) ps sp:=by
 refine⟨len,fun A outer s H args us vs Q E hr e0 hb r hsp=>?_⟩
 have hl:=len _ _ _ _ hsp
 have KX:K.In s.heap:=e0.mod.kin.keeps fun b o e=>(e0.bs b o e).1
 have lim:s.heap.NoLimit:=e0.mod.nolimit.keeps fun b o e=>(e0.bs b o e).1
 have hkind:∀y∈ps.zip us,scope.names.lookup y.1=some .local\/(scope.names.lookup y.1=some .cell/\((G7 (s.heap.objs.size+1) scope.names []).lookup y.1).isSome=true):=fun⟨n,v⟩ hy=>by
  rcases S.par n (Kd hy).1 with q|q
  · exact .inl q
  · exact .inr ⟨q,W.cellsFrom_some _ _ _ (.inl q)⟩
 refine codeAny_call_function hr.depth (KX _ _ lk) rfl S.co S.gen rfl (W.codeRec_of KX hcd) (hb _ _ _ _ ?_)
 refine wpAny_newFunctionEnv_cells S.kind hkind fun env he s1 x=>?_
 subst he
 refine⟨lim.keeps x.toInCall.keep,codeAny_func ?_⟩
 obtain⟨t,ht,hq⟩:=hbody A outer s H vs Q E (hr.deeper _) hsp
 have I:Inv (o3 CX P w K mg base N qual scope f cdv A outer s H E) [] (start N vs) H s1:=n6 S hr.hd e0 hl r x
 refine FX (ht [] s1 (start N vs) H _ I hq) (fun fl s' hs=>?_) fun e s' hs=>hs
 have fin:∀{σ':St}{H':Hp}{v:V}{u:E7},Inv (o3 CX P w K mg base N qual scope f cdv A outer s H E) [] σ' H' s'->RelV v u->Q v H'->CE outer P w H s Q u s' :=
  fun{σ' H' v u} J rv q=>⟨v,H',J.os,J.bare,J.base,J.hok,rv,q⟩
 cases fl with
 | ret u =>
   obtain⟨v,σ',H',J,rv,q⟩:=hs
   exact fin J rv q
 | next =>
   obtain⟨σ',H',J,q⟩:=hs
   exact fin (v:=V.non) (u:=Ji) J rfl q
 | brk =>
   obtain⟨_,_,_,q⟩:=hs
   exact GR q
 | cont =>
   obtain⟨_,_,_,q⟩:=hs
   exact GR q
section
variable{X:Cx}{x:Str}{p pos:Pos}{e:Expr}{es:List Expr}{t:TA}{id T:String}{r:List V->Hp->VK->Prop}
noncomputable def Cr(r:List V->Hp->VK->Prop)(t:TA):TE:=fun σ H Q=>t σ H fun vs H1=>r vs H1 Q
theorem pW(hc:d8 X (.builtin id) r)(hg:Gl X x)(hm:X.mg x=none)(hv:IB x=some (.builtin id))(ha:PA X (e::es) t)(hn:x ≠ "__name__" := by decide)(hdb:(x==("__debug__" : Str))=false:=by decide)
 (he:Fg (e::es) X.env=(false,eval e X.env)::Fg es X.env:=by rfl)(hpl:(GQ pos (Fg es X.env)).any (·.1)=false:=by rfl):PE X (.Call (.Name x p) (e::es) [] pos) (Cr r t):=by
 intro pins s σ H Q I h
 refine H0 (fS I hg hm hv ?_ hn hdb)
 exact PyProof.Rows.callWith_builtin1 (Cj (ha pos pins s σ H _ I h) fun us s1 ⟨vs,H1,I1,r1,q1⟩=>hc pins s1 σ H1 vs us Q I1 r1 q1) he hpl
theorem ny(hc:d8 X (.type T) r)(hg:Gl X x)(hm:X.mg x=none)(hv:IB x=some (.type T))(ha:PA X (e::es) t)(hn:x ≠ "__name__" := by decide)(hdb:(x==("__debug__" : Str))=false:=by decide)
 (he:Fg (e::es) X.env=(false,eval e X.env)::Fg es X.env:=by rfl)(hpl:(GQ pos (Fg es X.env)).any (·.1)=false:=by rfl):PE X (.Call (.Name x p) (e::es) [] pos) (Cr r t):=by
 intro pins s σ H Q I h
 refine H0 (fS I hg hm hv ?_ hn hdb)
 exact G1 (Cj (ha pos pins s σ H _ I h) fun us s1 ⟨vs,H1,I1,r1,q1⟩=>hc pins s1 σ H1 vs us Q I1 r1 q1) he hpl
end
end L2
variable{H H' F F' F₀ H₀:L2.Hp}{v:L2.V}{X:L2.Cx}{σ:L2.St}{vs:List L2.V}{kvs:List (List L2.EA×L2.V)}
namespace HT
open PySem PyProof.Rows
section
open PySem.SeqAt
open PySem.AutoSeq1 (wpAny_loadPart')
open PySem.MeetsSeq PySem.MeetsSeq2 PySem.MeetsSeq3
end
section
variable{prog:FS}{w:GD}{A:GJ}{E:E7->E_->Prop}{s:E_}
theorem cat_tup{t:Addr}{vs ws:List E7}(ht:IsTup s.heap t vs.toArray)(hb:IsTup s.heap b ws.toArray)(hv:vs≠[])
 (h1:ws=[]->Q (.ref t) s)(h2:ws≠[]->Q (.ref s.heap.objs.size) {s with heap:=s.heap.push {cls:=.type "tuple", data:=.seq (vs++ws).toArray}})
 (hsz:vs.length+ws.length<=sizeLine):FH (FT prog w) A (HQ .Add (.ref t) (.ref b)) Q E s:=by
 obtain⟨⟨cls,dd,data,sl⟩,ho,hc,n,hd⟩:=id ht
 obtain⟨⟨cls2,dd2,data2,sl2⟩,ho2,hc2,n2,hd2⟩:=id hb
 simp only at hc hd hc2 hd2
 subst hc hd hc2 hd2
 have e:vs.toArray++ws.toArray=(vs++ws).toArray:=by simp
 by_cases hw:ws=[]
 · exact Ld ⟨_,ho,rfl⟩ ⟨_,ho2,rfl⟩ J1 KW IN IH (IC _ _)
     (tuple_addW1 t b vs.toArray ws.toArray n n2 dd dd2 sl sl2 (by simpa using hv) (by simp[hw])) ⟨ho,ho2,h1 hw⟩
 · refine Ld ⟨_,ho,rfl⟩ ⟨_,ho2,rfl⟩ J1 KW IN IH (IC _ _)
     (tuple_addW2 t b vs.toArray ws.toArray n n2 dd dd2 sl sl2 (by simpa using hv) (by simpa using hw) (by rw[Fw,Fw];exact hsz)) ⟨ho,ho2,?_⟩
   rw[e]
   exact h2 hw
noncomputable def sIx(n d:Nat):Option Int->Nat
 | none=>d
 | some v=>if v<0 then(v+(n:Int)).toNat else min v.toNat n
theorem sIx_none(n d:Nat):sIx n d none=d:=rfl
theorem sIx_nat(n d k:Nat):sIx n d (some (k:Int))=min k n:=by
 show(if(k:Int)<0 then((k:Int)+(n:Int)).toNat else min (k:Int).toNat n)=min k n
 rw[if_neg (by omega),GO]
theorem vV(n d:Nat)(hd:d<=n)(o:Option Int):sIx n d o<=n:=by
 cases o with
 | none=>exact hd
 | some v =>
   show(if v<0 then(v+(n:Int)).toNat else min v.toNat n)<=n
   by_cases hv:v<0
   · rw[if_pos hv];omega
   · rw[if_neg hv];exact Nat.min_le_right _ _
theorem oK(v:Int)(n d:Nat):(if v<0 then max (v+(n:Int)) 0 else min v (n:Int))=((sIx n d (some v):Nat):Int):=by
 show(if v<0 then max (v+(n:Int)) 0 else min v (n:Int))=(((if v<0 then(v+(n:Int)).toNat else min v.toNat n):Nat):Int)
 by_cases hv:v<0
 · simp only[if_pos hv];omega
 · simp only[if_neg hv];omega
theorem lL(lo hi:Option Int)(n:Nat):Iw lo hi 1 (n:Int)=(((sIx n 0 lo:Nat):Int),((sIx n n hi:Nat):Int)):=by
 have h1:¬((1:Int)<0):=by omega
 unfold Iw
 simp only[h1,if_false]
 refine Prod.ext ?_ ?_
 · cases lo with
   | none=>rfl
   | some v=>exact oK v n 0
 · cases hi with
   | none=>rfl
   | some v=>exact oK v n n
theorem lB(i j:Nat):HB (i:Int) (j:Int) 1=j-i:=by
 unfold HB
 have h1:(1:Int)>0:=by omega
 simp only[h1,if_true,Int.ediv_one]
 split<;>omega
theorem gK{v:E7}{o:Option Int}{Q:Option Int->E_->Prop}(p:KY v o)(h:Q o s):FH (FT prog w) A (Builtin.Slice.slicePartIndex v) Q E s:=by
 cases p with
 | none=>exact slicePart_none h
 | int i t=>exact slicePart_int h
theorem sliceApplied_gen{sl:Addr}{vl vu:E7}{lo hi:Option Int}{Q:Int×Int×Nat->E_->Prop}(hs:s.heap.IsSliceOf sl vl vu .none)(pl:KY vl lo)(pu:KY vu hi)
 (h:Q (((sIx n 0 lo:Nat):Int),1,sIx n n hi-sIx n 0 lo) s):FH (FT prog w) A (Jz (.ref sl) (pure (n:Int))) Q E s:=by
 obtain⟨os,hos,hcs,hds⟩:=id hs
 unfold Jz Builtin.Slice.sliceFields
 refine EZ (EZ (Hi hos hds (x:=vl) rfl (EZ (Hi hos hds (x:=vu) rfl (EZ (Hi hos hds (x:=.none) rfl (Fh ?_)))))))
 refine EZ (slicePart_none ?_)
 show FH _ _ (if((1:Int)==0)=true then _ else _) _ _ s
 rw[if_neg (by decide)]
 refine EZ (gK pl (EZ (gK pu (EZ (Fh ?_)))))
 show FH _ _ (match Iw lo hi 1 (n:Int)with|(lo,hi)=>pure (lo,(1:Int),HB lo hi 1)) _ _ s
 rw[lL lo hi n]
 show FH _ _ (pure (((sIx n 0 lo:Nat):Int),(1:Int),HB ((sIx n 0 lo:Nat):Int) ((sIx n n hi:Nat):Int) 1)) _ _ s
 rw[lB]
 exact Fh h
theorem pR(xs:Array E7)(i k:Nat):((Gh k).filterMap fun(m:Nat)=>xs[((i:Int)+(m:Int)*1).toNat]?).toArray=((xs.toList.drop i).take k).toArray:=by
 have e:(fun(m:Nat)=>xs[((i:Int)+(m:Int)*1).toNat]?)=fun m=>xs[i+m]?:=by
  funext m
  have:((i:Int)+(m:Int)*1).toNat=i+m:=by omega
  rw[this]
 rw[e]
 have:=pick_run xs i k
 rw[List.filterMap_map]at this
 have e2:((fun x=>xs[x]?) ∘ fun x=>i+x)=fun m=>xs[i+m]?:=rfl
 rw[e2]at this
 rw[this]
theorem getItem_tuple_cut{t sl:Addr}{items:Array E7}{vl vu:E7}{lo hi:Option Int}(ht:IsTup s.heap t items)(hs:s.heap.IsSliceOf sl vl vu .none)(pl:KY vl lo)(pu:KY vu hi)
 (hw:¬(sIx items.size 0 lo=0/\sIx items.size items.size hi=items.size))
 (h:Q (.ref s.heap.objs.size) {s with heap:=s.heap.push {cls:=.type "tuple", data:=.seq ((items.toList.drop (sIx items.size 0 lo)).take (sIx items.size items.size hi-sIx items.size 0 lo)).toArray}})
 (hsz:items.size<=sizeLine):FH (FT prog w) A (JV (.ref t) (.ref sl)) Q E s:=by
 have htake:sizeOk (.seq ((items.toList.drop (sIx items.size 0 lo)).take (sIx items.size items.size hi-sIx items.size 0 lo)).toArray):=by
  show((items.toList.drop (sIx items.size 0 lo)).take (sIx items.size items.size hi-sIx items.size 0 lo)).toArray.size<=sizeLine
  rw[Fw,Gc,HU,HP]
  omega
 have hj:sIx items.size items.size hi<=items.size:=vV _ _ (Fa _) hi
 obtain⟨os,hos,hcs,hds⟩:=id hs
 have hTs:s.TypeIs (.ref sl) "slice" := ⟨os,hos,hcs⟩
 unfold JV
 try with_reducible refine HS ?_
 first|refine EZ (Fh ?_)|skip
 refine EZ (JM ht.typeIs (by decide) ?_)
 refine EZ (GP (name:=EX "__getitem__") ht.typeIs Go
  (Hy Go ht.typeIs entry_tuple_getitem ?_ (args_tuple_getitem _ _)))
 show FH _ _ (JA (.ref t) >>= _) _ _ s
 refine EZ (tupleItemsOf_ ht ?_)
 refine EZ (Lg hTs ?_)
 rw[if_pos (by decide)]
 refine EZ (sliceApplied_gen hs pl pu ?_)
 have hno:¬((((sIx items.size 0 lo:Nat):Int)==0&&(1:Int)==1&&(sIx items.size items.size hi-sIx items.size 0 lo)==items.size)=true):=by
  intro q
  rw[Bool.and_eq_true,Bool.and_eq_true]at q
  have q1:((sIx items.size 0 lo:Nat):Int)=0:=eq_of_beq q.1.1
  have q2:sIx items.size items.size hi-sIx items.size 0 lo=items.size:=eq_of_beq q.2
  exact hw ⟨by omega,by omega⟩
 show FH _ _ (if(((sIx items.size 0 lo:Nat):Int)==0&&(1:Int)==1&&(sIx items.size items.size hi-sIx items.size 0 lo)==items.size)=true then _ else _) _ _ s
 rw[if_neg hno,pR]
 first
  | exact EZ (m:=HI _) (Gs (Fh ⟨_,rfl,Fh h⟩) htake)
  | exact EZ (m:=HI _) (Gs (EZ (Fh (Fh ⟨_,rfl,Fh h⟩))) htake)
  | exact EZ (EZ (m:=HI _) (Gs (Fh (Fh ⟨_,rfl,Fh h⟩)) htake))
  | exact EZ (EZ (m:=HI _) (Gs (Fh ⟨_,rfl,Fh h⟩) htake))
end
end HT
namespace L2
abbrev TO:=St->Hp->(Option Int->Hp->Prop)->Prop
noncomputable def PO(X:Cx)(e:Option Expr)(t:TO):Prop :=
 ∀ (pins:List (Addr×Obj))(s:E_)(σ:St)(H:Hp)(Q:Option Int->Hp->Prop),Inv X pins σ H s->t σ H Q ->
   FH (FT X.prog X.w) X.A (evalPart e X.env) (fun u s'=>∃o H',Inv X pins σ H' s'/\KY u o/\Q o H') X.xe s
noncomputable def su:TO:=fun _ H Q=>Q none H
noncomputable def yy(t:TE):TO:=fun σ H Q=>t σ H fun x H1=>∃i,x = .int i/\Q (some i) H1
theorem intsAre_of:∀{us:List E7},cu (ns.map V.int) us->Jo us ns:=by
 induction ns with
 | nil=>intro us r;rw[JE]at r;cases r;exact .nil
 | cons n ns ih =>
   intro us r
   rw[Gi]at r
   cases r with
   | cons r1 r2 =>
     obtain⟨t,e⟩:=r1
     subst e
     exact .cons n t (ih r2)
section
variable{X:Cx}{e:Expr}{te:TE}{lo hi:Option Expr}{tl th:TO}{pos p2:Pos}
theorem tf:PO X none su:=by
 intro pins s σ H Q I h
 rw[evalPart_none]
 exact Fh ⟨none,H,I,.none,h⟩
theorem s_(h:PE X e te):PO X (some e) (yy te):=by
 intro pins s σ H Q I hw
 rw[evalPart_some]
 refine Cj (h pins s σ H _ I hw) fun u s1 ⟨x,H1,I1,r1,q1⟩=>?_
 obtain⟨i,rfl,q⟩:=q1
 obtain⟨t,rfl⟩:=r1
 exact⟨some i,H1,I1,.int i t,q⟩
noncomputable def Eb(X:Cx)(r:V->Option Int->Option Int->Hp->VK->Prop):Prop :=
 ∀ (pins:List (Addr×Obj))(s:E_)(σ:St)(H:Hp)(x:V)(v vl vu:E7)(lo hi:Option Int)(sl:Addr)(Q:VK),Inv X pins σ H s->RelV x v->s.heap.IsSliceOf sl vl vu .none->KY vl lo->KY vu hi->r x lo hi H Q ->
   ∃T id,typeLookup (.type T) "__getitem__" = pure (some (.builtin id))/\s.TypeIs v T/\FH (FT X.prog X.w) X.A (JV v (.ref sl)) (EP X pins σ Q) X.xe s
noncomputable def Cm(r:V->Option Int->Option Int->Hp->VK->Prop)(te:TE)(tl th:TO):TE:=fun σ H Q=>te σ H fun x H1=>tl σ H1 fun l H2=>th σ H2 fun u H3=>r x l u H3 Q
theorem kG{r:V->Option Int->Option Int->Hp->VK->Prop}(hr:Eb X r)(he:PE X e te)(hl:PO X lo tl)(hu:PO X hi th):PE X (.Subscript e (.Slice lo hi none p2) pos) (Cm r te tl th):=by
 intro pins s σ H Q I h
 refine Subscript_ (Cj (he pins s σ H _ I h) fun v s1 ⟨x,H1,I1,r1,q1⟩=>?_)
 refine wpAny_Slice (Cj (hl pins s1 σ H1 _ I1 q1) fun vl s2 ⟨l,H2,I2,pl,q2⟩=>Cj (hu pins s2 σ H2 _ I2 q2) fun vu s3 ⟨u,H3,I3,pu,q3⟩=>?_)
 rw[evalPart_none]
 refine Fh ?_
 have I4:Inv X pins σ H3 {s3 with heap:=s3.heap.push {cls:=.type "slice", data:=.fields #[vl,vu,.none]}}:=I3.kept (t':=s3.toks) fun b ob q=>E4 _ q
 obtain⟨T,id,hT,ht,hg⟩:=hr pins {s3 with heap:=s3.heap.push {cls:=.type "slice", data:=.fields #[vl,vu,.none]}} σ H3 x v vl vu l u s3.heap.objs.size Q I4 r1 (Heap.IsSliceOf.new ..) pl pu q3
 show FH (FT X.prog X.w) X.A (KZ e (.Slice lo hi none p2) v (.ref s3.heap.objs.size)) (EP X pins σ Q) X.xe {s3 with heap:=s3.heap.push {cls:=.type "slice", data:=.fields #[vl,vu,.none]}}
 exact tail_any (ops:=[.ref s3.heap.objs.size,v]) ht hT hg (by with_unfolding_all rfl)
noncomputable def qw(xs:List V)(lo hi:Option Int):List V:=(xs.drop (HT.sIx xs.length 0 lo)).take (HT.sIx xs.length xs.length hi-HT.sIx xs.length 0 lo)
theorem fY(xs:List V)(lo hi:Option Int):(qw xs lo hi).length<=xs.length:=by
 unfold qw
 rw[Gc,HU]
 omega
noncomputable def AO(K:W.Frag):V->Option Int->Option Int->Hp->VK->Prop:=fun x lo hi H Q=>∃a xs,x = .ref a/\D7 K H a xs /\
 ¬(HT.sIx xs.length 0 lo=0/\HT.sIx xs.length xs.length hi=xs.length)/\∀p,H p=none->Q (.ref p) (Cb H p (.tup (qw xs lo hi)))
theorem vO:Eb X (AO X.K):=by
 intro pins s σ H x v vl vu lo hi sl Q I rx hs pl pu h
 obtain⟨a,xs,rfl,hx,hw,q⟩:=h
 cases rx
 obtain⟨its,r,ht,hz⟩:=I.tuple hx
 have hlen:its.toArray.size=xs.length:=by rw[Fw];exact r.length.symm
 refine⟨"tuple", _,Go.lookup,ht.typeIs,?_⟩
 refine HT.getItem_tuple_cut ht hs pl pu (by rw[hlen];exact hw) ?_ (by rw[hlen];exact hz)
 rw[hlen]
 refine⟨.ref s.heap.objs.size,_,I.laid (t':=s.toks) (o:=.tup (qw xs lo hi)) (fun b ob q=>E4 _ q) (Fa _) ?_,rfl,q _ (I.hok.fresh (Fa _))⟩
 exact⟨FP (fY xs lo hi) hz,_,(r.drop (HT.sIx xs.length 0 lo)).take (HT.sIx xs.length xs.length hi-HT.sIx xs.length 0 lo),oY.new _ _⟩
noncomputable def sP(K:W.Frag):R2:=fun x y H Q=>∃a b xs ys,x = .ref a/\y = .ref b/\D7 K H a xs/\D7 K H b ys/\xs≠[]/\xs.length+ys.length<=sizeLine /\
 (ys=[]->Q (.ref a) H)/\(ys≠[]->∀p,H p=none->Q (.ref p) (Cb H p (.tup (xs++ys))))
theorem cu.nil_iff{xs:List V}(r:cu xs us):us=[]↔xs=[]:=by
 cases r with
 | nil=>simp
 | cons _ _=>simp
theorem tL:Ev X (HQ .Add) (sP X.K):=by
 intro pins s σ H x y v u Q I rx ry h
 obtain⟨a,b,xs,ys,rfl,rfl,ha,hb,hx,hz,q1,q2⟩:=h
 cases rx
 cases ry
 obtain⟨its,r1,p1,_⟩:=I.tuple ha
 obtain⟨its2,r2,p2,_⟩:=I.tuple hb
 refine HT.cat_tup p1 p2 (fun z=>hx (r1.nil_iff.mp z)) (fun z=>⟨.ref a,H,I,rfl,q1 (r2.nil_iff.mp z)⟩) (fun z=>?_) (by rw[<- r1.length,<- r2.length];exact hz)
 refine⟨.ref s.heap.objs.size,_,I.laid (t':=s.toks) (o:=.tup (xs++ys)) (fun b ob q=>E4 _ q) (Fa _) ?_,rfl,q2 (fun w=>z (r2.nil_iff.mpr w)) _ (I.hok.fresh (Fa _))⟩
 exact⟨by rw[Fj];exact hz,_,r1.append r2,oY.new _ _⟩
end
noncomputable def ixN(n:Nat)(i:Int):Option Nat:=if 0<=i then(if i<n then some i.toNat else none)else if -(n:Int)<=i then some (i+n).toNat else none
noncomputable def atI{α:Type}(xs:List α)(i:Int):Option α:=(ixN xs.length i).bind fun j=>xs[j]?
theorem ua{i:Int}(h:ixN n i=some j):seqIndex? i n=some j/\j<n /\ -(n:Int)<=i/\i<n:=by
 unfold ixN at h
 by_cases h0:0<=i
 · rw[if_pos h0]at h
   by_cases h1:i<n
   · rw[if_pos h1]at h
     have e:i.toNat=j:=Gr h
     exact⟨by rw[seqIndex_of h0 h1,e],by omega,by omega,h1⟩
   · rw[if_neg h1]at h;cases h
 · rw[if_neg h0]at h
   by_cases h1 : -(n:Int)<=i
   · rw[if_pos h1]at h
     have e:(i+n).toNat=j:=Gr h
     exact⟨by rw[seqIndex_neg (by omega) h1,e],by omega,h1,by omega⟩
   · rw[if_neg h1]at h;cases h
theorem j_{xs:List α}{i:Int}{v:α}(h:atI xs i=some v):∃j,seqIndex? i xs.length=some j/\xs[j]?=some v/\j<xs.length /\ -(xs.length:Int)<=i/\i<xs.length:=by
 unfold atI at h
 cases e:ixN xs.length i with
 | none=>rw[e]at h;cases h
 | some j =>
   rw[e]at h
   obtain⟨h1,h2,h3,h4⟩:=ua e
   exact⟨j,h1,h,h2,h3,h4⟩
theorem cW{xs:List α}{v:α}(h:xs[j]?=some v):atI xs (j:Int)=some v:=by
 have hj:j<xs.length:=(FK.mp h).1
 have e:ixN xs.length (j:Int)=some j:=by
  unfold ixN
  rw[if_pos (by omega),if_pos (by omega)];simp
 unfold atI;rw[e];exact h
noncomputable def i3(b:Expr):Prop:=∀o i,KI b false o i=operate [o,i] (JV o i)
noncomputable def ED(X:Cx)(r:R2):Prop :=
 ∀ (value slice:Expr)(pins:List (Addr×Obj))(s:E_)(σ:St)(H:Hp)(x y:V)(v u:E7)(Q:VK),Inv X pins σ H s->RelV x v->RelV y u->r x y H Q ->
   KI slice false v u=operate [v,u] (JV v u)->FH (FT X.prog X.w) X.A (KZ value slice v u) (EP X pins σ Q) X.xe s
noncomputable def Ex(X:Cx)(id:String)(r:V->List V->Hp->VK->Prop):Prop :=
 ∀ (pins:List (Addr×Obj))(s:E_)(σ:St)(H:Hp)(x:V)(xs:List V)(v:E7)(us:List E7)(Q:VK),Inv X pins σ H s->RelV x v->cu xs us->r x xs H Q ->
   FH (FT X.prog X.w) X.A (call (.builtin id) (v::us)) (EP X pins σ Q) X.xe s
section
variable{X:Cx}{a b:Expr}{ta tb:TE}{pos:Pos}
theorem ED.or{r r':R2}(h:ED X r)(h':ED X r'):ED X (fun x y H Q=>r x y H Q\/r' x y H Q):=by
 intro value slice pins s σ H x y v u Q I rx ry q hs
 rcases q with q|q
 · exact h value slice pins s σ H x y v u Q I rx ry q hs
 · exact h' value slice pins s σ H x y v u Q I rx ry q hs
theorem tE{r:R2}(hr:ED X r)(ha:PE X a ta)(hb:PE X b tb)(hs:i3 b):PE X (.Subscript a b pos) (Co r ta tb):=by
 intro pins s σ H Q I h
 exact Subscript_ (zC ha hb I h fun v u s2 x y H2 I2 rx ry q=>hr a b pins s2 σ H2 x y v u Q I2 rx ry q (hs _ _))
noncomputable def AT(K:W.Frag):R2:=fun x y H Q=>∃p xs i v,x = .ref p/\y = .int i/\D8 K H p xs/\atI xs i=some v/\Q v H
noncomputable def AR(K:W.Frag):R2:=fun x y H Q=>∃p xs i v,x = .ref p/\y = .int i/\D7 K H p xs/\atI xs i=some v/\Q v H
noncomputable def AS:R2:=fun x y H Q=>∃z i c,x = .str z/\y = .int i/\z.length<=sizeLine/\atI z.cps.toList i=some c/\Q (.str ⟨#[c]⟩) H
theorem zj:ED X (AT X.K):=by
 intro value slice pins s σ H x y v u Q I rx ry h hs
 obtain⟨p,xs,i,z,rfl,rfl,hq,he,q⟩:=h
 cases rx
 obtain⟨t,rfl⟩:=ry
 obtain⟨its,r,pl,hz⟩:=I.list hq
 obtain⟨j,h1,h2,h3,h4,h5⟩:=j_ he
 obtain⟨w,ew,rw'⟩:=r.get h2
 have hl:=r.length
 have hn:=kQ
 have fin:EP X pins σ Q w s:=⟨z,H,I,rw',q⟩
 by_cases h0:0<=i
 · have hj:i.toNat=j:=by
     rw[seqIndex_of h0 h5]at h1
     exact Gr h1
   exact item_listR pl.isList h0 (by omega) (by rw[hj];simpa using ew) fin hs
 · have hj:(i+(its.toArray.size:Int)).toNat=j:=by
     rw[seqIndex_neg (by omega) h4]at h1
     rw[Fw,<- hl]
     exact Gr h1
   exact J7 (x:=w) pl.isList.typeIs slot_list_getitem.lookup
    (wpAny_getItem_list_neg (Q:=fun r s'=>r=w/\EP X pins σ Q r s') pl.isList (by omega) (by rw[Fw]<;>omega) (by omega) (by rw[hj];simpa using ew) ⟨rfl,fin⟩) hs
theorem AY:ED X (AR X.K):=by
 intro value slice pins s σ H x y v u Q I rx ry h hs
 obtain⟨p,xs,i,z,rfl,rfl,hq,he,q⟩:=h
 cases rx
 obtain⟨t,rfl⟩:=ry
 obtain⟨its,r,pl,hz⟩:=I.tuple hq
 obtain⟨j,h1,h2,h3,h4,h5⟩:=j_ he
 obtain⟨w,ew,rw'⟩:=r.get h2
 have hl:=r.length
 have hn:=kQ
 have fin:EP X pins σ Q w s:=⟨z,H,I,rw',q⟩
 exact J7 (x:=w) pl.typeIs slot_tuple_getitem.lookup
  (getItem_tuple (j:=j) (Q:=fun r s'=>r=w/\EP X pins σ Q r s') pl (by omega) (by omega) (by rw[Fw,<- hl];exact h1) (by simpa using ew) ⟨rfl,fin⟩) hs
theorem xq:ED X AS:=by
 intro value slice pins s σ H x y v u Q I rx ry h hs
 obtain⟨z,i,c,rfl,rfl,hz,he,q⟩:=h
 obtain⟨t,rfl⟩:=rx
 obtain⟨t',rfl⟩:=ry
 obtain⟨j,h1,h2,h3,h4,h5⟩:=j_ he
 have hl:z.cps.toList.length=z.length:=by simp[Str.length]
 rw[hl]at h1 h4 h5
 have hn:=kQ
 exact tail_any (typeIs_str s z t) slot_str_getitem.lookup (getItem_str (c:=c) (by
  have e1:decide (i < -(2^63:Int))=false:=decide_eq_false (by omega)
  have e2:decide (i ≥ 2^63)=false:=decide_eq_false (by omega)
  rw[e1,e2,Bool.or_false]) (by rw[h1];simpa using h2) ⟨.str ⟨#[c]⟩,H,I.tok _,⟨_,rfl⟩,q⟩) hs
noncomputable def CP(K:W.Frag):R2:=fun x y H Q=>AT K x y H Q\/AR K x y H Q\/AS x y H Q
theorem nY:ED X (CP X.K):=zj.or (AY.or xq)
theorem i8(lo hi:Option Int)(n:Nat):(IS lo hi none n).1=((HT.sIx n 0 lo:Nat):Int)/\(IS lo hi none n).2.1=((HT.sIx n n hi:Nat):Int)/\(IS lo hi none n).2.2=1:=by
 refine⟨?_,?_,rfl⟩
 · cases lo with
   | none=>simp[IS,HT.sIx]
   | some i =>
     simp only[IS,HT.sIx,Option.getD_none,show(1:Int)>0 by decide,if_true]
     by_cases h:i<0
     · simp only[h,if_true]<;>omega
     · simp only[h,if_false]<;>omega
 · cases hi with
   | none=>simp[IS,HT.sIx]
   | some i =>
     simp only[IS,HT.sIx,Option.getD_none,show(1:Int)>0 by decide,if_true]
     by_cases h:i<0
     · simp only[h,if_true]<;>omega
     · simp only[h,if_false]<;>omega
theorem ij(its:List E7)(lo hi:Option Int):slicePick its.toArray lo hi none=((its.drop (HT.sIx its.length 0 lo)).take (HT.sIx its.length its.length hi-HT.sIx its.length 0 lo)).toArray:=by
 obtain⟨h1,h2,h3⟩:=i8 lo hi its.toArray.size
 unfold slicePick
 rw[h1,h2,h3]
 simp only[sliceRange_one,pick_run,Fw]<;>rfl
noncomputable def Bm(K:W.Frag):V->Option Int->Option Int->Hp->VK->Prop:=fun x lo hi H Q=>∃a xs,x = .ref a/\D8 K H a xs/\∀p,H p=none->Q (.ref p) (Cb H p (.lst (qw xs lo hi)))
theorem sC:Eb X (Bm X.K):=by
 intro pins s σ H x v vl vu lo hi sl Q I rx hs pl pu h
 obtain⟨a,xs,rfl,hx,q⟩:=h
 cases rx
 obtain⟨its,r,ht,hz⟩:=I.list hx
 have hlen:=r.length
 refine⟨"list", _,slot_list_getitem.lookup,ht.isList.typeIs,?_⟩
 refine wpAny_getItem_list_slice ht.isList hs pl pu .none (by simp) ?_ (by rw[Fw]<;>omega)
 rw[ij,<- hlen]
 refine⟨.ref s.heap.objs.size,_,I.laid (t':=s.toks) (o:=.lst (qw xs lo hi)) (fun b ob q=>E4 _ q) (Fa _) ?_,rfl,q _ (I.hok.fresh (Fa _))⟩
 exact⟨FP (fY xs lo hi) hz,_,0,(r.drop (HT.sIx xs.length 0 lo)).take (HT.sIx xs.length xs.length hi-HT.sIx xs.length 0 lo),FB _ rfl⟩
theorem ju:d8 X (.builtin "len") (fun xs H Q=>∃p ys,xs=[.ref p]/\(D8 X.K H p ys\/D7 X.K H p ys)/\Q (.int ys.length) H):=by
 intro pins s σ H xs us Q I r h
 obtain⟨p,ys,rfl,hq,q⟩:=h
 obtain⟨u,rfl,rx⟩:=vals1 r
 cases rx
 have hn:=kQ
 rcases hq with hq|hq
 · obtain⟨its,r',pl,hz⟩:=I.list hq
   have hlen:=r'.length
   exact Calls.call_len_list pl.isList (by simp only[Fw]<;>omega) ⟨.int ys.length,H,I.tok _,⟨s.toks+1,by rw[Fw,hlen]⟩,q⟩
 · obtain⟨its,r',pl,hz⟩:=I.tuple hq
   have hlen:=r'.length
   exact len_tuple pl (by simp only[Fw]<;>omega) ⟨.int ys.length,H,I.tok _,⟨s.toks+1,by rw[Fw,hlen]⟩,q⟩
theorem jt:d8 X (.type "list") (fun xs H Q=>∃p ys,xs=[.ref p]/\(D8 X.K H p ys\/D7 X.K H p ys)/\∀l,H l=none->Q (.ref l) (Cb H l (.lst ys))):=by
 intro pins s σ H xs us Q I r h
 obtain⟨p,ys,rfl,hq,q⟩:=h
 obtain⟨u,rfl,rx⟩:=vals1 r
 cases rx
 have fin:∀(its:List E7),cu ys its->ys.length<=sizeLine->∀(h':Heap)(c':Nat),(∀b o',s.heap.get? b=some o'->h'.get? b=some o') ->
  h'.get? s.heap.objs.size=some {cls:=.type "list", dict:=none,data:=.seq its.toArray c',slots:=#[]}->EP X pins σ Q (.ref s.heap.objs.size) {s with heap:=h' }:=fun its r' hz h' c' kp e =>
  ⟨.ref s.heap.objs.size,_,I.laid (t':=s.toks) kp (Fa _) (show cE X.prog X.w _ h' _ (.lst ys)from⟨hz,its,c',r',e⟩),rfl,q _ (I.hok.fresh (Fa _))⟩
 rcases hq with hq|hq
 · obtain⟨its,r',pl,hz⟩:=I.list hq
   have hlen:=r'.length
   obtain⟨o,ho,hc,n,hd⟩:=pl.isList
   exact call_list_seq p (.inl rfl) ho hc hd (fun h' c' kp e=>fin its r' hz h' c' kp e) (by simp only[Fw]<;>omega)
 · obtain⟨its,r',pl,hz⟩:=I.tuple hq
   have hlen:=r'.length
   obtain⟨o,ho,hc,n,hd⟩:=pl
   exact call_list_seq p (.inr rfl) ho hc hd (fun h' c' kp e=>fin its r' hz h' c' kp e) (by simp only[Fw]<;>omega)
theorem iX:d8 X (.type "tuple") (fun xs H Q=>∃p ys,xs=[.ref p]/\((D8 X.K H p ys/\∀l,H l=none->Q (.ref l) (Cb H l (.tup ys)))\/(D7 X.K H p ys/\Q (.ref p) H))):=by
 intro pins s σ H xs us Q I r h
 obtain⟨p,ys,rfl,h⟩:=h
 obtain⟨u,rfl,rx⟩:=vals1 r
 cases rx
 rcases h with⟨hq,q⟩|⟨hq,q⟩
 · obtain⟨its,r',pl,hz⟩:=I.list hq
   have hlen:=r'.length
   refine call_tuple_list pl.isList (fun h' kp=>?_) (by simp only[Fw]<;>omega)
   have I1:Inv X pins σ H {s with heap:=h' }:=I.kept (t':=s.toks) kp
   have I2:Inv X pins σ (Cb H h'.objs.size (.tup ys)) {s with heap:=h'.push {cls:=.type "tuple", data:=.seq its.toArray}} :=
    I1.laid (t':=s.toks) (fun b o e=>E4 _ e) (Fa _) (show cE X.prog X.w _ _ _ (.tup ys)from⟨hz,its,r',oY.new _ _⟩)
   exact⟨.ref h'.objs.size,_,I2,rfl,q _ (I1.hok.fresh (Fa _))⟩
 · obtain⟨its,r',pl,hz⟩:=I.tuple hq
   exact call_tuple_same pl ⟨.ref p,H,I,rfl,q⟩
noncomputable def Ce(K:W.Frag)(T:String)(x:V)(H:Hp):Prop:=match x with
 | .str _=>T = "str"
 | .int _=>T = "int"
 | .ref p=>(T = "list" /\ ∃xs,D8 K H p xs)\/(T = "tuple" /\ ∃xs,D7 K H p xs) \/
     (T = "dict" /\ ((∃kvs,H p=some (.dK kvs))\/∃kvs,H p=some (.dT kvs)))\/(T = "set" /\ ∃S n,H p=some (.set S n))
 | _=>False
theorem vy{T:String}{x:V}{v:E7}(I:Inv X pins σ H s)(r:RelV x v)(ty:Ce X.K T x H) :
 s.TypeIs v T/\∀a,v = .ref a->∃ob,s.heap.get? a=some ob/\ob.dict=none:=by
 cases x with
 | str z =>
   obtain⟨t,rfl⟩:=r
   cases(show T = "str" from ty)
   exact⟨typeIs_str s z t,fun _ e=>nomatch e⟩
 | int i =>
   obtain⟨t,rfl⟩:=r
   cases(show T = "int" from ty)
   exact⟨typeIs_int s i t,fun _ e=>nomatch e⟩
 | ref p =>
   cases r
   rcases ty with⟨rfl,xs,hq⟩|⟨rfl,xs,hq⟩|⟨rfl,hk⟩|⟨rfl,S,n,hk⟩
   · obtain⟨its,_,pl,_⟩:=I.list hq
     refine⟨pl.isList.typeIs,fun a e=>?_⟩
     cases e
     obtain⟨o,n,e,c,hd,_⟩:=pl
     exact⟨o,e,hd⟩
   · obtain⟨o,e1,e2,e3⟩:=I.tupleD hq
     refine⟨⟨o,e1,e2⟩,fun a e=>?_⟩
     cases e
     exact⟨o,e1,e3⟩
   · have z:∃o,s.heap.get? p=some o/\o.ExactDict:=by
       rcases hk with⟨kvs,hk⟩|⟨kvs,hk⟩
       · obtain⟨_,_,_,_,o,_,_,e,ex,_⟩:=I.hok p _ hk
         exact⟨o,e,ex⟩
       · obtain⟨_,_,_,_,o,_,_,e,ex,_⟩:=I.hok p _ hk
         exact⟨o,e,ex⟩
     obtain⟨o,e,ex⟩:=z
     refine⟨⟨o,e,ex.1⟩,fun a e2=>?_⟩
     cases e2
     exact⟨o,e,ex.2.1⟩
   · obtain⟨o,_,_,_,e,ex,_⟩:=I.hok p _ hk
     refine⟨⟨o,e,ex.1⟩,fun a e2=>?_⟩
     cases e2
     exact⟨o,e,ex.2.1⟩
 | _=>exact GR ty
noncomputable def Cs(K:W.Frag)(T:String)(r:V->List V->Hp->VK->Prop)(to:TE)(t:TA):TE:=fun σ H Q=>to σ H fun x H1=>Ce K T x H1/\t σ H1 fun xs H2=>r x xs H2 Q
variable{o e:Expr}{es:List Expr}{to:TE}{t:TA}{name:Str}{apos cpos:Pos}{T id:String}{r:V->List V->Hp->VK->Prop}
theorem wH(pa:PlainAttrs T)(slot:Slot T name id)(hty:typeOf (.builtin id)=pure (.type "method_descriptor"))(hm:Ex X id r)(ho:PE X o to)(ha:PA X (e::es) t)
 (hbase:II o name X.env (eval o X.env)=eval o X.env:=by rfl)
 (hfew:((GQ cpos (Fg (e::es) X.env)).all (fun x=>!x.1)&&(JT cpos (Iz [] X.env)).all (fun x=>x.1.isSome)
  && decide ((e::es).length+([]:List IR).length+(if([]:List IR).isEmpty then 0 else 1)<30))=true:=by rfl)
 (hline:(apos.endLine==cpos.line)=true:=by rfl)(hs:Fg (e::es) X.env=(false,eval e X.env)::Fg es X.env:=by rfl)(hplain:(GQ cpos (Fg es X.env)).any (·.1)=false:=by rfl) :
 PE X (.Call (.Attribute o name apos) (e::es) [] cpos) (Cs X.K T r to t):=by
 intro pins s σ H Q I h
 refine wpAny_Call_method_late hbase hfew hline rfl (Cj (ho pins s σ H _ I h) fun v s1 ⟨x,H1,I1,r1,ty,q1⟩=>?_)
 obtain⟨h1,h2⟩:=vy I1 r1 ty
 refine⟨T,id,pa,slot,hty,h1,h2,?_⟩
 have hA:=ha cpos pins s1 σ H1 _ I1 q1
 rw[hs]at hA ⊢
 refine Calls.callWith_builtin (by show(false||(GQ cpos (Fg es X.env)).any (·.1))=false;rw[hplain]<;>rfl) (Calls.evalArgs_plain ?_)
 exact Cj hA fun us s2 ⟨vs,H2,I2,r2,q2⟩=>hm pins s2 σ H2 x vs v us Q I2 r1 r2 q2
end
noncomputable def Ey(X:Cx)(id:String)(r:V->List V->Hp->VK->Prop):Prop :=
 ∀ (pins:List (Addr×Obj))(s:E_)(σ:St)(H:Hp)(x:V)(xs:List V)(v:E7)(us:List E7)(Q:VK),Inv X pins σ H s->RelV x v->cu xs us->r x xs H Q ->
   FH (FT X.prog X.w) X.A (call (.builtin id) (v::us)) (EP X pins σ Q) X.xe s
theorem cu.one:∀{x:V}{us:List E7},cu [x] us->∃u,us=[u]/\RelV x u
 | _,_,.cons r .nil=>⟨_,rfl,r⟩
theorem cu.rep{xs:List V}{us:List E7}(h:cu xs us):∀k:Nat,cu (FQ k xs).flatten (FQ k us).flatten
 | 0=>.nil
 | k+1=>by
   rw[GL,GL,HJ,HJ]
   exact cu.append h (cu.rep h k)
theorem foldl_rep(its:List E7):∀(k:Nat)(acc:List E7),
 List.foldl (fun x1 x2=>x1++x2) acc.toArray (FQ k its.toArray)=(acc++(FQ k its).flatten).toArray
 | 0,acc=>by simp
 | k+1,acc=>by
   have e:acc.toArray++its.toArray=(acc++its).toArray:=by simp
   have e2:(acc++its)++(FQ k its).flatten=acc++(FQ (k+1) its).flatten:=by
    rw[GL,HJ,Il]
   rw[<- e2,<- foldl_rep its k (acc++its),<- e,GL,HK]
section
variable{X:Cx}{pins:List (Addr×Obj)}{σ:St}{H:Hp}{s:E_}{l b:Addr}{xs ys zs:List V}
theorem Inv.lset{its its':List E7}{f:Array E7->Array E7}(I:Inv X pins σ H s)(hH:H l=some (.lst xs))
 (e:s.heap.get? l=some {cls:=.type "list", data:=.seq its.toArray n})(hf:f its.toArray=its'.toArray)(hv:cu ys its')(hz:ys.length<=sizeLine) :
 Inv X pins σ (Cb H l (.lst ys)) {s with heap:=s.heap.update l (K9 f),toks:=t' }:=by
 have q:=PySem.IsL.update e f
 rw[hf]at q
 refine I.write (x:=l) (e:=l) (by rw[hH];exact trivial) (.inl rfl) (fun b' u hb hu=>(GS s.heap (K9 f) (KF hb)).trans hu) ⟨_,q⟩ ?_
 exact⟨hz,its',_,hv,q⟩
theorem Inv.lnew{its:List E7}(I:Inv X pins σ H s)(hv:cu ys its)(hz:ys.length<=sizeLine) :
 Inv X pins σ (Cb H s.heap.objs.size (.lst ys)) {s with heap:=s.heap.push {cls:=.type "list", data:=.seq its.toArray},toks:=t' } :=
 I.laid (fun _ _ q=>E4 _ q) (Fa _) ⟨hz,its,0,hv,FB _ rfl⟩
theorem Inv.fresh(I:Inv X pins σ H s):H s.heap.objs.size=none:=I.hok.fresh (Fa _)
theorem Inv.lstM(I:Inv X pins σ H s)(hH:H l=some (.lst xs)):xs.length<=sizeLine/\∃(its:List E7)(n:Nat),cu xs its/\xs.length=its.length/\s.heap.get? l=some {cls:=.type "list", data:=.seq its.toArray n}:=by
 obtain⟨z,its,n,r,e⟩:=I.hok l _ hH
 exact⟨z,its,n,r,r.length,e⟩
theorem kJ(h:n<=sizeLine):HL n=false:=by
 unfold HL
 exact decide_eq_false (by omega)
end
section
variable{X:Cx}
noncomputable def mZ:V->List V->Hp->VK->Prop:=fun x vs H Q=>∃l xs y,x = .ref l/\vs=[y]/\H l=some (.lst xs)/\xs.length<sizeLine/\Q .non (Cb H l (.lst (xs++[y])))
theorem dQ:Ey X "list.append" mZ:=by
 intro pins s σ H x vs v us Q I rx rv h
 obtain⟨l,xs,y,rfl,rfl,hH,hz,q⟩:=h
 cases rx
 obtain⟨u,rfl,ru⟩:=rv.one
 obtain⟨z,its,n,r,hl,e⟩:=I.lstM hH
 refine Kr F.slot_list_append ⟨_,e,rfl⟩ F.entry_list_append (F.args_list_append_2 _ _) (PySem.list_append l its.toArray n u (by rw[Fw];omega)) ⟨e,?_⟩
 refine⟨.non,_,I.lset (its':=its++[u]) hH e (by simp) (r.append (.cons ru .nil)) ?_,rfl,q⟩
 rw[Fj,I_]
 omega
noncomputable def mY:V->List V->Hp->VK->Prop:=fun x vs H Q=>∃l b xs zs,x = .ref l/\vs=[.ref b]/\H l=some (.lst xs)/\H b=some (.lst zs)/\xs.length+zs.length<=sizeLine/\Q .non (Cb H l (.lst (xs++zs)))
theorem nF:Ey X "list.extend" mY:=by
 intro pins s σ H x vs v us Q I rx rv h
 obtain⟨l,b,xs,zs,rfl,rfl,hH,hB,hz,q⟩:=h
 cases rx
 obtain⟨u,rfl,ru⟩:=rv.one
 cases ru
 obtain⟨z,its,n,r,hl,e⟩:=I.lstM hH
 obtain⟨z2,its2,n2,r2,hl2,e2⟩:=I.lstM hB
 have hsz:its.toArray.size+its2.toArray.size<=sizeLine:=by rw[Fw,Fw];omega
 have hlong:¬(!its.toArray.isEmpty&&HL (its.toArray.size+its2.toArray.size))=true:=by
  rw[kJ hsz,Bool.and_false]
  exact FO
 refine Kr F.slot_list_extend ⟨_,e,rfl⟩ F.entry_list_extend (F.args_list_extend_2 _ _)
  (AutoSeq1.list_extend_list_list_0 l its.toArray n b its2.toArray n2 hlong (by rw[Fw];omega) (by omega)) ⟨e,e2,?_⟩
 refine⟨.non,_,I.lset (its':=its++its2) hH e (by simp) (r.append r2) ?_,rfl,q⟩
 rw[Fj]
 omega
noncomputable def AU:R2:=fun x y H Q=>∃l b xs zs,x = .ref l/\y = .ref b/\H l=some (.lst xs)/\H b=some (.lst zs)/\xs.length+zs.length<=sizeLine/\∀p,H p=none->Q (.ref p) (Cb H p (.lst (xs++zs)))
theorem wQ:Ev X (HQ .Add) AU:=by
 intro pins s σ H x y v u Q I rx ry h
 obtain⟨l,b,xs,zs,rfl,rfl,hH,hB,hz,q⟩:=h
 cases rx
 cases ry
 obtain⟨z,its,n,r,hl,e⟩:=I.lstM hH
 obtain⟨z2,its2,n2,r2,hl2,e2⟩:=I.lstM hB
 refine PySem.P.add_list e e2 ?_ (by rw[Fw,Fw];omega)
 have ea:its.toArray++its2.toArray=(its++its2).toArray:=by simp
 rw[ea]
 exact⟨.ref _,_,I.lnew (t':=s.toks) (r.append r2) (by rw[Fj];omega),rfl,q _ I.fresh⟩
noncomputable def AQ:R2:=fun x y H Q=>∃l k xs,x = .ref l/\y = .int k/\H l=some (.lst xs) /\ -(2^63)<=k/\k<2^63/\xs.length*k.toNat<=sizeLine /\
 ∀p,H p=none->Q (.ref p) (Cb H p (.lst (FQ k.toNat xs).flatten))
theorem t9(xs:List α)(k:Nat):(FQ k xs).flatten.length=k*xs.length:=by
 induction k with
 | zero=>simp
 | succ k ih=>rw[GL,HJ,Fj,ih,Nat.succ_mul,Nat.add_comm]
theorem wM:Ev X (HQ .Mult) AQ:=by
 intro pins s σ H x y v u Q I rx ry h
 obtain⟨l,k,xs,rfl,rfl,hH,h1,h2,hz,q⟩:=h
 cases rx
 obtain⟨t,rfl⟩:=ry
 obtain⟨z,its,n,r,hl,e⟩:=I.lstM hH
 have hlen:its.toArray.size*k.toNat<=sizeLine:=by rw[Fw,<- hl];exact hz
 have hcap:¬its.toArray.size*k.toNat>(2^63-1) / 8:=by
  have:(sizeLine:Nat)<=(2^63-1) / 8:=by decide
  omega
 have hfit:¬(!Ir k)=true:=by
  rw[fitsIndex_both h1 h2]
  exact FO
 have hlong:¬HL (its.toArray.size*k.toNat)=true:=by
  rw[kJ hlen]
  exact FO
 have hnew:List.foldl (fun x1 x2=>x1++x2) #[] (FQ (if its.toArray.isEmpty=true then 0 else k.toNat) its.toArray)=(FQ k.toNat its).flatten.toArray:=by
  have f0:∀m:Nat,List.foldl (fun x1 x2=>x1++x2) #[] (FQ m its.toArray)=(FQ m its).flatten.toArray:=fun m=>by
   have:=foldl_rep its m []
   rw[List.nil_append]at this
   exact this
  rw[f0]
  cases its with
  | nil=>simp
  | cons a r'=>rw[if_neg (by simp)]
 refine wpAny_binaryOp_repeat_ref (T := "list") (U := "int") (by decide) ⟨_,e,rfl⟩ (fun s'=>typeIs_int s' k t) noFill_list_mul F.fills_int_mul F.slot_int_rmul repeat_list F.slot_int_index.lookup
  (Kr F.slot_int_rmul (typeIs_int s k t) F.entry_int_rmul (F.args_int_rmul_2 _ _) (int___rmul___int_list k t l its.toArray n)
   ⟨e,rfl,⟨_,e,rfl⟩,Kr F.slot_list_mul ⟨_,e,rfl⟩ F.entry_list_mul (F.args_list_mul_2 _ _) (AutoListH.list___mul___list_int_3 l its.toArray n k t hfit hcap hlong) ⟨e,?_⟩⟩)
 rw[hnew]
 exact⟨.ref _,_,I.lnew (t':=s.toks) (r.rep k.toNat) (by rw[t9,JF];exact hz),rfl,q _ I.fresh⟩
end
section
variable{prog:FS}{w:GD}{A:GJ}{E:E7->E_->Prop}{s:E_}
end
section
variable{X:Cx}
end
section
variable{κ:Type}[DecidableEq κ]
noncomputable def eQ(kvs:List (κ×V))(k:κ):Option V:=(kvs.find? fun kv=>decide (kv.1=k)).map (·.2)
noncomputable def cY(kvs:List (κ×V))(k:κ)(v:V):List (κ×V) :=
 if(kvs.any fun kv=>decide (kv.1=k))=true then kvs.map (fun kv=>if kv.1=k then(kv.1,v)else kv)else kvs++[(k,v)]
theorem cI{p:κ×V}{r:List (κ×V)}{k:κ}(e:p.1=k):eQ (p::r) k=some p.2:=by simp[eQ,GE,e]
theorem ie{p:κ×V}{r:List (κ×V)}{k:κ}(e:¬p.1=k):eQ (p::r) k=eQ r k:=by simp[eQ,GE,e]
theorem ki(k:κ):∀kvs:List (κ×V),(kvs.any fun kv=>decide (kv.1=k))=(eQ kvs k).isSome
 | []=>rfl
 | p::r=>by
   rw[IJ]
   by_cases e:p.1=k
   · simp only[cI e,decide_eq_true e,Bool.true_or,Option.isSome_some]
   · rw[ie e,decide_eq_false e,Bool.false_or];exact ki k r
theorem cO(kvs:List (κ×V))(k:κ)(v:V):(cY kvs k v).length<=kvs.length+1:=by
 unfold cY
 split
 · rw[Fd];omega
 · rw[Fj,FJ,Jp];omega
theorem uO.isSome_eq{o:Option V}{u:Option E7}(r:uO o u):o.isSome=u.isSome:=by
 cases o with
 | none=>cases u with
   | none=>rfl
   | some _=>exact(show False from r).elim
 | some _=>cases u with
   | none=>exact(show False from r).elim
   | some _=>rfl
theorem KV.val{kvs:List (κ×V)}{vs:List (κ×E7)}(r:KV kvs vs)(k:κ):uO (eQ kvs k) (K_ vs k):=by
 unfold KV at r
 induction r with
 | nil=>exact Jk
 | @cons p q ps qs h t ih =>
   obtain⟨h1,h2⟩:=h
   by_cases e:p.1=k
   · have e':q.1=k:=h1.symm.trans e
     have b:K_ (q::qs) k=some q.2:=by simp[K_,GE,e']
     rw[cI e,b];exact h2
   · have e':¬q.1=k:=fun z=>e (h1.trans z)
     have b:K_ (q::qs) k=K_ qs k:=by simp[K_,GE,e']
     rw[ie e,b];exact ih
theorem KV.any{kvs:List (κ×V)}{vs:List (κ×E7)}(r:KV kvs vs)(k:κ):(kvs.any fun kv=>decide (kv.1=k))=vs.any fun kv=>decide (kv.1=k):=by
 unfold KV at r
 induction r with
 | nil=>rfl
 | cons h t ih=>rw[IJ,IJ,ih,h.1]
theorem KV.repl{kvs:List (κ×V)}{vs:List (κ×E7)}(r:KV kvs vs)(k:κ){y:V}(ry:RelV y u) :
 KV (kvs.map fun kv=>if kv.1=k then(kv.1,y)else kv) (vs.map fun kv=>if kv.1=k then(kv.1,u)else kv):=by
 unfold KV at r ⊢
 induction r with
 | nil=>exact .nil
 | @cons p q ps qs h t ih =>
   rw[Gi,Gi]
   refine .cons ?_ ih
   obtain⟨h1,h2⟩:=h
   by_cases e:p.1=k
   · rw[if_pos e,if_pos (h1.symm.trans e)];exact⟨h1,ry⟩
   · rw[if_neg e,if_neg (fun z=>e (h1.trans z))];exact⟨h1,h2⟩
theorem KV.put{kvs:List (κ×V)}{vs:List (κ×E7)}(r:KV kvs vs)(k:κ){y:V}(ry:RelV y u):KV (cY kvs k y) (stored vs k u):=by
 unfold cY stored
 rw[r.any k]
 by_cases e:(vs.any fun kv=>decide (kv.1=k))=true
 · rw[if_pos e,if_pos e];exact r.repl k ry
 · rw[if_neg e,if_neg e];exact Gy.snoc r ⟨rfl,ry⟩
theorem KV.keys{kvs:List (κ×V)}{vs:List (κ×E7)}(r:KV kvs vs):kvs.map (·.1)=vs.map (·.1):=by
 unfold KV at r
 induction r with
 | nil=>rfl
 | cons h t ih=>rw[Gi,Gi,ih,h.1]
theorem KV.length{kvs:List (κ×V)}{vs:List (κ×E7)}(r:KV kvs vs):kvs.length=vs.length:=Ii r
end
theorem nX{k:EA}(r:RelV (kV k) u):(bA P w).is k u=true:=by
 cases k with
 | inl i=>obtain⟨t,e⟩:=(show ∃t,u=Kb i t from r);subst e;exact jR P w i t
 | inr x=>obtain⟨t,e⟩:=(show ∃t,u=KQ x t from r);subst e;exact jQ P w x t
theorem jp{P:FS}{w:GD}:∀{ks:List EA}{us:List E7},cu (ks.map kV) us->ItemsAre (bA P w) ks us
 | [],_,r=>by rw[JE]at r;cases r;exact .nil
 | k::ks,_,r=>by
   rw[Gi]at r
   cases r with
   | cons h t=>exact .cons (nX h) (jp t)
abbrev KT(H:Hp):List (List EA×V)->List (List EA×Addr×E7)->Prop:=Gy fun p q=>p.1=q.1/\H q.2.1=some (.tup (p.1.map kV))/\RelV p.2 q.2.2
theorem KT.val{xs:List (List EA×Addr×E7)}(r:KT H kvs xs)(k:List EA):uO (eQ kvs k) ((LF xs k).map (·.2)):=by
 induction r with
 | nil=>exact Jk
 | @cons p q ps qs h t ih =>
   obtain⟨h1,_,h2⟩:=h
   by_cases e:p.1=k
   · have e':q.1=k:=h1.symm.trans e
     have b:LF (q::qs) k=some q.2:=by simp[LF,GE,e']
     rw[cI e,b];exact h2
   · have e':¬q.1=k:=fun z=>e (h1.trans z)
     have b:LF (q::qs) k=LF qs k:=by simp[LF,GE,e']
     rw[ie e,b];exact ih
theorem KT.repl{xs:List (List EA×Addr×E7)}(r:KT H kvs xs)(k:List EA){y:V}(ry:RelV y u) :
 KT H (kvs.map fun kv=>if kv.1=k then(kv.1,y)else kv) (xs.map (putAt k u)):=by
 induction r with
 | nil=>exact .nil
 | @cons p q ps qs h t ih =>
   rw[Gi,Gi]
   refine .cons ?_ ih
   obtain⟨h1,h2,h3⟩:=h
   unfold putAt
   by_cases e:p.1=k
   · rw[if_pos e,if_pos (h1.symm.trans e)];exact⟨h1,h2,ry⟩
   · rw[if_neg e,if_neg (fun z=>e (h1.trans z))];exact⟨h1,h2,h3⟩
theorem KT.put{xs:List (List EA×Addr×E7)}(r:KT H kvs xs)(k:List EA){y:V}(hb:H b=some (.tup (k.map kV)))(ry:RelV y u) :
 KT H (cY kvs k y) (storedH xs k b u):=by
 have e:(kvs.any fun kv=>decide (kv.1=k))=(LF xs k).isSome:=by
  rw[ki,(r.val k).isSome_eq,Option.isSome_map]
 unfold cY storedH
 rw[e]
 by_cases q:(LF xs k).isSome=true
 · rw[if_pos q,if_pos q];exact r.repl k ry
 · rw[if_neg q,if_neg q];exact Gy.snoc r ⟨rfl,hb,ry⟩
theorem KT.keeps{xs:List (List EA×Addr×E7)}(r:KT H kvs xs)(ht:∀b ys,H b=some (.tup ys)->H' b=some (.tup ys)):KT H' kvs xs :=
 Gy.mapP r fun _ _ z=>⟨z.1,ht _ _ z.2.1,z.2.2⟩
section
variable{P:FS}{w:GD}{H:Hp}{h:Heap}{a:Addr}
theorem wa{u:HO}(ok:EL P w H h)(e:Rd H a u):cE P w H h a u:=e.ok ok
theorem qv{kvs:List (EA×V)}(ok:EL P w H h)(e:Rd H a (.dK kvs)):kvs.length<=sizeLine/\(a==Ij)=false/\∃vs,KV kvs vs/\h.DictOf (bA P w) a vs :=
 show cE P w H h a (.dK kvs)from wa ok e
theorem uz{kvs:List (EA×V)}(ok:EL P w H h)(e:H a=some (.dK kvs)):kvs.length<=sizeLine/\(a==Ij)=false/\∃vs,KV kvs vs/\h.DictOf (bA P w) a vs:=qv ok (.inl e)
theorem nU{ks:List EA}(ok:EL P w H h)(e:H a=some (.tup (ks.map kV))):(KR (bA P w)).is h ks a:=by
 obtain⟨_,its,r,o,h1,h2,⟨n,h3⟩,_⟩:=(show cE P w H h a (.tup (ks.map kV))from ok a _ e)
 exact⟨o,its.toArray,n,h1,h2,h3,by simpa using jp r⟩
theorem ux(ok:EL P w H h)(e:Rd H a (.dT kvs)):kvs.length<=sizeLine/\(a==Ij)=false /\
 ∃xs,KT H kvs xs/\h.DictOfH (KR (bA P w)) a xs:=by
 obtain⟨z,y,xs,r,o,es,ep,h1,h2,h3,h4,h5⟩:=(show cE P w H h a (.dT kvs)from wa ok e)
 refine⟨z,y,xs,r,o,es,ep,h1,h2,h3,h4,fun x hx=>?_,h5⟩
 have all:∀{l:List (List EA×V)}{m:List (List EA×Addr×E7)},KT H l m->∀x∈m,(KR (bA P w)).is h x.1 x.2.1:=by
  intro l m q
  induction q with
  | nil=>intro x hx;exact nomatch hx
  | @cons p q ps qs hq t ih =>
    intro x hx
    rcases FN.mp hx with e|hx
    · subst e
      exact nU ok (by rw[<- hq.1];exact hq.2.1)
    · exact ih x hx
 exact all r x hx
theorem zA(ok:EL P w H h)(e:H a=some (.dT kvs)):kvs.length<=sizeLine/\(a==Ij)=false /\
 ∃xs,KT H kvs xs/\h.DictOfH (KR (bA P w)) a xs:=ux ok (.inl e)
end
noncomputable def yb(H:Hp)(a:Addr)(y:V)(r:Option V):Prop :=
 (∃kvs k,Rd H a (.dK kvs)/\y=kV k/\r=eQ kvs k)\/∃kvs k b,Rd H a (.dT kvs)/\y = .ref b/\H b=some (.tup (k.map kV))/\r=eQ kvs k
noncomputable def zG(H:Hp)(a:Addr)(y v:V)(H':Hp):Prop :=
 (∃kvs k,H a=some (.dK kvs)/\y=kV k/\kvs.length<sizeLine/\H'=Cb H a (.dK (cY kvs k v))) \/
 ∃kvs k b,H a=some (.dT kvs)/\y = .ref b/\H b=some (.tup (k.map kV))/\kvs.length<sizeLine/\H'=Cb H a (.dT (cY kvs k v))
theorem yb.k{H:Hp}{a:Addr}{kvs:List (EA×V)}{k:EA}(e:H a=some (.dK kvs)):yb H a (kV k) (eQ kvs k):=.inl ⟨kvs,k,.inl e,rfl,rfl⟩
theorem zG.k{H:Hp}{a:Addr}{kvs:List (EA×V)}{k:EA}{v:V}(e:H a=some (.dK kvs))(hl:kvs.length<sizeLine):zG H a (kV k) v (Cb H a (.dK (cY kvs k v))):=.inl ⟨kvs,k,e,rfl,hl,rfl⟩
section
variable{X:Cx}{pins:List (Addr×Obj)}{σ:St}{H:Hp}{s:E_}{a:Addr}{y v:V}{u r:E7}{o:Option V}{A:GJ}{E:E7->E_->Prop}
theorem Inv.big(I:Inv X pins σ H s):Ij<s.heap.objs.size:=by
 have h:Gq<s.heap.objs.size:=(I.mod.glob.keeps I.bk).lt
 exact Nat.lt_trans (by decide) h
theorem oC(hu:A.units+1<LA)(I:Inv X pins σ H s)(g:yb H a y (some v))(ry:RelV y u)(h:∀w' s',Inv X pins σ H s'->RelV v w'->Q w' s') :
 FH (FT X.prog X.w) A (JV (.ref a) u) Q E s:=by
 rcases g with⟨kvs,k,e,ey,l⟩|⟨kvs,k,b,e,ey,eb,l⟩
 · subst ey
   obtain⟨z,hd,vs,rel,dd⟩:=qv I.hok e
   obtain⟨w',hw,rw'⟩:=uO.some_of (v:=v) (o:=K_ vs k) (by rw[l];exact rel.val k)
   exact wpAny_getItem_of (nX ry) dd.mapOf hw (h w' _ (I.tok _) rw')
 · subst ey
   cases(show u=HD b from ry)
   obtain⟨z,hd,xs,rel,dd⟩:=ux I.hok e
   obtain⟨w',hw,rw'⟩:=uO.some_of (v:=v) (o:=(LF xs k).map (·.2)) (by rw[l];exact rel.val k)
   obtain⟨p,hp,hp2⟩:=IM.mp hw
   refine wpAny_getItem_heap (tupleKind_room_in1 hu) (nU I.hok eb) dd hp ?_
   rw[hp2]
   exact h w' _ (I.tok _) rw'
theorem iU{ob:HO}(I:Inv X pins σ H s)(mu:Ew (H a))(hs:HM a s.heap h')(he:∃q,h'.get? a=some q)(new:cE X.prog X.w (Cb H a ob) h' a ob) :
 Inv X pins σ (Cb H a ob) {s with heap:=h',toks:=t' } :=
 I.write (x:=a) (e:=a) mu (.inl rfl) (fun b q hb z=>(hs.2 b hb).trans z) he new
theorem dk_new{kvs:List (EA×V)}{vs:List (EA×E7)}(z:kvs.length<=sizeLine)(hd:(a==Ij)=false)(rel:KV kvs vs)(dd:h'.DictOf (bA P w) a vs) :
 cE P w H' h' a (.dK kvs):=⟨z,hd,vs,rel,dd⟩
theorem oB{Q:Unit->E_->Prop}(hu:A.units+1<LA)(I:Inv X pins σ H s)(g:zG H a y v H')(ry:RelV y u)(rv:RelV v r)(h:∀s',Inv X pins σ H' s'->Q () s') :
 FH (FT X.prog X.w) A (setItem (.ref a) u r) Q E s:=by
 rcases g with⟨kvs,k,e,ey,l,eH⟩|⟨kvs,k,b,e,ey,eb,l,eH⟩
 · subst ey eH
   obtain⟨z,hd,vs,rel,dd⟩:=uz I.hok e
   have hz:vs.length<=sizeLine:=by rw[<- rel.length];exact z
   have hl:(cY kvs k v).length<=sizeLine:=by have:=cO kvs k v;omega
   refine wpAny_setItem_pairs (hsz:=hz) (nX ry) dd fun h' dd' hs=>h _ ?_
   have he:∃q,h'.get? a=some q:=let ⟨q,_,_,hq,_⟩:=dd';⟨q,hq⟩
   exact iU I (by rw[e];exact Jk) hs he (dk_new hl hd (rel.put k rv) dd')
 · subst ey eH
   cases(show u=HD b from ry)
   obtain⟨z,hd,xs,rel,dd⟩:=zA I.hok e
   have hz:xs.length<=sizeLine:=by rw[<- Ii rel];exact z
   have hl:(cY kvs k v).length<=sizeLine:=by have:=cO kvs k v;omega
   refine wpAny_setItem_heap (hsz:=hz) (tupleKind_room_in1 hu) (nU I.hok eb) dd fun h' dd' hs=>h _ ?_
   obtain⟨q,es,ep,hq,h2,h3,h4,_,h5⟩:=dd'
   refine iU I (by rw[e];exact Jk) hs ⟨q,hq⟩ ⟨hl,hd,_,(rel.put k eb rv).keeps fun c ys ec=>?_,q,es,ep,hq,h2,h3,h4,h5⟩
   rw[ak (y7 ec e (fun z=>nomatch z))]
   exact ec
end
section
variable{X:Cx}{pins:List (Addr×Obj)}{σ:St}{H:Hp}{s:E_}{a:Addr}{kvs:List (EA×V)}{k:EA}{u:E7}{A:GJ}{E:E7->E_->Prop}
end
noncomputable def uR(i:Expr):Prop:=∀ov iv,KI i false ov iv=operate [ov,iv] (JV ov iv)
theorem sy{prog:FS}{env:Env}{value slice:Expr}{T id:String}
 (hl:typeLookup (.type T) "__getitem__" = pure (some (.builtin id)))(hs:uR slice)
 (h:FH (FT prog w) A (eval value env) (fun o s₁=>FH (FT prog w) A (eval slice env) (fun i s₂=>s₂.TypeIs o T/\FH (FT prog w) A (JV o i) Q E s₂) E s₁) E s) :
 FH (FT prog w) A (eval (.Subscript value slice pos) env) Q E s:=by
 refine Subscript_ (FX h (fun o s₁ h₁=>FX h₁ (fun i s₂ h₂=>?_) fun _ _ x=>x) fun _ _ x=>x)
 obtain⟨hT,h₂⟩:=h₂
 unfold KZ
 refine EZ ?_
 rw[getitemInPython_of_ne hT.not_modules]
 refine EZ (wpAny_specialOf hT hl ?_)
 have fin:FH (FT prog w) A (KI slice false o i) (fun r s₃=>FH (FT prog w) A (letTemporaryGo value o r >>= fun _=>pure r) Q E s₃) E s₂:=by
  rw[hs o i]
  exact wpAny_operating (FX h₂ (fun r s₃ h₃=>EZ (wpAny_letTemporaryGo (Fh h₃))) fun _ _ x=>x)
 first
  | exact Fh (EZ fin)
  | exact EZ (Fh (EZ fin))
  | exact EZ fin
theorem jX{y:V}{o:Option V}(I:Inv X pins σ H s)(g:yb H a y o):s.TypeIs (.ref a) "dict" := by
 rcases g with⟨kvs,k,e,_,_⟩|⟨kvs,k,b,e,_,_,_⟩
 · obtain⟨_,_,vs,_,dd⟩:=qv I.hok e
   exact dd.typeIs
 · obtain⟨_,_,xs,_,dd⟩:=ux I.hok e
   exact dd.typeIs
noncomputable def vH(td ty:TE):TE:=fun σ H Q=>td σ H fun x H1=>ty σ H1 fun y H2=>∃a v,x = .ref a/\yb H2 a y (some v)/\Q v H2
noncomputable def yH(td ty tv:TE):TS:=fun D σ H=>tv σ H fun v H1=>td σ H1 fun x H2=>ty σ H2 fun y H3=>∃a H4,x = .ref a/\zG H3 a y v H4/\D.nx σ H4
section
variable{X:Cx}{o i e value:Expr}{pos pos' tpos:Pos}{td ty tv:TE}
theorem iE(hu:X.A.units+1<LA)(ho:PE X o td)(hi:PE X i ty)(hs:uR i):PE X (.Subscript o i pos) (vH td ty):=by
 intro pins s σ H Q I h
 refine sy PySem.F.slot_dict_getitem.lookup hs (Cj (ho pins s σ H _ I h) fun u s1 ⟨x,H1,I1,rx,q1⟩=>Cj (hi pins s1 σ H1 _ I1 q1) fun iv s2 ⟨y,H2,I2,ry,a,v,ex,g,q2⟩=>?_)
 subst ex
 obtain rfl:u=HD a:=rx
 exact⟨jX I2 g,oC hu I2 g ry fun w' s3 I3 rw'=>⟨v,H2,I3,rw',q2⟩⟩
theorem sY(hu:X.A.units+1<LA)(ho:PE X o td)(hi:PE X i ty)(hv:PE X value tv)(hs:G0 value (some (.Subscript o i pos')) pos.line X.env=pure false) :
 PS X (.Assign [.Subscript o i pos'] value pos) (yH td ty tv):=by
 intro pins s σ H D I h
 refine wpAny_Assign_Subscript (Cj (hv pins s σ H _ I h) fun r s1 ⟨v,H1,I1,rv,q1⟩=>Cj (ho pins s1 σ H1 _ I1 q1) fun u s2 ⟨x,H2,I2,rx,q2⟩=>Cj (hi pins s2 σ H2 _ I2 q2) fun iv s3 ⟨y,H3,I3,ry,a,H4,ex,g,q3⟩=>?_) hs
 subst ex
 obtain rfl:u=HD a:=rx
 exact oB hu I3 g ry rv fun s4 I4=>⟨σ,H4,I4,q3⟩
end
theorem iR(h:Heap)(hb:Ij<h.objs.size):cE P w H (h.push {cls:=.type "dict", data:=.dict #[]}) h.objs.size (.dK []) :=
 ⟨FI _,beq_eq_false_iff_ne.mpr (KF (FZ hb)),[],.nil,Heap.DictOf.new h⟩
section
variable{X:Cx}{pos:Pos}
end
noncomputable def mC:List (TE×TE)->St->Hp->(List (V×V)->Hp->Prop)->Prop
 | [],_,H,Q=>Q [] H
 | (tk,tv)::r,σ,H,Q=>tk σ H fun x H1=>tv σ H1 fun y H2=>mC r σ H2 fun ps H3=>Q ((x,y)::ps) H3
abbrev VV:List (V×V)->List (E7×E7)->Prop:=Gy fun p q=>RelV p.1 q.1/\RelV p.2 q.2
noncomputable def Em(X:Cx)(pos:Pos)(keys:List (Option Expr))(values:List Expr)(trs:List (TE×TE)):Prop :=
 ∀ (pins:List (Addr×Obj))(s:E_)(σ:St)(H:Hp)(Q:List (V×V)->Hp->Prop),Inv X pins σ H s->mC trs σ H Q ->
   FH (FT X.prog X.w) X.A (evalPairs (pairTrees keys values X.env pos)) (fun vs s'=>∃ps H',Inv X pins σ H' s'/\VV ps vs/\Q ps H') X.xe s
theorem nn:Em X pos [] [] []:=fun pins s σ H Q I h=>pairTrees_nil_walk ⟨[],H,I,.nil,h⟩
theorem cJ{k v:Expr}{ks:List (Option Expr)}{vs:List Expr}{tk tv:TE}{trs:List (TE×TE)}(hk:PE X k tk)(hv:PE X v tv)(hr:Em X pos ks vs trs) :
 Em X pos (some k::ks) (v::vs) ((tk,tv)::trs):=fun pins s σ H Q I h =>
 pairTrees_cons_walk (Cj (hk pins s σ H _ I h) fun u s1 ⟨x,H1,I1,rx,q1⟩=>Cj (hv pins s1 σ H1 _ I1 q1) fun w2 s2 ⟨y,H2,I2,ry,q2⟩ =>
  Cj (hr pins s2 σ H2 _ I2 q2) fun ws s3 ⟨ps,H3,I3,rel,q3⟩=>⟨(x,y)::ps,H3,I3,.cons ⟨rx,ry⟩ rel,q3⟩)
noncomputable def dS(kvs more:List (EA×V)):List (EA×V):=more.foldl (fun acc kv=>cY acc kv.1 kv.2) kvs
theorem KV.merge:∀{more:List (EA×V)}{rs:List (EA×E7)}{kvs:List (EA×V)}{vs:List (EA×E7)},KV more rs->KV kvs vs->KV (dS kvs more) (merged vs rs):=by
 intro more rs kvs vs r
 unfold KV at r
 induction r generalizing kvs vs with
 | nil=>intro q;exact q
 | @cons p q ps qs h t ih =>
   intro r0
   have e:KV (cY kvs p.1 p.2) (stored vs q.1 q.2):=by
    have:=r0.put p.1 h.2
    rw[<- h.1];exact this
   exact ih e
theorem dW:∀(more kvs:List (EA×V)),(dS kvs more).length<=kvs.length+more.length
 | [],kvs=>by show kvs.length<=kvs.length+0;omega
 | p::r,kvs=>by
   have h1:=dW r (cY kvs p.1 p.2)
   have h2:=cO kvs p.1 p.2
   show(dS (cY kvs p.1 p.2) r).length<=_
   rw[FJ];omega
theorem g_{P:FS}{w:GD}:∀{kvs:List (EA×V)}{ws:List (E7×E7)},VV (kvs.map fun kv=>(kV kv.1,kv.2)) ws->∃rs,Carries (bA P w) ws rs/\KV kvs rs
 | [],_,r=>by rw[JE]at r;cases r;exact⟨[],Jk,.nil⟩
 | p::kvs,_,r=>by
   rw[Gi]at r
   cases r with
   | @cons a b as bs h t =>
     obtain⟨rs,c,q⟩:=g_ (P:=P) (w:=w) t
     obtain⟨b1,b2⟩:=b
     exact⟨(p.1,b2)::rs,⟨nX h.1,rfl,c⟩,.cons ⟨rfl,h.2⟩ q⟩
noncomputable def yD(trs:List (TE×TE)):TE:=fun σ H Q=>∀p,H p=none->mC trs σ (Cb H p (.dK [])) fun ps H2=>H2 p=some (.dK [])/\∃kvs:List (EA×V),ps=kvs.map (fun kv=>(kV kv.1,kv.2))/\kvs.length<=15/\Q (.ref p) (Cb H2 p (.dK (dS [] kvs)))
theorem nw{keys:List (Option Expr)}{values:List Expr}{trs:List (TE×TE)}(h:Em X pos keys values trs)(hall:keys.all (·.isSome)=true)(hl:keys.length=values.length)(h0:keys≠[])
 (h15:keys.length<=15):PE X (.Dict keys values pos) (yD trs):=by
 intro pins s σ H Q I q
 have hn:=I.hok.fresh (Fa s.heap.objs.size)
 have I1:=I.laid (a:=s.heap.objs.size) (o:=.dK []) (h':=s.heap.push {cls:=.type "dict", data:=.dict #[]}) (t':=s.toks) (fun _ _ q=>E4 _ q) (Fa _) (iR s.heap I.big)
 refine wpAny_Dict_walk (knd:=bA X.prog X.w) hall hl h0 h15 (Cj (h pins _ σ _ _ I1 (q _ hn)) fun ws s2 ⟨ps,H2,I2,rel,e,kvs,ep,lk,q2⟩=>?_)
 subst ep
 obtain⟨rs,c,rk⟩:=g_ (P:=X.prog) (w:=X.w) rel
 obtain⟨z,hd,vs0,r0,dd⟩:=uz I2.hok e
 cases r0
 refine⟨rs,c,dd,fun h' dd' hs=>⟨.ref s.heap.objs.size,_,?_,rfl,q2⟩⟩
 have hz:(dS [] kvs).length<=sizeLine:=by
  have h1:=dW kvs []
  rw[Jp]at h1
  rw[sizeLine_eq];omega
 have he:∃q,h'.get? s.heap.objs.size=some q:=let ⟨q,_,_,hq,_⟩:=dd';⟨q,hq⟩
 exact iU I2 (by rw[e];exact Jk) hs he (dk_new hz hd (rk.merge .nil) dd')
section
variable{X:Cx}{pins:List (Addr×Obj)}{σ:St}{H:Hp}{s:E_}{a:Addr}{y d:V}{u r:E7}{o:Option V}{A:GJ}{E:E7->E_->Prop}
end
section
variable{X:Cx}{o e f:Expr}{apos cpos:Pos}{td ty tx:TE}
end
section
variable{X:Cx}{pins:List (Addr×Obj)}{σ:St}{H:Hp}{s:E_}{a:Addr}{kvs:List (EA×V)}{A:GJ}{E:E7->E_->Prop}
end
section
variable{X:Cx}{pins:List (Addr×Obj)}{σ:St}{H:Hp}{s:E_}{a:Addr}{y:V}{u:E7}{A:GJ}{E:E7->E_->Prop}
end
end L2
namespace Att
open PySem PySem.W PySem.Calls PyProof.Rows
theorem fU{P:LB}:∀(ns:List Int)(vs:List E7),WellAll P h vs (ns.map WData.int)->Jo vs ns:=by
 intro ns
 induction ns with
 | nil =>
   intro vs w
   rw[JE]at w
   cases w
   exact .nil
 | cons n ns ih =>
   intro vs w
   rw[Gi]at w
   cases w with
   | cons a b =>
     cases a
     exact .cons _ _ (ih _ b)
theorem mN{l:LC}(hn:l.most=some n){P:LB}{args:List WData}{vals:List E7}
 (hpre:l.row.toRowW.claim.pre args=true)(hwl:WellAll P h vals args) :
 ∃a vs ns,vals=[HD a]/\args=[WData.list (ns.map WData.int)]/\h.get? a=some {cls:=.type "list", data:=.seq vs.toArray}/\Jo vs ns/\ns.length<=n:=by
 have hsh:WShape.hasAll [] args [.list .int]=true:=(pre_splitW hpre).1
 have hc:l.pre.holds [] {args:=args}=true:=(pre_splitW hpre).2
 obtain⟨d,r,rfl,h1,h2⟩:=hasAllW_cons hsh
 obtain rfl:=hasAllW_nil h2
 obtain⟨xs,rfl,h3⟩:=hasW_list h1
 obtain⟨ns,rfl⟩:=items_int h3
 have hlen:ns.length<=n:=by
  unfold LC.pre at hc
  have h4:(WTm.not (.lt (.lit (.int (n:Int))) (.len (.arg 0)))).holds [] {args:=[.list (ns.map .int)]}=true:=by
   have h4:=(holds_andW hc).1
   rw[hn]at h4
   exact h4
  have h5:=condW_of h4 (w_not (w_lt w_lit (w_len_list (w_arg rfl))))
  rw[Fd]at h5
  refine Nat.le_of_not_lt fun q=>?_
  have q':(n:Int)<((ns.length:Nat):Int):=by omega
  first
   | (rw[decide_eq_true q']at h5;exact absurd h5 (by decide))
   | (simp at h5;omega)
 cases hwl with
 | cons w1 w2 =>
   cases w2
   cases w1 with
   | list ho hall=>exact⟨_,_,ns,rfl,rfl,ho,fU ns _ hall,hlen⟩
theorem nq(l:LC)(args:List WData):l.row.toRowW.claim.post args (.bool true) args=true :=
 postW_of (r:=l.row.toRowW) (X:=(true==true))
  (show WShape.has [] (.bool true) .bool=true by first|rfl|decide|simp[WShape.has,WShape.arms,WShape.armsAll])
  (show(WTm.eq .res (.lit (.bool true))).value [] {args:=args,res:=some (.bool true),after:=args}=some (.bool (true==true))from w_eq_bool (w_res rfl) w_lit) rfl
theorem attach_call{l:LC}{q:FS}{YP:GD->Heap->Prop}{d:DefRec}
 (hn:l.most=some n)(hdf:d.params.defaults=[])
 (call:∀(w:GD)(s₀ s₁:E_)(mg mb:Str->Option E7)(fa:Addr)(o:Obj)(pm cd doc:E7)(a:Addr)(vs:List E7)(ns:List Int),
  Ground q loose [] XP w s₀ mg mb s₁.heap->YP w s₁.heap ->
  s₁.heap.get? fa=some o->o.data = .func (docDef d.name d.params d.body d.scope pm cd doc)->s₁.heap.CodeRec cd d.name->mg d.name=some (.ref fa) ->
  s₁.heap.get? a=some {cls:=.type "list", data:=.seq vs.toArray}->Jo vs ns->ns.length<=n->s₁.gens = #[] ->
  Hr (FT l.prog w) La (.call (.ref fa) ⟨[.ref a],[]⟩) (fun r s'=>r = .ok (.ret (.bool true))/\OldK s₁.heap s'.heap/\s'.os=s₁.os/\KE s'.gens) s₁) :
 WalkO q loose XP YP l.row.toRowW d [] (fun f vs=>PySem.call f vs):=by
 intro w s₀ s₁ mg mb G Y fa o pm cd doc dV kV ho hd hcd hD hmg hg args vals as hpre hlay hrd hwl hlo
 obtain rfl:dV = .none:=Dflts.none hD hdf
 obtain rfl:kV = .none:=Dflts.noKw hD
 obtain⟨a,vs,ns,rfl,rfl,hobj,hints,hlen⟩:=mN hn hpre hwl
 refine enter_call (JD (call w s₀ s₁ mg mb fa o pm cd doc a vs ns G Y ho (fd_plain hd) hcd hmg hobj hints hlen hg) fun r s' hq=>?_)
 obtain⟨rfl,h2,h3,h4⟩:=hq
 exact⟨.inl ⟨.bool true,.bool true,[],rfl,fun _=>rfl,.bool true,nq l _,fun _=>⟨JN,fun _ hm=>(nomatch hm)⟩⟩,h2,h3,h4⟩
section
variable{prog:FS}{w:GD}{A:GJ}{E:E7->E_->Prop}{s:E_}{K:Frag}
end
end Att
namespace L2
theorem i5:∀{vs:List E7}{ns:List Int},Jo vs ns->cu (ns.map V.int) vs
 | _,_,.nil=>.nil
 | _,_,.cons n t h=>.cons ⟨t,rfl⟩ (i5 h)
noncomputable def zE(H:Hp):Prop:=∀b,H b=none\/∃o xs,H b=some (.frz o (.lst xs))
theorem p7{K:W.Frag}{mb:Str->Option E7}{CX:EM}{k:Nat}{fa:Addr}{sp:Sp}{s₁:E_}{vs:List E7}
 (KX:K.In s₁.heap)(hns:s₁.heap.Ns Gq mg)(hb:s₁.heap.Ns builtinsNs mb)(hbb:∀x:Str,x ≠ "__name__" -> mb x=IB x)(hlim:s₁.heap.NoLimit)(hg:s₁.gens = #[])
 (ha:s₁.heap.get? a=some {cls:=.type "list", data:=.seq vs.toArray})(hi:Jo vs ns)(hl:ns.length<=sizeLine)(hr:Room k La)
 (F:∀base:Heap,K.In base->base.Ns Gq mg->FnOk P w K mg base CX k fa fd [x] sp)(hbind:∀(s:E_)(u:E7),Lp s fd ⟨[u],[]⟩ [(x,u)])
 (hsp:∀H:Hp,zE H->D8 K H a (ns.map V.int)->sp [.ref a] H (fun v _=>v = .bl true) fun _ _ _=>False)
 (hCX:∀H e s',CX [] H s₁ (fun _ _ _=>False) e s'->False) :
 Hr (FT P w) La (.call (.ref fa) ⟨[.ref a],[]⟩) (fun r s'=>r = .ok (.ret (.bool true))/\OldK s₁.heap s'.heap/\s'.os=s₁.os/\KE s'.gens) s₁:=by
 have rv:=i5 hi
 have lenV:=hi.length
 have core:∀H:Hp,zE H->D8 K H a (ns.map V.int)->EL P w H s₁.heap->(∀b,H b≠none->b=a)->(H a≠none->K.lookup a=none) ->
  Hr (FT P w) La (.call (.ref fa) ⟨[.ref a],[]⟩) (fun r s'=>r = .ok (.ret (.bool true))/\OldK s₁.heap s'.heap/\s'.os=s₁.os/\KE s'.gens) s₁:=by
  intro H hO hS hok hA hK
  have base_of:∀{b:Addr}{o:Obj},s₁.heap.get? b=some o->H b=none->(qb s₁.heap H).get? b=some o:=fun e n=>qa e n
  have noA:∀{b:Addr}{o:Obj}{es:Array DictEntry}{ep:Nat},s₁.heap.get? b=some o->o.data = .dict es ep->H b=none:=fun{b o es ep} e d=>by
   cases q:H b with
   | none=>rfl
   | some u =>
     have e':b=a:=hA b (by rw[q];simp)
     subst e'
     rw[ha]at e;cases e
     have d':Data.seq vs.toArray _=Data.dict es ep:=d
     cases d'
  have nsK:∀{b:Addr}{m:Str->Option E7},s₁.heap.Ns b m->(qb s₁.heap H).Ns b m:=fun{b m} ⟨o,es,ep,e,d,r⟩=>⟨o,es,ep,base_of e (noA e d),d,r⟩
  have hKb:K.In (qb s₁.heap H):=fun b o e=>base_of (KX b o e) (by
   cases q:H b with
   | none=>rfl
   | some u =>
     have e':b=a:=hA b (by rw[q];simp)
     subst e'
     rw[hK (by rw[q];simp)]at e;cases e)
  have hM:Mod K mg (qb s₁.heap H):=⟨hKb,nsK hns,⟨mb,nsK hb,hbb⟩,let ⟨mc,h1,h2⟩:=hlim;⟨mc,nsK h1,h2⟩⟩
  have e0:Env0 P w K mg (qb s₁.heap H) La [] s₁ H:=⟨rfl,hM,fun b o e=>tP e,Nat.le_of_eq (oa _ _),trivial,fun b hb=>absurd (show b∈([]:List Addr)from hb) (by simp),hok,.of_eq hg⟩
  refine JD ((F _ hKb (nsK hns)).run La [] s₁ H ⟨[.ref a],[]⟩ [.ref a] [.ref a] _ _ hr e0 (hbind s₁ (.ref a)) (.cons rfl .nil) (hsp H hO hS)) fun r s' h=>?_
  cases r with
  | error e=>exact(hCX H e s' h).elim
  | ok fl =>
    cases fl with
    | next=>exact GR h
    | brk=>exact GR h
    | cont=>exact GR h
    | ret u =>
      obtain⟨v,H',os,bare,un,hok',r',q⟩:=h
      have q':v = .bl true:=q
      subst q'
      obtain rfl:u=K8 true:=r'
      refine⟨rfl,OldK.of_keep fun b o e=>?_,os,bare⟩
      cases q:H b with
      | none=>exact un.keep b o e q (by intro z;exact absurd (show b∈([]:List Addr)from z) (by simp)) (by simp)
      | some u =>
        rcases hO b with z|⟨ob,xs,z⟩
        · rw[q]at z;cases z
        · have z2:=un.frzs b ob _ z
          obtain⟨e1,_⟩:=hok b _ z
          obtain⟨e2,_⟩:=hok' b _ z2
          rw[e]at e1;cases e1
          exact e2
 cases hk:K.lookup a with
 | some o =>
   have e:=KX a o hk
   rw[ha]at e
   cases e
   refine core (fun _=>none) (fun _=>.inl rfl) (.inr ⟨_,vs.toArray,_,hk,rfl,rfl,rfl,by rw[Fw,lenV];exact hl,by simpa using rv⟩) (fun b u z=>by have z':(none:Option HO)=some u:=z;cases z') (fun b z=>absurd rfl z) fun z=>absurd rfl z
 | none =>
   refine core (fun b=>if b=a then some (.frz {cls:=.type "list", data:=.seq vs.toArray} (.lst (ns.map V.int)))else none) (fun b=>?_) (.inl (.inr ⟨{cls:=.type "list", data:=.seq vs.toArray},if_pos rfl⟩)) (fun b u z=>?_) (fun b z=>?_) fun _=>hk
   · by_cases hb:b=a
     · exact .inr ⟨_,_,if_pos hb⟩
     · exact .inl (if_neg hb)
   · by_cases hb:b=a
     · have z':=(if_pos hb).symm.trans z
       cases z'
       subst hb
       exact⟨ha,by rw[Fd];exact hl,vs,_,rv,ha⟩
     · have z':=(if_neg hb).symm.trans z
       cases z'
   · by_cases hb:b=a
     · exact hb
     · exact absurd (if_neg hb) z
theorem walk_of{l:W.OpenLaw}{k:Nat}{q:FS}{YP:GD->Heap->Prop}{d:DefRec}{K:LB->W.Frag}{CX:GD->EM}{sp:GD->Sp}
 (hn:l.most=some n)(hn2:n<=sizeLine)(hdf:d.params.defaults=[])(hr:Room k La)
 (hY:∀(w:GD)(h:Heap),YP w h->(K w.params).In h)
 (F:∀(w:GD)(mg:Str->Option E7)(fa:Addr)(h:Heap),(K w.params).In h->h.Ns Gq mg->mg d.name=some (.ref fa) ->
  ∃ fd:HR,(∀(s:E_)(u:E7),Lp s fd ⟨[u],[]⟩ [(x,u)]) /\
    ∀base:Heap,(K w.params).In base->base.Ns Gq mg->FnOk l.prog w (K w.params) mg base (CX w) k fa fd [x] (sp w))
 (hsp:∀(w:GD)(H:Hp)(a:Addr)(ns:List Int),ns.length<=n->zE H->D8 (K w.params) H a (ns.map V.int)->sp w [.ref a] H (fun v _=>v = .bl true) fun _ _ _=>False)
 (hCX:∀(w:GD)(H:Hp)(s:E_)(e:E7)(s':E_),CX w [] H s (fun _ _ _=>False) e s'->False) :
 W.WalkO q loose XP YP l.row.toRowW d [] (fun f vs=>PySem.call f vs):=by
 refine Att.attach_call hn hdf fun w s₀ s₁ mg mb fa o pm cd doc a vs ns G Y ho hd hcd hmg hobj hints hlen hg=>?_
 have KX:=hY w _ Y
 obtain⟨fd,hb,hF⟩:=F w mg fa _ KX G.T.g hmg
 exact p7 KX G.T.g G.T.b G.T.builtins G.T.nolimit hg hobj hints (FP hlen hn2) hr hF hb (fun H hO hS=>hsp w H a ns hlen hO hS) fun H e s'=>hCX w H s₁ e s'
abbrev EN:EM:=fun _ _ _ _ _ _=>False
abbrev E0:XK:=fun _ _ _=>False
theorem tI:oX EN X E0:=fun _ _ _ _ _ _ _ h=>h.elim
structure Fun (K:W.Frag) (x qual:Str) (st:Stmt) (f:Addr) (fd:HR):Prop where
 ex:∃(oc:E7)(od:Option Addr)(kV doc pm:E7)(an:Option Addr)(cdv ct:E7)(osl:Array (Option E7)),
  fd=W.fnOf x qual (defArgs st) (defBody st) (defScope st) .none kV doc pm an cdv ct/\K.lookup f=some ⟨oc,od,.func fd,osl⟩/\W.codeIn K cdv qual=true
 kp:W.keepIn K (.ref f)=true
section
variable{P:FS}{w:GD}{K:W.Frag}{mg:Str->Option E7}{base:Heap}
theorem Fun.ok{st:Stmt}{f:Addr}{ps:List Str}{k:Nat}{sp:Sp}(F:Fun K x qual st f fd)(S:FnScope N ps (defScope st))(len:∀vs H Q E,sp vs H Q E->vs.length=ps.length)
 (hbody:∀(cdv:E7)(A:GJ)(outer:List Env)(s:E_)(H:Hp)(vs:List V)(Q:VK)(E:XK),Room k (A.deeper (Ke qual (defScope st) s.heap.objs.size f cdv))->sp vs H Q E ->
  ∃t,Ei (o3 EN P w K mg base N qual (defScope st) f cdv A outer s H E).nox (defBody st) t/\t {nx:=fun _ H'=>Q .non H',rt:=Q} (start N vs) H):FnOk P w K mg base EN (k+1) f fd ps sp:=by
 obtain⟨oc,od,kV,doc,pm,an,cdv,ct,osl,rfl,lk,hcd⟩:=F.ex
 refine zx lk hcd S len fun A outer s H vs Q E hr hsp=>?_
 obtain⟨t,h,q⟩:=hbody cdv A outer s H vs Q E hr hsp
 exact⟨t,h.nox,q⟩
theorem Fun.binds{st:Stmt}{f:Addr}{ps:List Str}(F:Fun K x qual st f fd)
 (h:∀(kV doc pm:E7)(an:Option Addr)(cdv ct:E7)(us:List E7),us.length=ps.length->bindArgs (W.fnOf x qual (defArgs st) (defBody st) (defScope st) .none kV doc pm an cdv ct) ⟨us,[]⟩=pure (ps.zip us)):Binds K fd ps []:=by
 obtain⟨oc,od,kV,doc,pm,an,cdv,ct,osl,rfl,lk,hcd⟩:=F.ex
 exact .all (h kV doc pm an cdv ct)
theorem oh{st:Stmt}{f:Addr}{oc:E7}{od an:Option Addr}{osl:Array (Option E7)}{kV doc pm cdv ct:E7}(l:K.lookup f=some ⟨oc,od,.func (W.fnOf x qual (defArgs st) (defBody st) (defScope st) .none kV doc pm an cdv ct),osl⟩)
 (c:W.codeIn K cdv qual=true)(k:W.keepIn K (.ref f)=true):Fun K x qual st f (W.fnOf x qual (defArgs st) (defBody st) (defScope st) .none kV doc pm an cdv ct):=⟨⟨oc,od,kV,doc,pm,an,cdv,ct,osl,rfl,l,c⟩,k⟩
end
theorem p_{k:Nat}(hr:Room k A):A.units+1<LA:=H_ (Nat.add_le_add_left (by decide:1<=64) _) hr.units
theorem mK(h:n<=1000):n<sizeLine:=H_ h (by decide)
section
variable{X:Cx}
end
noncomputable def bC(H H':Hp):Prop:=∀b o,H b=some o->H' b=some o
theorem bC.refl(H:Hp):bC H H:=fun _ _ h=>h
theorem bC.trans{H1 H2:Hp}(a:bC H H1)(b:bC H1 H2):bC H H2:=fun c o h=>b c o (a c o h)
theorem bC.free(e:bC H H'){l:Addr}(h:H' l=Option.none):H l=Option.none:=by
 cases q:H l with
 | none=>rfl
 | some o =>
   rw[e l o q]at h
   cases h
section
variable{X:Cx}
end
section
variable{κ:Type}[DecidableEq κ]
end
end L2
namespace L2.VL
structure RlT where
 a:Option Addr
 b:Nat×List Int
abbrev RlT.no:RlT:=⟨none,(0,[])⟩
abbrev RlT.at'(r:Addr)(b:Nat×List Int):RlT:=⟨some r,b⟩
noncomputable def RO(c:Nat×List Int)(F:Hp)(o:HO):Prop:=∃(a l t:Int),o = .dK [(Gg "cells", .ref c.1),(Gg "at", .int a),(Gg "left", .int l),(Gg "turn", .int t)]/\F c.1=some (.lst (c.2.map V.int))/\c.2.length<=63/\0<=a/\0<=l/\0<=t
theorem RO.mono{c:Nat×List Int}{o:HO}(s:bC F F')(h:RO c F o):RO c F' o:=by
 obtain⟨a,l,t,e,q,r⟩:=h
 exact⟨a,l,t,e,s _ _ q,r⟩
mutual
inductive Rep (K:W.Frag) (F:Hp):V->EW->Prop
 | non:Rep K F .non .none
 | bl (b:Bool):Rep K F (.bl b) (.bool b)
 | int (i:Int):Rep K F (.int i) (.int i)
 | str (x:Str):Rep K F (.str x) (.str x)
 | tup {a:Addr} {vs:List V} {ds:List EW}:D7 K F a vs->Reps K F vs ds->Rep K F (.ref a) (.tuple ds)
 | lst {a:Addr} {vs:List V} {ds:List EW}:F a=some (.lst vs)->Reps K F vs ds->Rep K F (.ref a) (.list ds)
inductive Reps (K:W.Frag) (F:Hp):List V->List EW->Prop
 | nil:Reps K F [] []
 | cons {v:V} {d:EW} {vs:List V} {ds:List EW}:Rep K F v d->Reps K F vs ds->Reps K F (v::vs) (d::ds)
end
theorem dN{K:W.Frag}{xs:List V}(e:bC H H')(h:D7 K H a xs):D7 K H' a xs:=by
 rcases h with(h|⟨o,h⟩)|h
 · exact .inl (.inl (e _ _ h))
 · exact .inl (.inr ⟨o,e _ _ h⟩)
 · exact .inr h
theorem pI{K:W.Frag}{xs:List V}(e:bC H H')(h:D8 K H a xs):D8 K H' a xs:=by
 rcases h with(h|⟨o,h⟩)|h
 · exact .inl (.inl (e _ _ h))
 · exact .inl (.inr ⟨o,e _ _ h⟩)
 · exact .inr h
mutual
theorem Rep.mono{K:W.Frag}{F F':Hp}(s:bC F F'):∀{v:V}{d:EW},Rep K F v d->Rep K F' v d
 | _,_,.non=>.non
 | _,_,.bl b=>.bl b
 | _,_,.int i=>.int i
 | _,_,.str x=>.str x
 | _,_,.tup h r=>.tup (dN s h) (Reps.mono s r)
 | _,_,.lst h r=>.lst (s _ _ h) (Reps.mono s r)
theorem Reps.mono{K:W.Frag}{F F':Hp}(s:bC F F'):∀{vs:List V}{ds:List EW},Reps K F vs ds->Reps K F' vs ds
 | _,_,.nil=>.nil
 | _,_,.cons h r=>.cons (Rep.mono s h) (Reps.mono s r)
end
theorem Reps.length{K:W.Frag}{F:Hp}:∀{vs:List V}{ds:List EW},Reps K F vs ds->vs.length=ds.length
 | _,_,.nil=>rfl
 | _,_,.cons _ r=>by simp[Reps.length r]
theorem Reps.get{K:W.Frag}{F:Hp}:∀{vs:List V}{ds:List EW}{i:Nat}{d:EW},Reps K F vs ds->ds[i]?=some d->∃v,vs[i]?=some v/\Rep K F v d
 | _,_,_,_,.nil,e=>by simp at e
 | _,_,0,_,.cons h _,e=>by simp at e;subst e;exact⟨_,rfl,h⟩
 | _,_,i+1,d,.cons _ r,e=>by
   obtain⟨v,h1,h2⟩:=Reps.get (i:=i) (d:=d) r (by simpa using e)
   exact⟨v,by simpa using h1,h2⟩
theorem Reps.append{K:W.Frag}{F:Hp}:∀{vs us:List V}{ds es:List EW},Reps K F vs ds->Reps K F us es->Reps K F (vs++us) (ds++es)
 | _,_,_,_,.nil,s=>s
 | _,_,_,_,.cons h r,s=>.cons h (Reps.append r s)
theorem Reps.snoc{K:W.Frag}{ds:List EW}(r:Reps K F vs ds)(h:Rep K F v d):Reps K F (vs++[v]) (ds++[d]):=r.append (.cons h .nil)
theorem Reps.take{K:W.Frag}{F:Hp}:∀{vs:List V}{ds:List EW}(n:Nat),Reps K F vs ds->Reps K F (vs.take n) (ds.take n)
 | _,_,0,_=>.nil
 | _,_,_+1,.nil=>.nil
 | _,_,n+1,.cons h r=>.cons h (Reps.take n r)
theorem Reps.drop{K:W.Frag}{F:Hp}:∀{vs:List V}{ds:List EW}(n:Nat),Reps K F vs ds->Reps K F (vs.drop n) (ds.drop n)
 | _,_,0,r=>r
 | _,_,_+1,.nil=>.nil
 | _,_,n+1,.cons _ r=>Reps.drop n r
theorem Reps.nil_iff{K:W.Frag}(h:Reps K F vs []):vs=[]:=by cases h;rfl
mutual
theorem Rep.reads{X:Cx}{pins:List (Addr×Obj)}{σ:St}{H F:Hp}{s:E_}(I:Inv X pins σ H s)(sub:bC F H):∀{v:V}{d:EW},Rep X.K F v d->∀u,RelV v u->∃as,Reads s.heap u d as
 | _,_,.non,u,r=>by cases(show u=Ji from r);exact⟨_,.none⟩
 | _,_,.bl b,u,r=>by cases(show u=K8 b from r);exact⟨_,.bool b⟩
 | _,_,.int i,u,r=>by obtain⟨t,q⟩:=(show ∃t,u=Kb i t from r);cases q;exact⟨_,.int i t⟩
 | _,_,.str x,u,r=>by obtain⟨t,q⟩:=(show ∃t,u=KQ x t from r);cases q;exact⟨_,.str x t⟩
 | _,_,.tup (a:=a) h q,u,r=>by
   cases(show u=HD a from r)
   obtain⟨its,rv,⟨o,h1,h2,n,h3⟩,hz⟩:=I.tuple (dN sub h)
   obtain⟨as,ra⟩:=Reps.reads I sub q its rv
   exact⟨_,.tuple h1 h2 h3 (by simpa using ra)⟩
 | _,_,.lst (a:=a) h q,u,r=>by
   cases(show u=HD a from r)
   obtain⟨its,rv,p,hz⟩:=I.list (.inl (.inl (sub _ _ h)))
   obtain⟨o,h1,h2,n,h3⟩:=p.isList
   obtain⟨as,ra⟩:=Reps.reads I sub q its rv
   exact⟨_,.list h1 h2 h3 (by simpa using ra)⟩
theorem Reps.reads{X:Cx}{pins:List (Addr×Obj)}{σ:St}{H F:Hp}{s:E_}(I:Inv X pins σ H s)(sub:bC F H):∀{vs:List V}{ds:List EW},Reps X.K F vs ds->∀us,cu vs us->∃as,ReadsAll s.heap us ds as
 | _,_,.nil,us,r=>by cases r;exact⟨_,.nil⟩
 | _,_,.cons h q,us,r=>by
   cases r with
   | cons r1 r2 =>
     obtain⟨as,a1⟩:=Rep.reads I sub h _ r1
     obtain⟨bs,a2⟩:=Reps.reads I sub q _ r2
     exact⟨_,.cons a1 a2⟩
end
structure ReelOk (b:Nat×List Int) (F H:Hp) (r:Addr):Prop where
 ex:∃o,H r=some o/\RO b F o
noncomputable def Ed(rl:RlT)(F H:Hp):Prop:=∀r,rl.a=some r->F r=none/\ReelOk rl.b F H r
theorem Ed.live{rl:RlT}(h:Ed rl F H){r:Addr}(e:rl.a=some r):∃o,H r=some o:=by
 obtain⟨_,⟨o,q,_⟩⟩:=h r e
 exact⟨_,q⟩
structure Grow (rl:RlT) (F H F' H':Hp):Prop where
 same:∀b o,H b=some o->rl.a≠some b->H' b=some o
 fs:bC F F'
 sub:bC F' H'
 old:∀b o,H b=some o->F' b=F b
 reel:Ed rl F' H'
theorem Grow.refl{rl:RlT}{F H:Hp}(s:bC F H)(r:Ed rl F H):Grow rl F H F H:=⟨fun _ _ e _=>e,.refl F,s,fun _ _ _=>rfl,r⟩
theorem Grow.live{rl:RlT}{F H F' H':Hp}(g:Grow rl F H F' H'){b:Addr}{o:HO}(e:H b=some o):∃o',H' b=some o':=by
 by_cases h:rl.a=some b
 · exact g.reel.live h
 · exact⟨o,g.same b o e h⟩
theorem Grow.trans{rl:RlT}{F H F1 H1 F2 H2:Hp}(a:Grow rl F H F1 H1)(b:Grow rl F1 H1 F2 H2):Grow rl F H F2 H2 :=
 ⟨fun c o e n=>b.same c o (a.same c o e n) n,a.fs.trans b.fs,b.sub,fun c o e=>by obtain⟨o',e'⟩:=a.live e;rw[b.old c o' e',a.old c o e],b.reel⟩
theorem Grow.freeB{rl:RlT}(g:Grow rl F H F' H')(e:H' b=none):H b=none:=by
 cases q:H b with
 | none=>rfl
 | some o=>obtain⟨o',e'⟩:=g.live q;rw[e]at e';cases e'
theorem Grow.laid{rl:RlT}{o:HO}(s:bC F H)(r:Ed rl F H)(n:H a=none):Grow rl F H F (Cb H a o):=by
 have ne:∀b u,H b=some u->b≠a:=fun b u e=>aO e n
 refine⟨fun b u e _=>by rw[ak (ne b u e)];exact e,.refl F,fun b u e=>by rw[ak (ne b u (s b u e))];exact s b u e,fun _ _ _=>rfl,fun q e=>?_⟩
 obtain⟨z,⟨u,h1,h2⟩⟩:=r q e
 exact⟨z,⟨u,by rw[ak (ne _ _ h1)];exact h1,h2⟩⟩
theorem Grow.data{rl:RlT}{o:HO}(s:bC F H)(r:Ed rl F H)(n:H a=none):Grow rl F H (Cb F a o) (Cb H a o):=by
 have ne:∀b u,H b=some u->b≠a:=fun b u e=>aO e n
 have neF:∀b u,F b=some u->b≠a:=fun b u e=>ne b u (s b u e)
 refine⟨fun b u e _=>by rw[ak (ne b u e)];exact e,fun b u e=>by rw[ak (neF b u e)];exact e,fun b u e=>?_,fun b u e=>by rw[ak (ne b u e)],fun q e=>?_⟩
 · by_cases hb:b=a
   · subst hb;rw[ar]at e ⊢;exact e
   · rw[ak hb]at e ⊢;exact s b u e
 · obtain⟨z,⟨u,h1,h2⟩⟩:=r q e
   exact⟨by rw[ak (ne _ _ h1)];exact z,⟨u,by rw[ak (ne _ _ h1)];exact h1,RO.mono (fun b u e=>by rw[ak (neF b u e)];exact e) h2⟩⟩
theorem Grow.freeze{rl:RlT}{F1 H1:Hp}{o:HO}(g:Grow rl F H F1 H1)(n:H a=none)(e:H1 a=some o)(f:F1 a=none)(hr:rl.a≠some a):Grow rl F H (Cb F1 a o) H1:=by
 have neF:∀b u,F1 b=some u->b≠a:=fun b u q z=>by subst z;rw[f]at q;cases q
 refine⟨g.same,fun b u q=>by rw[ak (neF b u (g.fs b u q))];exact g.fs b u q,fun b u q=>?_,fun b u q=>by rw[ak (aO q n)];exact g.old b u q,fun q z=>?_⟩
 · by_cases hb:b=a
   · subst hb;rw[ar]at q;rw[e];exact q
   · rw[ak hb]at q;exact g.sub b u q
 · obtain⟨z1,⟨u,h1,h2⟩⟩:=g.reel q z
   exact⟨by rw[ak (fun y=>hr (by rw[<- y];exact z))];exact z1,⟨u,h1,RO.mono (fun b u e=>by rw[ak (neF b u e)];exact e) h2⟩⟩
inductive W where
 | d (x:EW)
 | ml (xs:List EW)
 | pk (xs:List EW)
 | reel
 | vv (v:V)
 | md (kvs:List (List EA×EW))
 | mk (kvs:List (EA×EW))
 | nt (ds:List EW)
 | lk
 | sc (ns:List Int)
 | fd (kvs:List (EA×EW))
 | fw (kvs:List (EA×EW))
 | ft (kvs:List (List EA×EW))
 | xc (x:Str) (fs:List (Str×EW))
 | dp (kvs:List (EA×EW)) (x:EW)
noncomputable def W.dat:W->Option EW
 | .d x=>some x
 | .ml xs=>some (.list xs)
 | .pk xs=>some (.list xs)
 | .nt ds=>some (.tuple ds)
 | _=>none
noncomputable def W.peek:W->W
 | .ml xs=>.pk xs
 | .md _=>.lk
 | .mk _=>.lk
 | w=>w
noncomputable def W.own:W->Bool
 | .ml _=>true
 | .md _=>true
 | .mk _=>true
 | _=>false
abbrev KD(K:W.Frag)(F:Hp):List (List EA×V)->List (List EA×EW)->Prop:=Gy fun p q=>p.1=q.1/\Rep K F p.2 q.2
abbrev EC(K:W.Frag)(F:Hp):List (EA×V)->List (EA×EW)->Prop:=Gy fun p q=>p.1=q.1/\Rep K F p.2 q.2
abbrev EB(K:W.Frag)(F:Hp):List (Str×V)->List (Str×EW)->Prop:=Gy fun p q=>p.1=q.1/\Rep K F p.2 q.2
noncomputable def zF(e C dx:Addr):Heap->Prop:=fun h=>∃oe vs,h.get? e=some oe/\oe.cls = .ref C/\oe.dict=some dx/\oe.data = .fields vs
noncomputable def uQ(K:W.Frag)(rl:RlT)(F H:Hp)(v:V)(kvs:List (List EA×EW)):Prop:=∃a us,v = .ref a/\F a=none/\rl.a≠some a/\H a=some (.dT us)/\KD K F us kvs
noncomputable def uP(K:W.Frag)(rl:RlT)(F H:Hp)(v:V)(kvs:List (EA×EW)):Prop:=∃a us,v = .ref a/\F a=none/\rl.a≠some a/\H a=some (.dK us)/\EC K F us kvs
noncomputable def hJ(K:W.Frag)(rl:RlT)(F H:Hp)(v:V)(xs:List EW):Prop:=∃a vs,v = .ref a/\F a=none/\rl.a≠some a/\H a=some (.lst vs)/\Reps K F vs xs
noncomputable def cS(K:W.Frag)(rl:RlT)(F H:Hp)(v:V):W->Prop
 | .d x=>Rep K F v x
 | .ml xs=>hJ K rl F H v xs
 | .pk xs=>hJ K rl F H v xs
 | .reel=>∃r,rl.a=some r/\v = .ref r
 | .vv u=>v=u
 | .md kvs=>uQ K rl F H v kvs
 | .mk kvs=>uP K rl F H v kvs
 | .nt ds=>∃a vs,v = .ref a/\F a=some (.tup vs)/\Reps K F vs ds
 | .lk=>True
 | .sc ns=>∃a,v = .ref a/\D8 K F a (ns.map V.int)
 | .fd kvs=>∃a us,v = .ref a/\F a=some (.dK us)/\EC K F us kvs
 | .fw kvs=>∃a us o,v = .ref a/\F a=some (.frz o (.dK us))/\EC K F us kvs
 | .ft kvs=>∃a us o,v = .ref a/\F a=some (.frz o (.dT us))/\KD K F us kvs
 | .xc x fs=>∃e dx us C,v = .ref e/\W.nsIn K Gq x=some (some (.ref C))/\F e=some (.ext (zF e C dx))/\F dx=some (.xd us)/\EB K F us fs
 | .dp kvs x=>∃a b us u o,v = .ref a/\F a=some (.tup [.ref b,u])/\F b=some (.frz o (.dK us))/\EC K F us kvs/\Rep K F u x
theorem uQ.grow{K:W.Frag}{rl:RlT}{kvs:List (List EA×EW)}(g:Grow rl F H F' H')(r:uQ K rl F H v kvs):uQ K rl F' H' v kvs:=by
 obtain⟨a,us,rfl,h1,h2,h3,h4⟩:=r
 exact⟨a,us,rfl,by rw[g.old a _ h3];exact h1,h2,g.same a _ h3 h2,Gy.mapP h4 fun _ _ z=>⟨z.1,z.2.mono g.fs⟩⟩
theorem uP.grow{K:W.Frag}{rl:RlT}{kvs:List (EA×EW)}(g:Grow rl F H F' H')(r:uP K rl F H v kvs):uP K rl F' H' v kvs:=by
 obtain⟨a,us,rfl,h1,h2,h3,h4⟩:=r
 exact⟨a,us,rfl,by rw[g.old a _ h3];exact h1,h2,g.same a _ h3 h2,Gy.mapP h4 fun _ _ z=>⟨z.1,z.2.mono g.fs⟩⟩
theorem hJ.grow{K:W.Frag}{rl:RlT}(g:Grow rl F H F' H')(r:hJ K rl F H v xs):hJ K rl F' H' v xs:=by
 obtain⟨a,vs,rfl,h1,h2,h3,h4⟩:=r
 exact⟨a,vs,rfl,by rw[g.old a _ h3];exact h1,h2,g.same a _ h3 h2,h4.mono g.fs⟩
theorem cS.grow{K:W.Frag}{rl:RlT}{F H F' H':Hp}{v:V}{w:W}(g:Grow rl F H F' H')(r:cS K rl F H v w):cS K rl F' H' v w:=by
 cases w with
 | d x=>exact Rep.mono g.fs r
 | ml xs=>exact hJ.grow g r
 | pk xs=>exact hJ.grow g r
 | reel=>exact r
 | vv u=>exact r
 | md kvs=>exact uQ.grow g r
 | mk kvs=>exact uP.grow g r
 | nt ds=>obtain⟨a,vs,e,h,q⟩:=r;exact⟨a,vs,e,g.fs _ _ h,q.mono g.fs⟩
 | lk=>trivial
 | sc ns=>obtain⟨a,e,h⟩:=r;exact⟨a,e,pI g.fs h⟩
 | fd kvs=>obtain⟨a,us,e,h,q⟩:=r;exact⟨a,us,e,g.fs _ _ h,Gy.mapP q fun _ _ z=>⟨z.1,z.2.mono g.fs⟩⟩
 | fw kvs=>obtain⟨a,us,o,e,h,q⟩:=r;exact⟨a,us,o,e,g.fs _ _ h,Gy.mapP q fun _ _ z=>⟨z.1,z.2.mono g.fs⟩⟩
 | ft kvs=>obtain⟨a,us,o,e,h,q⟩:=r;exact⟨a,us,o,e,g.fs _ _ h,Gy.mapP q fun _ _ z=>⟨z.1,z.2.mono g.fs⟩⟩
 | xc _ _=>obtain⟨a,dx,us,C,e,n,h1,h2,q⟩:=r;exact⟨a,dx,us,C,e,n,g.fs _ _ h1,g.fs _ _ h2,Gy.mapP q fun _ _ z=>⟨z.1,z.2.mono g.fs⟩⟩
 | dp _ _=>obtain⟨a,b,us,u,o,e,h1,h2,q,z⟩:=r;exact⟨a,b,us,u,o,e,g.fs _ _ h1,g.fs _ _ h2,Gy.mapP q fun _ _ z=>⟨z.1,z.2.mono g.fs⟩,z.mono g.fs⟩
theorem cS.peek{K:W.Frag}{rl:RlT}{w:W}(r:cS K rl F H v w):cS K rl F H v w.peek:=by cases w<;>first|exact r|trivial
theorem hJ.rep{K:W.Frag}{rl:RlT}(s:bC F H)(r:hJ K rl F H v xs):Rep K H v (.list xs):=by
 obtain⟨a,vs,rfl,h1,h2,h3,h4⟩:=r
 exact .lst h3 (h4.mono s)
theorem cS.dat{K:W.Frag}{rl:RlT}{w:W}{x:EW}(s:bC F H)(r:cS K rl F H v w)(e:w.dat=some x):Rep K H v x:=by
 cases w with
 | d y=>cases e;exact Rep.mono s r
 | ml xs=>cases e;exact hJ.rep s r
 | pk xs=>cases e;exact hJ.rep s r
 | reel=>cases e
 | vv u=>cases e
 | md kvs=>cases e
 | mk kvs=>cases e
 | nt ds=>cases e;obtain⟨a,vs,rfl,h,q⟩:=r;exact .tup (.inl (.inl (s _ _ h))) (q.mono s)
 | lk=>cases e
 | sc _=>cases e
 | fd _=>cases e
 | fw _=>cases e
 | ft _=>cases e
 | xc _ _=>cases e
 | dp _ _=>cases e
theorem cS.items{K:W.Frag}{rl:RlT}{w:W}(s:bC F H)(r:cS K rl F H v w)(e:w.dat=some (.list xs)):∃a vs,v = .ref a/\D8 K H a vs/\Reps K F vs xs:=by
 have own:hJ K rl F H v xs->∃a vs,v = .ref a/\D8 K H a vs/\Reps K F vs xs:=fun⟨a,vs,e1,_,_,e2,e3⟩=>⟨a,vs,e1,.inl (.inl e2),e3⟩
 cases w with
 | d y =>
   cases e
   cases(show Rep K F v (.list xs)from r)with
   | lst h q=>exact⟨_,_,rfl,.inl (.inl (s _ _ h)),q⟩
 | ml ys=>cases e;exact own r
 | pk ys=>cases e;exact own r
 | reel=>cases e
 | vv u=>cases e
 | md kvs=>cases e
 | mk kvs=>cases e
 | nt ds=>cases e
 | lk=>cases e
 | sc _=>cases e
 | fd _=>cases e
 | fw _=>cases e
 | ft _=>cases e
 | xc _ _=>cases e
 | dp _ _=>cases e
theorem cS.itemsT{K:W.Frag}{rl:RlT}{w:W}(s:bC F H)(r:cS K rl F H v w)(e:w.dat=some (.tuple xs)):∃a vs,v = .ref a/\D7 K H a vs/\Reps K F vs xs:=by
 cases w with
 | d y =>
   cases e
   cases(show Rep K F v (.tuple xs)from r)with
   | tup h q=>exact⟨_,_,rfl,dN s h,q⟩
 | ml ys=>cases e
 | pk ys=>cases e
 | reel=>cases e
 | vv u=>cases e
 | md kvs=>cases e
 | mk kvs=>cases e
 | nt ds=>cases e;obtain⟨a,vs,rfl,h,q⟩:=r;exact⟨a,vs,rfl,.inl (.inl (s _ _ h)),q⟩
 | lk=>cases e
 | sc _=>cases e
 | fd _=>cases e
 | fw _=>cases e
 | ft _=>cases e
 | xc _ _=>cases e
 | dp _ _=>cases e
noncomputable def de(H:Hp)(v:V):W->Prop
 | .ml _=>∀a,v = .ref a->H a=none
 | .md _=>∀a,v = .ref a->H a=none
 | .mk _=>∀a,v = .ref a->H a=none
 | _=>True
theorem cS.live{K:W.Frag}{rl:RlT}{w:W}(r:cS K rl F H v w)(h:w.own=true):∃a o,v = .ref a/\H a=some o:=by
 cases w with
 | ml xs=>obtain⟨a,vs,e,_,_,hh,_⟩:=r;exact⟨a,_,e,hh⟩
 | md xs=>obtain⟨a,vs,e,_,_,hh,_⟩:=r;exact⟨a,_,e,hh⟩
 | mk xs=>obtain⟨a,vs,e,_,_,hh,_⟩:=r;exact⟨a,_,e,hh⟩
 | _=>cases h
theorem de.none{w:W}(n:de H v w)(h:w.own=true)(e:v = .ref a):H a=none:=by
 cases w with
 | ml xs=>exact n a e
 | md xs=>exact n a e
 | mk xs=>exact n a e
 | _=>cases h
abbrev En:=List (Option W)
structure VR (K:W.Frag) (rl:RlT) (F₀ H₀ F H:Hp) (σ:St) (ρ:En):Prop where
 g:Grow rl F₀ H₀ F H
 sl:∀(i:Nat) w,ρ[i]?=some (some w)->∃v,σ[i]?=some (some v)/\cS K rl F H v w/\de H₀ v w
 ap:∀(i j:Nat)(x y:W) v,i≠j->ρ[i]?=some (some x)->ρ[j]?=some (some y)->x.own=true->y.own=true->σ[i]?=some (some v)->σ[j]?=some (some v)->False
 np:∀(i:Nat) xs,ρ[i]?≠some (some (W.pk xs))
 len:ρ.length=σ.length
section
variable{K:W.Frag}{rl:RlT}{F₀ H₀ F H F' H':Hp}{σ:St}{ρ:En}
theorem VR.sub(r:VR K rl F₀ H₀ F H σ ρ):bC F H:=r.g.sub
theorem VR.reel(r:VR K rl F₀ H₀ F H σ ρ):Ed rl F H:=r.g.reel
theorem VR.grow(r:VR K rl F₀ H₀ F H σ ρ)(g:Grow rl F H F' H'):VR K rl F₀ H₀ F' H' σ ρ :=
 ⟨r.g.trans g,fun i w e=>let ⟨v,e1,e2,e3⟩:=r.sl i w e;⟨v,e1,e2.grow g,e3⟩,r.ap,r.np,r.len⟩
theorem VR.set(r:VR K rl F₀ H₀ F H σ ρ){H1 F1:Hp}(g:Grow rl F H F1 H1){w:W}(rw':cS K rl F1 H1 v w)(hn:de H v w)(hp:∀xs,w ≠ .pk xs)(i:Nat):VR K rl F₀ H₀ F1 H1 (σ.set i (some v)) (ρ.set i (some w)):=by
 have r1:=r.grow g
 refine⟨r1.g,fun j w' e=>?_,fun j k xs ys u hjk e1 e2 w1 w2 s1 s2=>?_,fun j xs z=>?_,by simp[r.len]⟩
 · by_cases hj:i=j
   · subst hj
     have hi:i<ρ.length:=by
      rw[GH]at e
      by_cases hi:i<ρ.length
      · exact hi
      · simp[hi]at e
     rw[FR hi]at e
     cases e
     refine⟨v,by rw[FR (by rw[<- r.len];exact hi)],rw',?_⟩
     cases w with
     | ml xs=>exact fun a ea=>r.g.freeB (hn a ea)
     | d x=>trivial
     | pk xs=>trivial
     | reel=>trivial
     | vv u=>trivial
     | md xs=>exact fun a ea=>r.g.freeB (hn a ea)
     | mk xs=>exact fun a ea=>r.g.freeB (hn a ea)
     | nt ds=>trivial
     | lk=>trivial
     | sc _=>trivial
     | fd _=>trivial
     | fw _=>trivial
     | ft _=>trivial
     | xc _ _=>trivial
     | dp _ _=>trivial
   · rw[FM hj]at e
     obtain⟨u,h1,h2,h3⟩:=r1.sl j w' e
     exact⟨u,by rw[FM hj];exact h1,h2,h3⟩
 · have key:∀(k:Nat)(x y:W),ρ[k]?=some (some y)->some (some w)=some (some x)->x.own=true->y.own=true->σ[k]?=some (some v)->False:=fun k x y d2 e1 o1 o2 s2=>by
     cases e1
     obtain⟨u',h1,h2,h3⟩:=r.sl k _ d2
     rw[s2]at h1
     cases h1
     obtain⟨a,o,ea,hh⟩:=h2.live o2
     rw[hn.none o1 ea]at hh
     cases hh
   by_cases hj:i=j
   · subst hj
     have hk:i≠k:=hjk
     have hi:i<ρ.length:=by
      rw[GH]at e1
      by_cases hi:i<ρ.length
      · exact hi
      · simp[hi]at e1
     rw[FR hi]at e1
     rw[FM hk]at e2 s2
     rw[FR (by rw[<- r.len];exact hi)]at s1
     cases s1
     exact key k xs ys e2 e1 w1 w2 s2
   · by_cases hk:i=k
     · subst hk
       have hi:i<ρ.length:=by
        rw[GH]at e2
        by_cases hi:i<ρ.length
        · exact hi
        · simp[hi]at e2
       rw[FR hi]at e2
       rw[FM hj]at e1 s1
       rw[FR (by rw[<- r.len];exact hi)]at s2
       cases s2
       exact key j ys xs e1 e2 w2 w1 s1
     · rw[FM hj]at e1 s1
       rw[FM hk]at e2 s2
       exact r.ap j k xs ys u hjk e1 e2 w1 w2 s1 s2
 · rw[GH]at z
   split at z
   · split at z
     · exact hp xs (Gr (Gr z))
     · cases z
   · exact r.np j xs z
theorem VR.freeze(r:VR K rl F₀ H₀ F H σ ρ){i:Nat}{xs:List EW}(e:ρ[i]?=some (some (.ml xs))):∃F1,VR K rl F₀ H₀ F1 H σ (ρ.set i (some (.d (.list xs)))):=by
 obtain⟨v,h1,h2,h3⟩:=r.sl i _ e
 obtain⟨a,vs,rfl,f,hr,hh,q⟩:=(show hJ K rl F H v xs from h2)
 have hi:i<ρ.length:=(FK.mp e).1
 have neF:∀b u,F b=some u->b≠a:=fun b u q z=>by subst z;rw[f]at q;cases q
 have fsm:bC F (Cb F a (.lst vs)):=fun b u z=>by rw[ak (neF b u z)];exact z
 refine⟨Cb F a (.lst vs),r.g.freeze (h3 a rfl) hh f hr,fun j w e1=>?_,fun j k ys zs u hjk e1 e2 w1 w2 s1 s2=>?_,fun j ys z=>?_,by simp[r.len]⟩
 · by_cases hj:i=j
   · subst hj
     rw[FR hi]at e1
     cases e1
     exact⟨.ref a,h1,.lst ar (q.mono fsm),trivial⟩
   · rw[FM hj]at e1
     obtain⟨u,g1,g2,g3⟩:=r.sl j w e1
     refine⟨u,g1,?_,g3⟩
     have own:∀ys,(∀zs,w = .ml zs->ys=zs)->hJ K rl F H u ys->(∃b,u = .ref b/\b≠a)->hJ K rl (Cb F a (.lst vs)) H u ys:=fun ys _ ⟨b,us,eb,f1,f2,f3,f4⟩ ⟨b',eb',ne⟩=>by
      rw[eb]at eb'
      cases eb'
      exact⟨b,us,eb,by rw[ak ne];exact f1,f2,f3,f4.mono fsm⟩
     cases w with
     | d x=>exact Rep.mono fsm g2
     | reel=>exact g2
     | vv u=>exact g2
     | ml ys =>
       obtain⟨b,us,eb,f1,f2,f3,f4⟩:=(show hJ K rl F H u ys from g2)
       have ne:b≠a:=fun z=>r.ap i j _ _ (.ref a) hj e e1 rfl rfl h1 (by rw[g1,eb,z])
       exact⟨b,us,eb,by rw[ak ne];exact f1,f2,f3,f4.mono fsm⟩
     | pk ys=>exact absurd e1 (r.np j ys)
     | md ys =>
       obtain⟨b,us,eb,f1,f2,f3,f4⟩:=(show uQ K rl F H u ys from g2)
       have ne:b≠a:=fun z=>r.ap i j _ _ (.ref a) hj e e1 rfl rfl h1 (by rw[g1,eb,z])
       exact⟨b,us,eb,by rw[ak ne];exact f1,f2,f3,Gy.mapP f4 fun _ _ z=>⟨z.1,z.2.mono fsm⟩⟩
     | mk ys =>
       obtain⟨b,us,eb,f1,f2,f3,f4⟩:=(show uP K rl F H u ys from g2)
       have ne:b≠a:=fun z=>r.ap i j _ _ (.ref a) hj e e1 rfl rfl h1 (by rw[g1,eb,z])
       exact⟨b,us,eb,by rw[ak ne];exact f1,f2,f3,Gy.mapP f4 fun _ _ z=>⟨z.1,z.2.mono fsm⟩⟩
     | nt ds=>obtain⟨b,us,eb,f1,f2⟩:=g2;exact⟨b,us,eb,fsm _ _ f1,f2.mono fsm⟩
     | lk=>trivial
     | sc ns=>obtain⟨b,eb,f1⟩:=g2;exact⟨b,eb,pI fsm f1⟩
     | fd kvs=>obtain⟨b,us,eb,f1,f2⟩:=g2;exact⟨b,us,eb,fsm _ _ f1,Gy.mapP f2 fun _ _ z=>⟨z.1,z.2.mono fsm⟩⟩
     | fw kvs=>obtain⟨b,us,o,eb,f1,f2⟩:=g2;exact⟨b,us,o,eb,fsm _ _ f1,Gy.mapP f2 fun _ _ z=>⟨z.1,z.2.mono fsm⟩⟩
     | ft kvs=>obtain⟨b,us,o,eb,f1,f2⟩:=g2;exact⟨b,us,o,eb,fsm _ _ f1,Gy.mapP f2 fun _ _ z=>⟨z.1,z.2.mono fsm⟩⟩
     | xc _ _=>obtain⟨b,dx,us,C,eb,n,f1,f3,f2⟩:=g2;exact⟨b,dx,us,C,eb,n,fsm _ _ f1,fsm _ _ f3,Gy.mapP f2 fun _ _ z=>⟨z.1,z.2.mono fsm⟩⟩
     | dp _ _=>obtain⟨c,b,us,u,o,eb,f1,f3,f2,z⟩:=g2;exact⟨c,b,us,u,o,eb,fsm _ _ f1,fsm _ _ f3,Gy.mapP f2 fun _ _ z=>⟨z.1,z.2.mono fsm⟩,z.mono fsm⟩
 · have nd:∀(j:Nat)(y:W),(ρ.set i (some (W.d (.list xs))))[j]?=some (some y)->y.own=true->ρ[j]?=some (some y):=fun j y z o=>by
     by_cases hj:i=j
     · subst hj
       rw[FR hi]at z
       cases z
       cases o
     · rw[FM hj]at z
       exact z
   exact r.ap j k ys zs u hjk (nd j ys e1 w1) (nd k zs e2 w2) w1 w2 s1 s2
 · rw[GH]at z
   split at z
   · first|cases z|(split at z<;>cases z)
   · exact r.np j ys z
end
abbrev TV:=En->(W->Prop)->Prop
abbrev TB:=En->(Bool->Prop)->Prop
abbrev D0:=En->(List W->Prop)->Prop
abbrev gi(K:W.Frag)(rl:RlT)(F H:Hp):List V->List W->Prop:=Gy (cS K rl F H)
noncomputable def PV(X:Cx)(rl:RlT)(e:Expr)(f:TV):Prop:=∃t,PE X e t/\∀{F₀ H₀ F H:Hp}{σ:St}{ρ:En},VR X.K rl F₀ H₀ F H σ ρ->∀(Qd:W->Prop)(Q:VK),f ρ Qd ->
 (∀v w F' H',Grow rl F H F' H'->cS X.K rl F' H' v w->de H v w->Qd w->Q v H')->t σ H Q
noncomputable def PB(X:Cx)(rl:RlT)(e:Expr)(f:TB):Prop:=∃t,PT X e t/\∀{F₀ H₀ F H:Hp}{σ:St}{ρ:En},VR X.K rl F₀ H₀ F H σ ρ->∀(Qd:Bool->Prop)(Q:Bool->Hp->Prop),f ρ Qd ->
 (∀b F' H',Grow rl F H F' H'->Qd b->Q b H')->t σ H Q
noncomputable def Ef(X:Cx)(rl:RlT)(es:List Expr)(f:D0):Prop:=∃t,PA X es t/\∀{F₀ H₀ F H:Hp}{σ:St}{ρ:En},VR X.K rl F₀ H₀ F H σ ρ->∀(Qd:List W->Prop)(Q:List V->Hp->Prop),f ρ Qd ->
 (∀vs ws F' H',Grow rl F H F' H'->gi X.K rl F' H' vs ws->Qd ws->Q vs H')->t σ H Q
noncomputable def W.fz:W->W
 | .ml xs=>.d (.list xs)
 | .nt ds=>.d (.tuple ds)
 | w=>w
theorem cS.fz{K:W.Frag}{rl:RlT}{F1 H1:Hp}{w:W}(g:Grow rl F H F1 H1)(r:cS K rl F1 H1 v w)(n:de H v w):∃F2,Grow rl F H F2 H1/\bC F1 F2/\cS K rl F2 H1 v w.fz:=by
 cases w with
 | d x=>exact⟨F1,g,.refl _,r⟩
 | pk xs=>exact⟨F1,g,.refl _,r⟩
 | reel=>exact⟨F1,g,.refl _,r⟩
 | vv u=>exact⟨F1,g,.refl _,r⟩
 | md u=>exact⟨F1,g,.refl _,r⟩
 | mk u=>exact⟨F1,g,.refl _,r⟩
 | lk=>exact⟨F1,g,.refl _,r⟩
 | sc _=>exact⟨F1,g,.refl _,r⟩
 | fd _=>exact⟨F1,g,.refl _,r⟩
 | fw _=>exact⟨F1,g,.refl _,r⟩
 | ft _=>exact⟨F1,g,.refl _,r⟩
 | xc _ _=>exact⟨F1,g,.refl _,r⟩
 | dp _ _=>exact⟨F1,g,.refl _,r⟩
 | nt ds=>obtain⟨a,vs,rfl,h,q⟩:=r;exact⟨F1,g,.refl _,.tup (.inl (.inl h)) q⟩
 | ml xs =>
   obtain⟨a,vs,rfl,f,hr,hh,q⟩:=(show hJ K rl F1 H1 v xs from r)
   have neF:∀b u,F1 b=some u->b≠a:=fun b u q z=>by subst z;rw[f]at q;cases q
   have fsm:bC F1 (Cb F1 a (.lst vs)):=fun b u z=>by rw[ak (neF b u z)];exact z
   exact⟨Cb F1 a (.lst vs),g.freeze (n a rfl) hh f hr,fsm,.lst ar (q.mono fsm)⟩
section
variable{X:Cx}{rl:RlT}{a b e:Expr}{es:List Expr}{fa fb fc:TV}{fs:D0}{pos p:Pos}
noncomputable def vC(x:EW):TV:=fun _ Q=>Q (.d x)
theorem eZ{x:EW}(h:PE X e (tC v))(r:∀F,Rep X.K F v x):PV X rl e (vC x) :=
 ⟨_,h,fun R Qd Q q k=>k v (.d x) _ _ (Grow.refl R.sub R.reel) (r _) trivial q⟩
theorem ac{i:Int}{j pos}:PV X rl (.Constant (.int i) j pos) (vC (.int i)):=eZ kH fun _=>.int i
theorem sT{i:Bool}{j pos}:PV X rl (.Constant (.bool i) j pos) (vC (.bool i)):=eZ yX fun _=>.bl i
theorem aB{j pos}:PV X rl (.Constant (.str x) j pos) (vC (.str x)):=eZ cU fun _=>.str x
theorem sS{pos:Pos}(hm:X.mg x=some u)(r:RelV v u)(h:∀F,Rep X.K F v d)(hg:Gl X x:=by rfl)(hd:(x==("__debug__" : Str))=false:=by decide):PV X rl (.Name x pos) (vC d) :=
 eZ (tF hg hm r hd) h
noncomputable def qL(i:Nat):TV:=fun ρ Q=>∃w,ρ[i]?=some (some w)/\Q w.peek
theorem vn(i:Nat){pos:Pos}(hN:X.N[i]?=some x:=by rfl)(hv:DW X.env.scope x:=by first|exact G3 rfl|exact GA (G3 rfl)|exact GA (GA rfl))(hd:(x==("__debug__" : Str))=false:=by decide)
 (hcd:(x==("__classdict__" : Str))=false:=by decide):PV X rl (.Name x pos) (qL i) :=
 ⟨_,cR hN hv hd hcd,fun R Qd Q ⟨w,e,q⟩ k=>by
  obtain⟨v,e1,r,_⟩:=R.sl i w e
  refine⟨v,e1,k v w.peek _ _ (Grow.refl R.sub R.reel) r.peek ?_ q⟩
  cases w<;>trivial⟩
noncomputable def mo:D0:=fun _ Q=>Q []
noncomputable def dF(f:TV)(fs:D0):D0:=fun ρ Q=>f ρ fun w=>fs ρ fun ws=>Q (w.fz::ws)
theorem ab:Ef X rl [] mo:=⟨_,nA,fun R Qd Q q k=>k [] [] _ _ (Grow.refl R.sub R.reel) .nil q⟩
theorem aa(h1:PV X rl e fa)(h2:Ef X rl es fs)(hs:Fg (e::es) X.env=(false,eval e X.env)::Fg es X.env:=by rfl):Ef X rl (e::es) (dF fa fs):=by
 obtain⟨t,p1,k1⟩:=h1
 obtain⟨ts,p2,k2⟩:=h2
 refine⟨_,fM p1 p2 hs,fun R Qd Q q k=>?_⟩
 refine k1 R _ _ q fun v w F1 H1 g1 r1 n1 q1=>?_
 obtain⟨F2,g2,s2,r2⟩:=cS.fz g1 r1 n1
 refine k2 (R.grow g2) _ _ q1 fun vs ws F3 H3 g3 r3 q3=>?_
 exact k (v::vs) (w.fz::ws) F3 H3 (g2.trans g3) (.cons (r2.grow g3) r3) q3
noncomputable def DX(X:Cx)(rl:RlT)(r:R2)(g:W->W->(W->Prop)->Prop):Prop:=∀{F H:Hp}{x y:V}{wx wy:W}(Qd:W->Prop)(Q:VK),bC F H->Ed rl F H->cS X.K rl F H x wx->cS X.K rl F H y wy->g wx wy Qd ->
 (∀v w F' H',Grow rl F H F' H'->cS X.K rl F' H' v w->de H v w->Qd w->Q v H')->r x y H Q
noncomputable def B_(g:W->W->(W->Prop)->Prop)(fa fb:TV):TV:=fun ρ Q=>fa ρ fun x=>fb ρ fun y=>g x y Q
theorem lT{r:R2}{g:W->W->(W->Prop)->Prop}(vo:DX X rl r g)(ha:PV X rl a fa)(hb:PV X rl b fb){e:Expr}(hp:∀ta tb,PE X a ta->PE X b tb->PE X e (Co r ta tb)):PV X rl e (B_ g fa fb):=by
 obtain⟨ta,p1,k1⟩:=ha
 obtain⟨tb,p2,k2⟩:=hb
 refine⟨_,hp ta tb p1 p2,fun R Qd Q q k=>?_⟩
 refine k1 R _ _ q fun v w F1 H1 g1 r1 n1 q1=>?_
 refine k2 (R.grow g1) _ _ q1 fun v2 w2 F2 H2 g2 r2 n2 q2=>?_
 exact vo Qd Q g2.sub g2.reel (r1.grow g2) r2 q2 fun v3 w3 F3 H3 g3 r3 n3 q3=>k v3 w3 F3 H3 ((g1.trans g2).trans g3) r3 (by
  cases w3 with
  | ml xs=>exact fun a ea=>g1.freeB (g2.freeB (n3 a ea))
  | md xs=>exact fun a ea=>g1.freeB (g2.freeB (n3 a ea))
  | mk xs=>exact fun a ea=>g1.freeB (g2.freeB (n3 a ea))
  | nt _=>trivial
  | lk=>trivial
  | sc _=>trivial
  | fd _=>trivial
  | fw _=>trivial
  | ft _=>trivial
  | xc _ _=>trivial
  | dp _ _=>trivial
  | d _=>trivial
  | pk _=>trivial
  | reel=>trivial
  | vv _=>trivial) q3
theorem fJ{op:Lm}{r:R2}{g:W->W->(W->Prop)->Prop}(ho:Ev X (HQ op) r)(vo:DX X rl r g)(ha:PV X rl a fa)(hb:PV X rl b fb):PV X rl (.BinOp a op b pos) (B_ g fa fb) :=
 lT vo ha hb fun _ _ p1 p2=>yW ho p1 p2
noncomputable def gI(C:Int->Int->Prop)(g:Int->Int->EW):W->W->(W->Prop)->Prop:=fun x y Q=>∃i j,x = .d (.int i)/\y = .d (.int j)/\C i j/\Q (.d (g i j))
theorem aQ{K:W.Frag}{i:Int}(h:Rep K F v (.int i)):v = .int i:=by cases h;rfl
theorem fv{C:Int->Int->Prop}{g:Int->Int->V}{gd:Int->Int->EW}(h:∀K F i j,Rep K F (g i j) (gd i j)):DX X rl (rI C g) (gI C gd):=fun{F H x y wx wy} Qd Q s ra r1 r2 q k=>by
 obtain⟨i,j,rfl,rfl,c,q⟩:=q
 exact⟨i,j,aQ r1,aQ r2,c,k _ (.d _) _ _ (Grow.refl s ra) (h _ _ i j) trivial q⟩
noncomputable def DK(g:Int->Int->EW):W->W->(W->Prop)->Prop:=fun x y Q=>∃i j,x = .d (.int i)/\y = .d (.int j)/\Q (.d (g i j))
theorem cG{g:Int->Int->V}{gd:Int->Int->EW}(h:∀K F i j,Rep K F (g i j) (gd i j)):DX X rl (CQ g) (DK gd):=fun{F H x y wx wy} Qd Q s ra r1 r2 q k=>by
 obtain⟨i,j,rfl,rfl,q⟩:=q
 exact⟨i,j,aQ r1,aQ r2,k _ (.d _) _ _ (Grow.refl s ra) (h _ _ i j) trivial q⟩
theorem v_add(ha:PV X rl a fa)(hb:PV X rl b fb):PV X rl (.BinOp a .Add b pos) (B_ (DK fun i j=>.int (i+j)) fa fb):=fJ wS (cG fun _ _ _ _=>.int _) ha hb
theorem v_sub(ha:PV X rl a fa)(hb:PV X rl b fb):PV X rl (.BinOp a .Sub b pos) (B_ (DK fun i j=>.int (i-j)) fa fb):=fJ wK (cG fun _ _ _ _=>.int _) ha hb
noncomputable def EO(i:Int):Prop:=i.natAbs<2^60000
theorem EO.bits{i:Int}(h:EO i):Builtin.Int.intBits i<=60000:=Kz.mpr h
noncomputable def aX(i j:Int):Prop:=i.natAbs<2^64\/j.natAbs<2^64\/(EO i/\EO j)
theorem aX.lt{i j:Int}(h:i.natAbs<2^64):aX i j:=.inl h
theorem aX.rt{i j:Int}(h:j.natAbs<2^64):aX i j:=.inr (.inl h)
theorem aX.bb{i j:Int}(h:EO i)(h':EO j):aX i j:=.inr (.inr ⟨h,h'⟩)
theorem aX.ok{i j:Int}(h:aX i j):IntMulOk i j:=by
 rcases h with h|h|h
 · exact .of_left (Kz.mpr h)
 · exact .of_right (Kz.mpr h)
 · exact IntMulOk.of_le h.1.bits h.2.bits (by decide)
theorem tJ:Ev X (HQ .Mult) (rI aX fun i j=>.int (i*j)):=CZ fun _ _ _ _ _ _ _ hc q=>mul_int q hc.ok
theorem v_mul(ha:PV X rl a fa)(hb:PV X rl b fb):PV X rl (.BinOp a .Mult b pos) (B_ (gI aX fun i j=>.int (i*j)) fa fb):=fJ tJ (fv fun _ _ _ _=>.int _) ha hb
noncomputable def eX(_ j:Int):Prop:=j≠0/\j.natAbs<2^9000
theorem pX:Ev X (HQ .FloorDiv) (rI eX fun i j=>.int (i.fdiv j)):=CZ fun _ j _ _ _ _ _ hc q=>floordiv_int hc.1 q (.inl (PyProof.noPylong_of_log2 ((Nat.log2_lt (by have:=hc.1;omega)).mpr hc.2)))
theorem v_div(ha:PV X rl a fa)(hb:PV X rl b fb):PV X rl (.BinOp a .FloorDiv b pos) (B_ (gI eX fun i j=>.int (i.fdiv j)) fa fb):=fJ pX (fv fun _ _ _ _=>.int _) ha hb
theorem v_mod(ha:PV X rl a fa)(hb:PV X rl b fb):PV X rl (.BinOp a .Mod b pos) (B_ (gI (fun _ j=>j≠0) fun i j=>.int (i.fmod j)) fa fb):=fJ tK (fv fun _ _ _ _=>.int _) ha hb
theorem v_pow(ha:PV X rl a fa)(hb:PV X rl b fb):PV X rl (.BinOp a .Pow b pos) (B_ (gI rL fun i j=>.int (i^j.toNat)) fa fb):=fJ wN (fv fun _ _ _ _=>.int _) ha hb
noncomputable def yn(fa:TV):TV:=fun ρ Q=>fa ρ fun x=>∃i,x = .d (.int i)/\Q (.d (.int (-i)))
theorem pj(ha:PV X rl a fa):PV X rl (.UnaryOp .USub a pos) (yn fa):=by
 obtain⟨ta,p1,k1⟩:=ha
 refine⟨_,yU vw p1,fun R Qd Q q k=>k1 R _ _ q fun v w F1 H1 g1 r1 n1 ⟨i,ew,q1⟩=>?_⟩
 subst ew
 exact⟨i,aQ r1,k _ (.d _) F1 H1 g1 (.int _) trivial q1⟩
theorem fA{op:CmpOp}{r:R2}{g:W->W->(W->Prop)->Prop}(ho:Ev X (Ie op) r)(vo:DX X rl r g)(hm:IF op b=false)(ha:PV X rl a fa)(hb:PV X rl b fb):PV X rl (.Compare a [op] [b] pos) (B_ g fa fb) :=
 lT vo ha hb fun _ _ p1 p2=>tG ho p1 p2 hm
noncomputable def pv(f:TV):TB:=fun ρ Q=>f ρ fun w=>∃k,w = .d (.bool k)/\Q k
theorem fI{K:W.Frag}{i:Bool}(h:Rep K F v (.bool i)):v = .bl i:=by cases h;rfl
theorem az{op:CmpOp}{r:R2}{g:W->W->(W->Prop)->Prop}(ho:Ev X (Ie op) r)(vo:DX X rl r g)(hm:IF op b=false)(ha:PV X rl a fa)(hb:PV X rl b fb):PB X rl (.Compare a [op] [b] pos) (pv (B_ g fa fb)):=by
 obtain⟨ta,p1,k1⟩:=ha
 obtain⟨tb,p2,k2⟩:=hb
 refine⟨_,sW ho p1 p2 hm,fun R Qd Q q k=>?_⟩
 refine k1 R _ _ q fun v w F1 H1 g1 r1 n1 q1=>?_
 refine k2 (R.grow g1) _ _ q1 fun v2 w2 F2 H2 g2 r2 n2 q2=>?_
 refine vo _ _ g2.sub g2.reel (r1.grow g2) r2 q2 fun v3 w3 F3 H3 g3 r3 n3 ⟨kb,ew,q3⟩=>?_
 subst ew
 exact⟨kb,fI r3,k kb F3 H3 ((g1.trans g2).trans g3) q3⟩
theorem df(ha:PV X rl e fa)(he:∀whole,isTrue e X.env whole=(do let v <- whole;KH e.pos;holding [v] (truthy v)):=by intro _;rfl):PB X rl e (pv fa):=by
 obtain⟨ta,p1,k1⟩:=ha
 refine⟨_,wq p1 he,fun R Qd Q q k=>k1 R _ _ q fun v w F1 H1 g1 r1 n1 ⟨kb,ew,q1⟩=>?_⟩
 subst ew
 exact⟨kb,fI r1,k kb F1 H1 g1 q1⟩
abbrev x5(p:Int->Int->Bool):=DK fun i j=>.bool (p i j)
theorem hX:DX X rl (CQ fun i j=>.bl (decide (i<j))) (x5 fun i j=>decide (i<j)):=cG fun _ _ _ _=>.bl _
theorem uU:DX X rl (CQ fun i j=>.bl (decide (i<=j))) (x5 fun i j=>decide (i<=j)):=cG fun _ _ _ _=>.bl _
theorem ll:DX X rl (CQ fun i j=>.bl (decide (j<i))) (x5 fun i j=>decide (j<i)):=cG fun _ _ _ _=>.bl _
theorem yf:DX X rl (CQ fun i j=>.bl (decide (j<=i))) (x5 fun i j=>decide (j<=i)):=cG fun _ _ _ _=>.bl _
noncomputable def yJ(K:W.Frag)(neg:Bool):R2:=fun x y H Q=>∃dx dy,Rep K H x dx/\Rep K H y dy/\F_ dx=true/\F_ dy=true/\Q (.bl (if neg then !FV dx dy else FV dx dy)) H
theorem di(hu:X.A.units+64<LA):Ev X (Ie .Eq) (yJ X.K false):=by
 intro pins s σ H x y v u Q I rx ry ⟨dx,dy,h1,h2,s1,s2,q⟩
 obtain⟨as,a1⟩:=Rep.reads I (.refl H) h1 v rx
 obtain⟨bs,a2⟩:=Rep.reads I (.refl H) h2 u ry
 exact SeqAt.compareEq_shaped a1 a2 s1 s2 hu ⟨.bl _,H,I,rfl,q⟩
theorem gR(hu:X.A.units+64<LA):Ev X (Ie .NotEq) (yJ X.K true):=by
 intro pins s σ H x y v u Q I rx ry ⟨dx,dy,h1,h2,s1,s2,q⟩
 obtain⟨as,a1⟩:=Rep.reads I (.refl H) h1 v rx
 obtain⟨bs,a2⟩:=Rep.reads I (.refl H) h2 u ry
 exact SeqAt.compareNe_shaped a1 a2 s1 s2 hu ⟨.bl _,H,I,rfl,q⟩
noncomputable def zr(neg:Bool):W->W->(W->Prop)->Prop:=fun x y Q=>∃dx dy,x.dat=some dx/\y.dat=some dy/\F_ dx=true/\F_ dy=true/\Q (.d (.bool (if neg then !FV dx dy else FV dx dy)))
theorem cq{neg:Bool}:DX X rl (yJ X.K neg) (zr neg):=fun{F H x y wx wy} Qd Q s ra r1 r2 q k=>by
 obtain⟨dx,dy,e1,e2,s1,s2,q⟩:=q
 exact⟨dx,dy,r1.dat s e1,r2.dat s e2,s1,s2,k _ (.d _) _ _ (Grow.refl s ra) (.bl _) trivial q⟩
noncomputable def yt(f g:TB):TB:=fun ρ Q=>f ρ fun b=>if b=true then g ρ Q else Q false
noncomputable def B9(f g:TB):TB:=fun ρ Q=>f ρ fun b=>if b=true then Q true else g ρ Q
noncomputable def AI(f:TB):TB:=fun ρ Q=>f ρ fun b=>Q (!b)
noncomputable def Eu(X:Cx)(rl:RlT)(e:Expr)(f:TB):Prop:=∃t,PW X e t/\∀{F₀ H₀ F H:Hp}{σ:St}{ρ:En},VR X.K rl F₀ H₀ F H σ ρ->∀(Qd:Bool->Prop)(Q:Bool->Hp->Prop),f ρ Qd ->
 (∀b F' H',Grow rl F H F' H'->Qd b->Q b H')->t σ H Q
variable{f g:TB}{rest:List Expr}
theorem Eu.pb(h:Eu X rl e f):PB X rl e f:=let ⟨t,p,k⟩:=h;⟨t,p.pt,k⟩
theorem ia(ha:PB X rl a f):Eu X rl (.BoolOp .And [a] pos) f:=let ⟨t,p,k⟩:=ha;⟨t,sR p,k⟩
theorem u_(ha:PB X rl a f):Eu X rl (.BoolOp .Or [a] pos) f:=let ⟨t,p,k⟩:=ha;⟨t,wn p,k⟩
theorem kf(ha:PB X rl a f)(hb:Eu X rl (.BoolOp .And (b::rest) pos) g):Eu X rl (.BoolOp .And (a::b::rest) pos) (yt f g):=by
 obtain⟨t,p,k⟩:=ha
 obtain⟨t2,p2,k2⟩:=hb
 refine⟨_,wp p p2,fun R Qd Q q h=>k R _ _ q fun c F1 H1 g1 q1=>?_⟩
 cases c with
 | true=>exact k2 (R.grow g1) _ _ q1 fun c F2 H2 g2 q2=>h c F2 H2 (g1.trans g2) q2
 | false=>exact h false F1 H1 g1 q1
theorem yg(ha:PB X rl a f)(hb:Eu X rl (.BoolOp .Or (b::rest) pos) g):Eu X rl (.BoolOp .Or (a::b::rest) pos) (B9 f g):=by
 obtain⟨t,p,k⟩:=ha
 obtain⟨t2,p2,k2⟩:=hb
 refine⟨_,yN p p2,fun R Qd Q q h=>k R _ _ q fun c F1 H1 g1 q1=>?_⟩
 cases c with
 | true=>exact h true F1 H1 g1 q1
 | false=>exact k2 (R.grow g1) _ _ q1 fun c F2 H2 g2 q2=>h c F2 H2 (g1.trans g2) q2
theorem qJ(ha:PB X rl a f):PB X rl (.UnaryOp .Not a pos) (AI f):=by
 obtain⟨t,p,k⟩:=ha
 exact⟨_,wr p,fun R Qd Q q h=>k R _ _ q fun c F1 H1 g1 q1=>h (!c) F1 H1 g1 q1⟩
noncomputable def sd(fa fb:TV):TV:=fun ρ Q=>fa ρ fun w=>∃c,w = .d (.bool c)/\if c=true then fb ρ Q else Q (.d (.bool false))
noncomputable def ym(fa fb:TV):TV:=fun ρ Q=>fa ρ fun w=>∃c,w = .d (.bool c)/\if c=true then Q (.d (.bool true))else fb ρ Q
noncomputable def r8(fa:TV):TV:=fun ρ Q=>fa ρ fun w=>∃c,w = .d (.bool c)/\Q (.d (.bool (!c)))
theorem de.back{rl:RlT}{w:W}(g:Grow rl F H F' H')(n:de H' v w):de H v w:=by
 cases w with
 | ml xs=>exact fun a ea=>g.freeB (n a ea)
 | md xs=>exact fun a ea=>g.freeB (n a ea)
 | mk xs=>exact fun a ea=>g.freeB (n a ea)
 | nt _=>trivial
 | lk=>trivial
 | sc _=>trivial
 | fd _=>trivial
 | fw _=>trivial
 | ft _=>trivial
 | xc _ _=>trivial
 | dp _ _=>trivial
 | d _=>trivial
 | pk _=>trivial
 | reel=>trivial
 | vv _=>trivial
theorem lZ{op}(ha:PV X rl a fa):PV X rl (.BoolOp op [a] pos) fa:=let ⟨t,p,k⟩:=ha;⟨t,wE p,k⟩
theorem v_and(ha:PV X rl a fa)(hb:PV X rl (.BoolOp .And (b::rest) pos) fb):PV X rl (.BoolOp .And (a::b::rest) pos) (sd fa fb):=by
 obtain⟨t,p,k⟩:=ha
 obtain⟨t2,p2,k2⟩:=hb
 refine⟨_,wI p p2,fun R Qd Q q h=>k R _ _ q fun v w F1 H1 g1 r1 n1 ⟨c,ew,q1⟩=>?_⟩
 subst ew
 refine⟨c,fI r1,?_⟩
 cases c with
 | true=>exact k2 (R.grow g1) _ _ q1 fun v w F2 H2 g2 r2 n2 q2=>h v w F2 H2 (g1.trans g2) r2 (n2.back g1) q2
 | false=>exact h _ (.d _) F1 H1 g1 (.bl false) trivial q1
theorem v_or(ha:PV X rl a fa)(hb:PV X rl (.BoolOp .Or (b::rest) pos) fb):PV X rl (.BoolOp .Or (a::b::rest) pos) (ym fa fb):=by
 obtain⟨t,p,k⟩:=ha
 obtain⟨t2,p2,k2⟩:=hb
 refine⟨_,yV p p2,fun R Qd Q q h=>k R _ _ q fun v w F1 H1 g1 r1 n1 ⟨c,ew,q1⟩=>?_⟩
 subst ew
 refine⟨c,fI r1,?_⟩
 cases c with
 | false=>exact k2 (R.grow g1) _ _ q1 fun v w F2 H2 g2 r2 n2 q2=>h v w F2 H2 (g1.trans g2) r2 (n2.back g1) q2
 | true=>exact h _ (.d _) F1 H1 g1 (.bl true) trivial q1
theorem v_not(ha:PV X rl a fa):PV X rl (.UnaryOp .Not a pos) (r8 fa):=by
 obtain⟨t,p,k⟩:=ha
 refine⟨_,wF p,fun R Qd Q q h=>k R _ _ q fun v w F1 H1 g1 r1 n1 ⟨c,ew,q1⟩=>?_⟩
 subst ew
 exact⟨c,fI r1,h _ (.d _) F1 H1 g1 (.bl _) trivial q1⟩
noncomputable def Ca(t:TB)(fa fb:TV):TV:=fun ρ Q=>t ρ fun c=>if c=true then fa ρ Q else fb ρ Q
theorem fy(hc:PB X rl c f)(ha:PV X rl a fa)(hb:PV X rl b fb):PV X rl (.IfExp c a b pos) (Ca f fa fb):=by
 obtain⟨t,p,k⟩:=hc
 obtain⟨t1,p1,k1⟩:=ha
 obtain⟨t2,p2,k2⟩:=hb
 refine⟨_,pU p p1 p2,fun R Qd Q q h=>k R _ _ q fun c F1 H1 g1 q1=>?_⟩
 cases c with
 | true=>exact k1 (R.grow g1) _ _ q1 fun v w F2 H2 g2 r2 n2 q2=>h v w F2 H2 (g1.trans g2) r2 (n2.back g1) q2
 | false=>exact k2 (R.grow g1) _ _ q1 fun v w F2 H2 g2 r2 n2 q2=>h v w F2 H2 (g1.trans g2) r2 (n2.back g1) q2
noncomputable def fX:List W->Option (List EW)
 | []=>some []
 | .d x::r=>(fX r).map (x :: ·)
 | _::_=>none
theorem cA{K:W.Frag}{F H:Hp}:∀{vs:List V}{ws:List W}{ds:List EW},gi K rl F H vs ws->fX ws=some ds->Reps K F vs ds
 | _,_,_,.nil,e=>by cases e;exact .nil
 | _,.d x::ws,ds,.cons r rs,e=>by
   have e:(fX ws).map (x :: ·)=some ds:=e
   cases q:fX ws with
   | none=>rw[q]at e;cases e
   | some es=>rw[q]at e;cases e;exact .cons r (cA rs q)
 | _,.ml x::ws,ds,.cons r rs,e=>by cases(show none=some ds from e)
 | _,.pk x::ws,ds,.cons r rs,e=>by cases(show none=some ds from e)
 | _,.reel::ws,ds,.cons r rs,e=>by cases(show none=some ds from e)
 | _,.vv u::ws,ds,.cons r rs,e=>by cases(show none=some ds from e)
 | _,.md u::ws,ds,.cons r rs,e=>by cases(show none=some ds from e)
 | _,.nt u::ws,ds,.cons r rs,e=>by cases(show none=some ds from e)
 | _,.lk::ws,ds,.cons r rs,e=>by cases(show none=some ds from e)
 | _,.sc _::ws,ds,.cons r rs,e=>by cases(show none=some ds from e)
 | _,.fd _::ws,ds,.cons r rs,e=>by cases(show none=some ds from e)
 | _,.xc _ _::ws,ds,.cons r rs,e=>by cases(show none=some ds from e)
 | _,.mk _::ws,ds,.cons r rs,e=>by cases(show none=some ds from e)
 | _,.fw _::ws,ds,.cons r rs,e=>by cases(show none=some ds from e)
 | _,.ft _::ws,ds,.cons r rs,e=>by cases(show none=some ds from e)
 | _,.dp _ _::ws,ds,.cons r rs,e=>by cases(show none=some ds from e)
noncomputable def yi(fs:D0):TV:=fun ρ Q=>fs ρ fun ws=>∃ds,fX ws=some ds/\ds.length<=sizeLine/\Q (.d (.tuple ds))
noncomputable def sa(fs:D0):TV:=fun ρ Q=>fs ρ fun ws=>∃ds,fX ws=some ds/\ds.length<=sizeLine/\Q (.ml ds)
theorem bu{x1}(h:Ef X rl es fs):PV X rl (.Tuple es x1 pos) (yi fs):=by
 obtain⟨t,p,k⟩:=h
 refine⟨_,wD p,fun R Qd Q q h=>k R _ _ q fun vs ws F1 H1 g1 r1 ⟨ds,e1,z,q1⟩=>?_⟩
 have rs:=cA r1 e1
 refine⟨by rw[rs.length];exact z,fun p hp=>?_⟩
 have g2:=g1.trans (Grow.data (a:=p) (o:=.tup vs) g1.sub g1.reel hp)
 exact h _ (.d (.tuple ds)) _ _ g2 (.tup (.inl (.inl ar)) (rs.mono (Grow.data (o:=.tup vs) g1.sub g1.reel hp).fs)) trivial q1
theorem cy{K:W.Frag}{p:Addr}{ds:List EW}(s:bC F H)(ra:Ed rl F H)(hp:H p=none)(rs:Reps K F vs ds):hJ K rl F (Cb H p (.lst vs)) (.ref p) ds:=by
 refine⟨p,vs,rfl,s.free hp,fun e=>?_,ar,rs⟩
 obtain⟨o,q⟩:=ra.live e
 rw[hp]at q
 cases q
theorem ce(h:Ef X rl es fs):PV X rl (.List es pos) (sa fs):=by
 obtain⟨t,p,k⟩:=h
 refine⟨_,wG p,fun R Qd Q q h=>k R _ _ q fun vs ws F1 H1 g1 r1 ⟨ds,e1,z,q1⟩=>?_⟩
 have rs:=cA r1 e1
 refine⟨by rw[rs.length];exact z,fun p hp=>?_⟩
 exact h _ (.ml ds) _ _ (g1.trans (Grow.laid (a:=p) (o:=.lst vs) g1.sub g1.reel hp)) (cy g1.sub g1.reel hp rs) (fun a ea=>by cases ea;exact g1.freeB hp) q1
noncomputable def itemAt:EW->Int->Option EW
 | .list xs,i=>atI xs i
 | .tuple xs,i=>atI xs i
 | _,_=>none
theorem Reps.atI{K:W.Frag}{F:Hp}{vs:List V}{ds:List EW}{i:Int}{d:EW}(r:Reps K F vs ds)(e:L2.atI ds i=some d):∃v,L2.atI vs i=some v/\Rep K F v d:=by
 unfold L2.atI at e ⊢
 rw[r.length]
 cases q:ixN ds.length i with
 | none=>rw[q]at e;cases e
 | some j =>
   rw[q]at e
   exact r.get e
noncomputable def DI:W->W->(W->Prop)->Prop:=fun x y Q=>∃dx i z,x.dat=some dx/\y = .d (.int i)/\itemAt dx i=some z/\Q (.d z)
theorem ye:DX X rl (CP X.K) DI:=fun{F H x y wx wy} Qd Q s ra r1 r2 q k=>by
 obtain⟨dx,i,z,e1,rfl,e3,q⟩:=q
 have ey:=aQ r2
 subst ey
 cases dx with
 | list xs =>
   obtain⟨a,vs,rfl,sq,rs⟩:=r1.items s e1
   obtain⟨v,e4,rz⟩:=Reps.atI rs e3
   exact .inl ⟨a,vs,i,v,rfl,rfl,sq,e4,k _ (.d _) _ _ (Grow.refl s ra) rz trivial q⟩
 | tuple xs =>
   obtain⟨a,vs,rfl,sq,rs⟩:=r1.itemsT s e1
   obtain⟨v,e4,rz⟩:=Reps.atI rs e3
   exact .inr (.inl ⟨a,vs,i,v,rfl,rfl,sq,e4,k _ (.d _) _ _ (Grow.refl s ra) rz trivial q⟩)
 | none=>cases e3
 | bool b=>cases e3
 | int b=>cases e3
 | str b=>cases e3
 | dict b=>cases e3
theorem aV(ha:PV X rl a fa)(hb:PV X rl b fb)(hs:i3 b:=by exact fun _ _=>rfl):PV X rl (.Subscript a b pos) (B_ DI fa fb):=lT ye ha hb fun _ _ p1 p2=>tE nY p1 p2 hs
noncomputable def gh(X:Cx)(rl:RlT)(r:List V->Hp->VK->Prop)(g:List W->(W->Prop)->Prop):Prop:=∀{F H:Hp}{vs:List V}{ws:List W}(Qd:W->Prop)(Q:VK),bC F H->Ed rl F H->gi X.K rl F H vs ws->g ws Qd ->
 (∀v w F' H',Grow rl F H F' H'->cS X.K rl F' H' v w->de H v w->Qd w->Q v H')->r vs H Q
noncomputable def dG(g:List W->(W->Prop)->Prop)(fs:D0):TV:=fun ρ Q=>fs ρ fun ws=>g ws Q
theorem ke{r:List V->Hp->VK->Prop}{g:List W->(W->Prop)->Prop}{t:TA->TE}(vc:gh X rl r g)(ha:Ef X rl es fs){e:Expr}(hp:∀ta,PA X es ta->PE X e (Cr r ta)):PV X rl e (dG g fs):=by
 obtain⟨ta,p1,k1⟩:=ha
 refine⟨_,hp ta p1,fun R Qd Q q k=>k1 R _ _ q fun vs ws F1 H1 g1 r1 q1=>?_⟩
 exact vc Qd Q g1.sub g1.reel r1 q1 fun v w F2 H2 g2 r2 n2 q2=>k v w F2 H2 (g1.trans g2) r2 (n2.back g1) q2
theorem dq{id:String}{r:List V->Hp->VK->Prop}{g:List W->(W->Prop)->Prop}(hc:d8 X (.builtin id) r)(vc:gh X rl r g)(hm:X.mg x=none)(hv:IB x=some (.builtin id))(ha:Ef X rl (e::es) fs)(hg:Gl X x:=by rfl)(hn:x ≠ "__name__" := by decide)(hdb:(x==("__debug__" : Str))=false:=by decide)
 (he:Fg (e::es) X.env=(false,eval e X.env)::Fg es X.env:=by rfl)(hpl:(GQ pos (Fg es X.env)).any (·.1)=false:=by rfl):PV X rl (.Call (.Name x p) (e::es) [] pos) (dG g fs) :=
 ke (t:=fun _=>tC .non) vc ha fun _ p1=>pW hc hg hm hv p1 hn hdb he hpl
theorem ii{T:String}{r:List V->Hp->VK->Prop}{g:List W->(W->Prop)->Prop}(hc:d8 X (.type T) r)(vc:gh X rl r g)(hm:X.mg x=none)(hv:IB x=some (.type T))(ha:Ef X rl (e::es) fs)(hg:Gl X x:=by rfl)(hn:x ≠ "__name__" := by decide)(hdb:(x==("__debug__" : Str))=false:=by decide)
 (he:Fg (e::es) X.env=(false,eval e X.env)::Fg es X.env:=by rfl)(hpl:(GQ pos (Fg es X.env)).any (·.1)=false:=by rfl):PV X rl (.Call (.Name x p) (e::es) [] pos) (dG g fs) :=
 ke (t:=fun _=>tC .non) vc ha fun _ p1=>ny hc hg hm hv p1 hn hdb he hpl
theorem lN{K:W.Frag}{w:W}(r:gi K rl F H vs [w]):∃v,vs=[v]/\cS K rl F H v w:=by
 cases r with
 | cons r1 r2=>cases r2;exact⟨_,rfl,r1⟩
theorem Bl{K:W.Frag}{w w':W}(r:gi K rl F H vs [w,w']):∃v u,vs=[v,u]/\cS K rl F H v w/\cS K rl F H u w':=by
 cases r with
 | cons r1 r2 =>
   cases r2 with
   | cons r3 r4=>cases r4;exact⟨_,_,rfl,r1,r3⟩
noncomputable def x8:List W->(W->Prop)->Prop:=fun ws Q=>∃i,ws=[.d (.int i)]/\Q (.d (.int (if i<0 then -i else i)))
theorem u9:gh X rl (fun xs H Q=>∃i,xs=[.int i]/\Q (.int (if i<0 then -i else i)) H) x8:=fun{F H vs ws} Qd Q s ra r ⟨i,ew,q⟩ k=>by
 subst ew
 obtain⟨v,rfl,r1⟩:=lN r
 have e:=aQ r1
 subst e
 exact⟨i,rfl,k _ (.d _) _ _ (Grow.refl s ra) (.int _) trivial q⟩
noncomputable def rg:EW->Option Nat
 | .list xs=>some xs.length
 | .tuple xs=>some xs.length
 | _=>none
noncomputable def xW:List W->(W->Prop)->Prop:=fun ws Q=>∃w d n,ws=[w]/\w.dat=some d/\rg d=some n/\Q (.d (.int n))
theorem u7:gh X rl (fun xs H Q=>∃p ys,xs=[.ref p]/\(D8 X.K H p ys\/D7 X.K H p ys)/\Q (.int ys.length) H) xW:=fun{F H vs ws} Qd Q s ra r ⟨w,d,n,ew,e1,e2,q⟩ k=>by
 subst ew
 obtain⟨v,rfl,r1⟩:=lN r
 cases d with
 | list xs =>
   obtain⟨a,vs,rfl,sq,rs⟩:=r1.items s e1
   cases e2
   exact⟨a,vs,rfl,.inl sq,k _ (.d _) _ _ (Grow.refl s ra) (by rw[rs.length];exact .int _) trivial q⟩
 | tuple xs =>
   obtain⟨a,vs,rfl,sq,rs⟩:=r1.itemsT s e1
   cases e2
   exact⟨a,vs,rfl,.inr sq,k _ (.d _) _ _ (Grow.refl s ra) (by rw[rs.length];exact .int _) trivial q⟩
 | none=>cases e2
 | bool b=>cases e2
 | int b=>cases e2
 | str b=>cases e2
 | dict b=>cases e2
end
structure VEnds where
 nx:En->Prop
 rt:W->Prop
 bk:En->Prop:=fun _=>False
 ct:En->Prop:=fun _=>False
structure EndsOk (K:W.Frag) (rl:RlT) (F₀ H₀ Fs:Hp) (Dv:VEnds) (D:Ends):Prop where
 nx:∀F H σ ρ,bC Fs F->VR K rl F₀ H₀ F H σ ρ->Dv.nx ρ->D.nx σ H
 rt:∀v w F H,Grow rl F₀ H₀ F H->cS K rl F H v w->de H₀ v w->Dv.rt w->D.rt v H
 bk:∀F H σ ρ,bC Fs F->VR K rl F₀ H₀ F H σ ρ->Dv.bk ρ->D.bk σ H
 ct:∀F H σ ρ,bC Fs F->VR K rl F₀ H₀ F H σ ρ->Dv.ct ρ->D.ct σ H
theorem EndsOk.on{K:W.Frag}{rl:RlT}{Fs:Hp}{Dv:VEnds}{D:Ends}(ok:EndsOk K rl F₀ H₀ Fs Dv D)(s:bC Fs F):EndsOk K rl F₀ H₀ F Dv D :=
 ⟨fun F1 H σ ρ s1=>ok.nx F1 H σ ρ (s.trans s1),ok.rt,fun F1 H σ ρ s1=>ok.bk F1 H σ ρ (s.trans s1),fun F1 H σ ρ s1=>ok.ct F1 H σ ρ (s.trans s1)⟩
abbrev D1:=VEnds->En->Prop
noncomputable def Ej(X:Cx)(rl:RlT)(st:Stmt)(t:D1):Prop:=∃T,PS X st T/\∀{F₀ H₀ F H:Hp}{σ:St}{ρ:En},VR X.K rl F₀ H₀ F H σ ρ->∀Dv D,EndsOk X.K rl F₀ H₀ F Dv D->t Dv ρ->T D σ H
noncomputable def lj(X:Cx)(rl:RlT)(st:List Stmt)(t:D1):Prop:=∃T,Ei X st T/\∀{F₀ H₀ F H:Hp}{σ:St}{ρ:En},VR X.K rl F₀ H₀ F H σ ρ->∀Dv D,EndsOk X.K rl F₀ H₀ F Dv D->t Dv ρ->T D σ H
section
variable{X:Cx}{rl:RlT}{st:Stmt}{rest body:List Stmt}{t u:D1}{a b c e:Expr}{es:List Expr}{fa fb:TV}{fs:D0}{f:TB}{pos p:Pos}
noncomputable def vp:D1:=fun D ρ=>D.nx ρ
noncomputable def xP(t u:D1):D1:=fun D ρ=>t {D with nx:=u D} ρ
theorem aY:lj X rl [] vp:=⟨_,nj,fun R Dv D ok q=>ok.nx _ _ _ _ (.refl _) R q⟩
theorem aj(h:Ej X rl st t):lj X rl [st] t:=let ⟨T,p,k⟩:=h;⟨T,nh p,k⟩
theorem af(h:Ej X rl st t)(h2:lj X rl rest u):lj X rl (st::rest) (xP t u):=by
 obtain⟨T,p,k⟩:=h
 obtain⟨T2,p2,k2⟩:=h2
 exact⟨_,ff p p2,fun R Dv D ok q=>k R {Dv with nx:=u Dv} {D with nx:=T2 D} ⟨fun F H σ ρ s' R' q'=>k2 R' Dv D (ok.on s') q',ok.rt,ok.bk,ok.ct⟩ q⟩
noncomputable def AG(fa:TV):D1:=fun D ρ=>fa ρ D.rt
theorem au(h:PV X rl e fa):Ej X rl (.Return (some e) pos) (AG fa):=by
 obtain⟨t,p,k⟩:=h
 exact⟨_,qT p,fun R Dv D ok q=>k R _ _ q fun v w F1 H1 g1 r1 n1 q1=>ok.rt v w F1 H1 (R.g.trans g1) r1 (n1.back R.g) q1⟩
noncomputable def yo(f:TB)(t u:D1):D1:=fun D ρ=>f ρ fun b=>if b=true then t D ρ else u D ρ
theorem b8{A B:List Stmt}(hc:PB X rl c f)(ha:lj X rl A t)(hb:lj X rl B u):Ej X rl (.If c A B pos) (yo f t u):=by
 obtain⟨t0,p0,k0⟩:=hc
 obtain⟨t1,p1,k1⟩:=ha
 obtain⟨t2,p2,k2⟩:=hb
 refine⟨_,yS p0 p1 p2,fun R Dv D ok q=>k0 R _ _ q fun b F1 H1 g1 q1=>?_⟩
 cases b with
 | true=>exact k1 (R.grow g1) Dv D (ok.on g1.fs) q1
 | false=>exact k2 (R.grow g1) Dv D (ok.on g1.fs) q1
theorem ka:Ej X rl st (fun _ _=>False):=⟨_,pQ,fun _ _ _ _ q=>q.elim⟩
noncomputable def W.isPk:W->Bool
 | .pk _=>true
 | _=>false
noncomputable def yl(i:Nat)(fa:TV):D1:=fun D ρ=>fa ρ fun w=>w.isPk=false/\D.nx (ρ.set i (some w))
theorem eG(i:Nat)(hN:X.N.Nodup)(he:PV X rl e fa)(hi:X.N[i]?=some x:=by rfl)(hx:Loc X.env.scope x:=by first|exact G3 rfl|exact GA rfl)
 (hs:G0 e (some (.Name x pos')) pos.line X.env=pure false:=by rfl)(hf:X.fn x=true\/X.env.scope.names.lookup x=some .local:=by first|exact .inl rfl|exact .inr rfl) :
 Ej X rl (.Assign [.Name x pos'] e pos) (yl i fa):=by
 obtain⟨t,p,k⟩:=he
 refine⟨_,fK hN hi hx p hs hf,fun R Dv D ok q=>k R _ _ q fun v w F1 H1 g1 r1 n1 ⟨hp,q1⟩=>?_⟩
 exact ok.nx _ _ _ _ g1.fs (R.set g1 r1 n1 (fun xs z=>by subst z;cases hp) i) q1
noncomputable def jz(ρ:En):Prop:=∀(i:Nat)(w:W),ρ[i]?=some (some w)->w.own=false
theorem jz.set{ρ:En}(h:jz ρ)(i:Nat)(x:EW):jz (ρ.set i (some (.d x))):=fun j w z=>by
 rw[GH]at z
 split at z
 · split at z
   · cases z;rfl
   · cases z
 · exact h j w z
abbrev D5:=EW->En->(En->Prop)->Prop
abbrev o4:=List EW->En->(En->Prop)->Prop
noncomputable def Et(X:Cx)(rl:RlT)(tg:Expr)(g:D5):Prop:=∃G,PG X tg G/\∀{F₀ H₀ F H:Hp}{σ:St}{ρ:En},VR X.K rl F₀ H₀ F H σ ρ->∀(v:V)(x:EW)(Qd:En->Prop)(Q:St->Hp->Prop),Rep X.K F v x->g x ρ Qd ->
 (∀F' H' σ' ρ',Grow rl F H F' H'->(jz ρ->jz ρ')->VR X.K rl F₀ H₀ F' H' σ' ρ'->Qd ρ'->Q σ' H')->G v σ H Q
noncomputable def ya(X:Cx)(rl:RlT)(tgs:List Expr)(g:o4):Prop:=∃G,Es X tgs G/\∀{F₀ H₀ F H:Hp}{σ:St}{ρ:En},VR X.K rl F₀ H₀ F H σ ρ->∀(vs:List V)(xs:List EW)(Qd:En->Prop)(Q:St->Hp->Prop),Reps X.K F vs xs->g xs ρ Qd ->
 (∀F' H' σ' ρ',Grow rl F H F' H'->(jz ρ->jz ρ')->VR X.K rl F₀ H₀ F' H' σ' ρ'->Qd ρ'->Q σ' H')->G vs σ H Q
noncomputable def qf(i:Nat):D5:=fun x ρ Q=>Q (ρ.set i (some (.d x)))
theorem ai(i:Nat)(hN:X.N.Nodup)(hi:X.N[i]?=some x:=by rfl)(hx:Loc X.env.scope x:=by first|exact G3 rfl|exact GA rfl)(hf:X.fn x=true\/X.env.scope.names.lookup x=some .local:=by first|exact .inl rfl|exact .inr rfl):Et X rl (.Name x pos) (qf i) :=
 ⟨_,tw hN hi hx hf,fun R v x Qd Q r q k=>k _ _ _ _ (Grow.refl R.sub R.reel) (fun n=>n.set i x) (R.set (w:=.d x) (Grow.refl R.sub R.reel) r trivial (fun _ z=>by cases z) i) q⟩
noncomputable def zo:o4:=fun xs ρ Q=>xs=[]/\Q ρ
noncomputable def qg(g:D5)(gs:o4):o4:=fun xs ρ Q=>∃y r,xs=y::r/\g y ρ fun ρ'=>gs r ρ' Q
theorem cH:ya X rl [] zo:=⟨_,tq,fun R vs xs Qd Q r ⟨e,q⟩ k=>by subst e;exact⟨r.nil_iff,k _ _ _ _ (Grow.refl R.sub R.reel) (fun n=>n) R q⟩⟩
theorem ay{g:D5}{gs:o4}(h1:Et X rl e g)(h2:ya X rl es gs)(hs:(HW (e::es) X.env).map (·.2)=Iq e X.env::(HW es X.env).map (·.2):=by rfl):ya X rl (e::es) (qg g gs):=by
 obtain⟨G,p,k⟩:=h1
 obtain⟨G2,p2,k2⟩:=h2
 refine⟨_,pS p p2 hs,fun R vs xs Qd Q r ⟨y,ys,ex,q⟩ h=>?_⟩
 subst ex
 cases r with
 | cons r1 r2 =>
   refine⟨_,_,rfl,k R _ y _ _ r1 q fun F1 H1 σ1 ρ1 s1 n1 R1 q1=>?_⟩
   exact k2 R1 _ ys _ _ (r2.mono s1.fs) q1 fun F2 H2 σ2 ρ2 s2 n2 R2 q2=>h F2 H2 σ2 ρ2 (s1.trans s2) (fun n=>n2 (n1 n)) R2 q2
noncomputable def zn(n:Nat)(gs:o4):D5:=fun x ρ Q=>∃xs,x = .tuple xs/\xs.length=n/\gs xs ρ Q
theorem dD{kk:Nat}{gs:o4}(hc:X.calm=true)(h:ya X rl es gs)(hn:(HW es X.env).length=n:=by rfl)(hst:(HW es X.env).findIdx? (·.1)=none:=by rfl):Et X rl (.Tuple es kk pos) (zn n gs):=by
 obtain⟨G,p,k⟩:=h
 refine⟨_,wC hc p hn hst,fun R v x Qd Q r ⟨xs,ex,hl,q⟩ h=>?_⟩
 subst ex
 cases r with
 | tup sq rs=>exact⟨_,_,rfl,dN R.sub sq,by rw[rs.length];exact hl,k R _ xs _ _ rs q h⟩
noncomputable def yr(fa:TV)(g:D5):D1:=fun D ρ=>fa ρ fun w=>∃x,w = .d x/\g x ρ D.nx
theorem kd{g:D5}(he:PV X rl e fa)(hg:Et X rl tg g)(hs:JR [tg] e pos.line X.env=pure false:=by rfl)(hw:JS [tg] e X.env=pure none:=by rfl)
 (h1:(HW [tg] X.env).map (·.2)=[Iq tg X.env]:=by rfl):Ej X rl (.Assign [tg] e pos) (yr fa g):=by
 obtain⟨t,p,k⟩:=he
 obtain⟨G,p2,k2⟩:=hg
 refine⟨_,ww p p2 hs hw h1,fun R Dv D ok q=>k R _ _ q fun v w F1 H1 g1 r1 n1 ⟨x,ew,q1⟩=>?_⟩
 subst ew
 exact k2 (R.grow g1) v x _ _ r1 q1 fun F2 H2 σ2 ρ2 s2 n2 R2 q2=>ok.nx _ _ _ _ (g1.fs.trans s2.fs) R2 q2
noncomputable def AH(i j:Nat)(fs:D0):D1:=fun D ρ=>fs ρ fun ws=>∃x y,fX ws=some [x,y]/\D.nx ((ρ.set i (some (.d x))).set j (some (.d y)))
theorem lR(i j:Nat){y:Str}{py pt:Pos}{kt k2 pt2}(hc:X.calm=true)(hN:X.N.Nodup)(ha:Ef X rl [a,b] fs)
 (hw:JS [.Tuple [.Name x px,.Name y py] kt pt] (.Tuple [a,b] k2 pt2) X.env=pure (some [x,y]):=by rfl)(hi:X.N[i]?=some x:=by rfl)(hj:X.N[j]?=some y:=by rfl)(hij:i≠j:=by decide)
 (hx:X.env.scope.names.lookup x=some .local:=by rfl)(hy:X.env.scope.names.lookup y=some .local:=by rfl)
 (hs:JR [.Tuple [.Name x px,.Name y py] kt pt] (.Tuple [a,b] k2 pt2) pos.line X.env=pure false:=by rfl) :
 Ej X rl (.Assign [.Tuple [.Name x px,.Name y py] kt pt] (.Tuple [a,b] k2 pt2) pos) (AH i j fs):=by
 obtain⟨t,p,k⟩:=ha
 refine⟨_,wu hc hN hi hj hij hx hy p hw hs,fun R Dv D ok q=>k R _ _ q fun vs ws F1 H1 g1 r1 ⟨x,y,e1,q1⟩=>?_⟩
 have rs:=cA r1 e1
 cases rs with
 | cons rx rs =>
   cases rs with
   | cons ry rs =>
     cases rs
     have R1:=(R.grow g1).set (w:=.d x) (Grow.refl g1.sub g1.reel) rx trivial (fun _ z=>by cases z) i
     exact⟨_,_,rfl,ok.nx _ _ _ _ g1.fs (R1.set (w:=.d y) (Grow.refl g1.sub g1.reel) ry trivial (fun _ z=>by cases z) j) q1⟩
structure VIt (K:W.Frag) (rl:RlT) (F:Hp) (J:It) (xs:List EW):Prop where
 go:∀i H x,xs[i]?=some x->bC F H->J.go i H
 stop:∀i H,xs.length<=i->bC F H->J.stop i H
 yld:∀i H v H' x F2,xs[i]?=some x->bC F F2->bC F2 H->Ed rl F2 H->J.yld i H v H'->∃F3,Grow rl F2 H F3 H'/\Rep K F3 v x
theorem VIt.of{K:W.Frag}{rl:RlT}{J:It}(go:∀i H x,xs[i]?=some x->bC F H->J.go i H)(stop:∀i H,xs.length<=i->bC F H->J.stop i H)
 (yld:∀i H v H' x,xs[i]?=some x->bC F H->J.yld i H v H'->H'=H/\Rep K F v x):VIt K rl F J xs :=
 ⟨go,stop,fun i H v H' x F2 e s s2 ra y=>by
  obtain⟨e1,r⟩:=yld i H v H' x e (s.trans s2) y
  subst e1
  exact⟨F2,Grow.refl s2 ra,r.mono s⟩⟩
noncomputable def Ep(X:Cx)(rl:RlT)(tg iter:Expr)(fi:En->(List EW->Prop)->Prop):Prop:=∃wi,PI X tg iter wi/\∀{F₀ H₀ F H:Hp}{σ:St}{ρ:En},VR X.K rl F₀ H₀ F H σ ρ->∀(Qd:List EW->Prop)(R:It->Hp->Prop),fi ρ Qd ->
 (∀J xs F' H',Grow rl F H F' H'->VIt X.K rl F' J xs->Qd xs->R J H')->wi σ H R
end
section
variable{X:Cx}{rl:RlT}{st:Stmt}{rest body:List Stmt}{t u:D1}{a b c e:Expr}{es:List Expr}{fa fb:TV}{fs:D0}{f:TB}{pos p:Pos}{tg:Expr}
noncomputable def yp(i:Nat)(t:D1):D1:=fun D ρ=>∃xs,ρ[i]?=some (some (.ml xs))/\t D (ρ.set i (some (.d (.list xs))))
theorem qq{K:W.Frag}{ρ:En}(r:VR K rl F₀ H₀ F H σ ρ)(e:ρ[i]?=some (some (.ml xs))):∃F1,bC F F1/\VR K rl F₀ H₀ F1 H σ (ρ.set i (some (.d (.list xs)))):=by
 obtain⟨v,h1,h2,h3⟩:=r.sl i _ e
 obtain⟨a,vs,ev,f,hr,hh,q⟩:=(show hJ K rl F H v xs from h2)
 obtain⟨F1,R1⟩:=r.freeze e
 obtain⟨v',k1,k2,k3⟩:=R1.sl i _ (FR (FK.mp e).1)
 have neF:∀b u,F b=some u->b≠a:=fun b u q z=>by subst z;rw[f]at q;cases q
 have fsm:bC F (Cb F a (.lst vs)):=fun b u z=>by rw[ak (neF b u z)];exact z
 have hi:i<ρ.length:=(FK.mp e).1
 refine⟨Cb F a (.lst vs),fsm,r.g.freeze (h3 a ev) hh f hr,fun j w e1=>?_,R1.ap,R1.np,R1.len⟩
 by_cases hj:i=j
 · subst hj
   rw[FR hi]at e1
   cases e1
   exact⟨v,h1,by rw[ev];exact .lst ar (q.mono fsm),trivial⟩
 · rw[FM hj]at e1
   obtain⟨u,g1,g2,g3⟩:=r.sl j w e1
   refine⟨u,g1,?_,g3⟩
   cases w with
   | d x=>exact Rep.mono fsm g2
   | reel=>exact g2
   | vv u=>exact g2
   | ml ys =>
     obtain⟨b,us,eb,f1,f2,f3,f4⟩:=(show hJ K rl F H u ys from g2)
     have ne:b≠a:=fun z=>r.ap i j _ _ v hj e e1 rfl rfl h1 (by rw[g1,eb,z,ev])
     exact⟨b,us,eb,by rw[ak ne];exact f1,f2,f3,f4.mono fsm⟩
   | pk ys=>exact absurd e1 (r.np j ys)
   | md ys =>
     obtain⟨b,us,eb,f1,f2,f3,f4⟩:=(show uQ K rl F H u ys from g2)
     have ne:b≠a:=fun z=>r.ap i j _ _ v hj e e1 rfl rfl h1 (by rw[g1,eb,z,ev])
     exact⟨b,us,eb,by rw[ak ne];exact f1,f2,f3,Gy.mapP f4 fun _ _ z=>⟨z.1,z.2.mono fsm⟩⟩
   | mk ys =>
     obtain⟨b,us,eb,f1,f2,f3,f4⟩:=(show uP K rl F H u ys from g2)
     have ne:b≠a:=fun z=>r.ap i j _ _ v hj e e1 rfl rfl h1 (by rw[g1,eb,z,ev])
     exact⟨b,us,eb,by rw[ak ne];exact f1,f2,f3,Gy.mapP f4 fun _ _ z=>⟨z.1,z.2.mono fsm⟩⟩
   | nt ds=>obtain⟨b,us,eb,f1,f2⟩:=g2;exact⟨b,us,eb,fsm _ _ f1,f2.mono fsm⟩
   | lk=>trivial
   | sc ns=>obtain⟨b,eb,f1⟩:=g2;exact⟨b,eb,pI fsm f1⟩
   | fd kvs=>obtain⟨b,us,eb,f1,f2⟩:=g2;exact⟨b,us,eb,fsm _ _ f1,Gy.mapP f2 fun _ _ z=>⟨z.1,z.2.mono fsm⟩⟩
   | fw kvs=>obtain⟨b,us,o,eb,f1,f2⟩:=g2;exact⟨b,us,o,eb,fsm _ _ f1,Gy.mapP f2 fun _ _ z=>⟨z.1,z.2.mono fsm⟩⟩
   | ft kvs=>obtain⟨b,us,o,eb,f1,f2⟩:=g2;exact⟨b,us,o,eb,fsm _ _ f1,Gy.mapP f2 fun _ _ z=>⟨z.1,z.2.mono fsm⟩⟩
   | xc _ _=>obtain⟨b,dx,us,C,eb,n,f1,f3,f2⟩:=g2;exact⟨b,dx,us,C,eb,n,fsm _ _ f1,fsm _ _ f3,Gy.mapP f2 fun _ _ z=>⟨z.1,z.2.mono fsm⟩⟩
   | dp _ _=>obtain⟨c,b,us,u,o,eb,f1,f3,f2,z⟩:=g2;exact⟨c,b,us,u,o,eb,fsm _ _ f1,fsm _ _ f3,Gy.mapP f2 fun _ _ z=>⟨z.1,z.2.mono fsm⟩,z.mono fsm⟩
theorem gA(i:Nat)(h:Ej X rl st t):Ej X rl st (yp i t):=by
 obtain⟨T,p,k⟩:=h
 refine⟨T,p,fun R Dv D ok ⟨xs,e,q⟩=>?_⟩
 obtain⟨F1,s1,R1⟩:=qq R e
 exact k R1 Dv D (ok.on s1) q
noncomputable def iL(fa:TV):En->(List EW->Prop)->Prop:=fun ρ Q=>fa ρ fun w=>∃xs,w.fz = .d (.list xs)/\Q xs
noncomputable def iT(fa:TV):En->(List EW->Prop)->Prop:=fun ρ Q=>fa ρ fun w=>∃xs,w.fz = .d (.tuple xs)/\Q xs
theorem aA{l:Expr}(hl:PV X rl l fa):Ep X rl tg l (iL fa):=by
 obtain⟨t,p,k⟩:=hl
 refine⟨_,nv p,fun R Qd Q q h=>k R _ _ q fun v w F1 H1 g1 r1 n1 ⟨xs,ew,q1⟩=>?_⟩
 obtain⟨F2,g2,s2,r2⟩:=cS.fz g1 r1 n1
 rw[ew]at r2
 cases(show Rep X.K F2 v (.list xs)from r2)with
 | @lst a vs _ sq rs =>
   have sqH:∀H,bC F2 H->D8 X.K H a vs:=fun H s=>.inl (.inl (s _ _ sq))
   refine⟨a,rfl,⟨vs,sqH H1 g2.sub⟩,h _ xs F2 H1 g2 (.of (fun i H x e s=>?_) (fun i H hl s=>⟨vs,sqH H s,by rw[rs.length];exact hl⟩) (fun i H v H' x e s y=>?_)) q1⟩
   · obtain⟨v,ev,_⟩:=rs.get e
     exact⟨vs,v,sqH H s,ev⟩
   · obtain⟨e',hy⟩:=y
     obtain⟨v',ev,rv⟩:=rs.get e
     have:=hy vs (sqH H s)
     rw[ev]at this
     cases this
     exact⟨e',rv⟩
theorem i4{l:Expr}(hl:PV X rl l fa):Ep X rl tg l (iT fa):=by
 obtain⟨t,p,k⟩:=hl
 refine⟨_,wA p,fun R Qd Q q h=>k R _ _ q fun v w F1 H1 g1 r1 n1 ⟨xs,ew,q1⟩=>?_⟩
 obtain⟨F2,g2,s2,r2⟩:=cS.fz g1 r1 n1
 rw[ew]at r2
 cases(show Rep X.K F2 v (.tuple xs)from r2)with
 | @tup a vs _ sq rs =>
   have sqH:∀H,bC F2 H->D7 X.K H a vs:=fun H s=>dN s sq
   refine⟨a,rfl,⟨vs,sqH H1 g2.sub⟩,h _ xs F2 H1 g2 (.of (fun i H x e s=>?_) (fun i H hl s=>⟨vs,sqH H s,by rw[rs.length];exact hl⟩) (fun i H v H' x e s y=>?_)) q1⟩
   · obtain⟨v,ev,_⟩:=rs.get e
     exact⟨vs,v,sqH H s,ev⟩
   · obtain⟨e',hy⟩:=y
     obtain⟨v',ev,rv⟩:=rs.get e
     have:=hy vs (sqH H s)
     rw[ev]at this
     cases this
     exact⟨e',rv⟩
noncomputable def aZ(lo:Int)(n:Nat):List EW:=(Gh n).map fun(i:Nat)=>.int (lo+i)
theorem gM{lo:Int}{x:EW}(h:(aZ lo n)[i]?=some x):i<n/\x = .int (lo+i):=by
 unfold aZ at h
 rw[F0]at h
 by_cases hi:i<n
 · rw[FA (by simpa using hi)]at h
   simp at h
   exact⟨hi,h.symm⟩
 · rw[Kf (by simpa using hi)]at h
   cases h
theorem b9{lo:Int}:(aZ lo n).length=n:=by simp[aZ]
theorem lU{K:W.Frag}(lo:Int)(n:Nat):VIt K rl F (EF lo n) (aZ lo n) :=
 .of (fun i H x e s=>(gM e).1) (fun i H hl s=>by rw[b9]at hl;exact hl) (fun i H v H' x e s y=>by
  obtain⟨e1,e2⟩:=y
  subst e2
  rw[(gM e).2]
  exact⟨e1,.int _⟩)
noncomputable def Dz(fs:D0):En->(List EW->Prop)->Prop:=fun ρ Q=>fs ρ fun ws=>∃j:Int,ws=[.d (.int j)]/\(-(2^62)<=j/\j<2^62)/\Q (aZ 0 j.toNat)
theorem bR(hm:X.mg "range" = none)(ha:Ef X rl [a] fs)(hg:Gl X "range" := by rfl)(hs:Fg [a] X.env=[(false,eval a X.env)]:=by rfl):Ep X rl tg (.Call (.Name "range" p) [a] [] pos) (Dz fs):=by
 obtain⟨t,p1,k⟩:=ha
 refine⟨_,nu hg hm p1 hs,fun R Qd Q q h=>k R _ _ q fun vs ws F1 H1 g1 r1 ⟨j,ew,b,q1⟩=>?_⟩
 subst ew
 obtain⟨v,rfl,rv⟩:=lN r1
 have e:=aQ rv
 subst e
 exact⟨j,rfl,b.1,b.2,h _ _ F1 H1 g1 (lU 0 _) q1⟩
theorem VR.own{K:W.Frag}{F₀ H₀ F H:Hp}{σ:St}{ρ:En}(r:VR K rl F₀ H₀ F H σ ρ){i:Nat}{xs ys:List EW}{a:Addr}{us:List V}(e:ρ[i]?=some (some (.ml xs)))(es:σ[i]?=some (some (.ref a)))(rs:Reps K F us ys) :
 VR K rl F₀ H₀ F (Cb H a (.lst us)) σ (ρ.set i (some (.ml ys))):=by
 obtain⟨v,h1,h2,h3⟩:=r.sl i _ e
 rw[es]at h1
 cases h1
 obtain⟨a',vs,ev,f,hr,hh,q⟩:=(show hJ K rl F H (.ref a) xs from h2)
 cases ev
 have n0:H₀ a=none:=h3 a rfl
 have hi:i<ρ.length:=(FK.mp e).1
 have neF:∀b u,F b=some u->b≠a:=fun b u q z=>by subst z;rw[f]at q;cases q
 have g:Grow rl F₀ H₀ F (Cb H a (.lst us)):=by
  refine⟨fun b o q1 n=>by rw[ak (aO q1 n0)];exact r.g.same b o q1 n,r.g.fs,fun b o q1=>by rw[ak (neF b o q1)];exact r.sub b o q1,r.g.old,fun y z=>?_⟩
  obtain⟨z1,⟨u,h1,h2⟩⟩:=r.reel y z
  exact⟨z1,⟨u,by rw[ak (fun q=>hr (by rw[<- q];exact z))];exact h1,h2⟩⟩
 refine⟨g,fun j w e1=>?_,fun j k ys' zs u hjk e1 e2 w1 w2 s1 s2=>?_,fun j ys' z=>?_,by simp[r.len]⟩
 · by_cases hj:i=j
   · subst hj
     rw[FR hi]at e1
     cases e1
     exact⟨_,es,⟨a,us,rfl,f,hr,ar,rs⟩,h3⟩
   · rw[FM hj]at e1
     obtain⟨u,g1,g2,g3⟩:=r.sl j w e1
     refine⟨u,g1,?_,g3⟩
     cases w with
     | d x=>exact g2
     | reel=>exact g2
     | vv u=>exact g2
     | ml zs =>
       obtain⟨b,us',eb,f1,f2,f3,f4⟩:=(show hJ K rl F H u zs from g2)
       have ne:b≠a:=fun z=>r.ap i j _ _ (.ref a) hj e e1 rfl rfl es (by rw[g1,eb,z])
       exact⟨b,us',eb,f1,f2,by rw[ak ne];exact f3,f4⟩
     | pk zs=>exact absurd e1 (r.np j zs)
     | md zs =>
       obtain⟨b,us',eb,f1,f2,f3,f4⟩:=(show uQ K rl F H u zs from g2)
       have ne:b≠a:=fun z=>r.ap i j _ _ (.ref a) hj e e1 rfl rfl es (by rw[g1,eb,z])
       exact⟨b,us',eb,f1,f2,by rw[ak ne];exact f3,f4⟩
     | mk zs =>
       obtain⟨b,us',eb,f1,f2,f3,f4⟩:=(show uP K rl F H u zs from g2)
       have ne:b≠a:=fun z=>r.ap i j _ _ (.ref a) hj e e1 rfl rfl es (by rw[g1,eb,z])
       exact⟨b,us',eb,f1,f2,by rw[ak ne];exact f3,f4⟩
     | nt ds=>exact g2
     | lk=>trivial
     | sc _=>exact g2
     | fd _=>exact g2
     | fw _=>exact g2
     | ft _=>exact g2
     | xc _ _=>exact g2
     | dp _ _=>exact g2
 · have nd:∀(j:Nat)(z:W),(ρ.set i (some (W.ml ys)))[j]?=some (some z)->z.own=true->∃z',ρ[j]?=some (some z')/\z'.own=true:=fun j zs z o=>by
     by_cases hj:i=j
     · subst hj
       exact⟨_,e,rfl⟩
     · rw[FM hj]at z
       exact⟨zs,z,o⟩
   obtain⟨_,d1,o1⟩:=nd j _ e1 w1
   obtain⟨_,d2,o2⟩:=nd k _ e2 w2
   exact r.ap j k _ _ u hjk d1 d2 o1 o2 s1 s2
 · rw[GH]at z
   split at z
   · first|cases z|(split at z<;>cases z)
   · exact r.np j ys' z
noncomputable def x_(K:W.Frag)(rl:RlT)(r:V->List V->Hp->VK->Prop)(g:List EW->List W->(List EW->Prop)->Prop):Prop :=
 ∀ {F H:Hp}{a:Addr}{vs args:List V}{xs:List EW}{ws:List W}(Qn:List EW->Prop)(Q:VK),bC F H->H a=some (.lst vs)->Reps K F vs xs->gi K rl F H args ws->g xs ws Qn ->
   (∀us ys,Reps K F us ys->Qn ys->Q .non (Cb H a (.lst us)))->r (.ref a) args H Q
noncomputable def uI(i:Nat)(g:List EW->List W->(List EW->Prop)->Prop)(fs:D0):D1:=fun D ρ=>∃xs,ρ[i]?=some (some (.ml xs))/\fs ρ fun ws=>g xs ws fun ys=>D.nx (ρ.set i (some (.ml ys)))
theorem lS(i:Nat){nm:Str}{id:String}{r:V->List V->Hp->VK->Prop}{g:List EW->List W->(List EW->Prop)->Prop}{apos:Pos}(slot:Slot "list" nm id)(hty:typeOf (.builtin id)=pure (.type "method_descriptor"))(hm:Ex X id r)(vm:x_ X.K rl r g)(ha:Ef X rl (e::es) fs)
 (hN:X.N[i]?=some x:=by rfl)(hv:DW X.env.scope x:=by first|exact G3 rfl|exact GA (G3 rfl)|exact GA (GA rfl))
 (hd:(x==("__debug__" : Str))=false:=by decide)(hcd:(x==("__classdict__" : Str))=false:=by decide)
 (hbase:II (.Name x px) nm X.env (eval (.Name x px) X.env)=eval (.Name x px) X.env:=by rfl)
 (hfew:((GQ cpos (Fg (e::es) X.env)).all (fun x=>!x.1)&&(JT cpos (Iz [] X.env)).all (fun x=>x.1.isSome)
  && decide ((e::es).length+([]:List IR).length+(if([]:List IR).isEmpty then 0 else 1)<30))=true:=by rfl)
 (hline:(apos.endLine==cpos.line)=true:=by rfl)(hs:Fg (e::es) X.env=(false,eval e X.env)::Fg es X.env:=by rfl)(hplain:(GQ cpos (Fg es X.env)).any (·.1)=false:=by rfl)
 (hsw:G0 (.Call (.Attribute (.Name x px) nm apos) (e::es) [] cpos) none pos.line X.env=pure false:=by rfl) :
 Ej X rl (.Expr (.Call (.Attribute (.Name x px) nm apos) (e::es) [] cpos) pos) (uI i g fs):=by
 obtain⟨t,p1,k⟩:=ha
 refine⟨_,nl (wH JW slot hty hm (cR hN hv hd hcd) p1 hbase hfew hline hs hplain) hsw,fun{F₀ H₀ F H σ ρ} R Dv D ok ⟨xs,e1,q⟩=>?_⟩
 obtain⟨v,h1,h2,h3⟩:=R.sl i _ e1
 obtain⟨a,vs,rfl,f,hr,hh,rs⟩:=(show hJ X.K rl F H v xs from h2)
 refine⟨.ref a,h1,.inl ⟨rfl,vs,.inl (.inl hh)⟩,k R _ _ q fun args ws F1 H1 g1 r1 q1=>?_⟩
 refine vm _ _ g1.sub (g1.same a _ hh hr) (rs.mono g1.fs) r1 q1 fun us ys r2 q2=>?_
 exact ok.nx _ _ _ _ g1.fs ((R.grow g1).own e1 h1 r2) q2
noncomputable def x6:List EW->List W->(List EW->Prop)->Prop:=fun xs ws Q=>∃x,fX ws=some [x]/\xs.length<sizeLine/\Q (xs++[x])
theorem uX{K:W.Frag}:x_ K rl mZ x6:=fun{F H a vs args xs ws} Qn Q s ha rs ra ⟨x,e,z,q⟩ k=>by
 have r2:=cA ra e
 cases r2 with
 | cons rx r3 =>
   cases r3
   exact⟨a,vs,_,rfl,rfl,ha,by rw[rs.length];exact z,k _ _ (rs.snoc rx) q⟩
noncomputable def xY:List EW->List W->(List EW->Prop)->Prop:=fun xs ws Q=>∃ys,fX ws=some [.list ys]/\xs.length+ys.length<=sizeLine/\Q (xs++ys)
theorem uW{K:W.Frag}:x_ K rl mY xY:=fun{F H a vs args xs ws} Qn Q s ha rs ra ⟨ys,e,z,q⟩ k=>by
 have r2:=cA ra e
 cases r2 with
 | cons rx r3 =>
   cases r3
   cases rx with
   | lst hb ry=>exact⟨a,_,vs,_,rfl,rfl,ha,s _ _ hb,by rw[rs.length,ry.length];exact z,k _ _ (rs.append ry) q⟩
theorem eI(i:Nat){apos:Pos}(ha:Ef X rl [e] fs)(hN:X.N[i]?=some x:=by rfl)(hv:DW X.env.scope x:=by first|exact G3 rfl|exact GA (G3 rfl)|exact GA (GA rfl))
 (hd:(x==("__debug__" : Str))=false:=by decide)(hcd:(x==("__classdict__" : Str))=false:=by decide)
 (hbase:II (.Name x px) "append" X.env (eval (.Name x px) X.env)=eval (.Name x px) X.env:=by rfl)
 (hfew:((GQ cpos (Fg [e] X.env)).all (fun x=>!x.1)&&(JT cpos (Iz [] X.env)).all (fun x=>x.1.isSome)
  && decide (([e]).length+([]:List IR).length+(if([]:List IR).isEmpty then 0 else 1)<30))=true:=by rfl)
 (hline:(apos.endLine==cpos.line)=true:=by rfl)(hs:Fg [e] X.env=(false,eval e X.env)::Fg [] X.env:=by rfl)(hplain:(GQ cpos (Fg [] X.env)).any (·.1)=false:=by rfl)
 (hsw:G0 (.Call (.Attribute (.Name x px) "append" apos) [e] [] cpos) none pos.line X.env=pure false:=by rfl) :
 Ej X rl (.Expr (.Call (.Attribute (.Name x px) "append" apos) [e] [] cpos) pos) (uI i x6 fs) :=
 lS i JO JP dQ uX ha hN hv hd hcd hbase hfew hline hs hplain hsw
noncomputable def gf:W->Bool
 | .ml _=>false
 | .md _=>false
 | .mk _=>false
 | .pk _=>false
 | _=>true
noncomputable def B4(K:W.Frag)(rl:RlT)(P:List W->(EW->Prop)->Prop):Sp:=fun vs H Q _=>∃F ws,bC F H/\Ed rl F H/\gi K rl F H vs ws/\ws.all gf=true/\P ws fun d=>∀v F' H',Grow rl F H F' H'->Rep K F' v d->Q v H'
noncomputable def dg(N:List Str)(ws:List W):En:=ws.map some++FQ (N.length-ws.length) none
theorem ji{K:W.Frag}{F H:Hp}:∀{vs:List V}{ws:List W}{i:Nat}{w:W},gi K rl F H vs ws->ws[i]?=some w->∃v,vs[i]?=some v/\cS K rl F H v w
 | _,_,_,_,.nil,e=>by simp at e
 | _,_,0,_,.cons h _,e=>by simp at e;subst e;exact⟨_,rfl,h⟩
 | _,_,i+1,w,.cons _ r,e=>by
   obtain⟨v,h1,h2⟩:=ji (i:=i) (w:=w) r (by simpa using e)
   exact⟨v,by simpa using h1,h2⟩
theorem i7{ws:List W}{w:W}(h:(dg N ws)[i]?=some (some w)):ws[i]?=some w:=by
 unfold dg at h
 by_cases hi:i<ws.length
 · rw[Iv (by simpa using hi),F0]at h
   cases q:ws[i]? with
   | none=>rw[q]at h;cases h
   | some x=>rw[q]at h;cases h;rfl
 · rw[Jy (by simpa using hi),JU]at h
   split at h<;>cases h
theorem hW{K:W.Frag}{ws:List W}(s:bC F H)(ra:Ed rl F H)(r:gi K rl F H vs ws)(ok:ws.all gf=true):VR K rl F H F H (start N vs) (dg N ws):=by
 have hl:vs.length=ws.length:=Ii r
 have no:∀(i:Nat) w,(dg N ws)[i]?=some (some w)->gf w=true:=fun i w e=>(G5.mp ok) w (Hm (i7 e))
 refine⟨Grow.refl s ra,fun i w e=>?_,fun i j xs ys v _ e1 _ o _ _ _=>(by have:=no i _ e1;cases xs<;>first|exact Bool.noConfusion o|exact Bool.noConfusion this),fun i xs e=>(by have:=no i _ e;cases this),?_⟩
 · obtain⟨v,h1,h2⟩:=ji r (i7 e)
   refine⟨v,?_,h2,?_⟩
   · unfold start
     rw[Iv (by simpa using(FK.mp h1).1),F0,h1]
     rfl
   · have:=no i w e
     cases w with
     | ml xs=>cases this
     | md xs=>cases this
     | mk xs=>cases this
     | nt _=>trivial
     | lk=>trivial
     | sc _=>trivial
     | fd _=>trivial
     | fw _=>trivial
     | ft _=>trivial
     | xc _ _=>trivial
     | dp _ _=>trivial
     | d _=>trivial
     | pk _=>trivial
     | reel=>trivial
     | vv _=>trivial
 · unfold dg start
   simp[hl]
noncomputable def pB(Q:EW->Prop):VEnds:=⟨fun _=>Q .none,fun w=>∃d,w.fz = .d d/\Q d,fun _=>False,fun _=>False⟩
theorem B5{K:W.Frag}{base:Heap}{st:Stmt}{fa:Addr}{ps:List Str}{k:Nat}{Pd:List W->(EW->Prop)->Prop}{t:D1}
 (Fn:Fun K x qual st fa fd)(S:FnScope N ps (defScope st))(len:∀ws Q,Pd ws Q->ws.length=ps.length)
 (hbody:∀(cdv:E7)(A:GJ)(outer:List Env)(s:E_)(H:Hp)(E:XK),Room k (A.deeper (Ke qual (defScope st) s.heap.objs.size fa cdv)) ->
  lj (o3 EN P w K mg base N qual (defScope st) fa cdv A outer s H E).nox rl (defBody st) t)
 (hread:∀ws Q,Pd ws Q->t (pB Q) (dg N ws)):FnOk P w K mg base EN (k+1) fa fd ps (B4 K rl Pd):=by
 refine Fn.ok S (fun vs H Q E ⟨F,ws,_,_,r,_,q⟩=>(Ii r).trans (len ws _ q)) fun cdv A outer s H vs Q E hr h=>?_
 obtain⟨F,ws,sm,ra,r,ok,q⟩:=h
 obtain⟨T,p,kk⟩:=hbody cdv A outer s H E hr
 refine⟨T,p,kk (hW sm ra r ok) (pB _) _ ⟨?_,?_,fun _ _ _ _ _ _ z=>GR z,fun _ _ _ _ _ _ z=>GR z⟩ (hread ws _ q)⟩
 · intro F1 H1 σ1 ρ1 _ R1 q1
   exact q1 .non F1 H1 R1.g .non
 · rintro v w1 F1 H1 g1 r1 n1 ⟨d,ed,q1⟩
   obtain⟨F2,g2,s2,r2⟩:=cS.fz g1 r1 n1
   rw[ed]at r2
   exact q1 v F2 H1 g2 r2
structure Dfn (P:FS) (w:GD) (K:W.Frag) (mg:Str->Option E7) (base:Heap) (rl:RlT) (x:Str) (ps:List Str) (k:Nat) (Pd:List W->(EW->Prop)->Prop):Prop where
 mono:∀ws Q Q',(∀d,Q d->Q' d)->Pd ws Q->Pd ws Q'
 ex:∃f fd,mg x=some (.ref f)/\W.keepIn K (.ref f)=true/\Binds K fd ps []/\FnOk P w K mg base EN k f fd ps (B4 K rl Pd)
noncomputable def yh(Pd:List W->(EW->Prop)->Prop)(fs:D0):TV:=fun ρ Q=>fs ρ fun ws=>ws.all gf=true/\Pd ws fun d=>Q (.d d)
theorem al{ps:List Str}{k:Nat}{Pd:List W->(EW->Prop)->Prop}(D:Dfn X.prog X.w X.K X.mg X.base rl x ps k Pd)(hr:Room k X.A)(ha:Ef X rl (e::es) fs)(hg:Gl X x:=by rfl)
 (hdb:(x==("__debug__" : Str))=false:=by decide)(he:Fg (e::es) X.env=(false,eval e X.env)::Fg es X.env:=by rfl)(hpl:(GQ pos (Fg es X.env)).any (·.1)=false:=by rfl) :
 PV X rl (.Call (.Name x p) (e::es) [] pos) (yh Pd fs):=by
 obtain⟨f,fd,hm,hk,hb,F⟩:=D.ex
 obtain⟨t,p1,kk⟩:=ha
 refine⟨_,jN F hr hg hm hk hb .nil tI p1 hdb he hpl,fun R Qd Q q h=>kk R _ _ q fun vs ws F1 H1 g1 r1 ⟨ok,q1⟩=>?_⟩
 refine⟨F1,ws,g1.sub,g1.reel,by rw[HG];exact r1,ok,?_⟩
 exact D.mono ws _ _ (fun d qd v F2 H2 g2 r2=>h v (.d d) F2 H2 (g1.trans g2) r2 trivial qd) q1
end
end L2.VL
variable{rl:L2.VL.RlT}{ρ:L2.VL.En}{fi:L2.VL.En->(List EW->Prop)->Prop}
namespace L2
theorem eF{env:Env}:∀(names:List (Str×IG))(acc:List (Str×Addr)),(∀x∈names,x.2 = .free->∃c,env.cells.lookup x.1=some c)->(∀x c,acc.lookup x=some c->env.cells.lookup x=some c) ->
 ∃ cl,(forIn names acc (fun(x:Str×IG)(cs:List (Str×Addr))=>if(x.2==Gw)=true then do let c <- cellOf env x.1;pure (Jq ((x.1,c)::cs))else pure (Jq cs)):Sem (List (Str×Addr)))=pure cl /\
   (∀x c,cl.lookup x=some c->env.cells.lookup x=some c)/\(∀x,(acc.lookup x).isSome=true->(cl.lookup x).isSome=true)/\∀x,(x,Gw)∈names->(cl.lookup x).isSome=true
 | [],acc,_,h2=>⟨acc,rfl,h2,fun _ z=>z,fun _ z=>nomatch z⟩
 | (n,k)::r,acc,h1,h2=>by
   by_cases hk:k = .free
   · subst hk
     obtain⟨c,hc⟩:=h1 (n,.free) Ff rfl
     have h2':∀x c',((n,c)::acc).lookup x=some c'->env.cells.lookup x=some c':=fun x c' z=>by
      rw[Gu]at z
      cases e:x==n with
      | true =>
        rw[e]at z
        have e':x=n:=by simpa using e
        cases z
        rw[e']
        exact hc
      | false =>
        rw[e]at z
        exact h2 x c' z
     obtain⟨cl,e,g1,g2,g3⟩:=eF r ((n,c)::acc) (fun x hx=>h1 x (E9 _ hx)) h2'
     refine⟨cl,?_,g1,fun x z=>g2 x ?_,fun x z=>?_⟩
     · rw[List.forIn_cons]
       simp only[beq_self_eq_true,if_true]
       have e0:cellOf env n=pure c:=by unfold cellOf;rw[hc]
       rw[e0,pure_bind,pure_bind]
       exact e
     · rw[Gu]
       split
       · rfl
       · exact z
     · rcases FN.mp z with z|z
       · cases z
         refine g2 _ ?_
         rw[Gu]
         simp
       · exact g3 x z
   · obtain⟨cl,e,g1,g2,g3⟩:=eF r acc (fun x hx=>h1 x (E9 _ hx)) h2
     refine⟨cl,?_,g1,g2,fun x z=>?_⟩
     · rw[List.forIn_cons]
       have hb:(k==Gw)=false:=by simpa using hk
       simp only[hb,GB,if_false]
       rw[pure_bind]
       exact e
     · rcases FN.mp z with z|z
       · cases z;exact absurd rfl hk
       · exact g3 x z
theorem cf{env:Env}(h:∀x∈scope.names,x.2 = .free->∃c,env.cells.lookup x.1=some c) :
 ∃cl,closureFor scope env=pure cl/\(∀x c,cl.lookup x=some c->env.cells.lookup x=some c)/\∀x,(x,Gw)∈scope.names->(cl.lookup x).isSome=true:=by
 obtain⟨cl,e,g1,_,g3⟩:=eF scope.names [] h (fun _ _ z=>by cases z)
 refine⟨cl,?_,g1,g3⟩
 unfold closureFor
 first
  | exact e
  | (simp only[bind_pure];exact e)
theorem jh{env:Env}(h:(LD scope env).names.lookup x=some .cell\/(LD scope env).names.lookup x=some .free):(x,Gw)∈scope.names\/(x,Ho)∈scope.names:=by
 have key:∀names:List (Str×IG),∀k,(k = .cell\/k = .free) ->
  (names.map fun(n,k)=>if(k==Gw&&env.scope.kind == .function&&env.kindOf n==some .cell)then(n,Ho)else(n,k)).lookup x=some k->(x,Gw)∈names\/(x,Ho)∈names:=by
  intro names
  induction names with
  | nil=>intro k _ z;cases z
  | cons y r ih =>
    intro k hk z
    obtain⟨n,kn⟩:=y
    have step:((x,Gw)∈r\/(x,Ho)∈r)->((x,Gw)∈(n,kn)::r\/(x,Ho)∈(n,kn)::r):=fun z=>z.imp (E9 _) (E9 _)
    rw[Gi]at z
    dsimp only at z
    by_cases hc:(kn==Gw&&env.scope.kind == .function&&env.kindOf n==some .cell)=true
    · rw[if_pos hc,Gu]at z
      have hf:kn = .free:=by
       have:=(Fb.mp (Fb.mp hc).1).1
       simpa using this
      cases e:x==n with
      | true =>
        have e':x=n:=by simpa using e
        rw[e',<- hf]
        exact .inl Ff
      | false =>
        rw[e]at z
        exact step (ih k hk z)
    · rw[if_neg hc,Gu]at z
      cases e:x==n with
      | true =>
        rw[e]at z
        have e':x=n:=by simpa using e
        cases z
        rcases hk with hk|hk
        · rw[e',hk];exact .inr Ff
        · rw[e',hk];exact .inl Ff
      | false =>
        rw[e]at z
        exact step (ih k hk z)
 rcases h with h|h
 · exact key scope.names .cell (.inl rfl) h
 · exact key scope.names .free (.inr rfl) h
theorem br:∀(names:List (Str×IG))(n:Nat)(acc:List (Str×Addr)),G7 n names acc=G7 n names []++acc
 | [],_,_=>rfl
 | (x,k)::r,n,acc=>by
   unfold G7
   split
   · rw[br r (n+1) ((x,n)::acc),br r (n+1) [(x,n)],Il]
     rfl
   · exact br r n acc
theorem cQ{x:Str}{c:Addr}:∀{names:List (Str×IG)}{n:Nat},(x,c)∈G7 n names []->(x,Ho)∈names
 | (y,k)::r,n,h=>by
   unfold G7 at h
   split at h
   · rename_i hk
     rw[br]at h
     rcases Ga.mp h with h|h
     · exact E9 _ (cQ h)
     · simp at h
       have:k = .cell:=by simpa using hk
       rw[h.1,this]
       exact Ff
   · exact E9 _ (cQ h)
theorem eE{a b:List (Str×Addr)}:(a++b).lookup x=(a.lookup x).or (b.lookup x):=by
 induction a with
 | nil=>simp
 | cons y a ih =>
   obtain⟨n,c⟩:=y
   rw[Jd,Gu,Gu]
   cases x==n<;>simp[ih]
theorem jP{M:Model}{globals:Addr}{o:Env}{Q:Env->E_->Prop}
 (hQ:Q {scope,locals:=s.heap.objs.size,globals,cells:=G7 (s.heap.objs.size+1) scope.names cl,qual,func:=none,code:=o.code,frame:=o.frame,builtins:=o.builtins} {s with heap:=Lq (s.heap.push {cls:=.type "dict", data:=.dict #[]}) scope.names}) :
 FH M A (I0 scope globals cl [] qual none .none (some o)) Q E s:=by
 simp only[I0,Option.isSome_some,if_true]
 refine EZ (wpAny_alloc ?_)
 refine EZ (wpAny_layCells _ (fun name kind cells=>by cases hkc:kind==Ho<;>simp[hkc]) _ _ _ _ ?_)
 rw[show({s with heap:=s.heap.push {cls:=.type "dict", data:=.dict #[]}}:E_).heap.objs.size=s.heap.objs.size+1 from HX ..]
 exact EZ (Fh (Fh hQ))
noncomputable def ba(X:Cx)(N':List Str)(scope:Scope)(cl:List (Str×Addr))(fp:List Addr)(pn:List (Addr×Obj))(s:E_)(H:Hp):Cx :=
 {X with N:=N',s₀:=s,H₀:=H,env:={compEnvC scope cl s.heap.objs.size X.env with cells:=G7 (s.heap.objs.size+1) scope.names cl},outer:=X.stack,ex:=fp,fn:=fun x=>scope.names.lookup x==some .cell,pn:=pn,xe:=fun _ _=>False}
abbrev dr(ifs:List Expr)(env:Env):Sem Bool:=forIn ifs true fun c r=>if r=true then do let ok <- isTrue c env (eval c env);pure (Jq ok)else pure (Jq r)
noncomputable def Eh(X:Cx)(ifs:List Expr)(t:TT):Prop :=
 ∀(pins:List (Addr×Obj))(s:E_)(σ:St)(H:Hp)(Q:Bool->Hp->Prop),Inv X pins σ H s->t σ H Q->FH (FT X.prog X.w) X.A (dr ifs X.env) (TP X pins σ Q) X.xe s
theorem sV:Eh X [] (fun _ H Q=>Q true H):=fun _ _ _ H _ I h=>wpAny_tests_nil ⟨H,I,h⟩
theorem sU{t:TT}(h:PT X c t):Eh X [c] t:=fun pins s σ H Q I hw=>wpAny_tests_one (h pins s σ H Q I hw)
theorem oF{prog:FS}{R:Lo->E_->Prop}{elt target:Expr}{it acc:E7}{env:Env}(I:Nat->E_->Prop)
 (turn:∀n s,I n s->FH (FT prog w) A (Kc it) (fun r s₁=>(r=none/\R (.ok .next) s₁)\/∃v,r=some v /\
  FH (FT prog w) A (Hd target it v) (fun _ s₂=>FH (FT prog w) A (Iq target env v) (fun _ s₃=>FH (FT prog w) A (dr ifs env) (fun ok s₄ =>
   if ok=true then FH (FT prog w) A (eval elt env) (fun x s₅=>FH (FT prog w) A (call (.builtin "list.append") [acc,x]) (fun _ s₆=>∃m,m<n/\I m s₆) (fun _ _=>False) s₅) (fun _ _=>False) s₄
   else ∃m,m<n/\I m s₄) (fun _ _=>False) s₃) (fun _ _=>False) s₂) (fun _ _=>False) s₁) (fun _ _=>False) s)
 (n:Nat)(h:I n s):Hr (FT prog w) A (.compLoop (.ListComp elt [⟨target,iter,ifs,0⟩] scope pos) 0 it acc env) R s:=by
 refine Kg rfl I (fun n s hI=>?_) n h
 show FH _ A ((K0 (.ListComp elt [⟨target,iter,ifs,0⟩] scope pos) 0 it acc env).onRaise (fun x=>do K1 x env;Jr x)) _ _ s
 refine KJ ?_
 rw[compTurn_list]
 refine EZ (GW (EZ (FX (turn n s hI) (fun r s₁ h₁=>?_) fun _ _ h'=>h'.elim)))
 rcases h₁ with⟨rfl,h₁⟩|⟨v,rfl,h₁⟩
 · exact Fh h₁
 · refine EZ (FX h₁ (fun _ s₂ h₂=>EZ (FX h₂ (fun _ s₃ h₃=>EZ (FX h₃ (fun ok s₄ h₄=>?_) fun _ _ z=>z.elim)) fun _ _ z=>z.elim)) fun _ _ z=>z.elim)
   cases ok with
   | false=>exact Fh ⟨rfl,h₄⟩
   | true=>exact EZ (EZ (FX h₄ (fun x s₅ h₅=>EZ (FX h₅ (fun _ s₆ h₆=>Fh (Fh ⟨rfl,h₆⟩)) fun _ _ z=>z.elim)) fun _ _ z=>z.elim))
noncomputable def lP(fr:List (Option Nat))(σ:St):St:=fr.map fun o=>o.bind fun j=>(σ[j]?).join
noncomputable def jV(fr:List (Option Nat))(N' N:List Str)(sc scX:Scope):Bool :=
 decide (fr.length=N'.length)&&(Gh fr.length).all fun i=>match fr[i]? with
  | some (some j)=>match N'[i]? with
    | some x=>decide (N[j]?=some x)&&decide (sc.names.lookup x=some .free)&&(decide (scX.names.lookup x=some .cell)||decide (scX.names.lookup x=some .free))
    | none=>false
  | _=>true
noncomputable def kF(sc scX:Scope):Bool :=
 decide (sc.kind = .function)&&sc.names.all fun y=>(decide (y.2 ≠ .cell)||decide (sc.names.lookup y.1=some .cell))&&(decide (y.2 ≠ .local)||decide (sc.names.lookup y.1=some .local)) &&
  (decide (y.2 ≠ .free)||(decide (scX.names.lookup y.1=some .cell)||decide (scX.names.lookup y.1=some .free)))
theorem jV.get{fr:List (Option Nat)}{sc scX:Scope}(h:jV fr N' N sc scX=true):fr.length=N'.length/\∀(i j:Nat),fr[i]?=some (some j)->∃x,N'[i]?=some x/\N[j]?=some x/\sc.names.lookup x=some .free/\(scX.names.lookup x=some .cell\/scX.names.lookup x=some .free):=by
 unfold jV at h
 obtain⟨h1,h2⟩:=Fb.mp h
 refine⟨of_decide_eq_true h1,fun i j e=>?_⟩
 have hi:i<fr.length:=(FK.mp e).1
 have q:=G5.mp h2 i (HV.mpr hi)
 rw[e]at q
 dsimp only at q
 cases en:N'[i]? with
 | none=>rw[en]at q;cases q
 | some x =>
   rw[en]at q
   dsimp only at q
   obtain⟨q1,q2⟩:=Fb.mp q
   obtain⟨q3,q4⟩:=Fb.mp q1
   exact⟨x,rfl,of_decide_eq_true q3,of_decide_eq_true q4,(FC.mp q2).imp of_decide_eq_true of_decide_eq_true⟩
theorem lF{k:IG}:∀{names:List (Str×IG)},names.lookup x=some k->(x,k)∈names:=fun h=>GC h
structure CompA where
 cl:List (Str×Addr)
 fp:List Addr
 pn:List (Addr×Obj)
 s:E_
 H:Hp
abbrev blk(X:Cx)(N':List Str)(scope:Scope)(y:CompA):Cx:=ba X N' scope y.cl y.fp y.pn y.s y.H
noncomputable def pE(wi:TI)(fr:List (Option Nat))(g:CompA->TG)(tt:CompA->TT)(te:CompA->TE):TE:=fun σ H Q=>wi σ H fun J H1=>∀D,H1 D=none->∃Wv:Nat->Nat->List V->St->Hp->Prop,(∃m,Wv 0 m [] (lP fr σ) (Cb H1 D (.lst []))) /\
 ∀ (z:CompA) i m acc σc H,Wv i m acc σc H->(J.stop i H/\Q (.ref D) H)\/(J.go i H/\∀x H',J.yld i H x H'->g z x σc H' fun σ2 H2=>tt z σ2 H2 fun b H3 =>
   if b=true then te z σ2 H3 fun y H4=>H4 D=some (.lst acc)/\acc.length<sizeLine/\∃m',m'<m/\Wv (i+1) m' (acc++[y]) σ2 (Cb H4 D (.lst (acc++[y])))else ∃m',m'<m/\Wv (i+1) m' acc σ2 H3)
theorem eK{env:Env}:∀{names:List (Str×IG)}{x:Str},names.lookup x=some .free ->
 (names.map fun(n,k)=>if(k==Gw&&env.scope.kind == .function&&env.kindOf n==some .cell)then(n,Ho)else(n,k)).lookup x=some .cell \/
 (names.map fun(n,k)=>if(k==Gw&&env.scope.kind == .function&&env.kindOf n==some .cell)then(n,Ho)else(n,k)).lookup x=some .free
 | [],_,h=>by simp at h
 | (n,k)::r,x,h=>by
   have ih:=@eK env r x
   rw[Gi]
   dsimp only
   cases hx:x==n with
   | true =>
     simp only[Gu,hx]at h
     cases h
     by_cases hc:((Gw==Gw)&&env.scope.kind == .function&&env.kindOf n==some .cell)=true
     · rw[if_pos hc];simp[Gu,hx]
     · rw[if_neg hc];simp[Gu,hx]
   | false =>
     simp only[Gu,hx]at h
     by_cases hc:(k==Gw&&env.scope.kind == .function&&env.kindOf n==some .cell)=true
     · rw[if_pos hc];simp only[Gu,hx];exact ih h
     · rw[if_neg hc];simp only[Gu,hx];exact ih h
theorem cP{ex:Expr}{H3:Hp}{s3:E_}{D:Addr}{J:It}{Q:VK}
 (N':List Str)(fr:List (Option Nat))(hc:X.calm=true)(hkind:scope.kind = .function)(hcell:∀y∈scope.names,y.2 = .cell->scope.names.lookup y.1=some .cell)
 (hfree:∀y∈scope.names,y.2 = .free->X.env.kindOf y.1=some .cell\/X.env.kindOf y.1=some .free)(frl:fr.length=N'.length)
 (frg:∀(i j:Nat),fr[i]?=some (some j)->∃x,N'[i]?=some x/\X.N[j]?=some x/\scope.names.lookup x=some .free/\(X.env.scope.names.lookup x=some .cell\/X.env.scope.names.lookup x=some .free))
 (cl1:∀x c,cl.lookup x=some c->X.env.cells.lookup x=some c)(cl2:∀x,(x,Gw)∈scope.names->(cl.lookup x).isSome=true)
 (I3:Inv X pins σ H3 s3)(T:Turn X.prog X.w X.K tg J fp it tn)(tn3:tn 0 s3.heap)(fpD:∀b∈fp,H3 b=none)(fp3:∀b∈fp,b<s3.heap.objs.size)
 (fpk:∀b∈fp,b≠X.env.locals/\b∉X.fs/\(b∈X.ex\/X.s₀.heap.objs.size<=b)/\(∀x c,X.env.cells.lookup x=some c->c≠b)/\∀p∈X.pn++pins,p.1≠b)
 (loop:∀s',Inv (ba X N' scope cl fp (X.pn++pins) s3 H3) [] (lP fr σ) H3 s'->tn 0 s'.heap->(∀{H':Hp},(∀b∈fp,H' b=none)->∀b∈fp,jB (ba X N' scope cl fp (X.pn++pins) s3 H3) [] H' b) ->
  Hr (FT X.prog X.w) X.A (.compStart ex 0 (.ref it) (.ref D) (ba X N' scope cl fp (X.pn++pins) s3 H3).env) (fun r s5=>r = .ok .next/\∃σ5 H4,Inv (ba X N' scope cl fp (X.pn++pins) s3 H3) [] σ5 H4 s5/\Q (.ref D) H4) s')
 (fin:∀s5 H4 m,s5.heap.Ns s3.heap.objs.size m->(∀h',HM s3.heap.objs.size s5.heap h'->Inv X pins σ H4 {s5 with heap:=h' })->jB X pins H4 s3.heap.objs.size->Q (.ref D) H4->Rp s3.heap.objs.size (.ok .next) s5) :
 FH (FT X.prog X.w) X.A (I0 scope X.env.globals cl [] X.env.qual none .none (some X.env)) (fun cenv s₄ =>
  Hr (FT X.prog X.w) X.A (.compStart ex 0 (.ref it) (.ref D) {cenv with scope:=LD scope X.env})
   (Rp cenv.locals) s₄) X.xe s3:=by
 refine jP ?_
 have ok:=cellsFrom_ok scope.names (s3.heap.push {cls:=.type "dict", data:=.dict #[]}) (s3.heap.objs.size+1) [] ⟨fun _ _ hm=>(nomatch hm),JN⟩ (by rw[HX];exact Fa _)
 rw[HX]at ok
 have kp:∀b o,s3.heap.get? b=some o->(Lq (s3.heap.push {cls:=.type "dict", data:=.dict #[]}) scope.names).get? b=some o:=fun b o e=>pushCells_keeps _ _ b o (E4 _ e)
 have hns₁:(Lq (s3.heap.push {cls:=.type "dict", data:=.dict #[]}) scope.names).Ns s3.heap.objs.size (fun _=>none):=(Heap.Ns.new s3.heap (.type "dict")).keeps (pushCells_keeps _ _)
 generalize Lq (s3.heap.push {cls:=.type "dict", data:=.dict #[]}) scope.names=h₁ at ok kp hns₁ ⊢
 have cs:∀x c,(G7 (s3.heap.objs.size+1) scope.names cl).lookup x=some c->(G7 (s3.heap.objs.size+1) scope.names []).lookup x=some c\/cl.lookup x=some c:=fun x c e=>by
  rw[br,eE]at e
  cases q:(G7 (s3.heap.objs.size+1) scope.names []).lookup x with
  | none=>rw[q]at e;exact .inr (by simpa using e)
  | some c'=>rw[q]at e;exact .inl (by simpa using e)
 have own:∀x c,(G7 (s3.heap.objs.size+1) scope.names []).lookup x=some c->h₁.IsCell c none/\s3.heap.objs.size+1<=c:=fun x c e=>ok.empty x c (GC e)
 have clt:∀x c,cl.lookup x=some c->c<s3.heap.objs.size:=fun x c e=>by
  obtain⟨v,o,ho,_⟩:=I3.cell x c (cl1 x c e)
  exact Fq ho
 have frn:∀x,scope.names.lookup x=some .free->(G7 (s3.heap.objs.size+1) scope.names []).lookup x=none:=fun x e=>by
  cases q:(G7 (s3.heap.objs.size+1) scope.names []).lookup x with
  | none=>rfl
  | some c =>
    have:=hcell (x,.cell) (cQ (GC q)) rfl
    rw[e]at this
    cases this
 have notC:∀b o,s3.heap.get? b=some o->b≠s3.heap.objs.size:=fun b o e=>FZ (Fq e)
 have fpstk:∀b∈fp,b∉frs X.stack:=fun b hb z=>(FN.mp (I3.stkSub b z)).elim (fpk b hb).1 (fpk b hb).2.1
 have cellK:∀c v,s3.heap.IsCell c v->h₁.IsCell c v:=fun c v ⟨o,ho,hd⟩=>⟨o,kp c o ho,hd⟩
 have IY:Inv (ba X N' scope cl fp (X.pn++pins) s3 H3) [] (lP fr σ) H3 {s3 with heap:=h₁}:=by
  refine⟨⟨I3.ok.mod,hkind,I3.ok.glob,I3.ok.blt,Fa _,fun x y c e1 e2=>?_,fun x hx=>?_,fun x c _ e=>?_,I3.ok.hd,I3.ok.frames,.inl rfl,
   fun b hb=>⟨FZ (fp3 b hb),fun x c e=>?_⟩,I3.bs,FP I3.ok.bsz I3.sz,fun b o e hb=>?_,fun b hb=>fpstk b hb,I3.stack,I3.stkFree⟩,
   rfl,I3.bare,Un.kept kp,⟨_,hns₁,fun i x v e1 e2 e3=>?_⟩,fun x c e=>?_,I3.hok.fresh (Fa _),fun x c e=>?_,fun p hp=>?_,I3.hok.kept kp,?_⟩
  · rcases cs x c e1 with q1|q1<;>rcases cs y c e2 with q2|q2
    · exact name_of_addr ok.apart (GC q1) (GC q2)
    · exact absurd (E8 (clt y c q2) (Im (own x c q1).2)) (Ha _)
    · exact absurd (E8 (clt x c q1) (Im (own y c q2).2)) (Ha _)
    · exact I3.ok.inj x y c (cl1 x c q1) (cl1 y c q2)
  · refine HH.mp ?_
    show((G7 (s3.heap.objs.size+1) scope.names cl).lookup x).isSome=true
    rcases jh hx with q|q
    · exact W.cellsFrom_some _ _ _ (.inr (cl2 x q))
    · exact W.cellsFrom_some _ _ _ (.inl (hcell _ q rfl))
  · rename_i hfn
    rcases cs x c e with q|q
    · have:=(own x c q).2
      show s3.heap.objs.size<=c
      omega
    · have hfn:(scope.names.lookup x==some Ho)=true:=hfn
      have hl:scope.names.lookup x=some .cell:=by simpa using hfn
      obtain⟨c',ec'⟩:=HH.mp (W.cellsFrom_some scope.names (s3.heap.objs.size+1) [] (.inl hl))
      have e':(G7 (s3.heap.objs.size+1) scope.names cl).lookup x=some c:=e
      rw[br,eE,ec']at e'
      simp at e'
      subst e'
      exact Im (own x c' ec').2
  · rcases cs x c e with q|q
    · exact fun z=>absurd (E8 (fp3 b hb) (Im (by rw[<- z];exact(own x c q).2))) (Ha _)
    · exact(fpk b hb).2.2.2.1 x c (cl1 x c q)
  · rcases(fpk b hb).2.2.1 with z|z
    · exact I3.ok.noex b o e z
    · exact absurd (E8 (Fq e) (FP I3.ok.bsz z)) (Ha _)
  · have e2':(fr[i]?).map (fun o=>o.bind fun j=>(σ[j]?).join)=some (some v):=by unfold lP at e2;rw[F0]at e2;exact e2
    cases ef:fr[i]? with
    | none=>rw[ef]at e2';cases e2'
    | some o =>
      cases o with
      | none=>rw[ef]at e2';cases e2'
      | some j =>
        rw[ef]at e2'
        have e3':(σ[j]?).join=some v:=Gr e2'
        have e4:σ[j]?=some (some v):=by
         cases q:σ[j]? with
         | none=>rw[q]at e3';cases e3'
         | some z=>rw[q]at e3';cases e3';rfl
        obtain⟨x',n1,n2,n3,n4⟩:=frg i j ef
        have ex:x'=x:=Gr (n1.symm.trans e1)
        subst ex
        obtain⟨m,hn,hl⟩:=I3.loc
        obtain⟨u,ru,lk⟩:=hl j x' v n2 e4 (n4.elim (fun z=>.inr (.inl z)) fun z=>.inr (.inr z))
        refine⟨u,ru,?_⟩
        rcases lk with⟨kl,_⟩|⟨_,c,ec,hcl⟩
        · exact absurd (show X.env.scope.names.lookup x'=some .local from kl) (by rcases n4 with z|z<;>rw[z]<;>decide)
        · obtain⟨c',ec'⟩:=HH.mp (cl2 x' (lF n3))
          have:=cl1 x' c' ec'
          rw[ec]at this
          cases this
          refine .inr ⟨eK n3,c,?_,cellK _ _ hcl⟩
          show(G7 (s3.heap.objs.size+1) scope.names cl).lookup x'=some c
          rw[br,eE,frn x' n3]
          simpa using ec'
  · rcases cs x c e with q|q
    · exact⟨_,(own x c q).1⟩
    · obtain⟨v,z⟩:=I3.cell x c (cl1 x c q)
      exact⟨v,cellK _ _ z⟩
  · rcases cs x c e with q|q
    · exact I3.hok.fresh (by have:=(own x c q).2;omega)
    · exact I3.freeC x c (cl1 x c q)
  · rw[HG]at hp
    obtain⟨e,n,ne,nf,d⟩:=I3.pin p hp
    exact⟨kp _ _ e,n,notC _ _ e,fun z=>(FN.mp (I3.stkSub p.1 z)).elim ne nf,d⟩
  · unfold lP
    rw[Fd]
    exact frl
 have stat:∀{H':Hp},(∀b∈fp,H' b=none)->∀b∈fp,jB (ba X N' scope cl fp (X.pn++pins) s3 H3) [] H' b:=fun hn b hb =>
  ⟨hn b hb,FZ (fp3 b hb),fpstk b hb,.inl hb,fun x c e=>(by
   rcases cs x c e with q|q
   · exact fun z=>absurd (E8 (fp3 b hb) (Im (by rw[<- z];exact(own x c q).2))) (Ha _)
   · exact(fpk b hb).2.2.2.1 x c (cl1 x c q)),fun p hp=>by rw[HG]at hp;exact(fpk b hb).2.2.2.2 p hp⟩
 refine JD (loop _ IY (T.keep _ _ _ tn3 fun b _ o e=>kp b o e) stat) fun r s5 ⟨hr,σ5,H4,I5,qn⟩=>?_
 subst hr
 obtain⟨m,hn,_⟩:=I5.loc
 refine fin s5 H4 m hn (fun h' hs'=>?_) (I3.fpOk (Fa _) I5.free) qn
 have k':∀b o,b≠s3.heap.objs.size->s5.heap.get? b=some o->h'.get? b=some o:=fun b o nb e=>hs'.extBut b o nb e
 have u5:Un (frs X.stack) fp H3 H4 s3.heap s5.heap:=I5.base
 have un:Un (frs X.stack) fp H3 H4 s3.heap h' :=
  ⟨fun b o e n hb hx=>k' b o (notC b o e) (u5.keep b o e n hb hx),fun b o e n hb hx=>by obtain⟨sl,q⟩:=u5.slot b o e n hb hx;exact⟨sl,k' b _ (notC b o e) q⟩,u5.free,
   fun b o e hx=>by obtain⟨o',q⟩:=u5.there b o e hx;exact⟨o',k' b _ (notC b o e) q⟩,u5.tups,u5.frzs,u5.tbls⟩
 have nC:H4 s3.heap.objs.size=none:=I5.free
 have hok':EL X.prog X.w H4 h':=fun b u e=>(I5.hok b u e).stay (fun c v hcv q=>k' c v (by
  rintro rfl
  rcases hcv with z|z
  · rw[<- z]at e;rw[nC]at e;cases e
  · rw[nC]at z;cases z) q) (fun _ q=>q) fun _ _ q=>q
 obtain⟨hh,g5,d5,t5,os5⟩:=s5
 have os':os5=s3.os:=I5.os
 subst os'
 have I':=Inv.call (s:=s3) (h':=h') (g':=g5) (d':=d5) (t':=t5) (ch:=fp) I3 un hok' I5.bare (fun b hb=>⟨(fpk b hb).2.2.1,(fpk b hb).1,(fpk b hb).2.2.2.1,(fpk b hb).2.2.2.2⟩)
 exact I'
theorem gY{elt:Expr}{g:TG}{tt:TT}{te:TE}{H3:Hp}{s3:E_}{D:Addr}{J:It}{Q:VK}
 (N':List Str)(fr:List (Option Nat))(hc:X.calm=true)(hkind:scope.kind = .function)(hcell:∀y∈scope.names,y.2 = .cell->scope.names.lookup y.1=some .cell)
 (hfree:∀y∈scope.names,y.2 = .free->X.env.kindOf y.1=some .cell\/X.env.kindOf y.1=some .free)(frl:fr.length=N'.length)
 (frg:∀(i j:Nat),fr[i]?=some (some j)->∃x,N'[i]?=some x/\X.N[j]?=some x/\scope.names.lookup x=some .free/\(X.env.scope.names.lookup x=some .cell\/X.env.scope.names.lookup x=some .free))
 (cl1:∀x c,cl.lookup x=some c->X.env.cells.lookup x=some c)(cl2:∀x,(x,Gw)∈scope.names->(cl.lookup x).isSome=true)
 (I3:Inv X pins σ H3 s3)(T:Turn X.prog X.w X.K tg J fp it tn)(tn3:tn 0 s3.heap)(fpD:∀b∈fp,H3 b=none)(fp3:∀b∈fp,b<s3.heap.objs.size)
 (fpk:∀b∈fp,b≠X.env.locals/\b∉X.fs/\(b∈X.ex\/X.s₀.heap.objs.size<=b)/\(∀x c,X.env.cells.lookup x=some c->c≠b)/\∀p∈X.pn++pins,p.1≠b)
 (hg:PG (ba X N' scope cl fp (X.pn++pins) s3 H3) tg g)(ht:Eh (ba X N' scope cl fp (X.pn++pins) s3 H3) ifs tt)(he:PE (ba X N' scope cl fp (X.pn++pins) s3 H3) elt te)
 {Wv:Nat->Nat->List V->St->Hp->Prop}{m0:Nat}(w0:Wv 0 m0 [] (lP fr σ) H3)
 (turn:∀i m acc σc H,Wv i m acc σc H->(J.stop i H/\Q (.ref D) H)\/(J.go i H/\∀x H',J.yld i H x H'->g x σc H' fun σ2 H2=>tt σ2 H2 fun b H3 =>
  if b=true then te σ2 H3 fun y H4=>H4 D=some (.lst acc)/\acc.length<sizeLine/\∃m',m'<m/\Wv (i+1) m' (acc++[y]) σ2 (Cb H4 D (.lst (acc++[y])))else ∃m',m'<m/\Wv (i+1) m' acc σ2 H3))
 (fin:∀s5 H4 m,s5.heap.Ns s3.heap.objs.size m->(∀h',HM s3.heap.objs.size s5.heap h'->Inv X pins σ H4 {s5 with heap:=h' })->jB X pins H4 s3.heap.objs.size->Q (.ref D) H4->Rp s3.heap.objs.size (.ok .next) s5) :
 FH (FT X.prog X.w) X.A (I0 scope X.env.globals cl [] X.env.qual none .none (some X.env)) (fun cenv s₄ =>
  Hr (FT X.prog X.w) X.A (.compStart (.ListComp elt [⟨tg,iter,ifs,0⟩] scope pos) 0 (.ref it) (.ref D) {cenv with scope:=LD scope X.env})
   (Rp cenv.locals) s₄) X.xe s3:=by
 refine cP N' fr hc hkind hcell hfree frl frg cl1 cl2 I3 T tn3 fpD fp3 fpk (fun s' IY tY stat=>?_) fin
 have loop:Hr (FT X.prog X.w) X.A (.compLoop (.ListComp elt [⟨tg,iter,ifs,0⟩] scope pos) 0 (.ref it) (.ref D) (ba X N' scope cl fp (X.pn++pins) s3 H3).env)
  (fun r s5=>r = .ok .next/\∃σ5 H4,Inv (ba X N' scope cl fp (X.pn++pins) s3 H3) [] σ5 H4 s5/\Q (.ref D) H4) s':=by
  refine oF (fun n s'=>∃i acc σ' H',Inv (ba X N' scope cl fp (X.pn++pins) s3 H3) [] σ' H' s'/\tn i s'.heap/\(∀b∈fp,H' b=none)/\Wv i n acc σ' H') ?_ m0
   ⟨0,[],_,_,IY,tY,fpD,w0⟩
  rintro n s4 ⟨i,acc,σ4,H4,I4,st4,fr4,w4⟩
  rcases turn i n acc σ4 H4 w4 with⟨stop,qn⟩|⟨go,step⟩
  · exact Cj (T.done (ba X N' scope cl fp (X.pn++pins) s3 H3) rfl rfl rfl hc i [] s4 σ4 H4 (fun _ _=>False) I4 (stat fr4) st4 stop) fun r s5 ⟨hr,I5⟩=>.inl ⟨hr,rfl,σ4,H4,I5,qn⟩
  · refine Cj (T.item (ba X N' scope cl fp (X.pn++pins) s3 H3) rfl rfl rfl hc i [] s4 σ4 H4 (fun _ _=>False) I4 (stat fr4) st4 go) fun r s5 ⟨u,hr,h5⟩=>.inr ⟨u,hr,?_⟩
    refine Cj h5 fun _ s6 ⟨x,H6,I6,r6,y6,st6,fr6⟩=>?_
    have I6':=I6.pinned (stat fr6) (T.obj _ _ st6)
    have again:∀{σ7:St}{H7:Hp}{s7:E_},Inv (ba X N' scope cl fp (X.pn++pins) s3 H3) ([]++eM fp s6.heap) σ7 H7 s7->∀{acc':List V}{m':Nat},m'<n->Wv (i+1) m' acc' σ7 H7 ->
     ∃m,m<n/\∃i acc σ' H',Inv (ba X N' scope cl fp (X.pn++pins) s3 H3) [] σ' H' s7/\tn i s7.heap/\(∀b∈fp,H' b=none)/\Wv i m acc σ' H':=fun{σ7 H7 s7} I7 {acc' m'} hm w7=>by
     refine⟨m',hm,i+1,acc',σ7,H7,I7.unpinned,T.keep _ _ _ st6 fun b hb o e=>(I7.pin (b,o) (Fu _ (Fu _ (bx hb e)))).1,fun b hb=>?_,w7⟩
     obtain⟨o,e,d⟩:=T.obj _ _ st6 b hb
     exact(I7.pin (b,o) (Fu _ (Fu _ (bx hb e)))).2.1
    refine Cj (hg _ s6 σ4 H6 x u _ I6' r6 (step x H6 y6)) fun _ s7 ⟨σ7,H7,I7,q7⟩=>?_
    refine Cj (ht _ s7 σ7 H7 _ I7 q7) fun ok s8 ⟨H8,I8,q8⟩=>?_
    cases ok with
    | false =>
      rw[if_neg FO]at q8 ⊢
      obtain⟨m',hm,w8⟩:=q8
      exact again I8 hm w8
    | true =>
      rw[if_pos rfl]at q8 ⊢
      refine Cj (he _ s8 σ7 H8 _ I8 q8) fun y s9 ⟨yv,H9,I9,r9,eD,hl,m',hm,w9⟩=>?_
      exact Cj (dQ (X:=ba X N' scope cl fp (X.pn++pins) s3 H3) _ s9 σ7 H9 (.ref D) [yv] (.ref D) [y] (fun _ H'=>H'=Cb H9 D (.lst (acc++[yv]))) I9 rfl (.cons r9 .nil) ⟨D,acc,yv,rfl,rfl,eD,hl,rfl⟩)
       fun _ s10 ⟨_,H10,I10,_,e10⟩=>by subst e10;exact again I10 hm w9
 exact J8 loop (T.self X.A 0 _ _ _ tY loop)
section
variable{X:Cx}{elt tg iter:Expr}{ifs:List Expr}{scope:Scope}{pos:Pos}{wi:TI}{g:CompA->TG}{tt:CompA->TT}{te:CompA->TE}
theorem iD(N':List Str)(fr:List (Option Nat))(hc:X.calm=true)(hi:PI X tg iter wi)(hfr:jV fr N' X.N scope X.env.scope=true)(hsc:kF scope X.env.scope=true)
 (hg:∀y,PG (blk X N' scope y) tg (g y))(ht:∀y,Eh (blk X N' scope y) ifs (tt y))(he:∀y,PE (blk X N' scope y) elt (te y))
 (hs:∀x,FF iter X.env x=pure x:=by intro _;rfl):PE X (.ListComp elt [⟨tg,iter,ifs,0⟩] scope pos) (pE wi fr g tt te):=by
 intro pins s σ H Q I h
 obtain⟨sk,sn⟩:=Fb.mp hsc
 have hkind:scope.kind = .function:=of_decide_eq_true sk
 have hall:=G5.mp sn
 have hcell:∀y∈scope.names,y.2 = .cell->scope.names.lookup y.1=some .cell:=fun y hy hl=>by
  rcases FC.mp (Fb.mp (Fb.mp (hall y hy)).1).1 with z|z
  · exact absurd hl (of_decide_eq_true z)
  · exact of_decide_eq_true z
 have hnames:∀y∈scope.names,y.2 = .local->scope.names.lookup y.1=some .local:=fun y hy hl=>by
  rcases FC.mp (Fb.mp (Fb.mp (hall y hy)).1).2 with z|z
  · exact absurd hl (of_decide_eq_true z)
  · exact of_decide_eq_true z
 have hfree:∀y∈scope.names,y.2 = .free->X.env.kindOf y.1=some .cell\/X.env.kindOf y.1=some .free:=fun y hy hl=>by
  rcases FC.mp (Fb.mp (hall y hy)).2 with z|z
  · exact absurd hl (of_decide_eq_true z)
  · exact(FC.mp z).imp of_decide_eq_true of_decide_eq_true
 obtain⟨frl,frg⟩:=jV.get hfr
 obtain⟨cl,hclos,cl1,cl2⟩:=cf (env:=X.env) (scope:=scope) fun y hy hl=>I.ok.has y.1 (hfree y hy hl)
 rw[eval_ListComp]
 refine GY (use:=none) rfl hs hclos hkind hnames (Cj (hi pins s σ H _ I h) fun v s1 h1=>Cj h1 fun itv s2 h2=>?_)
 obtain⟨it,fp,tn,J,H2,e,I2,T,st2,f2,q2⟩:=h2
 subst e
 refine Gs ?_
 have hD:H2 s2.heap.objs.size=none:=I2.hok.fresh (Fa _)
 have I3:Inv X pins σ (Cb H2 s2.heap.objs.size (.lst [])) {s2 with heap:=s2.heap.push {cls:=.type "list", data:=.seq ([]:List E7).toArray}} :=
  I2.laid (t':=s2.toks) (fun b u e=>E4 _ e) (Fa _) ⟨by show 0<=sizeLine;exact FI _,[],0,.nil,FB _ rfl⟩
 obtain⟨Wv,⟨m0,w0⟩,turn⟩:=q2 _ hD
 have tn3:tn 0 (s2.heap.push {cls:=.type "list", data:=.seq ([]:List E7).toArray}):=T.keep _ _ _ st2 fun b _ o e=>E4 _ e
 have fpD:∀b∈fp,(Cb H2 s2.heap.objs.size (.lst [])) b=none:=fun b hb=>by
  obtain⟨o,e,_⟩:=T.obj _ _ st2 b hb
  rw[ak (FZ (Fq e))]
  exact(f2 b hb).1
 have fp3:∀b∈fp,b<(s2.heap.push {cls:=.type "list", data:=.seq ([]:List E7).toArray}).objs.size:=fun b hb=>by
  obtain⟨o,e,_⟩:=T.obj _ _ tn3 b hb
  exact Fq e
 exact gY N' fr hc hkind hcell hfree frl frg cl1 cl2 I3 T tn3 fpD fp3 (fun b hb=>(f2 b hb).2) (hg ⟨cl,fp,X.pn++pins,_,_⟩) (ht ⟨cl,fp,X.pn++pins,_,_⟩) (he ⟨cl,fp,X.pn++pins,_,_⟩) w0 (turn ⟨cl,fp,X.pn++pins,_,_⟩)
  (Rp:=K4 (FT X.prog X.w) X.A X.xe none (EP X pins σ Q) (.ref s2.heap.objs.size)) fun s5 H4 m hn k _ qn=>⟨m,hn,fun h' hs'=>⟨.ref _,H4,k h' hs',rfl,qn⟩⟩
theorem gN{b:Bool}{ix:Nat}(N':List Str)(fr:List (Option Nat))(hc:X.calm=true)(hi:PI X tg iter wi)(hfr:jV fr N' X.N scope X.env.scope=true)(hsc:kF scope X.env.scope=true)
 (hg:∀y,PG (blk X N' scope y) tg (g y))(ht:∀y,Eh (blk X N' scope y) ifs (tt y))(he:∀y,PE (blk X N' scope y) elt (te y))(hN:X.N.Nodup)(hix:X.N[ix]?=some x)(hx:Loc X.env.scope x)
 (hf:X.fn x=true\/X.env.scope.names.lookup x=some .local)(hsw:G0 (.ListComp elt [⟨tg,iter,ifs,0⟩] scope pos) (some (.Name x px)) spos.line X.env=pure b)
 (hs:∀x,FF iter X.env x=pure x):PS X (.Assign [.Name x px] (.ListComp elt [⟨tg,iter,ifs,0⟩] scope pos) spos) (vJ (pE wi fr g tt te) (iP ix)):=by
 cases b with
 | false=>exact fK hN hix hx (iD N' fr hc hi hfr hsc hg ht he hs) hsw hf
 | true =>
 intro pins s σ H DD I h
 obtain⟨sk,sn⟩:=Fb.mp hsc
 have hkind:scope.kind = .function:=of_decide_eq_true sk
 have hall:=G5.mp sn
 have hcell:∀y∈scope.names,y.2 = .cell->scope.names.lookup y.1=some .cell:=fun y hy hl=>by
  rcases FC.mp (Fb.mp (Fb.mp (hall y hy)).1).1 with z|z
  · exact absurd hl (of_decide_eq_true z)
  · exact of_decide_eq_true z
 have hnames:∀y∈scope.names,y.2 = .local->scope.names.lookup y.1=some .local:=fun y hy hl=>by
  rcases FC.mp (Fb.mp (Fb.mp (hall y hy)).1).2 with z|z
  · exact absurd hl (of_decide_eq_true z)
  · exact of_decide_eq_true z
 have hfree:∀y∈scope.names,y.2 = .free->X.env.kindOf y.1=some .cell\/X.env.kindOf y.1=some .free:=fun y hy hl=>by
  rcases FC.mp (Fb.mp (hall y hy)).2 with z|z
  · exact absurd hl (of_decide_eq_true z)
  · exact(FC.mp z).imp of_decide_eq_true of_decide_eq_true
 obtain⟨frl,frg⟩:=jV.get hfr
 obtain⟨cl,hclos,cl1,cl2⟩:=cf (env:=X.env) (scope:=scope) fun y hy hl=>I.ok.has y.1 (hfree y hy hl)
 rw[Ja _ _ _ _ hsw]
 refine EZ (GW (EZ ?_))
 show FH _ X.A (do let _ <- K5 (.ListComp elt [⟨tg,iter,ifs,0⟩] scope pos) scope X.env _ (newList []) false (eval iter X.env) (some (Iq (.Name x px) X.env))) _ _ s
 refine EZ (FX (GY (use:=some (Iq (.Name x px) X.env)) (Q:=fun _ s'=>SP X pins DD .next s') rfl hs hclos hkind hnames
  (Cj (hi pins s σ H _ I h) fun v s1 h1=>Cj h1 fun itv s2 h2=>?_)) (fun _ s' hq=>Fh (Fh hq)) fun _ _ e=>e)
 obtain⟨it,fp,tn,J,H2,e,I2,T,st2,f2,q2⟩:=h2
 subst e
 refine Gs ?_
 have hD:H2 s2.heap.objs.size=none:=I2.hok.fresh (Fa _)
 have I3:Inv X pins σ (Cb H2 s2.heap.objs.size (.lst [])) {s2 with heap:=s2.heap.push {cls:=.type "list", data:=.seq ([]:List E7).toArray}} :=
  I2.laid (t':=s2.toks) (fun b u e=>E4 _ e) (Fa _) ⟨by show 0<=sizeLine;exact FI _,[],0,.nil,FB _ rfl⟩
 obtain⟨Wv,⟨m0,w0⟩,turn⟩:=q2 _ hD
 have tn3:tn 0 (s2.heap.push {cls:=.type "list", data:=.seq ([]:List E7).toArray}):=T.keep _ _ _ st2 fun b _ o e=>E4 _ e
 have fpD:∀b∈fp,(Cb H2 s2.heap.objs.size (.lst [])) b=none:=fun b hb=>by
  obtain⟨o,e,_⟩:=T.obj _ _ st2 b hb
  rw[ak (FZ (Fq e))]
  exact(f2 b hb).1
 have fp3:∀b∈fp,b<(s2.heap.push {cls:=.type "list", data:=.seq ([]:List E7).toArray}).objs.size:=fun b hb=>by
  obtain⟨o,e,_⟩:=T.obj _ _ tn3 b hb
  exact Fq e
 refine gY (Q:=fun v H1=>iP ix v σ H1 DD.nx) N' fr hc hkind hcell hfree frl frg cl1 cl2 I3 T tn3 fpD fp3 (fun b hb=>(f2 b hb).2) (hg ⟨cl,fp,X.pn++pins,_,_⟩) (ht ⟨cl,fp,X.pn++pins,_,_⟩) (he ⟨cl,fp,X.pn++pins,_,_⟩) w0 (turn ⟨cl,fp,X.pn++pins,_,_⟩)
  (Rp:=K4 (FT X.prog X.w) X.A X.xe (some (Iq (.Name x px) X.env)) (fun _ s'=>SP X pins DD .next s') (.ref s2.heap.objs.size)) fun s5 H4 m hn k fpo qn=>?_
 show FH _ X.A (Iq (.Name x px) X.env (.ref s2.heap.objs.size)) _ _ s5
 have I5:Inv X pins σ H4 s5:=k s5.heap (JQ _ _)
 obtain⟨f0,f1,f2',f3,f4,f5⟩:=fpo
 refine IQ (dI I5 hN hix hx (v:=.ref s2.heap.objs.size) rfl (fun s6 I6 sb=>?_) hf)
 obtain⟨a,sb,ha⟩:=sb
 have hne:(s2.heap.push {cls:=.type "list", data:=.seq ([]:List E7).toArray}).objs.size≠a:=by
  rcases ha with rfl|ha
  · exact f1
  · exact fun z=>f4 x a ha z.symm
 refine⟨m,hn.at' fun o e=>sb.extBut _ o hne e,fun h' hs'=>?_⟩
 exact⟨_,H4,I6.turned (t':=s6.toks) (fun b o hb e=>hs'.extBut b o hb e) f0 f1 f3 f4 f5,qn⟩
end
end L2
namespace L2.VL
noncomputable def W.cap:W->Option W
 | .d x=>some (.d x)
 | .reel=>some .reel
 | .vv u=>some (.vv u)
 | .sc ns=>some (.sc ns)
 | .fd kvs=>some (.fd kvs)
 | .fw kvs=>some (.fw kvs)
 | .ft kvs=>some (.ft kvs)
 | .xc x fs=>some (.xc x fs)
 | .dp kvs x=>some (.dp kvs x)
 | _=>none
noncomputable def c_(fr:List (Option Nat))(ρ:En):En:=fr.map fun o=>o.bind fun j=>((ρ[j]?).join).bind W.cap
noncomputable def jA(X:Cx)(rl:RlT)(ifs:List Expr)(f:TB):Prop:=∃t,Eh X ifs t/\∀{F₀ H₀ F H:Hp}{σ:St}{ρ:En},VR X.K rl F₀ H₀ F H σ ρ->∀(Qd:Bool->Prop)(Q:Bool->Hp->Prop),f ρ Qd ->
 (∀b F' H',Grow rl F H F' H'->Qd b->Q b H')->t σ H Q
theorem bQ:jA X rl [] (fun _ Q=>Q true):=⟨_,sV,fun R Qd Q q k=>k true _ _ (Grow.refl R.sub R.reel) q⟩
theorem dB{f:TB}(h:PB X rl c f):jA X rl [c] f:=let ⟨t,p,k⟩:=h;⟨t,sU p,k⟩
theorem fg{fr:List (Option Nat)}{w:W}(h:(c_ fr ρ)[i]?=some (some w)):∃j w',fr[i]?=some (some j)/\ρ[j]?=some (some w')/\w'.cap=some w:=by
 unfold c_ at h
 rw[F0]at h
 cases ef:fr[i]? with
 | none=>rw[ef]at h;cases h
 | some o =>
   cases o with
   | none=>rw[ef]at h;cases h
   | some j =>
     rw[ef]at h
     have h':((ρ[j]?).join).bind W.cap=some w:=Gr h
     cases q:ρ[j]? with
     | none=>rw[q]at h';cases h'
     | some o =>
       cases o with
       | none=>rw[q]at h';cases h'
       | some w'=>rw[q]at h';exact⟨j,w',rfl,q,h'⟩
theorem lf{w' w:W}(h:w'.cap=some w):w=w'/\w.own=false/\∀xs,w ≠ .pk xs:=by
 cases w'<;>cases h<;>exact⟨rfl,rfl,(fun _ z=>by cases z)⟩
theorem dC{K:W.Frag}{fr:List (Option Nat)}(R:VR K rl F₀ H₀ F H σ ρ)(g:Grow rl F H F H'):VR K rl F H F H' (lP fr σ) (c_ fr ρ):=by
 refine⟨g,fun i w e=>?_,fun i j xs ys v _ e1 _ o1 _ _ _=>?_,fun i xs e=>?_,by simp[lP,c_]⟩
 · obtain⟨j,w',e1,e2,e3⟩:=fg e
   obtain⟨rfl,n1,n2⟩:=lf e3
   obtain⟨v,s1,r1,_⟩:=R.sl j w e2
   refine⟨v,?_,r1.grow g,?_⟩
   · unfold lP
     rw[F0,e1]
     show some ((σ[j]?).join)=_
     rw[s1]
     rfl
   · cases w with
     | ml xs=>cases n1
     | md xs=>cases n1
     | mk xs=>cases n1
     | nt _=>trivial
     | lk=>trivial
     | sc _=>trivial
     | fd _=>trivial
     | fw _=>trivial
     | ft _=>trivial
     | xc _ _=>trivial
     | dp _ _=>trivial
     | d _=>trivial
     | pk _=>trivial
     | reel=>trivial
     | vv _=>trivial
 · obtain⟨_,_,_,_,e3⟩:=fg e1
   rw[(lf e3).2.1]at o1
   cases o1
 · obtain⟨_,_,_,_,e3⟩:=fg e
   exact absurd rfl ((lf e3).2.2 xs)
theorem cC{fr:List (Option Nat)}:jz (c_ fr ρ):=fun i xs e=>by
 obtain⟨_,_,_,_,e3⟩:=fg e
 exact(lf e3).2.1
theorem VR.other{K:W.Frag}(R:VR K rl F₀ H₀ F H σ ρ)(n:jz ρ){D:Addr}{o:HO}(h0:H₀ D=none)(f:F D=none)(hr:rl.a≠some D):VR K rl F₀ H₀ F (Cb H D o) σ ρ:=by
 have neF:∀b u,F b=some u->b≠D:=fun b u q z=>by subst z;rw[f]at q;cases q
 have g:Grow rl F₀ H₀ F (Cb H D o):=by
  refine⟨fun b o q1 n=>by rw[ak (aO q1 h0)];exact R.g.same b o q1 n,R.g.fs,fun b o q1=>by rw[ak (neF b o q1)];exact R.sub b o q1,R.g.old,fun y z=>?_⟩
  obtain⟨z1,⟨u,h1,h2⟩⟩:=R.reel y z
  exact⟨z1,⟨u,by rw[ak (fun q=>hr (by rw[<- q];exact z))];exact h1,h2⟩⟩
 refine⟨g,fun i w e=>?_,R.ap,R.np,R.len⟩
 obtain⟨v,h1,h2,h3⟩:=R.sl i w e
 refine⟨v,h1,?_,h3⟩
 cases w with
 | d x=>exact h2
 | reel=>exact h2
 | vv u=>exact h2
 | ml xs=>cases n i _ e
 | md xs=>cases n i _ e
 | mk xs=>cases n i _ e
 | nt ds=>exact h2
 | lk=>trivial
 | sc _=>exact h2
 | fd _=>exact h2
 | fw _=>exact h2
 | ft _=>exact h2
 | xc _ _=>exact h2
 | dp _ _=>exact h2
 | pk xs=>exact absurd e (R.np i xs)
section
variable{X:Cx}{rl:RlT}{elt tg iter:Expr}{ifs:List Expr}{scope:Scope}{pos:Pos}{fi:En->(List EW->Prop)->Prop}{g:D5}{ft:TB}{fe:TV}
end
mutual
def uS:EW->Prop
 | .none=>True
 | .bool _=>True
 | .int i=>i.natAbs<2^1900
 | .str x=>ID x=true
 | .list xs=>gj xs
 | .tuple xs=>gj xs
 | .dict _=>False
def gj:List EW->Prop
 | []=>True
 | x::xs=>uS x/\gj xs
end
theorem lG{k:Nat}(h:n<2^k)(hk:0<k):n.log2<k:=by
 by_cases h0:n=0
 · subst h0;simpa using hk
 · exact(Nat.log2_lt h0).mpr h
mutual
theorem uS.facts:∀d:EW,uS d->d.showable=true/\d.canLay0=true/\d.hasDict=false/\d.leavesShort 1921=true
 | .none,_=>⟨rfl,rfl,rfl,rfl⟩
 | .bool _,_=>⟨rfl,rfl,rfl,rfl⟩
 | .int i,h=>by
   have hl:i.natAbs.log2<1920:=lG (E8 (show i.natAbs<2^1900 from h) (Ft (by decide) (by decide))) (by decide)
   refine⟨by simp[Js,hl],rfl,rfl,?_⟩
   simp only[IK,decide_eq_true_eq]
   exact int_text_len_1921 hl
 | .str x,h=>by
   refine⟨rfl,(show GN (.str x)=true by simp only[GN];exact h),rfl,?_⟩
   have h:x.cps.all (· < 0x110000)=true:=h
   simp only[IK]
   rw[G5]
   intro c hc
   have:=(IL.mp h) c (by simpa using hc)
   simp at this ⊢
   omega
 | .list xs,h=>by
   obtain⟨a,b,c,d⟩:=gj.facts xs h
   exact⟨by simpa[Js]using a,by simpa[GN]using b,by simpa[EW.hasDict]using c,by simpa[IK]using d⟩
 | .tuple xs,h=>by
   obtain⟨a,b,c,d⟩:=gj.facts xs h
   exact⟨by simpa[Js]using a,by simpa[GN]using b,by simpa[EW.hasDict]using c,by simpa[IK]using d⟩
 | .dict _,h=>GR h
theorem gj.facts:∀xs:List EW,gj xs->EW.showableAll xs=true/\GI xs=true/\EW.hasDictAll xs=false/\Kh 1921 xs=true
 | [],_=>⟨rfl,rfl,rfl,rfl⟩
 | x::xs,h=>by
   obtain⟨a,b,c,d⟩:=uS.facts x h.1
   obtain⟨a',b',c',d'⟩:=gj.facts xs h.2
   exact⟨by simp[EW.showableAll,a,a'],by simp[GI,b,b'],by simp[EW.hasDictAll,c,c'],by simp[Kh,d,d']⟩
end
noncomputable def Ec(d:EW):Prop:=uS d/\d.depth<=60/\d.bulk<=8000
theorem Ec.len(h:Ec d):d.shown.length<=sizeLine:=by
 have q:=EW.shown_le_bulk 1921 (by decide) d (uS.facts d h.1).2.2.2
 have:=h.2.2
 have e:sizeLine=16777216:=by decide
 omega
section
variable{X:Cx}{rl:RlT}{a b e:Expr}{es:List Expr}{fa fb fc:TV}{fs:D0}{pos p:Pos}
noncomputable def wb(K:W.Frag):List V->Hp->VK->Prop:=fun xs H Q=>∃x d,xs=[x]/\Rep K H x d/\Ec d/\Q (.str d.shown) H
theorem oO(hgd:X.A.guards=some [])(hu:X.A.units+64<LA):d8 X (.builtin "repr") (wb X.K):=by
 intro pins s σ H xs us Q I r ⟨x,d,ex,rx,sh,q⟩
 subst ex
 obtain⟨u,rfl,ru⟩:=vals1 r
 have fin:∀tk h' , (∀b o,s.heap.get? b=some o->h'.get? b=some o)->∀t,EP X pins σ Q (.str d.shown t) {s with heap:=h',toks:=tk}:=fun tk h' k t=>⟨.str d.shown,H,I.kept k,⟨t,rfl⟩,q⟩
 obtain⟨as,rd⟩:=Rep.reads I (.refl H) rx u ru
 have hs:=(uS.facts d sh.1)
 cases rx with
 | non=>cases(show u=Ji from ru);exact P.repr_of_none (fin _ _ (fun _ _ e=>e) _)
 | bl b=>cases(show u=K8 b from ru);exact P.repr_of_bool (fin _ _ (fun _ _ e=>e) _)
 | int i =>
   obtain⟨t,e⟩:=(show ∃t,u=Kb i t from ru)
   cases e
   exact P.repr_of_int (by simpa[Js]using hs.1) (fin _ _ (fun _ _ e=>e) _)
 | str x =>
   obtain⟨t,e⟩:=(show ∃t,u=KQ x t from ru)
   cases e
   exact P.repr_of_str (fin _ _ (fun _ _ e=>e) _) sh.len
 | tup sq rs =>
   cases(show u=HD _ from ru)
   exact repr_of_reads' rd hs.1 (EW.noDict_hsm hs.2.2.1) hgd (by have:=sh.2.1;omega) (fun _ _ e=>e) (fun h' t tk hk=>fin tk h' hk t) sh.len
 | lst sq rs =>
   cases(show u=HD _ from ru)
   exact repr_of_reads' rd hs.1 (EW.noDict_hsm hs.2.2.1) hgd (by have:=sh.2.1;omega) (fun _ _ e=>e) (fun h' t tk hk=>fin tk h' hk t) sh.len
noncomputable def qi:List W->(W->Prop)->Prop:=fun ws Q=>∃w d,ws=[w]/\w.dat=some d/\Ec d/\Q (.d (.str d.shown))
theorem rX:gh X rl (wb X.K) qi:=fun{F H vs ws} Qd Q s ra r ⟨w,d,ew,e1,sh,q⟩ k=>by
 subst ew
 obtain⟨v,rfl,r1⟩:=lN r
 exact⟨v,d,rfl,r1.dat s e1,sh,k _ (.d _) _ _ (Grow.refl s ra) (.str _) trivial q⟩
theorem kj(hr:Room 0 X.A)(hm:X.mg "repr" = none)(ha:Ef X rl [e] fs)(hg:Gl X "repr" := by rfl)(he:Fg [e] X.env=(false,eval e X.env)::Fg [] X.env:=by rfl)(hpl:(GQ pos (Fg [] X.env)).any (·.1)=false:=by rfl) :
 PV X rl (.Call (.Name "repr" p) [e] [] pos) (dG qi fs):=dq (oO hr.gd hr.units) rX hm (by first|rfl|exact boot_repr) ha hg (by decide) (by decide) he hpl
theorem cB(hm:X.mg "len" = none)(ha:Ef X rl [a] fs)(hg:Gl X "len" := by rfl)(he:Fg [a] X.env=(false,eval a X.env)::Fg [] X.env:=by rfl)(hpl:(GQ pos (Fg [] X.env)).any (·.1)=false:=by rfl) :
 PV X rl (.Call (.Name "len" p) [a] [] pos) (dG xW fs):=dq ju u7 hm boot_len ha hg (by decide) (by decide) he hpl
theorem vg(hm:X.mg "abs" = none)(ha:Ef X rl [a] fs)(hg:Gl X "abs" := by rfl)(he:Fg [a] X.env=(false,eval a X.env)::Fg [] X.env:=by rfl)(hpl:(GQ pos (Fg [] X.env)).any (·.1)=false:=by rfl) :
 PV X rl (.Call (.Name "abs" p) [a] [] pos) (dG x8 fs):=dq qB u9 hm (by first|rfl|exact boot_abs) ha hg (by decide) (by decide) he hpl
end
structure FnIn (K:W.Frag) (mg:Str->Option E7) (x:Str) (st:Stmt) (ps:List Str):Prop where
 ex:∃f fd,mg x=some (.ref f)/\Fun K x x st f fd/\Binds K fd ps []
structure Bz (mg:Str->Option E7):Prop where
 int_:mg "int" = none
 bool_:mg "bool" = none
 str_:mg "str" = none
 list_:mg "list" = none
 tuple_:mg "tuple" = none
 dict_:mg "dict" = none
 isinstance_:mg "isinstance" = none
 len_:mg "len" = none
 abs_:mg "abs" = none
 repr_:mg "repr" = none
 range_:mg "range" = none
 all_:mg "all" = none
 any_:mg "any" = none
 sum_:mg "sum" = none
 min_:mg "min" = none
 max_:mg "max" = none
 sorted_:mg "sorted" = none
 zip_:mg "zip" = none
 enumerate_:mg "enumerate" = none
 reversed_:mg "reversed" = none
 divmod_:mg "divmod" = none
 set_:mg "set" = none
section
variable{P:FS}{w:GD}{K:W.Frag}{mg:Str->Option E7}{base:Heap}{rl:RlT}{x:Str}{st:Stmt}{N ps:List Str}{k:Nat}{Pd:List W->(EW->Prop)->Prop}{t:D1}
theorem Dfn.of(Fn:FnIn K mg x st ps)(S:FnScope N ps (defScope st))(mono:∀ws Q Q',(∀d,Q d->Q' d)->Pd ws Q->Pd ws Q')(len:∀ws Q,Pd ws Q->ws.length=ps.length)
 (hbody:∀{f:Addr}(cdv:E7)(A:GJ)(outer:List Env)(s:E_)(H:Hp)(E:XK),Room k (A.deeper (Ke x (defScope st) s.heap.objs.size f cdv)) ->
  lj (o3 EN P w K mg base N x (defScope st) f cdv A outer s H E).nox rl (defBody st) t)
 (hread:∀ws Q,Pd ws Q->t (pB Q) (dg N ws)):Dfn P w K mg base rl x ps (k+1) Pd:=by
 obtain⟨f,fd,hm,F,hb⟩:=Fn.ex
 exact⟨mono,f,fd,hm,F.kp,hb,B5 F S len hbody hread⟩
end
section
variable{X:Cx}{rl:RlT}{e:Expr}{es:List Expr}{fa fb fc:TV}{fs:D0}{pos p:Pos}
theorem qG(i:Nat){apos:Pos}(ha:Ef X rl [e] fs)(hN:X.N[i]?=some x:=by rfl)(hv:DW X.env.scope x:=by first|exact G3 rfl|exact GA (G3 rfl)|exact GA (GA rfl))
 (hd:(x==("__debug__" : Str))=false:=by decide)(hcd:(x==("__classdict__" : Str))=false:=by decide)
 (hbase:II (.Name x px) "extend" X.env (eval (.Name x px) X.env)=eval (.Name x px) X.env:=by rfl)
 (hfew:((GQ cpos (Fg [e] X.env)).all (fun x=>!x.1)&&(JT cpos (Iz [] X.env)).all (fun x=>x.1.isSome)
  && decide (([e]).length+([]:List IR).length+(if([]:List IR).isEmpty then 0 else 1)<30))=true:=by rfl)
 (hline:(apos.endLine==cpos.line)=true:=by rfl)(hs:Fg [e] X.env=(false,eval e X.env)::Fg [] X.env:=by rfl)(hplain:(GQ cpos (Fg [] X.env)).any (·.1)=false:=by rfl)
 (hsw:G0 (.Call (.Attribute (.Name x px) "extend" apos) [e] [] cpos) none pos.line X.env=pure false:=by rfl) :
 Ej X rl (.Expr (.Call (.Attribute (.Name x px) "extend" apos) [e] [] cpos) pos) (uI i xY fs) :=
 lS i PySem.F.slot_list_extend PySem.F.type_list_extend nF uW ha hN hv hd hcd hbase hfew hline hs hplain hsw
end
theorem fz_d(x:EW):(W.d x).fz = .d x:=rfl
theorem fz_ml(x:List EW):(W.ml x).fz = .d (.list x):=rfl
theorem fz_pk(x:List EW):(W.pk x).fz = .pk x:=rfl
theorem fz_reel:W.reel.fz = .reel:=rfl
theorem fz_vv(x:V):(W.vv x).fz = .vv x:=rfl
theorem pk_d(x:EW):L2.VL.W.peek (.d x) = .d x:=rfl
theorem pk_ml(x:List EW):L2.VL.W.peek (.ml x) = .pk x:=rfl
theorem pk_reel:L2.VL.W.peek .reel = .reel:=rfl
theorem pk_vv(x:V):L2.VL.W.peek (.vv x) = .vv x:=rfl
theorem dat_d(x:EW):(W.d x).dat=some x:=rfl
theorem dat_ml(x:List EW):(W.ml x).dat=some (.list x):=rfl
theorem dat_pk(x:List EW):(W.pk x).dat=some (.list x):=rfl
theorem isPk_d(x:EW):(W.d x).isPk=false:=rfl
theorem isPk_ml(x:List EW):(W.ml x).isPk=false:=rfl
theorem isPk_reel:W.reel.isPk=false:=rfl
theorem dats_nil:fX []=some []:=rfl
theorem dats_d(x:EW)(r:List W):fX (.d x::r)=(fX r).map (x :: ·):=rfl
theorem arg_d(x:EW):gf (.d x)=true:=rfl
theorem arg_reel:gf .reel=true:=rfl
theorem item_l(xs:List EW)(i:Int):L2.VL.itemAt (.list xs) i=L2.atI xs i:=rfl
theorem item_t(xs:List EW)(i:Int):L2.VL.itemAt (.tuple xs) i=L2.atI xs i:=rfl
theorem len_l(xs:List EW):rg (.list xs)=some xs.length:=rfl
theorem len_t(xs:List EW):rg (.tuple xs)=some xs.length:=rfl
theorem at0{α:Type}(x:α)(r:List α):L2.atI (x::r) 0=some x:=by simp[L2.atI,L2.ixN]
theorem at1{α:Type}(x y:α)(r:List α):L2.atI (x::y::r) 1=some y:=by
 have:(1:Int)<((x::y::r).length:Int):=by simp;omega
 simp only[L2.atI,L2.ixN]
 rw[if_pos (by decide),if_pos this]
 rfl
theorem fV{x y:Int}(h:y≠0):(x.fmod y).natAbs<y.natAbs:=by
 rcases Int.lt_or_gt_of_ne h with hy|hy
 · have h1:=Ki x y
   have e:x.fmod y = -((-x).fmod (-y)):=by
    have:=Int.neg_fmod_neg x y
    omega
   have p:0 < -y:=by omega
   have b1:=GT (-x) p
   have b2:=Hz (-x) p
   omega
 · have b1:=GT x hy
   have b2:=Hz x hy
   omega
theorem kY(x y:Int):G6 y (x.fmod y)=G6 x y:=by
 have e:x.fmod y=x+y*(-(x.fdiv y)):=by
  have:=Ki x y
  rw[Int.mul_neg]
  omega
 rw[e,Int.gcd_add_mul_left_right]
 exact Int.gcd_comm y x
theorem eqv_ii(a b:Int):FV (.int a) (.int b)=(a==b):=by simp[FV]
theorem xE(a b:Str):FV (.str a) (.str b)=(a==b):=by simp[FV]
theorem shaped_i(a:Int):F_ (.int a)=true:=rfl
theorem shaped_b(a:Bool):F_ (.bool a)=true:=rfl
theorem eX.of{i j:Int}(h:j≠0)(b:j.natAbs<2^64):eX i j:=⟨h,E8 b (Ft (by decide) (by decide))⟩
theorem ge:∀ns:List Int,GI (ns.map Fm)=true
 | []=>rfl
 | n::ns=>by simp[GI,GN,ge ns]
theorem gX:∀ns:List Int,GF (ns.map Fm)=0
 | []=>rfl
 | n::ns=>by simp[GF,Hf,gX ns]
theorem shaped_ints(ns:List Int):F_ (.list (ns.map .int))=true:=by simp[F_,GN,Hf,ge,gX]
theorem uu(ns:List EW):FV (.list ns) (.list [])=ns.isEmpty:=by cases ns<;>simp[FV,EW.eqvAll]
theorem uj{a b:Int}(h:b≠0):0<(G6 a b:Int):=by
 have:=Int.gcd_pos_of_ne_zero_right a h
 omega
theorem xx{a b:Int}(h:b≠0):(G6 a b)<=b.natAbs:=Nat.le_of_dvd (by omega) (Int.gcd_dvd_natAbs_right a b)
theorem bT(s:String):ID (EX s)=true:=by
 unfold ID
 rw[Str.ofString_eq_toList]
 simp only[IL]
 intro c hc
 have hc:c∈s.toList.map Char.toNat:=List.mem_toArray.mp hc
 obtain⟨d,_,rfl⟩:=Gn.mp hc
 have:=d.valid
 have h:d.val.toNat<0x110000:=by
  rcases this with h|h
  · have:d.val.toNat<0xd800:=h
    omega
  · exact h.2
 exact decide_eq_true h
structure Lf (d:EW):Prop where
 nice:uS d
 dep:d.depth<=2
 wt:d.bulk<=2000
theorem Lf.int{i:Int}(h:i.natAbs<2^1000):Lf (.int i) :=
 ⟨Nat.lt_trans h (Nat.pow_lt_pow_right (by decide) (by decide)),by simp[Hf],by simp[EW.bulk]⟩
theorem qD{xs:List α}{k:Int}(h0:0<=k)(h1:k<(xs.length:Int)):∃z,L2.atI xs k=some z/\z∈xs:=by
 obtain⟨n,rfl⟩:=Hq h0
 have hn:n<xs.length:=by omega
 exact⟨xs[n],cW (FA hn),Ge hn⟩
theorem fH{K:W.Frag}{i:Str}(h:Rep K F v (.str i)):v = .str i:=by cases h;rfl
noncomputable def xZ(neg:Bool):W->W->(W->Prop)->Prop:=fun x y Q=>∃a b:Str,x = .d (.str a)/\y = .d (.str b)/\Q (.d (.bool (if neg then !decide (a=b)else decide (a=b))))
theorem cn:DX X rl CS (xZ false):=fun{F H x y wx wy} Qd Q s ra r1 r2 q k=>by
 obtain⟨a,b,rfl,rfl,q⟩:=q
 have e1:=fH r1
 have e2:=fH r2
 subst e1 e2
 have e:decide (V.str a=V.str b)=decide (a=b):=by
  by_cases h:a=b
  · subst h;simp
  · rw[decide_eq_false h,decide_eq_false fun z=>h (by injection z)]
 exact⟨rfl,by rw[e];exact k _ (.d _) _ _ (Grow.refl s ra) (.bl _) trivial q⟩
theorem qH:DX X rl CO (xZ true):=fun{F H x y wx wy} Qd Q s ra r1 r2 q k=>by
 obtain⟨a,b,rfl,rfl,q⟩:=q
 have e1:=fH r1
 have e2:=fH r2
 subst e1 e2
 have e:decide (V.str a=V.str b)=decide (a=b):=by
  by_cases h:a=b
  · subst h;simp
  · rw[decide_eq_false h,decide_eq_false fun z=>h (by injection z)]
 exact⟨rfl,by rw[e];exact k _ (.d _) _ _ (Grow.refl s ra) (.bl _) trivial q⟩
section
variable{P:FS}{w:GD}{K:W.Frag}{mg:Str->Option E7}{base:Heap}{rl:RlT}{x:Str}{st:Stmt}{N ps:List Str}{k:Nat}{Pd:List W->(List EW->Prop)->Prop}{t:D1}
end
section
variable{X:Cx}{rl:RlT}{e:Expr}{es:List Expr}{fs:D0}{pos p:Pos}
theorem sX(X:Cx)(rest:List Stmt):Ei X rest (fun D σ H=>∀pins s,Inv X pins σ H s->FH (FT X.prog X.w) X.A (execs rest X.env) (SP X pins D) X.xe s):=fun pins s σ H D I h=>h pins s I
end
section
variable{X:Cx}{rl:RlT}{a b c e:Expr}{es:List Expr}{fa fb fc:TV}{fs:D0}{pos p:Pos}
noncomputable def jE:EW->Option (List EW)
 | .list xs=>some xs
 | .tuple xs=>some xs
 | _=>none
theorem seq_l(xs:List EW):jE (.list xs)=some xs:=rfl
theorem seq_t(xs:List EW):jE (.tuple xs)=some xs:=rfl
theorem jE.of{o:Option EW}(h:o=some d)(e:jE d=some xs):o=some (.list xs)\/o=some (.tuple xs):=by
 cases d<;>cases e
 · exact .inl h
 · exact .inr h
noncomputable def qh:List W->(W->Prop)->Prop:=fun ws Q=>∃w d xs,ws=[w]/\w.dat=some d/\jE d=some xs/\Q (.d (.tuple xs))
theorem uZ:gh X rl (fun xs H Q=>∃p ys,xs=[.ref p]/\((D8 X.K H p ys/\∀l,H l=none->Q (.ref l) (Cb H l (.tup ys)))\/(D7 X.K H p ys/\Q (.ref p) H))) qh:=fun{F H vs ws} Qd Q s ra r ⟨w,d,xs,ew,ed1,ed2,q⟩ k=>by
 have ed:=jE.of ed1 ed2
 subst ew
 obtain⟨v,rfl,r1⟩:=lN r
 rcases ed with ed|ed
 · obtain⟨a,us,rfl,sq,rs⟩:=r1.items s ed
   refine⟨a,us,rfl,.inl ⟨sq,fun l hl=>?_⟩⟩
   have g:=Grow.data (a:=l) (o:=.tup us) s ra hl
   exact k _ (.d (.tuple xs)) _ _ g (.tup (.inl (.inl ar)) (rs.mono g.fs)) trivial q
 · cases w with
   | d y =>
     cases ed
     cases(show Rep X.K F v (.tuple xs)from r1)with
     | tup sq rs=>exact⟨_,_,rfl,.inr ⟨dN s sq,k _ (.d (.tuple xs)) _ _ (Grow.refl s ra) (.tup sq rs) trivial q⟩⟩
   | ml ys=>cases ed
   | pk ys=>cases ed
   | reel=>cases ed
   | vv u=>cases ed
   | md u=>cases ed
   | mk u=>cases ed
   | lk=>cases ed
   | sc _=>cases ed
   | fd _=>cases ed
   | fw _=>cases ed
   | ft _=>cases ed
   | xc _ _=>cases ed
   | dp _ _=>cases ed
   | nt ds =>
     cases ed
     obtain⟨b,us,rfl,h,q'⟩:=r1
     exact⟨_,_,rfl,.inr ⟨.inl (.inl (s _ _ h)),k _ (.d (.tuple xs)) _ _ (Grow.refl s ra) (.tup (.inl (.inl h)) q') trivial q⟩⟩
theorem lW(hm:X.mg "tuple" = none)(ha:Ef X rl [a] fs)(hg:Gl X "tuple" := by rfl)(he:Fg [a] X.env=(false,eval a X.env)::Fg [] X.env:=by rfl)(hpl:(GQ pos (Fg [] X.env)).any (·.1)=false:=by rfl) :
 PV X rl (.Call (.Name "tuple" p) [a] [] pos) (dG qh fs):=ii iX uZ hm (by rfl) ha hg (by decide) (by decide) he hpl
noncomputable def ql:List W->(W->Prop)->Prop:=fun ws Q=>∃w d xs,ws=[w]/\w.dat=some d/\jE d=some xs/\Q (.ml xs)
theorem u6:gh X rl (fun xs H Q=>∃p ys,xs=[.ref p]/\(D8 X.K H p ys\/D7 X.K H p ys)/\∀l,H l=none->Q (.ref l) (Cb H l (.lst ys))) ql:=fun{F H vs ws} Qd Q s ra r ⟨w,d,xs,ew,ed1,ed2,q⟩ k=>by
 have ed:=jE.of ed1 ed2
 subst ew
 obtain⟨v,rfl,r1⟩:=lN r
 rcases ed with ed|ed
 · obtain⟨a,us,rfl,sq,rs⟩:=r1.items s ed
   exact⟨a,us,rfl,.inl sq,fun l hl=>k _ (.ml xs) _ _ (Grow.laid s ra hl) (cy s ra hl rs) (fun a ea=>by cases ea;exact hl) q⟩
 · obtain⟨a,us,rfl,sq,rs⟩:=r1.itemsT s ed
   exact⟨a,us,rfl,.inr sq,fun l hl=>k _ (.ml xs) _ _ (Grow.laid s ra hl) (cy s ra hl rs) (fun a ea=>by cases ea;exact hl) q⟩
theorem ig(hm:X.mg "list" = none)(ha:Ef X rl [a] fs)(hg:Gl X "list" := by rfl)(he:Fg [a] X.env=(false,eval a X.env)::Fg [] X.env:=by rfl)(hpl:(GQ pos (Fg [] X.env)).any (·.1)=false:=by rfl) :
 PV X rl (.Call (.Name "list" p) [a] [] pos) (dG ql fs):=ii jt u6 hm (by rfl) ha hg (by decide) (by decide) he hpl
end
section
variable{X:Cx}{rl:RlT}
end
section
variable{X:Cx}{rl:RlT}{a b c e:Expr}{es:List Expr}{fa fb fc:TV}{fs:D0}{pos p p2:Pos}
noncomputable def DJ(f:Int->Int->EW):List W->(W->Prop)->Prop:=fun ws Q=>∃i j,ws=[.d (.int i),.d (.int j)]/\Q (.d (f i j))
theorem u8{f:Int->Int->V}{g:Int->Int->EW}(h:∀K F i j,Rep K F (f i j) (g i j)):gh X rl (fun xs H Q=>∃i j,xs=[.int i,.int j]/\Q (f i j) H) (DJ g):=fun{F H vs ws} Qd Q s ra r ⟨i,j,ew,q⟩ k=>by
 subst ew
 obtain⟨v,u,rfl,r1,r2⟩:=Bl r
 have e1:=aQ r1
 have e2:=aQ r2
 subst e1 e2
 exact⟨i,j,rfl,k _ (.d _) _ _ (Grow.refl s ra) (h _ _ i j) trivial q⟩
theorem vf(hm:X.mg "max" = none)(ha:Ef X rl [a,b] fs)(hc:X.calm=true:=by rfl)(hg:Gl X "max" := by rfl)(he:Fg [a,b] X.env=(false,eval a X.env)::Fg [b] X.env:=by rfl)(hpl:(GQ pos (Fg [b] X.env)).any (·.1)=false:=by rfl) :
 PV X rl (.Call (.Name "max" p) [a,b] [] pos) (dG (DJ fun i j=>.int (max i j)) fs) :=
 dq (oQ hc) (u8 (f:=fun i j=>.int (if j>i then j else i)) fun _ _ i j=>(show(if j>i then j else i)=max i j by split<;>omega) ▸ .int _) hm (by rfl) ha hg (by decide) (by decide) he hpl
theorem vd(hm:X.mg "min" = none)(ha:Ef X rl [a,b] fs)(hc:X.calm=true:=by rfl)(hg:Gl X "min" := by rfl)(he:Fg [a,b] X.env=(false,eval a X.env)::Fg [b] X.env:=by rfl)(hpl:(GQ pos (Fg [b] X.env)).any (·.1)=false:=by rfl) :
 PV X rl (.Call (.Name "min" p) [a,b] [] pos) (dG (DJ fun i j=>.int (min i j)) fs) :=
 dq (oP hc) (u8 (f:=fun i j=>.int (if j<i then j else i)) fun _ _ i j=>(show(if j<i then j else i)=min i j by split<;>omega) ▸ .int _) hm (by rfl) ha hg (by decide) (by decide) he hpl
noncomputable def qm:List W->(W->Prop)->Prop:=fun ws Q=>(∃i,ws=[.d (.int i)]/\Q (.d (.int i)))\/∃k:Bool,ws=[.d (.bool k)]/\Q (.d (.int (if k then 1 else 0)))
theorem rY:gh X rl (fun xs H Q=>(∃i,xs=[.int i]/\Q (.int i) H)\/∃k,xs=[.bl k]/\Q (.int (if k then 1 else 0)) H) qm:=fun{F H vs ws} Qd Q s ra r h k=>by
 rcases h with⟨i,ew,q⟩|⟨i,ew,q⟩
 · subst ew
   obtain⟨v,rfl,r1⟩:=lN r
   have e1:=aQ r1
   subst e1
   exact .inl ⟨i,rfl,k _ (.d _) _ _ (Grow.refl s ra) (.int _) trivial q⟩
 · subst ew
   obtain⟨v,rfl,r1⟩:=lN r
   have e1:=fI r1
   subst e1
   exact .inr ⟨i,rfl,k _ (.d _) _ _ (Grow.refl s ra) (.int _) trivial q⟩
theorem km(hm:X.mg "int" = none)(ha:Ef X rl [a] fs)(hg:Gl X "int" := by rfl)(he:Fg [a] X.env=(false,eval a X.env)::Fg [] X.env:=by rfl)(hpl:(GQ pos (Fg [] X.env)).any (·.1)=false:=by rfl) :
 PV X rl (.Call (.Name "int" p) [a] [] pos) (dG qm fs):=ii oR rY hm (by rfl) ha hg (by decide) (by decide) he hpl
noncomputable def Dy(C:Int->Int->Prop)(f:Int->Int->Int):D4:=fun x y H Q=>∃i j,x = .int i/\y = .int j/\C i j/\Q (.int (f i j)) H
theorem ub:Eo X .Mult (Dy aX fun i j=>i*j):=by
 intro pins s σ H x y v u Q I r1 r2 h
 obtain⟨i,j,e1,e2,hc,q⟩:=h
 subst e1;subst e2
 obtain⟨t,rfl⟩:=r1
 obtain⟨t',rfl⟩:=r2
 exact imul_int ⟨.int _,H,I.tok _,⟨_,rfl⟩,q⟩ hc.ok
noncomputable def yq(i:Nat)(C:Int->Int->Prop)(f:Int->Int->Int)(fa:TV):D1:=fun D ρ=>∃n,ρ[i]?=some (some (.d (.int n)))/\fa ρ fun w=>∃m,w = .d (.int m)/\C n m/\D.nx (ρ.set i (some (.d (.int (f n m)))))
theorem uT(i:Nat){op:Lm}{C:Int->Int->Prop}{f:Int->Int->Int}(hN:X.N.Nodup)(ho:Eo X op (Dy C f))(he:PV X rl e fa)(hi:X.N[i]?=some x:=by rfl)(hx:Loc X.env.scope x:=by first|exact G3 rfl|exact GA rfl)
 (hf:X.fn x=true\/X.env.scope.names.lookup x=some .local:=by first|exact .inl rfl|exact .inr rfl):Ej X rl (.AugAssign (.Name x pos') op e pos) (yq i C f fa):=by
 obtain⟨t,p,k⟩:=he
 refine⟨_,wv hN hi hx p ho hf,fun R Dv D ok ⟨n,e1,q⟩=>?_⟩
 obtain⟨v,s1,r1,_⟩:=R.sl i _ e1
 have ev:=aQ r1
 subst ev
 refine⟨_,s1,k R _ _ q fun v w F1 H1 g1 r1 n1 ⟨m,ew,hc,q1⟩=>?_⟩
 subst ew
 have ev:=aQ r1
 subst ev
 exact⟨n,m,rfl,rfl,hc,ok.nx _ _ _ _ g1.fs (R.set g1 (v:=.int (f n m)) (w:=.d (.int (f n m))) (.int _) trivial (fun _ z=>by cases z) i) q1⟩
noncomputable def cutD(xs:List EW)(lo hi:Option Int):List EW:=(xs.drop (HT.sIx xs.length 0 lo)).take (HT.sIx xs.length xs.length hi-HT.sIx xs.length 0 lo)
theorem Reps.cut{K:W.Frag}{ds:List EW}(r:Reps K F vs ds)(lo hi:Option Int):Reps K F (qw vs lo hi) (cutD ds lo hi):=by
 unfold qw cutD
 rw[r.length]
 exact(r.drop _).take _
abbrev D3:=En->(Option Int->Prop)->Prop
noncomputable def Eg(X:Cx)(rl:RlT)(o:Option Expr)(f:D3):Prop:=∃t,PO X o t/\∀{F₀ H₀ F H:Hp}{σ:St}{ρ:En},VR X.K rl F₀ H₀ F H σ ρ->∀(Qd:Option Int->Prop)(Q:Option Int->Hp->Prop),f ρ Qd ->
 (∀o F' H',Grow rl F H F' H'->Qd o->Q o H')->t σ H Q
noncomputable def C0:D3:=fun _ Q=>Q none
noncomputable def C1(fa:TV):D3:=fun ρ Q=>fa ρ fun w=>∃i,w = .d (.int i)/\Q (some i)
theorem d_:Eg X rl none C0:=⟨_,tf,fun R Qd Q q k=>k _ _ _ (Grow.refl R.sub R.reel) q⟩
theorem d9(h:PV X rl e fa):Eg X rl (some e) (C1 fa):=by
 obtain⟨t,p,k⟩:=h
 refine⟨_,s_ p,fun R Qd Q q h=>k R _ _ q fun v w F1 H1 g1 r1 n1 ⟨i,ew,q1⟩=>?_⟩
 subst ew
 exact⟨i,aQ r1,h _ F1 H1 g1 q1⟩
noncomputable def AF(fa:TV)(fl fh:D3):TV:=fun ρ Q=>fa ρ fun w=>fl ρ fun l=>fh ρ fun h=>∃xs,w.dat=some (.list xs)/\Q (.ml (cutD xs l h))
noncomputable def qo:W->W->(W->Prop)->Prop:=fun x y Q=>∃xs ys,x.dat=some (.list xs)/\y.dat=some (.list ys)/\xs.length+ys.length<=sizeLine/\Q (.ml (xs++ys))
theorem cS.lst{K:W.Frag}{F H:Hp}{v:V}{w:W}{xs:List EW}(s:bC F H)(r:cS K rl F H v w)(e:w.dat=some (.list xs)):∃a vs,v = .ref a/\H a=some (.lst vs)/\Reps K F vs xs:=by
 have own:hJ K rl F H v xs->∃a vs,v = .ref a/\H a=some (.lst vs)/\Reps K F vs xs:=fun⟨a,vs,e1,_,_,e2,e3⟩=>⟨a,vs,e1,e2,e3⟩
 cases w with
 | d y =>
   cases e
   cases(show Rep K F v (.list xs)from r)with
   | lst h q=>exact⟨_,_,rfl,s _ _ h,q⟩
 | ml ys=>cases e;exact own r
 | pk ys=>cases e;exact own r
 | reel=>cases e
 | vv u=>cases e
 | md u=>cases e
 | mk u=>cases e
 | nt u=>cases e
 | lk=>cases e
 | sc _=>cases e
 | fd _=>cases e
 | fw _=>cases e
 | ft _=>cases e
 | xc _ _=>cases e
 | dp _ _=>cases e
theorem rT:DX X rl AU qo:=fun{F H x y wx wy} Qd Q s ra r1 r2 q k=>by
 obtain⟨xs,ys,e1,e2,z,q⟩:=q
 obtain⟨a,vs,rfl,h1,q1⟩:=r1.lst s e1
 obtain⟨b,us,rfl,h2,q2⟩:=r2.lst s e2
 refine⟨a,b,vs,us,rfl,rfl,h1,h2,by rw[q1.length,q2.length];exact z,fun p hp=>?_⟩
 exact k _ (.ml _) _ _ (Grow.laid s ra hp) (cy s ra hp (q1.append q2)) (fun a ea=>by cases ea;exact hp) q
theorem gC(ha:PV X rl a fa)(hb:PV X rl b fb):PV X rl (.BinOp a .Add b pos) (B_ qo fa fb):=fJ wQ rT ha hb
structure GlD (K:W.Frag) (mg:Str->Option E7) (x:Str) (d:EW):Prop where
 ex:∃v u,mg x=some u/\RelV v u/\∀F,Rep K F v d
theorem dE(G:GlD X.K X.mg x d)(hg:Gl X x:=by rfl)(hd:(x==("__debug__" : Str))=false:=by decide):PV X rl (.Name x pos) (vC d):=by
 obtain⟨v,u,h1,h2,h3⟩:=G.ex
 exact sS h1 h2 h3 hg hd
structure GlK (K:W.Frag) (x:Str) (d:EW):Prop where
 ex:∃v u,W.nsIn K Gq x=some (some u)/\RelV v u/\∀F,Rep K F v d
theorem GlK.of{K:W.Frag}(k:GlK K x d)(Y:K.In h)(G:h.Ns Gq mg):GlD K mg x d:=by
 obtain⟨v,u,h1,h2,h3⟩:=k.ex
 exact⟨v,u,W.mg_of Y G h1,h2,h3⟩
end
end L2.VL
namespace L2
section
variable{X:Cx}{a b:Expr}{ta:TA}{p q pos pos2:Pos}
theorem gQ{α β:Type}{R:α->β->Prop}:∀{xs:List α}{ys:List β},xs.length=ys.length->(∀(i:Nat) x y,xs[i]?=some x->ys[i]?=some y->R x y)->Gy R xs ys
 | [],[],_,_=>.nil
 | x::xs,y::ys,hl,h=>.cons (h 0 x y rfl rfl) (gQ (by simpa using hl) fun i x y e1 e2=>h (i+1) x y (by simpa using e1) (by simpa using e2))
 | [],_::_,hl,_=>by simp at hl
 | _::_,[],hl,_=>by simp at hl
noncomputable def iJ(lo:Int)(n:Nat):List V:=(Gh n).map fun(i:Nat)=>V.int (lo+i)
theorem ib{lo:Int}{acc:Array E7}(h:ItemsOf (fun i v=>∃t,v = .int (lo+i*1) t) acc n):cu (iJ lo n) acc.toList:=by
 obtain⟨h1,h2⟩:=h
 refine gQ ?_ ?_
 · simp[iJ,h1]
 · intro i v u e1 e2
   unfold iJ at e1
   rw[F0]at e1
   obtain⟨t,e4⟩:=h2 i u (by simpa using e2)
   by_cases hi:i<n
   · rw[FA (by simpa using hi)]at e1
     simp at e1
     subst e1
     exact⟨t,by rw[e4];simp⟩
   · rw[Kf (by simpa using hi)]at e1
     cases e1
theorem lH{Q:VK}{lo hi:Int}{t u v:Tok}{tk:Nat}(hc:X.calm=true)(I:Inv X pins σ H s)(h1 : -(2^62)<=lo)(h2:lo<2^62)(h3 : -(2^62)<=hi)(h4:hi<2^62)(h5:(hi-lo).toNat<=2^24)
 (q:∀l,H l=none->Q (.ref l) (Cb H l (.lst (iJ lo (hi-lo).toNat)))):FH (FT X.prog X.w) X.A (call (.type "list") [.ref s.heap.objs.size]) (EP X pins σ Q) X.xe {s with heap:=s.heap.push {cls:=.type "range", data:=.fields #[.int lo t,.int hi u,.int 1 v]},toks:=tk}:=by
 have I1:Inv X pins σ H {s with heap:=s.heap.push {cls:=.type "range", data:=.fields #[.int lo t,.int hi u,.int 1 v]},toks:=tk}:=I.kept fun b o e=>E4 _ e
 refine call_list_range (n:=(hi-lo).toNat) (I.ok.hd hc) (IsRange.new ..) (small_one h1 h2 h3 h4) (by rw[rangeSize_one];split<;>omega) h5 fun h' tk acc c hk hn hi=>?_
 have hv:=ib hi
 refine⟨.ref _,_,I1.laid (t':=tk) hk (Fa _) (show cE X.prog X.w _ h' _ (.lst _)from⟨?_,acc.toList,c,hv,by rw[Ku];exact hn⟩),rfl,q _ (I1.hok.fresh (Fa _))⟩
 show(iJ lo _).length<=sizeLine
 rw[iJ,Fd,Io]
 exact FP h5 (by decide)
noncomputable def Bg(ta:TA):TE:=fun σ H Q=>ta σ H fun vs H1=>∃j:Int,vs=[.int j]/\(-(2^62)<=j/\j<2^62)/\j.toNat<=2^24/\∀l,H1 l=none->Q (.ref l) (Cb H1 l (.lst (iJ 0 j.toNat)))
theorem lC(hc:X.calm=true)(hl:Gl X "list")(hml:X.mg "list" = none)(hg:Gl X "range")(hm:X.mg "range" = none)(ha:PA X [a] ta)(hs:Fg [a] X.env=[(false,eval a X.env)]:=by rfl)
 (he:Fg [.Call (.Name "range" p) [a] [] pos2] X.env=(false,eval (.Call (.Name "range" p) [a] [] pos2) X.env)::Fg [] X.env:=by rfl)(hpl:(GQ pos (Fg [] X.env)).any (·.1)=false:=by rfl) :
 PE X (.Call (.Name "list" q) [.Call (.Name "range" p) [a] [] pos2] [] pos) (Bg ta):=by
 intro pins s σ H Q I h
 refine H0 (fS I hl hml (by rfl) ?_ (by decide) (by decide))
 refine G1 ?_ he hpl
 rw[he]
 show FH _ _ (spliced ((false,eval (.Call (.Name "range" p) [a] [] pos2) X.env)::GQ pos (Fg [] X.env))) _ _ s
 refine Calls.spliced_cons ?_
 refine Call_ (fS I hg hm boot_range (G1 (Cj (ha pos2 pins s σ H _ I h) fun us s1 ⟨vs,H1,I1,r1,q1⟩=>?_) hs rfl))
 obtain⟨j,e,⟨h3,h4⟩,h5,q1⟩:=q1
 subst e
 cases r1 with
 | cons r rr =>
   cases rr
   obtain⟨t,rfl⟩:=r
   exact call_range_1 (Calls.spliced_nil (lH hc I1 (by omega) (by omega) h3 h4 (by simpa using h5) (by simpa using q1)))
end
end L2
namespace L2.VL
section
variable{X:Cx}{rl:RlT}{a b c e:Expr}{es:List Expr}{fa fb fc:TV}{fs:D0}{pos pos2 p q:Pos}
theorem lz{K:W.Frag}(lo:Int)(n:Nat):Reps K F (iJ lo n) (aZ lo n):=by
 unfold iJ aZ
 generalize Gh n=l
 induction l with
 | nil=>exact .nil
 | cons x l ih=>exact .cons (.int _) ih
noncomputable def AJ(fs:D0):TV:=fun ρ Q=>fs ρ fun ws=>∃j:Int,ws=[.d (.int j)]/\(-(2^62)<=j/\j<2^62)/\j.toNat<=2^24/\Q (.ml (aZ 0 j.toNat))
theorem l_(hml:X.mg "list" = none)(hm:X.mg "range" = none)(ha:Ef X rl [a] fs)(hc:X.calm=true:=by rfl)(hl:Gl X "list" := by rfl)(hg:Gl X "range" := by rfl)(hs:Fg [a] X.env=[(false,eval a X.env)]:=by rfl)
 (he:Fg [.Call (.Name "range" p) [a] [] pos2] X.env=(false,eval (.Call (.Name "range" p) [a] [] pos2) X.env)::Fg [] X.env:=by rfl)(hpl:(GQ pos (Fg [] X.env)).any (·.1)=false:=by rfl) :
 PV X rl (.Call (.Name "list" q) [.Call (.Name "range" p) [a] [] pos2] [] pos) (AJ fs):=by
 obtain⟨t,p1,k⟩:=ha
 refine⟨_,lC hc hl hml hg hm p1 hs he hpl,fun R Qd Q q h=>k R _ _ q fun vs ws F1 H1 g1 r1 ⟨j,ew,z,y,q1⟩=>?_⟩
 subst ew
 obtain⟨v,rfl,rv⟩:=lN r1
 have e1:=aQ rv
 subst e1
 exact⟨j,rfl,z,y,fun l hl=>h _ (.ml _) _ _ (g1.trans (Grow.laid g1.sub g1.reel hl)) (cy g1.sub g1.reel hl (lz _ _)) (fun a ea=>by cases ea;exact g1.freeB hl) q1⟩
end
structure Sm (dp bk:Nat) (d:EW):Prop where
 nice:uS d
 dep:d.depth<=dp
 blk:d.bulk<=bk
theorem gS:∀{xs:List EW},(∀d∈xs,uS d)->gj xs
 | [],_=>trivial
 | x::xs,h=>⟨h x Ff,gS fun d hd=>h d (E9 _ hd)⟩
theorem dA{k:Nat}:∀{xs:List EW},(∀d∈xs,d.depth<=k)->GF xs<=k+1
 | [],_=>by simp[GF]
 | x::xs,h=>by
   have h1:=h x Ff
   have h2:=dA (k:=k) (xs:=xs) fun d hd=>h d (E9 _ hd)
   simp only[GF]
   omega
theorem hC{k:Nat}:∀{xs:List EW},(∀d∈xs,d.bulk<=k)->JJ xs<=(k+1)*xs.length
 | [],_=>by simp[JJ]
 | x::xs,h=>by
   have h1:=h x Ff
   have h2:=hC (k:=k) (xs:=xs) fun d hd=>h d (E9 _ hd)
   simp only[JJ,FJ,Nat.mul_succ]
   omega
theorem Sm.seq{dp bk:Nat}(h:∀d∈xs,Sm dp bk d)(hl:xs.length<=n):Sm (dp+2) ((bk+1)*n) (.tuple xs)/\Sm (dp+2) ((bk+1)*n) (.list xs):=by
 have a:=gS fun d hd=>(h d hd).nice
 have b:=dA fun d hd=>(h d hd).dep
 have c:JJ xs<=(bk+1)*n:=FP (hC fun d hd=>(h d hd).blk) (Nat.mul_le_mul_left _ hl)
 refine⟨⟨a,?_,c⟩,⟨a,?_,c⟩⟩<;>simp only[Hf]<;>omega
theorem Sm.shw{dp bk:Nat}(h:Sm dp bk d)(h1:dp<=60)(h2:bk<=8000):Ec d:=⟨h.nice,by have:=h.dep;omega,by have:=h.blk;omega⟩
theorem Sm.int{i:Int}(h:i.natAbs<2^1000):Sm 0 0 (.int i):=⟨(Lf.int h).nice,by simp[Hf],by simp[EW.bulk]⟩
theorem Sm.pair{a b:Int}(ha:a.natAbs<2^1000)(hb:b.natAbs<2^1000):Sm 2 2 (.tuple [.int a,.int b]) :=
 (Sm.seq (dp:=0) (bk:=0) (n:=2) (xs:=[.int a,.int b]) (fun d hd=>by
  rcases FN.mp hd with rfl|hd
  · exact Sm.int ha
  · rcases FN.mp hd with rfl|hd
    · exact Sm.int hb
    · cases hd) (Fa _)).1
end L2.VL
namespace L2
section
variable{X:Cx}{tg e:Expr}{ta te:TE}{p p2 pos:Pos}
end
end L2
namespace L2.VL
section
variable{X:Cx}{rl:RlT}{a b c e tg:Expr}{es:List Expr}{fa fb fc:TV}{fs:D0}{pos pos2 p p2 q:Pos}
end
end L2.VL
namespace L2
section
variable{X:Cx}
end
end L2
namespace L2.VL
section
variable{X:Cx}{rl:RlT}{a b c e:Expr}{es:List Expr}{fa fb fc:TV}{fs:D0}{pos p p2:Pos}
end
end L2.VL
namespace L2.TM
section
variable{prog:FS}{w:GD}{A:GJ}{E:E7->E_->Prop}{s:E_}{k:Int}{t:Tok}{l:Addr}{its:Array E7}
end
end L2.TM
namespace L2
section
variable{X:Cx}
end
end L2
namespace L2.VL
section
variable{X:Cx}{rl:RlT}{a b c e:Expr}{es:List Expr}{fa fb fc:TV}{fs:D0}{pos p p2:Pos}
noncomputable def zu:W->W->(W->Prop)->Prop:=fun x y Q=>∃xs ys,x = .d (.tuple xs)/\y = .d (.tuple ys)/\xs≠[]/\xs.length+ys.length<=sizeLine/\Q (.d (.tuple (xs++ys)))
theorem rS:DX X rl (sP X.K) zu:=fun{F H x y wx wy} Qd Q s ra r1 r2 q k=>by
 obtain⟨xs,ys,rfl,rfl,hne,hz,q⟩:=q
 cases(show Rep X.K F x (.tuple xs)from r1)with
 | @tup a vs _ sq rs =>
   cases(show Rep X.K F y (.tuple ys)from r2)with
   | @tup b us _ CC rs2 =>
     refine⟨a,b,vs,us,rfl,rfl,dN s sq,dN s CC,fun z=>hne ?_,by rw[rs.length,rs2.length];exact hz,fun e=>?_,fun e p hp=>?_⟩
     · subst z;cases rs;rfl
     · subst e
       cases rs2
       rw[HG]at q
       exact k _ (.d (.tuple xs)) _ _ (Grow.refl s ra) (.tup sq rs) trivial q
     · have g:=Grow.data (a:=p) (o:=.tup (vs++us)) s ra hp
       exact k _ (.d _) _ _ g (.tup (.inl (.inl ar)) ((rs.append rs2).mono g.fs)) trivial q
end
end L2.VL
namespace L2
section
variable{X:Cx}
noncomputable def wd(K:W.Frag):R2:=fun x y H Q=>∃a b ys,x = .ref a/\y = .ref b/\D7 K H a []/\D7 K H b ys/\Q (.ref b) H
theorem tN:Ev X (HQ .Add) (wd X.K):=by
 intro pins s σ H x y v u Q I rx ry h
 obtain⟨a,b,ys,rfl,rfl,ha,hb,q⟩:=h
 cases rx
 cases ry
 obtain⟨its,r1,p1,_⟩:=I.tuple ha
 obtain⟨its2,r2,p2,_⟩:=I.tuple hb
 cases r1
 obtain⟨⟨c1,d1,e1,sl1⟩,ho,hc,n,hd⟩:=p1
 obtain⟨⟨c2,d2,e2,sl2⟩,ho2,hc2,n2,hd2⟩:=p2
 cases hc;cases hd;cases hc2;cases hd2
 exact Ld ⟨_,ho,rfl⟩ ⟨_,ho2,rfl⟩ J1 KW IN IH (IC _ _)
  (tuple_addW0 a b _ its2.toArray n n2 d1 d2 sl1 sl2 rfl) ⟨ho,ho2,⟨.ref b,H,I,rfl,q⟩⟩
noncomputable def wc(K:W.Frag):R2:=fun x y H Q=>sP K x y H Q\/wd K x y H Q
theorem tM:Ev X (HQ .Add) (wc X.K):=fun pins s σ H x y v u Q I rx ry h=>h.elim (tL pins s σ H x y v u Q I rx ry) (tN pins s σ H x y v u Q I rx ry)
section
variable{prog:FS}{w:GD}{A:GJ}{E:E7->E_->Prop}{s:E_}
end
theorem lm{vs:List E7}(h:Jo vs ns):cu (ns.map V.int) vs:=by
 induction h with
 | nil=>exact .nil
 | cons n t r ih=>exact .cons ⟨t,rfl⟩ ih
end
end L2
namespace L2.VL
section
variable{X:Cx}{rl:RlT}{a b c e:Expr}{es:List Expr}{fa fb fc:TV}{fs:D0}{pos p p2:Pos}
noncomputable def qp:W->W->(W->Prop)->Prop:=fun x y Q=>∃xs ys,x = .d (.tuple xs)/\y = .d (.tuple ys)/\xs.length+ys.length<=sizeLine/\Q (.d (.tuple (xs++ys)))
theorem rV:DX X rl (wc X.K) qp:=fun{F H x y wx wy} Qd Q s ra r1 r2 q k=>by
 obtain⟨xs,ys,rfl,rfl,hz,q⟩:=q
 by_cases hx:xs=[]
 · subst hx
   cases(show Rep X.K F x (.tuple [])from r1)with
   | @tup a vs _ sq rs =>
     cases rs
     cases(show Rep X.K F y (.tuple ys)from r2)with
     | @tup b us _ CC rs2=>exact .inr ⟨a,b,us,rfl,rfl,dN s sq,dN s CC,k _ (.d (.tuple ys)) _ _ (Grow.refl s ra) (.tup CC rs2) trivial q⟩
 · exact .inl (rS Qd Q s ra r1 r2 ⟨xs,ys,rfl,rfl,hx,hz,q⟩ k)
theorem mh(ha:PV X rl a fa)(hb:PV X rl b fb):PV X rl (.BinOp a .Add b pos) (B_ qp fa fb):=fJ tM rV ha hb
theorem dO{K:W.Frag}{F:Hp}:∀{vs:List V}{ns:List Int},Reps K F vs (ns.map .int)->vs=ns.map V.int
 | _,[],h=>h.nil_iff
 | _,n::ns,.cons h r=>by rw[aQ h,dO r];rfl
theorem kW{K:W.Frag}{F:Hp}:∀{ns:List Int},Reps K F (ns.map V.int) (ns.map .int)
 | []=>.nil
 | n::ns=>.cons (.int n) kW
end
end L2.VL
namespace L2.TO
section
variable{prog:FS}{w:GD}{A:GJ}{E:E7->E_->Prop}{s:E_}
end
end L2.TO
namespace L2
section
variable{X:Cx}{a b e:Expr}{ta:TA}{te:TE}{p p2 q pos pos2:Pos}
end
end L2
namespace L2.VL
section
variable{X:Cx}{rl:RlT}{a b c e:Expr}{es:List Expr}{fa fb fc:TV}{fs:D0}{pos pos2 p q p2:Pos}
end
end L2.VL
namespace L2.TW
section
variable{prog:FS}{w:GD}{A:GJ}{E:E7->E_->Prop}{s:E_}
theorem get_whole{t sl:Addr}{items:Array E7}{vl vu:E7}{lo hi:Option Int}(ht:IsTup s.heap t items)(hs:s.heap.IsSliceOf sl vl vu .none)(pl:KY vl lo)(pu:KY vu hi)
 (hw:HT.sIx items.size 0 lo=0/\HT.sIx items.size items.size hi=items.size)(h:Q (.ref t) s):FH (FT prog w) A (JV (.ref t) (.ref sl)) Q E s:=by
 have ty:s.TypeIs (.ref sl) "slice" := let ⟨o,h1,h2,_⟩:=hs;⟨o,h1,h2⟩
 have key:FH (FT prog w) A (call (.builtin "tuple.__getitem__") [.ref t,.ref sl]) Q E s:=by
  refine Hy Go ht.typeIs entry_tuple_getitem ?_ (args_tuple_getitem _ _)
  show FH _ _ (JA (.ref t) >>= _) _ _ s;refine EZ (tupleItemsOf_ ht (EZ (Lg ty ?_)))
  rw[if_pos (by decide)]
  refine EZ (HT.sliceApplied_gen hs pl pu ?_)
  rw[hw.1,hw.2,Nat.sub_zero]
  show FH _ _ (if(((0:Nat):Int)==0&&(1:Int)==1&&items.size==items.size)=true then _ else _) _ _ s
  rw[if_pos (by simp)]
  unfold Builtin.Tuple.tupleIsExact
  refine EZ (EZ (Lg ht.typeIs (Fh ?_)))
  rw[if_pos (by decide)]
  exact EZ (Jj (EZ (Fh (Fh ⟨_,rfl,h⟩))))
 unfold JV;try with_reducible refine HS ?_
 first|exact EZ (Fh (EZ (JM ht.typeIs (by decide) (EZ (GP (name:=EX "__getitem__") ht.typeIs Go (Cj key fun v s' q=>Fh q))))))|exact EZ (JM ht.typeIs (by decide) (EZ (GP (name:=EX "__getitem__") ht.typeIs Go (Cj key fun v s' q=>Fh q))))
end
end L2.TW
namespace L2
section
variable{X:Cx}
noncomputable def Bn(K:W.Frag):V->Option Int->Option Int->Hp->VK->Prop:=fun x lo hi H Q=>AO K x lo hi H Q\/∃a xs,x = .ref a/\D7 K H a xs/\(HT.sIx xs.length 0 lo=0/\HT.sIx xs.length xs.length hi=xs.length)/\Q (.ref a) H
theorem sB:Eb X (Bn X.K):=by
 intro pins s σ H x v vl vu lo hi sl Q I rx hs pl pu h
 rcases h with h|⟨a,xs,rfl,hx,hw,q⟩
 · exact vO pins s σ H x v vl vu lo hi sl Q I rx hs pl pu h
 · cases rx
   obtain⟨its,r,ht,hz⟩:=I.tuple hx
   have hlen:its.toArray.size=xs.length:=by rw[Fw];exact r.length.symm
   exact⟨"tuple", _,Go.lookup,ht.typeIs,TW.get_whole ht hs pl pu (by rw[hlen];exact hw) ⟨.ref a,H,I,rfl,q⟩⟩
end
end L2
namespace L2.VL
section
variable{X:Cx}{rl:RlT}{a b c e:Expr}{es:List Expr}{fa fb fc:TV}{fs:D0}{pos p p2:Pos}
theorem oD{l u:Option Int}(h:HT.sIx xs.length 0 l=0/\HT.sIx xs.length xs.length u=xs.length):cutD xs l u=xs:=by
 unfold cutD
 rw[h.1,h.2]
 simp
noncomputable def yk(fa:TV)(fl fh:D3):TV:=fun ρ Q=>fa ρ fun w=>fl ρ fun l=>fh ρ fun h=>∃xs,w = .d (.tuple xs)/\Q (.d (.tuple (cutD xs l h)))
theorem lY{lo hi:Option Expr}{fl fh:D3}(ha:PV X rl a fa)(hl:Eg X rl lo fl)(hh:Eg X rl hi fh):PV X rl (.Subscript a (.Slice lo hi none p2) pos) (yk fa fl fh):=by
 obtain⟨t,p,k⟩:=ha
 obtain⟨tl,pl,kl⟩:=hl
 obtain⟨th,ph,kh⟩:=hh
 refine⟨_,kG sB p pl ph,fun R Qd Q q h=>k R _ _ q fun v w F1 H1 g1 r1 n1 q1=>?_⟩
 refine kl (R.grow g1) _ _ q1 fun l F2 H2 g2 q2=>kh ((R.grow g1).grow g2) _ _ q2 fun u F3 H3 g3 q3=>?_
 obtain⟨xs,rfl,q3⟩:=q3
 have r3:=(r1.grow g2).grow g3
 have g:=(g1.trans g2).trans g3
 cases(show Rep X.K F3 v (.tuple xs)from r3)with
 | @tup a vs _ sq rs =>
   by_cases hw:HT.sIx xs.length 0 l=0/\HT.sIx xs.length xs.length u=xs.length
   · rw[oD hw]at q3
     exact .inr ⟨a,vs,rfl,dN g3.sub sq,by rw[rs.length];exact hw,h _ (.d _) _ _ g (.tup sq rs) trivial q3⟩
   · refine .inl ⟨a,vs,rfl,dN g3.sub sq,by rw[rs.length];exact hw,fun p hp=>?_⟩
     have g':=Grow.data (a:=p) (o:=.tup (qw vs l u)) g3.sub g3.reel hp
     exact h _ (.d _) _ _ (g.trans g') (.tup (.inl (.inl ar)) ((rs.cut l u).mono g'.fs)) trivial q3
end
end L2.VL
namespace L2
abbrev BB(D:List (Str×Int)):List (EW×EW):=(D.map fun q=>(q.1,Fm q.2)).map fun q=>(Gv q.1,q.2)
section
variable{X:Cx}{e:Expr}{ty:TE}{px apos cpos:Pos}
end
end L2
namespace L2.VL
section
variable{X:Cx}{rl:RlT}{a b c e:Expr}{es:List Expr}{fa fb fc:TV}{fs:D0}{pos p p2 px apos cpos:Pos}
end
end L2.VL
set_option exponentiation.threshold 10000
namespace L2.VL
noncomputable def uM(a b:Int):EW:=.tuple [.int (a.fdiv (G6 a b)),.int (b.fdiv (G6 a b))]
theorem iO{a b:Int}(hb:0<b)(z:b.natAbs<2^8000)(i:Int):eX i (G6 a b:Int):=by
 have h1:=uj (a:=a) (b:=b) (by omega)
 have h2:=xx (a:=a) (b:=b) (by omega)
 exact⟨by omega,H_ (by omega) (E8 z (Ft (by decide) (by decide)))⟩
noncomputable def xN(bs:List Int):Prop:=bs.length=4/\(∀b∈bs,2<=b/\b<=16)/\bs.Pairwise fun x y=>G6 x y=1
instance (bs:List Int):Decidable (xN bs):=by unfold xN;infer_instance
theorem mT{d:Nat}{k:Int}(h:0<=k):HT.sIx n d (some k)=min k.toNat n:=by
 obtain⟨m,rfl⟩:=Hq h
 exact HT.sIx_nat n d m
theorem iV{k:Int}(h:0<=k):cutD xs (some k) none=xs.drop k.toNat:=by
 unfold cutD
 rw[mT h,HT.sIx_none]
 by_cases hk:k.toNat<=xs.length
 · rw[Jt hk]
   exact Fv (by simp)
 · rw[J3 (by omega),Hj,IP (by omega)]
   simp
noncomputable def pr(a b:Int):EW:=.tuple [.int a,.int b]
theorem GlK.pair{K:W.Frag}{a b:Int}{p:Addr}{sl:Array (Option E7)}{t u:Tok}(h1:W.nsIn K Gq x=some (some (.ref p)))
 (h2:K.lookup p=some ⟨.type "tuple", none,.seq #[.int a t,.int b u] n,sl⟩):GlK K x (pr a b):=by
 refine⟨.ref p,.ref p,h1,rfl,fun F=>.tup (vs:=[.int a,.int b]) (.inr ⟨_,_,n,h2,rfl,rfl,(by show 2<=sizeLine;decide),.cons ⟨t,rfl⟩ (.cons ⟨u,rfl⟩ .nil),rfl⟩) (.cons (.int a) (.cons (.int b) .nil))⟩
end L2.VL
set_option exponentiation.threshold 10000
namespace L2.VL
noncomputable def stepT(b:Int)(p:List Int)(t:Int)(a:Nat):Int:=t*b+p.getD a 0
noncomputable def Cd:EW->Int
 | .int i=>i
 | _=>0
section
variable{P:FS}{w:GD}{K:W.Frag}{mg:Str->Option E7}{base:Heap}{rl:RlT}{x:Str}{st:Stmt}{N ps:List Str}{k:Nat}{Pd:List W->(List EW->Prop)->Prop}{t:D1}
end
section
variable{X:Cx}{rl:RlT}{a b c e:Expr}{es:List Expr}{fa fb fc:TV}{fs:D0}{pos p p2 px apos cpos:Pos}
end
end L2.VL
namespace L2.IX
section
variable{prog:FS}{w:GD}{A:GJ}{E:E7->E_->Prop}{s:E_}
end
end L2.IX
namespace L2
section
variable{X:Cx}
end
end L2
namespace L2.VL
section
variable{X:Cx}{rl:RlT}{a b c e:Expr}{es:List Expr}{fa fb fc:TV}{fs:D0}{pos p p2 px apos cpos:Pos}
noncomputable def xt:EW->Bool
 | .none=>true
 | _=>false
noncomputable def qj:W->W->(W->Prop)->Prop:=fun x y Q=>∃xs k,x.dat=some (.list xs)/\y = .d (.int k) /\ -(2^63)<=k/\k<2^63/\xs.length*k.toNat<=sizeLine/\Q (.ml (FQ k.toNat xs).flatten)
theorem vY{K:W.Frag}{F:Hp}{vs:List V}{ds:List EW}(r:Reps K F vs ds):∀n:Nat,Reps K F (FQ n vs).flatten (FQ n ds).flatten
 | 0=>.nil
 | n+1=>by rw[GL,GL,HJ,HJ];exact r.append (vY r n)
theorem rR:DX X rl AQ qj:=fun{F H x y wx wy} Qd Q s ra r1 r2 q k=>by
 obtain⟨xs,n,e1,rfl,h1,h2,hz,q⟩:=q
 have ey:=aQ r2
 subst ey
 obtain⟨a,vs,rfl,hh,rs⟩:=r1.lst s e1
 refine⟨a,n,vs,rfl,rfl,hh,h1,h2,by rw[rs.length];exact hz,fun p hp=>?_⟩
 exact k _ (.ml _) _ _ (Grow.laid s ra hp) (cy s ra hp (vY rs n.toNat)) (fun a ea=>by cases ea;exact hp) q
theorem vb(ha:PV X rl a fa)(hb:PV X rl b fb):PV X rl (.BinOp a .Mult b pos) (B_ qj fa fb):=fJ wM rR ha hb
end
end L2.VL
namespace L2.ZP
section
variable{prog:FS}{w:GD}{A:GJ}{E:E7->E_->Prop}{s:E_}{it a:Addr}{k:Nat}{xs:Array E7}{v:E7}
theorem sr(st:s.heap.IsTupleIter it a k)(tu:s.heap.IsTuple a xs)(e:xs[k]?=some v)
 (q:∀g,g.IsTupleIter it a (k+1)->HM it s.heap g->Q v {s with heap:=g}):FH (FT prog w) A (GV (.ref it)) Q E s:=by
 have ty:=st.typeIs
 obtain⟨o,oe,oc,od⟩:=st
 obtain⟨l,le,_,_,ld⟩:=tu
 unfold GV
 have sl:=F.slot_tuple_iterator_next
 refine EZ (GP (name:=EX "__next__") ty sl (Hy sl ty F.entry_tuple_iterator_next ?_ (F.args_tuple_iterator_next_1 _)))
 show FH _ _ (do let z <- field (.ref it) 0;_) _ _ s
 refine EZ (Hi oe od (x:=.ref a) rfl ?_)
 show FH _ _ (ite ((HD a==Ji)=true) _ _) _ _ s
 rw[if_neg (show ¬(HD a == .none)=true by intro z;cases z)]
 show FH _ _ (do let z <- field (.ref it) 1;_) _ _ s
 refine EZ (Hi oe od (x:=.int k 0) rfl ?_)
 show FH _ _ (do let z <- Lr (.ref a);_) _ _ s
 refine EZ (JK le ld ?_)
 simp only[GO,e]
 refine EZ (wpAny_setField oe od (by simp) (Fh ⟨v,rfl,Fh (q _ ?_ (KL ..))⟩))
 refine⟨_,Kj _ oe (Obj.isFreed_of_fields (Obj.data_mapFields od _)),?_,?_⟩
 · exact(Obj.cls_mapFields ..).trans oc
 · rw[Obj.data_mapFields od];simp[rawInt]
theorem vE(hd:A.handled=none)(st:s.heap.IsTupleIter it a k)(tu:s.heap.IsTuple a xs)(e:xs[k]?=none)
 (q:∀g x,Heap.ExtBut it s.heap g->(∃o,g.get? x=some o/\o.cls = .type "StopIteration")->E (.ref x) {s with heap:=g}):FH (FT prog w) A (GV (.ref it)) Q E s:=by
 have ty:=st.typeIs
 obtain⟨o,oe,oc,od⟩:=st
 obtain⟨l,le,_,_,ld⟩:=tu
 unfold GV
 have sl:=F.slot_tuple_iterator_next
 refine EZ (GP (name:=EX "__next__") ty sl (Hy sl ty F.entry_tuple_iterator_next ?_ (F.args_tuple_iterator_next_1 _)))
 show FH _ _ (do let z <- field (.ref it) 0;_) _ _ s
 refine EZ (Hi oe od (x:=.ref a) rfl ?_)
 show FH _ _ (ite ((HD a==Ji)=true) _ _) _ _ s
 rw[if_neg (show ¬(HD a == .none)=true by intro z;cases z)]
 show FH _ _ (do let z <- field (.ref it) 1;_) _ _ s
 refine EZ (Hi oe od (x:=.int k 0) rfl ?_)
 show FH _ _ (do let z <- Lr (.ref a);_) _ _ s
 refine EZ (JK le ld ?_)
 simp only[GO,e]
 refine EZ (Jj (EZ (wpAny_setField oe od (by simp) ?_)))
 show FH _ _ (do let z <- newExc (.type "StopIteration") [];_) _ _ _
 refine EZ ?_
 simp only[newExc,newTuple]
 refine EZ (Gs ?_ (by size_fits))
 refine EZ (m:=firstArgMember _ _) (Ls (a:=.none) (by first|rfl|(simp only[firstArgMember];rfl)) (Gs ?_ (by size_fits)))
 simp only[raiseNew]
 refine EZ (wpAny_handled ?_)
 first
  | rw[show A.in1.handled=none from hd]
  | rw[hd]
 refine EZ (Fh (wpAny_throw ?_))
 exact q _ _ (((KL ..).extBut.push _).push _) ⟨_,FB _ rfl,rfl⟩
end
noncomputable def EI(h:Heap)(it a:Addr)(xs:Array E7)(k:Nat):Prop:=(h.IsListIter it a k/\h.IsList a xs)\/(h.IsTupleIter it a k/\h.IsTuple a xs)
section
variable{prog:FS}{w:GD}{A:GJ}{E:E7->E_->Prop}{s:E_}{it a:Addr}{k:Nat}{xs:Array E7}{v:E7}
theorem EI.item(st:EI s.heap it a xs k)(ne:a≠it)(e:xs[k]?=some v)
 (q:∀g,EI g it a xs (k+1)->HM it s.heap g->Q v {s with heap:=g}):FH (FT prog w) A (GV (.ref it)) Q E s:=by
 rcases st with⟨h1,h2⟩|⟨h1,h2⟩
 · exact wpAny_nextOf_list_item h1 h2 e fun g h3 h4=>q g (.inl ⟨h3,h2.extBut h4.extBut ne⟩) h4
 · exact sr h1 h2 e fun g h3 h4=>q g (.inr ⟨h3,h2.extBut h4.extBut ne⟩) h4
theorem EI.fin(hd:A.handled=none)(st:EI s.heap it a xs k)(e:xs[k]?=none)
 (q:∀g x,Heap.ExtBut it s.heap g->(∃o,g.get? x=some o/\o.cls = .type "StopIteration")->E (.ref x) {s with heap:=g}):FH (FT prog w) A (GV (.ref it)) Q E s:=by
 rcases st with⟨h1,h2⟩|⟨h1,h2⟩
 · exact wpAny_nextOf_list_end hd h1 h2 e q
 · exact vE hd h1 h2 e q
theorem EI.keep(st:EI h it a xs k)(e1:∀o,h.get? it=some o->h'.get? it=some o)(e2:∀o,h.get? a=some o->h'.get? a=some o):EI h' it a xs k:=by
 rcases st with⟨⟨o,h1,r1⟩,⟨p,h2,r2⟩⟩|⟨⟨o,h1,r1⟩,⟨p,h2,r2⟩⟩
 · exact .inl ⟨⟨o,e1 _ h1,r1⟩,⟨p,e2 _ h2,r2⟩⟩
 · exact .inr ⟨⟨o,e1 _ h1,r1⟩,⟨p,e2 _ h2,r2⟩⟩
end
section
variable{prog:FS}{w:GD}{A:GJ}{E:E7->E_->Prop}{s:E_}{z ti to i1 i2 a1 a2:Addr}{k1 k2:Nat}{xs ys:Array E7}{x y p q:E7}
theorem SameBut.keep(sb:HM a h h')(ne:b≠a):∀o,h.get? b=some o->h'.get? b=some o:=fun o e=>sb.extBut _ _ ne e
end
noncomputable def D_(b:Bool)(h:Heap)(a:Addr)(xs:Array E7):Prop:=bif b then h.IsTuple a xs else h.IsList a xs
noncomputable def Dt(b:Bool):String:=bif b then "tuple_iterator" else "list_iterator"
section
variable{prog:FS}{w:GD}{A:GJ}{E:E7->E_->Prop}{s:E_}{b b1 b2:Bool}{a a1 a2:Addr}{xs ys:Array E7}
theorem xr(st:D_ b s.heap a xs)(q:Q (.ref s.heap.objs.size) {s with heap:=s.heap.push {cls:=.type (Dt b),data:=.fields #[.ref a,.int 0 0]}}):FH (FT prog w) A (Ln (.ref a)) Q E s:=by
 cases b with
 | true=>exact JC st q
 | false=>exact Ik st q
abbrev y1(h:Heap)(b1:Bool)(a1:Addr):Heap:=h.push {cls:=.type (Dt b1),data:=.fields #[.ref a1,.int 0 0]}
abbrev y2(h:Heap)(b1 b2:Bool)(a1 a2:Addr):Heap:=(y1 h b1 a1).push {cls:=.type (Dt b2),data:=.fields #[.ref a2,.int 0 0]}
abbrev y3(h:Heap)(b1 b2:Bool)(a1 a2:Addr):Heap:=(y2 h b1 b2 a1 a2).push {cls:=.type "tuple", data:=.seq #[.ref h.objs.size,.ref (y1 h b1 a1).objs.size]}
abbrev y4(h:Heap)(b1 b2:Bool)(a1 a2:Addr):Heap:=(y3 h b1 b2 a1 a2).push {cls:=.type "tuple", data:=.seq #[.none,.none]}
abbrev y5(h:Heap)(b1 b2:Bool)(a1 a2:Addr):Heap:=(y4 h b1 b2 a1 a2).push {cls:=.type "zip", data:=.fields #[.none,.bool false,.bool false,.ref (y2 h b1 b2 a1 a2).objs.size,.ref (y3 h b1 b2 a1 a2).objs.size]}
end
end L2.ZP
namespace L2
open PySem PySem.Spec PyProof.Rows L2.ZP
theorem Inv.turnedL{ch:List Addr}(I:Inv X pins σ H s)(k:∀b o,b∉ch->s.heap.get? b=some o->h'.get? b=some o)(hn:∀b∈ch,jB X pins H b) :
 Inv X pins σ H {s with heap:=h',toks:=t' }:=by
 have nit:∀b u,H b=some u->b∉ch:=fun b u e z=>by rw[(hn b z).1]at e;cases e
 refine I.step (g':=s.gens) (d':=s.drawn) (ch:=ch) (fun b hb=>?_) (fun b o _ _ hc e _=>k b o hc e) (fun b o _ _ hc e _=>⟨o.slots,k b o hc e⟩) (fun _ _ _ _ n=>n) (fun b o hc e=>⟨o,k b o hc e⟩) (fun _ _ e=>e) (fun _ _ _ e=>e) (fun b ps e=>⟨#[],by rw[e];simp⟩) (fun m hm=>?_) (fun b u e=>?_) I.bare
 · obtain⟨_,h2,_,h4,h5,h6⟩:=hn b hb
   exact⟨h4,h2,h5,h6⟩
 · obtain⟨o,es,ep,ho,r⟩:=hm
   exact⟨o,es,ep,k _ o (fun z=>(hn _ z).2.1 rfl) ho,r⟩
 · refine(I.hok b u e).stay (fun c v hc q=>k c v ?_ q) (fun _ q=>q) fun _ _ q=>q
   rcases hc with z|z
   · rw[z];exact nit b u e
   · exact nit c _ z
noncomputable def D9(b:Bool)(K:W.Frag)(H:Hp)(a:Addr)(xs:List V):Prop:=bif b then D7 K H a xs else D8 K H a xs
theorem Inv.sqB{b:Bool}{xs:List V}(I:Inv X pins σ H s)(h:D9 b X.K H a xs):∃its,cu xs its/\D_ b s.heap a its.toArray:=by
 cases b with
 | true =>
   obtain⟨its,r,t,z⟩:=I.tuple h
   exact⟨its,r,t⟩
 | false =>
   obtain⟨its,r,p,z⟩:=I.list h
   exact⟨its,r,p.isList⟩
theorem Inv.sqB_inj{b:Bool}{xs ys:List V}(I:Inv X pins σ H s)(h:D9 b X.K H a xs)(h':D9 b X.K H a ys):xs=ys:=by
 cases b with
 | true=>exact I.tuple_inj h h'
 | false=>exact I.list_inj h h'
noncomputable def EJ(b:Bool)(h:Heap)(it a:Addr)(k:Nat):Prop:=bif b then h.IsTupleIter it a k else h.IsListIter it a k
theorem EJ.it1{b:Bool}{k:Nat}{xs:Array E7}(q:EJ b h it a k)(r:D_ b h a xs):EI h it a xs k:=by
 cases b with
 | true=>exact .inr ⟨q,r⟩
 | false=>exact .inl ⟨q,r⟩
theorem EJ.keep{b:Bool}{k:Nat}(q:EJ b h it a k)(e:∀o,h.get? it=some o->h'.get? it=some o):EJ b h' it a k:=by
 cases b with
 | true=>obtain⟨o,h1,r⟩:=(show h.IsTupleIter it a k from q);exact⟨o,e _ h1,r⟩
 | false=>obtain⟨o,h1,r⟩:=(show h.IsListIter it a k from q);exact⟨o,e _ h1,r⟩
theorem EJ.obj{b:Bool}{k:Nat}(q:EJ b h it a k):∃o,h.get? it=some o/\∀v,o.data ≠ .cell v:=by
 cases b with
 | true=>obtain⟨o,h1,_,d⟩:=(show h.IsTupleIter it a k from q);exact⟨o,h1,fun v z=>by rw[d]at z;cases z⟩
 | false=>obtain⟨o,h1,_,d⟩:=(show h.IsListIter it a k from q);exact⟨o,h1,fun v z=>by rw[d]at z;cases z⟩
theorem EI.ir{b:Bool}{k:Nat}{xs:Array E7}{h0:Heap}(q:EI h it a xs k)(r:EJ b h0 it a j)(s:D_ b h a xs):EJ b h it a k:=by
 cases b with
 | true =>
   rcases q with⟨_,⟨o,e,c,_⟩⟩|⟨q,_⟩
   · obtain⟨o',e',c',_⟩:=(show h.IsTuple a xs from s)
     rw[e]at e';cases e';rw[c]at c';injection c' with z;exact absurd z (by decide)
   · exact q
 | false =>
   rcases q with⟨q,_⟩|⟨_,⟨o,e,c,_⟩⟩
   · exact q
   · obtain⟨o',e',c',_⟩:=(show h.IsList a xs from s)
     rw[e]at e';cases e';rw[c]at c';injection c' with z;exact absurd z (by decide)
theorem D_.of{b:Bool}{xs:Array E7}(q:D_ b h a xs)(e:∀o,h.get? a=some o->h'.get? a=some o):D_ b h' a xs:=by
 cases b with
 | true=>obtain⟨o,h1,r⟩:=(show h.IsTuple a xs from q);exact⟨o,e _ h1,r⟩
 | false=>obtain⟨o,h1,r⟩:=(show h.IsList a xs from q);exact⟨o,e _ h1,r⟩
open PySem PySem.Spec PyProof.Rows L2.ZP
section
variable{X:Cx}{e1 e2:Expr}{ta:TA}{elts:List Expr}{kt:Nat}{pt p pos:Pos}
end
end L2
namespace L2.VL
section
variable{X:Cx}{rl:RlT}{a b:Expr}{elts:List Expr}{kt:Nat}{pt p pos:Pos}{fs:D0}
noncomputable def A8(xs ys:List EW):List EW:=List.zipWith (fun x y=>.tuple [x,y]) xs ys
noncomputable def gv:EW->Bool
 | .tuple _=>true
 | _=>false
theorem vZ{K:W.Frag}(r:Rep K F v d)(e:jE d=some xs):∃a vs,v = .ref a/\Reps K F vs xs/\∀H,bC F H->D9 (gv d) K H a vs:=by
 cases r with
 | tup sq rs=>cases e;exact⟨_,_,rfl,rs,fun H s=>dN s sq⟩
 | lst h rs=>cases e;exact⟨_,_,rfl,rs,fun H s=>.inl (.inl (s _ _ h))⟩
 | non=>cases e
 | bl b=>cases e
 | int i=>cases e
 | str x=>cases e
end
theorem nr{α:Sort u}{a b:α}(h:a=b):a=b:=h
abbrev Mo(α:Type):=(α->Prop)->Prop
noncomputable def ret{α:Type}(a:α):Mo α:=fun Q=>Q a
noncomputable def DO{α β:Type}(m:Mo α)(f:α->Mo β):Mo β:=fun Q=>m fun a=>f a Q
noncomputable def DC{α:Type}(P:Prop)(m:Mo α):Mo α:=fun Q=>P/\m Q
noncomputable def stk{α:Type}:Mo α:=fun _=>False
noncomputable def anyM{α:Type}(P:α->Prop):Mo α:=fun Q=>∀a,P a->Q a
noncomputable def aP{α β:Type}(o:Option α)(f:α->Mo β):Mo β:=match o with
 | some a=>f a
 | none=>stk
section
variable{α β γ:Type}
theorem bnd_ret(a:α)(f:α->Mo β):DO (ret a) f=f a:=nr rfl
theorem bnd_bnd(m:Mo α)(f:α->Mo β)(g:β->Mo γ):DO (DO m f) g=DO m fun a=>DO (f a) g:=nr rfl
theorem bnd_grd(P:Prop)(m:Mo α)(f:α->Mo β):DO (DC P m) f=DC P (DO m f):=nr rfl
theorem bnd_stk(f:α->Mo β):DO stk f=stk:=nr rfl
theorem bnd_ite(c:Prop)[Decidable c](a b:Mo α)(f:α->Mo β):DO (if c then a else b) f=if c then DO a f else DO b f:=by split<;>rfl
theorem bnd_opt(o:Option α)(k:α->Mo β)(f:β->Mo γ):DO (aP o k) f=aP o fun a=>DO (k a) f:=by cases o<;>rfl
theorem opt_some(a:α)(k:α->Mo β):aP (some a) k=k a:=nr rfl
theorem opt_none(k:α->Mo β):aP none k=stk:=nr rfl
theorem ag{P:Prop}(h:P)(m:Mo α):DC P m=m:=by funext Q;exact propext ⟨fun z=>z.2,fun z=>⟨h,z⟩⟩
theorem grd_T(m:Mo α):DC True m=m:=ag trivial m
theorem fT(c:Prop)[Decidable c](a b:Mo α)(Q:α->Prop):(if c then a else b) Q=if c then a Q else b Q:=by split<;>rfl
theorem ah{m n:Mo α}(h:∀Q,m Q↔n Q):m=n:=funext fun Q=>propext (h Q)
end
noncomputable def asI:W->Option Int
 | .d (.int i)=>some i
 | _=>none
noncomputable def asB:W->Option Bool
 | .d (.bool b)=>some b
 | _=>none
noncomputable def asS:W->Option Str
 | .d (.str b)=>some b
 | _=>none
noncomputable def asD:W->Option EW
 | .d x=>some x
 | _=>none
noncomputable def lstD:EW->Option (List EW)
 | .list xs=>some xs
 | _=>none
noncomputable def tupD:EW->Option (List EW)
 | .tuple xs=>some xs
 | _=>none
noncomputable def DU(w:W):Option (List EW):=w.dat.bind lstD
noncomputable def DR(w:W):Option (List EW):=(asD w).bind tupD
noncomputable def DT(w:W):Option (List EW):=w.dat.bind jE
noncomputable def Ci:W->Option Int
 | .d (.int i)=>some i
 | .d (.bool b)=>some (if b then 1 else 0)
 | _=>none
noncomputable def Bs:W->Option String
 | .vv (.ty T)=>some T
 | _=>none
noncomputable def zB:List EW->Option (List Bool)
 | []=>some []
 | .bool b::r=>(zB r).map (b :: ·)
 | _=>none
noncomputable def iM:List EW->Option (List Int)
 | []=>some []
 | .int b::r=>(iM r).map (b :: ·)
 | _=>none
theorem blsD_map:∀bs:List Bool,zB (bs.map .bool)=some bs
 | []=>rfl
 | b::bs=>by show(zB (bs.map .bool)).map (b :: ·)=_;rw[blsD_map bs];rfl
theorem intsD_map:∀bs:List Int,iM (bs.map .int)=some bs
 | []=>rfl
 | b::bs=>by show(iM (bs.map .int)).map (b :: ·)=_;rw[intsD_map bs];rfl
theorem iK:∀{xs:List EW}{bs:List Int},iM xs=some bs->xs=bs.map .int
 | [],bs,h=>by cases h;rfl
 | .int b::r,bs,h=>by
   have h:(iM r).map (b :: ·)=some bs:=h
   cases q:iM r with
   | none=>rw[q]at h;cases h
   | some cs=>rw[q]at h;cases h;rw[iK q];rfl
 | .none::_,_,h=>by cases h
 | .bool _::_,_,h=>by cases h
 | .str _::_,_,h=>by cases h
 | .list _::_,_,h=>by cases h
 | .tuple _::_,_,h=>by cases h
 | .dict _::_,_,h=>by cases h
theorem asI_d(i:Int):asI (.d (.int i))=some i:=rfl
theorem asB_d(i:Bool):asB (.d (.bool i))=some i:=rfl
theorem asS_d(i:Str):asS (.d (.str i))=some i:=rfl
theorem asD_d(i:EW):asD (.d i)=some i:=rfl
theorem asT_d(x:EW):DR (.d x)=tupD x:=rfl
theorem asL_d(x:EW):DU (.d x)=lstD x:=rfl
theorem asL_ml(x:List EW):DU (.ml x)=some x:=rfl
theorem asL_pk(x:List EW):DU (.pk x)=some x:=rfl
theorem asQ_d(x:EW):DT (.d x)=jE x:=rfl
theorem asQ_ml(x:List EW):DT (.ml x)=some x:=rfl
theorem asQ_pk(x:List EW):DT (.pk x)=some x:=rfl
theorem lstD_l(x:List EW):lstD (.list x)=some x:=rfl
theorem tupD_t(x:List EW):tupD (.tuple x)=some x:=rfl
theorem toI_i(i:Int):Ci (.d (.int i))=some i:=rfl
theorem toI_b(i:Bool):Ci (.d (.bool i))=some (if i then 1 else 0):=rfl
theorem isiT_t(T:String):Bs (.vv (.ty T))=some T:=rfl
theorem cX{w:W}{i:Int}:asI w=some i↔w = .d (.int i):=by
 constructor
 · intro h;unfold asI at h;split at h<;>simp_all
 · rintro rfl;rfl
theorem li{w:W}{i:Bool}:asB w=some i↔w = .d (.bool i):=by
 constructor
 · intro h;unfold asB at h;split at h<;>simp_all
 · rintro rfl;rfl
theorem rK{w:W}{i:Str}:asS w=some i↔w = .d (.str i):=by
 constructor
 · intro h;unfold asS at h;split at h<;>simp_all
 · rintro rfl;rfl
theorem hG{w:W}{i:EW}:asD w=some i↔w = .d i:=by
 constructor
 · intro h;unfold asD at h;split at h<;>simp_all
 · rintro rfl;rfl
theorem zf{w:EW}{i:List EW}:lstD w=some i↔w = .list i:=by
 constructor
 · intro h;unfold lstD at h;split at h<;>simp_all
 · rintro rfl;rfl
theorem sj{w:EW}{i:List EW}:tupD w=some i↔w = .tuple i:=by
 constructor
 · intro h;unfold tupD at h;split at h<;>simp_all
 · rintro rfl;rfl
theorem rJ{w:W}{i:List EW}:DR w=some i↔w = .d (.tuple i):=by
 constructor
 · intro h
   unfold DR at h
   cases q:asD w with
   | none=>rw[q]at h;cases h
   | some x=>rw[q]at h;rw[hG.mp q,sj.mp h]
 · rintro rfl;rfl
theorem oU{w:W}{i:List EW}:DU w=some i↔w.dat=some (.list i):=by
 unfold DU
 constructor
 · intro h
   cases q:w.dat with
   | none=>rw[q]at h;cases h
   | some x=>rw[q]at h;rw[zf.mp h]
 · intro h;rw[h];rfl
theorem aq{o:Option α}{k:α->Mo β}{Q:β->Prop}:aP o k Q↔∃a,o=some a/\k a Q:=by
 cases o with
 | none=>exact⟨fun z=>z.elim,fun⟨_,z,_⟩=>by cases z⟩
 | some a=>exact⟨fun z=>⟨a,rfl,z⟩,fun⟨_,e,z⟩=>by cases e;exact z⟩
section
variable{fa fb fc:TV}{fs:D0}{f g:TB}{ρ:En}{t u:D1}
theorem m_vC(x:EW):vC x ρ=ret (.d x):=nr rfl
theorem m_vVar(i:Nat):qL i ρ=aP ((ρ[i]?).join) fun w=>ret w.peek:=by
 refine ah fun Q=>?_
 rw[aq]
 constructor
 · rintro⟨w,e,q⟩;exact⟨w,by rw[e];rfl,q⟩
 · rintro⟨w,e,q⟩
   refine⟨w,?_,q⟩
   cases h:ρ[i]? with
   | none=>rw[h]at e;cases e
   | some o=>rw[h]at e;cases o with
     | none=>cases e
     | some x=>cases e;rfl
theorem m_vNil:mo ρ=ret []:=nr rfl
theorem m_vCons{f:TV}:dF f fs ρ=DO (f ρ) fun w=>DO (fs ρ) fun ws=>ret (w.fz::ws):=nr rfl
theorem m_vOp(h:W->W->(W->Prop)->Prop):B_ h fa fb ρ=DO (fa ρ) fun x=>DO (fb ρ) fun y=>h x y:=nr rfl
theorem m_gI(C:Int->Int->Prop)(h:Int->Int->EW)(x y:W):gI C h x y=aP (asI x) fun i=>aP (asI y) fun j=>DC (C i j) (ret (.d (h i j))):=by
 refine ah fun Q=>?_
 simp only[aq,cX,gI,DC,ret]
 exact⟨fun⟨i,j,a,b,c,q⟩=>⟨i,a,j,b,c,q⟩,fun⟨i,a,j,b,c,q⟩=>⟨i,j,a,b,c,q⟩⟩
theorem m_gI0(h:Int->Int->EW)(x y:W):DK h x y=aP (asI x) fun i=>aP (asI y) fun j=>ret (.d (h i j)):=by
 refine ah fun Q=>?_
 simp only[aq,cX,DK,ret]
 exact⟨fun⟨i,j,a,b,q⟩=>⟨i,a,j,b,q⟩,fun⟨i,a,j,b,q⟩=>⟨i,j,a,b,q⟩⟩
theorem m_vNeg:yn fa ρ=DO (fa ρ) fun x=>aP (asI x) fun i=>ret (.d (.int (-i))):=by
 refine ah fun Q=>?_
 simp only[yn,DO,aq,cX,ret]
theorem m_vTest{f:TV}:pv f ρ=DO (f ρ) fun w=>aP (asB w) ret:=by
 refine ah fun Q=>?_
 simp only[pv,DO,aq,li,ret]
theorem m_gEqD(neg:Bool)(x y:W):zr neg x y=aP x.dat fun dx=>aP y.dat fun dy=>DC (F_ dx=true) (DC (F_ dy=true) (ret (.d (.bool (if neg then !FV dx dy else FV dx dy))))):=by
 refine ah fun Q=>?_
 simp only[aq,zr,DC,ret]
 exact⟨fun⟨i,j,a,b,c,d,q⟩=>⟨i,a,j,b,c,d,q⟩,fun⟨i,a,j,b,c,d,q⟩=>⟨i,j,a,b,c,d,q⟩⟩
theorem m_vAnd:yt f g ρ=DO (f ρ) fun b=>if b=true then g ρ else ret false:=by
 refine ah fun Q=>?_
 simp only[yt,DO,fT,ret]
theorem m_vOr:B9 f g ρ=DO (f ρ) fun b=>if b=true then ret true else g ρ:=by
 refine ah fun Q=>?_
 simp only[B9,DO,fT,ret]
theorem m_vNot:AI f ρ=DO (f ρ) fun b=>ret (!b):=nr rfl
theorem m_vAndV:sd fa fb ρ=DO (fa ρ) fun w=>aP (asB w) fun b=>if b=true then fb ρ else ret (.d (.bool false)):=by
 refine ah fun Q=>?_
 simp only[sd,DO,aq,li,fT,ret]
theorem m_vOrV:ym fa fb ρ=DO (fa ρ) fun w=>aP (asB w) fun b=>if b=true then ret (.d (.bool true))else fb ρ:=by
 refine ah fun Q=>?_
 simp only[ym,DO,aq,li,fT,ret]
theorem m_vNotV:r8 fa ρ=DO (fa ρ) fun w=>aP (asB w) fun b=>ret (.d (.bool (!b))):=by
 refine ah fun Q=>?_
 simp only[r8,DO,aq,li,ret]
theorem m_vIf{t:TB}:Ca t fa fb ρ=DO (t ρ) fun c=>if c=true then fa ρ else fb ρ:=by
 refine ah fun Q=>?_
 simp only[Ca,DO,fT]
theorem m_vTup:yi fs ρ=DO (fs ρ) fun ws=>aP (fX ws) fun ds=>DC (ds.length<=sizeLine) (ret (.d (.tuple ds))):=by
 refine ah fun Q=>?_
 simp only[yi,DO,aq,DC,ret]
theorem m_vLst:sa fs ρ=DO (fs ρ) fun ws=>aP (fX ws) fun ds=>DC (ds.length<=sizeLine) (ret (.ml ds)):=by
 refine ah fun Q=>?_
 simp only[sa,DO,aq,DC,ret]
theorem m_gIx(x y:W):DI x y=aP x.dat fun dx=>aP (asI y) fun i=>aP (itemAt dx i) fun z=>ret (.d z):=by
 refine ah fun Q=>?_
 simp only[DI,aq,cX,ret]
 exact⟨fun⟨i,j,z,a,b,c,q⟩=>⟨i,a,j,b,z,c,q⟩,fun⟨i,a,j,b,z,c,q⟩=>⟨i,j,z,a,b,c,q⟩⟩
theorem m_vCall(h:List W->(W->Prop)->Prop):dG h fs ρ=DO (fs ρ) h:=nr rfl
theorem m_gAbs(w:W):x8 [w]=aP (asI w) fun i=>ret (.d (.int (if i<0 then -i else i))):=by
 refine ah fun Q=>?_
 simp only[x8,aq,cX,ret,GG,and_true]
theorem m_gLen(w:W):xW [w]=aP w.dat fun d=>aP (rg d) fun n=>ret (.d (.int n)):=by
 refine ah fun Q=>?_
 simp only[xW,aq,ret,GG,and_true]
 exact⟨fun⟨w',d,n,e,a,b,q⟩=>by subst e;exact⟨d,a,n,b,q⟩,fun⟨d,a,n,b,q⟩=>⟨w,d,n,rfl,a,b,q⟩⟩
theorem m_gRepr(w:W):qi [w]=aP w.dat fun d=>DC (Ec d) (ret (.d (.str d.shown))):=by
 refine ah fun Q=>?_
 simp only[qi,aq,ret,DC,GG,and_true]
 exact⟨fun⟨w',d,e,a,b,q⟩=>by subst e;exact⟨d,a,b,q⟩,fun⟨d,a,b,q⟩=>⟨w,d,rfl,a,b,q⟩⟩
theorem m_gTupO(w:W):qh [w]=aP (DT w) fun xs=>ret (.d (.tuple xs)):=by
 refine ah fun Q=>?_
 simp only[qh,aq,ret,GG,and_true]
 constructor
 · rintro⟨w',d,xs,e,a,b,q⟩;subst e;exact⟨xs,by unfold DT;rw[a];exact b,q⟩
 · rintro⟨xs,e,q⟩
   unfold DT at e
   cases h:w.dat with
   | none=>rw[h]at e;cases e
   | some d=>rw[h]at e;exact⟨w,d,xs,rfl,h,e,q⟩
theorem m_gLstO(w:W):ql [w]=aP (DT w) fun xs=>ret (.ml xs):=by
 refine ah fun Q=>?_
 simp only[ql,aq,ret,GG,and_true]
 constructor
 · rintro⟨w',d,xs,e,a,b,q⟩;subst e;exact⟨xs,by unfold DT;rw[a];exact b,q⟩
 · rintro⟨xs,e,q⟩
   unfold DT at e
   cases h:w.dat with
   | none=>rw[h]at e;cases e
   | some d=>rw[h]at e;exact⟨w,d,xs,rfl,h,e,q⟩
theorem m_gI2(h:Int->Int->EW)(x y:W):DJ h [x,y]=aP (asI x) fun i=>aP (asI y) fun j=>ret (.d (h i j)):=by
 refine ah fun Q=>?_
 simp only[aq,cX,DJ,ret,GG,and_true]
 exact⟨fun⟨i,j,⟨a,b⟩,q⟩=>⟨i,a,j,b,q⟩,fun⟨i,a,j,b,q⟩=>⟨i,j,⟨a,b⟩,q⟩⟩
theorem vD{w:W}{i:Int}:Ci w=some i↔(w = .d (.int i)\/∃b:Bool,w = .d (.bool b)/\i=if b then 1 else 0):=by
 constructor
 · intro h
   unfold Ci at h
   split at h
   · cases h;exact .inl rfl
   · cases h;exact .inr ⟨_,rfl,rfl⟩
   · cases h
 · rintro(rfl|⟨b,rfl,rfl⟩)<;>rfl
theorem m_gInt1(w:W):qm [w]=aP (Ci w) fun i=>ret (.d (.int i)):=by
 refine ah fun Q=>?_
 simp only[aq,vD,qm,ret,GG,and_true]
 constructor
 · rintro(⟨i,rfl,q⟩|⟨k,rfl,q⟩)
   · exact⟨i,.inl rfl,q⟩
   · exact⟨_,.inr ⟨k,rfl,rfl⟩,q⟩
 · rintro⟨i,rfl|⟨b,rfl,rfl⟩,q⟩
   · exact .inl ⟨i,rfl,q⟩
   · exact .inr ⟨b,rfl,q⟩
theorem m_oNo:C0 ρ=ret none:=nr rfl
theorem m_oIt:C1 fa ρ=DO (fa ρ) fun w=>aP (asI w) fun i=>ret (some i):=by
 refine ah fun Q=>?_
 simp only[C1,DO,aq,cX,ret]
theorem m_vSlL{fl fh:D3}:AF fa fl fh ρ=DO (fa ρ) fun w=>DO (fl ρ) fun l=>DO (fh ρ) fun h=>aP (DU w) fun xs=>ret (.ml (cutD xs l h)):=by
 refine ah fun Q=>?_
 simp only[AF,DO,aq,oU,ret]
theorem m_vSlA{fl fh:D3}:yk fa fl fh ρ=DO (fa ρ) fun w=>DO (fl ρ) fun l=>DO (fh ρ) fun h=>aP (DR w) fun xs=>ret (.d (.tuple (cutD xs l h))):=by
 refine ah fun Q=>?_
 simp only[yk,DO,aq,rJ,ret]
theorem m_gCatD(x y:W):qo x y=aP (DU x) fun xs=>aP (DU y) fun ys=>DC (xs.length+ys.length<=sizeLine) (ret (.ml (xs++ys))):=by
 refine ah fun Q=>?_
 simp only[qo,aq,oU,DC,ret]
 exact⟨fun⟨i,j,a,b,c,q⟩=>⟨i,a,j,b,c,q⟩,fun⟨i,a,j,b,c,q⟩=>⟨i,j,a,b,c,q⟩⟩
theorem m_gCatA(x y:W):qp x y=aP (DR x) fun xs=>aP (DR y) fun ys=>DC (xs.length+ys.length<=sizeLine) (ret (.d (.tuple (xs++ys)))):=by
 refine ah fun Q=>?_
 simp only[qp,aq,rJ,DC,ret]
 exact⟨fun⟨i,j,a,b,c,q⟩=>⟨i,a,j,b,c,q⟩,fun⟨i,a,j,b,c,q⟩=>⟨i,j,a,b,c,q⟩⟩
theorem m_vLR1:AJ fs ρ=DO (fs ρ) fun ws=>aP (ws.head?.bind asI) fun j=>DC (ws.length=1) (DC (-(2^62)<=j/\j<2^62) (DC (j.toNat<=2^24) (ret (.ml (aZ 0 j.toNat))))):=by
 show(DO (fs ρ) fun ws=>fun(Q:W->Prop)=>∃j:Int,ws=[.d (.int j)]/\(-(2^62)<=j/\j<2^62)/\j.toNat<=2^24/\Q (.ml (aZ 0 j.toNat)))=_
 congr 1;funext ws
 refine ah fun Q=>?_
 simp only[aq,DC,ret]
 constructor
 · rintro⟨j,rfl,a,b,q⟩;exact⟨j,rfl,rfl,a,b,q⟩
 · rintro⟨j,e,l,a,b,q⟩
   match ws,l with
   | [w],_=>rw[show w = .d (.int j)from cX.mp e];exact⟨j,rfl,a,b,q⟩
noncomputable def Cf(ws:List W):Option (Int×Int):=match ws with
 | [a,b]=>(asI a).bind fun i=>(asI b).map fun j=>(i,j)
 | _=>none
theorem two_d(a b:Int):Cf [.d (.int a),.d (.int b)]=some (a,b):=rfl
theorem m_iL:iL fa ρ=DO (fa ρ) fun w=>aP ((asD w.fz).bind lstD) ret:=by
 show(DO (fa ρ) fun w=>fun(Q:List EW->Prop)=>∃xs,w.fz = .d (.list xs)/\Q xs)=_
 congr 1;funext w
 refine ah fun Q=>?_
 simp only[aq,ret]
 constructor
 · rintro⟨xs,e,q⟩;exact⟨xs,by rw[e];rfl,q⟩
 · rintro⟨xs,e,q⟩
   cases h:asD w.fz with
   | none=>rw[h]at e;cases e
   | some x=>rw[h]at e;rw[hG.mp h,zf.mp e];exact⟨xs,rfl,q⟩
theorem m_iT:iT fa ρ=DO (fa ρ) fun w=>aP ((asD w.fz).bind tupD) ret:=by
 show(DO (fa ρ) fun w=>fun(Q:List EW->Prop)=>∃xs,w.fz = .d (.tuple xs)/\Q xs)=_
 congr 1;funext w
 refine ah fun Q=>?_
 simp only[aq,ret]
 constructor
 · rintro⟨xs,e,q⟩;exact⟨xs,by rw[e];rfl,q⟩
 · rintro⟨xs,e,q⟩
   cases h:asD w.fz with
   | none=>rw[h]at e;cases e
   | some x=>rw[h]at e;rw[hG.mp h,sj.mp e];exact⟨xs,rfl,q⟩
theorem m_iR1:Dz fs ρ=DO (fs ρ) fun ws=>aP (ws.head?.bind asI) fun j=>DC (ws.length=1) (DC (-(2^62)<=j/\j<2^62) (ret (aZ 0 j.toNat))):=by
 show(DO (fs ρ) fun ws=>fun(Q:List EW->Prop)=>∃j:Int,ws=[.d (.int j)]/\(-(2^62)<=j/\j<2^62)/\Q (aZ 0 j.toNat))=_
 congr 1;funext ws
 refine ah fun Q=>?_
 simp only[aq,DC,ret]
 constructor
 · rintro⟨j,rfl,a,q⟩;exact⟨j,rfl,rfl,a,q⟩
 · rintro⟨j,e,l,a,q⟩
   match ws,l with
   | [w],_=>rw[show w = .d (.int j)from cX.mp e];exact⟨j,rfl,a,q⟩
noncomputable def A7(b1 b2:Bool)(ws:List W):Option (List EW):=match ws with
 | [.d x,.d y]=>if gv x=b1/\gv y=b2 then(jE x).bind fun xs=>(jE y).map fun ys=>A8 xs ys else none
 | _=>none
theorem m_vUse(Pd:List W->(EW->Prop)->Prop):yh Pd fs ρ=DO (fs ρ) fun ws=>DC (ws.all gf=true) (DO (Pd ws) fun d=>ret (.d d)):=nr rfl
theorem m_gRepL(x y:W):qj x y=aP (DU x) fun xs=>aP (asI y) fun k=>DC (-(2^63)<=k/\k<2^63/\xs.length*k.toNat<=sizeLine) (ret (.ml (FQ k.toNat xs).flatten)):=by
 refine ah fun Q=>?_
 simp only[qj,aq,oU,cX,DC,ret]
 exact⟨fun⟨i,j,a,b,c,d,e,q⟩=>⟨i,a,j,b,⟨c,d,e⟩,q⟩,fun⟨i,a,j,b,⟨c,d,e⟩,q⟩=>⟨i,j,a,b,c,d,e,q⟩⟩
theorem m_gEqS(neg:Bool)(x y:W):xZ neg x y=aP (asS x) fun i=>aP (asS y) fun j=>ret (.d (.bool (if neg then !decide (i=j)else decide (i=j)))):=by
 refine ah fun Q=>?_
 simp only[aq,rK,xZ,ret]
 exact⟨fun⟨i,j,a,b,q⟩=>⟨i,a,j,b,q⟩,fun⟨i,a,j,b,q⟩=>⟨i,j,a,b,q⟩⟩
end
inductive Fl where
 | nx (ρ:En)|rt (w:W)|bk (ρ:En)|ct (ρ:En)
noncomputable def mS(t:D1)(ρ:En):Mo Fl:=fun Q=>t ⟨fun ρ=>Q (.nx ρ),fun w=>Q (.rt w),fun ρ=>Q (.bk ρ),fun ρ=>Q (.ct ρ)⟩ ρ
noncomputable def sq(m:Mo Fl)(k:En->Mo Fl):Mo Fl:=DO m fun fl=>match fl with
 | .nx ρ=>k ρ
 | .rt w=>ret (.rt w)
 | .bk ρ=>ret (.bk ρ)
 | .ct ρ=>ret (.ct ρ)
noncomputable def uv(Q:EW->Prop):Fl->Prop
 | .nx _=>Q .none
 | .rt w=>∃d,w.fz = .d d/\Q d
 | _=>False
section
variable{fa fb fc:TV}{fs:D0}{f g:TB}{ρ:En}{t u:D1}{k:En->Mo Fl}
theorem ax{Q:EW->Prop}(h:mS t ρ (uv Q)):t (pB Q) ρ:=h
theorem end_d(Q:EW->Prop)(d:EW):uv Q (.rt (.d d))=Q d:=propext ⟨fun⟨_,e,q⟩=>by cases e;exact q,fun q=>⟨d,rfl,q⟩⟩
theorem end_ml(Q:EW->Prop)(d:List EW):uv Q (.rt (.ml d))=Q (.list d):=propext ⟨fun⟨_,e,q⟩=>by cases e;exact q,fun q=>⟨_,rfl,q⟩⟩
theorem end_nx(Q:EW->Prop)(ρ:En):uv Q (.nx ρ)=Q .none:=nr rfl
theorem sq_nx:sq (ret (.nx ρ)) k=k ρ:=nr rfl
theorem sq_rt(w:W):sq (ret (.rt w)) k=ret (.rt w):=nr rfl
theorem sq_bk:sq (ret (.bk ρ)) k=ret (.bk ρ):=nr rfl
theorem sq_ct:sq (ret (.ct ρ)) k=ret (.ct ρ):=nr rfl
theorem sq_grd(P:Prop)(m:Mo Fl):sq (DC P m) k=DC P (sq m k):=nr rfl
theorem sq_stk:sq stk k=stk:=nr rfl
theorem sq_ite(c:Prop)[Decidable c](a b:Mo Fl):sq (if c then a else b) k=if c then sq a k else sq b k:=by split<;>rfl
theorem vM(o:Option α)(h:α->Mo Fl):sq (aP o h) k=aP o fun a=>sq (h a) k:=by cases o<;>rfl
theorem s_next:mS vp ρ=ret (.nx ρ):=nr rfl
theorem s_seq:mS (xP t u) ρ=sq (mS t ρ) (mS u):=by
 refine ah fun Q=>?_
 show t ⟨fun ρ=>u ⟨_,_,_,_⟩ ρ,_,_,_⟩ ρ↔_
 exact Ju
theorem s_ret:mS (AG fa) ρ=DO (fa ρ) fun w=>ret (.rt w):=nr rfl
theorem s_ifS:mS (yo f t u) ρ=DO (f ρ) fun b=>if b=true then mS t ρ else mS u ρ:=by
 refine ah fun Q=>?_
 simp only[mS,yo,DO,fT]
theorem s_set(i:Nat):mS (yl i fa) ρ=DO (fa ρ) fun w=>DC (w.isPk=false) (ret (.nx (ρ.set i (some w)))):=nr rfl
theorem s_never:mS (fun _ _=>False) ρ=stk:=nr rfl
theorem m_hName(i:Nat)(x:EW):qf i x ρ=ret (ρ.set i (some (.d x))):=nr rfl
theorem xf(xs:List EW):zo xs ρ=DC (xs=[]) (ret ρ):=nr rfl
theorem tX{g:D5}{gs:o4}(xs:List EW):qg g gs xs ρ=aP (match xs with | []=>none|y::r=>some (y,r)) fun p=>DO (g p.1 ρ) fun ρ'=>gs p.2 ρ':=by
 refine ah fun Q=>?_
 simp only[aq,qg,DO]
 constructor
 · rintro⟨y,r,rfl,q⟩;exact⟨(y,r),rfl,q⟩
 · rintro⟨p,e,q⟩
   cases xs with
   | nil=>cases e
   | cons y r=>cases e;exact⟨y,r,rfl,q⟩
theorem m_hCons_c{g:D5}{gs:o4}(y:EW)(r:List EW):qg g gs (y::r) ρ=DO (g y ρ) fun ρ'=>gs r ρ':=by rw[tX];rfl
theorem m_hNil_n:zo [] ρ=ret ρ:=by rw[xf,ag rfl]
theorem m_hTup(n:Nat){gs:o4}(x:EW):zn n gs x ρ=aP (tupD x) fun xs=>DC (xs.length=n) (gs xs ρ):=by
 refine ah fun Q=>?_
 simp only[aq,sj,zn,DC]
theorem s_asg{g:D5}:mS (yr fa g) ρ=DO (fa ρ) fun w=>aP (asD w) fun x=>DO (g x ρ) fun ρ'=>ret (.nx ρ'):=by
 refine ah fun Q=>?_
 simp only[mS,yr,DO,aq,hG,ret]
theorem s_par(i j:Nat):mS (AH i j fs) ρ=DO (fs ρ) fun ws=>aP (fX ws) fun ds=>aP (match ds with | [x,y]=>some (x,y)|_=>none) fun p=>ret (.nx ((ρ.set i (some (.d p.1))).set j (some (.d p.2)))):=by
 show(DO (fs ρ) fun ws=>fun(Q:Fl->Prop)=>∃x y,fX ws=some [x,y]/\Q (.nx ((ρ.set i (some (.d x))).set j (some (.d y)))))=_
 congr 1;funext ws
 refine ah fun Q=>?_
 simp only[aq,ret]
 constructor
 · rintro⟨x,y,e,q⟩;exact⟨_,e,(x,y),rfl,q⟩
 · rintro⟨ds,e,p,e2,q⟩
   split at e2
   · cases e2;exact⟨_,_,e,q⟩
   · cases e2
noncomputable def CH(ρ:En)(i:Nat):Option Int:=((ρ[i]?).join).bind asI
noncomputable def asM:W->Option (List EW)
 | .ml xs=>some xs
 | _=>none
noncomputable def CG(ρ:En)(i:Nat):Option (List EW):=((ρ[i]?).join).bind asM
theorem asM_ml(xs:List EW):asM (.ml xs)=some xs:=rfl
theorem A0{w:W}:asM w=some xs↔w = .ml xs:=by
 constructor
 · intro h;unfold asM at h;split at h<;>simp_all
 · rintro rfl;rfl
theorem mM:CG ρ i=some xs↔ρ[i]?=some (some (.ml xs)):=by
 unfold CG
 constructor
 · intro h
   cases q:ρ[i]? with
   | none=>rw[q]at h;cases h
   | some o=>rw[q]at h;cases o with
     | none=>cases h
     | some w=>rw[A0.mp h]
 · intro h;rw[h];rfl
theorem vS{n:Int}:CH ρ i=some n↔ρ[i]?=some (some (.d (.int n))):=by
 unfold CH
 constructor
 · intro h
   cases q:ρ[i]? with
   | none=>rw[q]at h;cases h
   | some o=>rw[q]at h;cases o with
     | none=>cases h
     | some w=>rw[cX.mp h]
 · intro h;rw[h];rfl
theorem s_aug(i:Nat)(C:Int->Int->Prop)(h:Int->Int->Int):mS (yq i C h fa) ρ=aP (CH ρ i) fun n=>DO (fa ρ) fun w=>aP (asI w) fun m=>DC (C n m) (ret (.nx (ρ.set i (some (.d (.int (h n m))))))):=by
 refine ah fun Q=>?_
 simp only[mS,yq,DO,aq,vS,cX,DC,ret]
theorem s_frz(i:Nat):mS (yp i t) ρ=aP (CG ρ i) fun xs=>mS t (ρ.set i (some (.d (.list xs)))):=by
 refine ah fun Q=>?_
 simp only[mS,yp,aq,mM]
theorem s_mut(i:Nat)(h:List EW->List W->(List EW->Prop)->Prop):mS (uI i h fs) ρ=aP (CG ρ i) fun xs=>DO (fs ρ) fun ws=>DO (h xs ws) fun ys=>ret (.nx (ρ.set i (some (.ml ys)))):=by
 refine ah fun Q=>?_
 simp only[mS,uI,DO,aq,mM,ret]
theorem m_gApp(xs:List EW)(w:W):x6 xs [w]=aP (asD w) fun x=>DC (xs.length<sizeLine) (ret (xs++[x])):=by
 refine ah fun Q=>?_
 simp only[x6,aq,hG,DC,ret]
 constructor
 · rintro⟨x,e,a,q⟩
   cases w<;>first|(cases e;exact⟨_,rfl,a,q⟩)|cases e
 · rintro⟨x,rfl,a,q⟩;exact⟨x,rfl,a,q⟩
theorem m_gExt(xs:List EW)(w:W):xY xs [w]=aP ((asD w).bind lstD) fun ys=>DC (xs.length+ys.length<=sizeLine) (ret (xs++ys)):=by
 refine ah fun Q=>?_
 simp only[xY,aq,DC,ret]
 constructor
 · rintro⟨x,e,a,q⟩
   cases w<;>first|(cases e;exact⟨_,rfl,a,q⟩)|cases e
 · rintro⟨x,e,a,q⟩
   cases h:asD w with
   | none=>rw[h]at e;cases e
   | some d=>rw[h]at e;rw[hG.mp h,zf.mp e];exact⟨x,rfl,a,q⟩
end
noncomputable def Le(a b:En):Prop:=a.length=b.length/\∀(i:Nat) w,a[i]?=some (some w)->b[i]?=some (some w)
theorem Le.refl(a:En):Le a a:=⟨rfl,fun _ _ h=>h⟩
theorem Le.trans{a b c:En}(h:Le a b)(h':Le b c):Le a c:=⟨h.1.trans h'.1,fun i w e=>h'.2 i w (h.2 i w e)⟩
theorem le_nil:Le [] []=True:=propext ⟨fun _=>trivial,fun _=>Le.refl _⟩
theorem le_cn(x:Option W)(a b:En):Le (none::a) (x::b)=Le a b:=by
 refine propext ⟨fun h=>⟨by have:=h.1;simpa using this,fun i w e=>by have:=h.2 (i+1) w (by simpa using e);simpa using this⟩,fun h=>⟨by simp[h.1],fun i w e=>?_⟩⟩
 cases i with
 | zero=>simp at e
 | succ i=>simpa using h.2 i w (by simpa using e)
theorem le_cs(x:Option W)(a b:En):Le (x::a) (x::b)=Le a b:=by
 refine propext ⟨fun h=>⟨by have:=h.1;simpa using this,fun i w e=>by have:=h.2 (i+1) w (by simpa using e);simpa using this⟩,fun h=>⟨by simp[h.1],fun i w e=>?_⟩⟩
 cases i with
 | zero=>simpa using e
 | succ i=>simpa using h.2 i w (by simpa using e)
theorem VR.le{K:W.Frag}{ρ0:En}(R:VR K rl F₀ H₀ F H σ ρ)(h:Le ρ0 ρ):VR K rl F₀ H₀ F H σ ρ0 :=
 ⟨R.g,fun i w e=>R.sl i w (h.2 i w e),fun i j x y v n e1 e2=>R.ap i j x y v n (h.2 i x e1) (h.2 j y e2),fun i xs e=>R.np i xs (h.2 i _ e),h.1.trans R.len⟩
noncomputable def fo:List Nat->En->En
 | [],ρ=>ρ
 | i::l,ρ=>fo l (ρ.set i none)
theorem xk(ρ:En)(i:Nat):Le (ρ.set i none) ρ:=by
 refine⟨by simp,fun j w e=>?_⟩
 rw[GH]at e
 split at e
 · split at e
   · cases e
   · cases e
 · exact e
theorem iH:∀(l:List Nat)(ρ:En),Le (fo l ρ) ρ
 | [],ρ=>Le.refl ρ
 | i::l,ρ=>(iH l (ρ.set i none)).trans (xk ρ i)
theorem fo_nil(ρ:En):fo [] ρ=ρ:=rfl
theorem fo_cons(i:Nat)(l:List Nat)(ρ:En):fo (i::l) ρ=fo l (ρ.set i none):=rfl
noncomputable def cT(fl:List Nat)(g:D5)(t:D1):List EW->D1
 | [],D,ρ=>D.nx ρ
 | x::xs,D,ρ=>g x ρ fun ρ2=>t {D with nx:=fun ρ'=>cT fl g t xs D (fo fl ρ'),ct:=fun ρ'=>cT fl g t xs D (fo fl ρ'),bk:=fun ρ'=>D.nx (fo fl ρ')} ρ2
noncomputable def vt(fl:List Nat)(fi:En->(List EW->Prop)->Prop)(g:D5)(t:D1):D1:=fun D ρ=>fi ρ fun xs=>cT fl g t xs D (fo fl ρ)
section
variable{X:Cx}{rl:RlT}{st:Stmt}{rest body:List Stmt}{t u:D1}{a b c e:Expr}{es:List Expr}{fa fb:TV}{fs:D0}{f:TB}{pos p:Pos}
theorem bF(fl:List Nat){g:D5}(hp:KU (FT X.prog X.w) X.A X.env X.xe)(hc:X.calm=true)(hi:Ep X rl tg iter fi)(hg:Et X rl tg g)(hb:lj X rl body t)
 (hs:∀x,FF iter X.env x=pure x:=by intro _;rfl):Ej X rl (.For tg iter body [] pos) (vt fl fi g t):=by
 obtain⟨wi,p0,k0⟩:=hi
 obtain⟨G,p1,k1⟩:=hg
 obtain⟨T,p2,k2⟩:=hb
 refine⟨_,qU hp hc p0 p1 p2 hs,fun{F₀ H₀ F H σ ρ} R Dv D ok q=>k0 R _ _ q fun J xs F1 H1 g1 vi q1=>?_⟩
 refine⟨fun i m σ H=>m=xs.length-i/\i<=xs.length/\∃F ρ,bC F1 F/\VR X.K rl F₀ H₀ F H σ ρ/\cT fl g t (xs.drop i) Dv ρ,⟨xs.length,by simp,FI _,F1,fo fl ρ,.refl _,(R.grow g1).le (iH fl ρ),by simpa using q1⟩,?_⟩
 rintro i m σ H ⟨rfl,hi,F2,ρ2,s2,R2,j2⟩
 have sH:bC F1 H:=s2.trans R2.sub
 by_cases hlt:i<xs.length
 · have ei:xs[i]?=some xs[i]:=by simp[hlt]
   rw[Gx hlt]at j2
   refine .inr ⟨vi.go i H _ ei sH,fun σ' H'=>∃F ρ,bC F1 F/\VR X.K rl F₀ H₀ F H' σ' ρ/\cT fl g t (xs.drop (i+1)) Dv ρ,fun σ' H' z=>⟨xs.length-(i+1),by omega,rfl,hlt,z⟩,fun v H' y=>?_⟩
   obtain⟨Fy,gy,rv⟩:=vi.yld i H v H' _ F2 ei s2 R2.sub R2.reel y
   refine k1 (R2.grow gy) v _ _ _ rv j2 fun F3 H3 σ3 ρ3 s3 n3 R3 q3=>?_
   have s13:bC F1 F3:=s2.trans (gy.fs.trans s3.fs)
   exact k2 R3 {Dv with nx:=fun ρ'=>cT fl g t (xs.drop (i+1)) Dv (fo fl ρ'),ct:=fun ρ'=>cT fl g t (xs.drop (i+1)) Dv (fo fl ρ'),bk:=fun ρ'=>Dv.nx (fo fl ρ')} _
    ⟨fun F4 H4 σ4 ρ4 s4 R4 q4=>⟨F4,fo fl ρ4,s13.trans s4,R4.le (iH fl ρ4),q4⟩,ok.rt,fun F4 H4 σ4 ρ4 s4 R4 q4=>ok.nx _ _ _ _ (g1.fs.trans (s13.trans s4)) (R4.le (iH fl ρ4)) q4,fun F4 H4 σ4 ρ4 s4 R4 q4=>⟨F4,fo fl ρ4,s13.trans s4,R4.le (iH fl ρ4),q4⟩⟩ q3
 · have e:i=xs.length:=by omega
   subst e
   rw[Hj]at j2
   exact .inl ⟨vi.stop _ H (Fa _) sH,ok.nx _ _ _ _ (g1.fs.trans s2) R2 j2⟩
noncomputable def B6(fl:List Nat)(f:TB)(t:D1)(m:Nat):D1:=fun D ρ=>f ρ fun b=>if b=true then t {D with nx:=fun ρ'=>∃k,∃h:k<m,B6 fl f t k D (fo fl ρ'),ct:=fun ρ'=>∃k,∃h:k<m,B6 fl f t k D (fo fl ρ'),bk:=fun ρ'=>D.nx (fo fl ρ')} ρ else D.nx ρ
termination_by m
noncomputable def mj(fl:List Nat)(f:TB)(t:D1):D1:=fun D ρ=>∃m,B6 fl f t m D (fo fl ρ)
theorem qK(fl:List Nat)(f:TB)(t:D1)(m:Nat)(D:VEnds)(ρ:En):B6 fl f t m D ρ=f ρ fun b=>if b=true then t {D with nx:=fun ρ'=>∃k,∃h:k<m,B6 fl f t k D (fo fl ρ'),ct:=fun ρ'=>∃k,∃h:k<m,B6 fl f t k D (fo fl ρ'),bk:=fun ρ'=>D.nx (fo fl ρ')} ρ else D.nx ρ:=by
 conv=>lhs;unfold B6
theorem fq(fl:List Nat)(hp:KU (FT X.prog X.w) X.A X.env X.xe)(hc:PB X rl c f)(hb:lj X rl body t):Ej X rl (.While c body [] pos) (mj fl f t):=by
 obtain⟨t0,p0,k0⟩:=hc
 obtain⟨t1,p1,k1⟩:=hb
 refine⟨_,pP hp p0 p1,fun{F₀ H₀ F H σ ρ} R Dv D ok q=>?_⟩
 obtain⟨m,j0⟩:=q
 refine⟨fun m σ' H'=>∃F' ρ',bC F F'/\VR X.K rl F₀ H₀ F' H' σ' ρ'/\B6 fl f t m Dv ρ',⟨m,F,fo fl ρ,.refl _,R.le (iH fl ρ),j0⟩,?_⟩
 rintro m σ2 H2 ⟨F2,ρ2,s2,R2,j⟩
 rw[qK]at j
 refine k0 R2 _ _ j fun b F1 H1 g1 q1=>?_
 cases b with
 | false=>exact ok.nx _ _ _ _ (s2.trans g1.fs) (R2.grow g1) q1
 | true =>
   refine⟨fun σ' H'=>∃F' ρ',bC F F'/\VR X.K rl F₀ H₀ F' H' σ' ρ'/\∃m',m'<m/\B6 fl f t m' Dv ρ',fun σ' H' ⟨F',ρ',s',R',m',hm,j⟩=>⟨m',hm,F',ρ',s',R',j⟩,?_⟩
   exact k1 (R2.grow g1) {Dv with nx:=fun ρ'=>∃k,∃h:k<m,B6 fl f t k Dv (fo fl ρ'),ct:=fun ρ'=>∃k,∃h:k<m,B6 fl f t k Dv (fo fl ρ'),bk:=fun ρ'=>Dv.nx (fo fl ρ')} _
    ⟨fun F3 H3 σ3 ρ3 s3 R3 ⟨m',hm,q3⟩=>⟨F3,fo fl ρ3,(s2.trans g1.fs).trans s3,R3.le (iH fl ρ3),m',hm,q3⟩,ok.rt,fun F3 H3 σ3 ρ3 s3 R3 q3=>ok.nx _ _ _ _ ((s2.trans g1.fs).trans s3) (R3.le (iH fl ρ3)) q3,fun F3 H3 σ3 ρ3 s3 R3 ⟨m',hm,q3⟩=>⟨F3,fo fl ρ3,(s2.trans g1.fs).trans s3,R3.le (iH fl ρ3),m',hm,q3⟩⟩ q1
end
noncomputable def Dl(fl:List Nat)(k:En->Mo Fl):Fl->Mo Fl
 | .nx ρ=>k (fo fl ρ)
 | .ct ρ=>k (fo fl ρ)
 | .bk ρ=>ret (.nx (fo fl ρ))
 | .rt w=>ret (.rt w)
noncomputable def fR(fl:List Nat)(b:EW->En->Mo Fl):List EW->En->Mo Fl
 | [],ρ=>ret (.nx ρ)
 | x::xs,ρ=>DO (b x ρ) (Dl fl (fR fl b xs))
theorem nO(fl:List Nat)(g:D5)(t:D1):∀(xs:List EW)(ρ:En),mS (cT fl g t xs) ρ=fR fl (fun x ρ=>DO (g x ρ) (mS t)) xs ρ
 | [],ρ=>rfl
 | x::xs,ρ=>by
   refine ah fun Q=>?_
   show(g x ρ fun ρ2=>t ⟨fun ρ'=>mS (cT fl g t xs) (fo fl ρ') Q,fun w=>Q (.rt w),fun ρ'=>Q (.nx (fo fl ρ')),fun ρ'=>mS (cT fl g t xs) (fo fl ρ') Q⟩ ρ2)↔_
   simp only[nO fl g t xs]
   exact Ju
noncomputable def DQ(g:D5)(t:D1):EW->En->Mo Fl:=fun x ρ=>DO (g x ρ) (mS t)
theorem bdy_ap(g:D5)(t:D1)(x:EW)(ρ:En):DQ g t x ρ=DO (g x ρ) (mS t):=nr rfl
theorem s_for(fl:List Nat)(fi:En->(List EW->Prop)->Prop)(g:D5)(t:D1)(ρ:En):mS (vt fl fi g t) ρ=DO (fi ρ) fun xs=>fR fl (DQ g t) xs (fo fl ρ):=by
 refine ah fun Q=>?_
 show(fi ρ fun xs=>mS (cT fl g t xs) (fo fl ρ) Q)↔_
 simp only[nO]
 exact Ju
noncomputable def Dk(fl:List Nat)(J:En->Prop)(Q:Fl->Prop):Fl->Prop
 | .nx ρ=>J (fo fl ρ)
 | .ct ρ=>J (fo fl ρ)
 | .bk ρ=>Q (.nx (fo fl ρ))
 | .rt w=>Q (.rt w)
section
variable{α σ:Type}{fl:List Nat}{b:EW->En->Mo Fl}
theorem kP(J:Nat->En->Prop){Q:Fl->Prop}:∀{xs:List EW}{ρ:En}(n:Nat),J n ρ->(∀i x ρ,xs[i]?=some x->J (n+i) ρ->∀k:Fl->Prop,(∀r,Dk fl (J (n+i+1)) Q r->k r)->b x ρ k)->(∀ρ,J (n+xs.length) ρ->Q (.nx ρ))->fR fl b xs ρ Q
 | [],ρ,n,h0,_,fin=>fin ρ h0
 | x::xs,ρ,n,h0,step,fin=>by
   refine step 0 x ρ rfl h0 (fun r=>Dl fl (fR fl b xs) r Q) fun r hr=>?_
   have rc:∀ρ',J (n+1) ρ'->fR fl b xs ρ' Q:=fun ρ' h'=>kP J (n+1) h' (fun i y ρ e j k hk=>step (i+1) y ρ (by simpa using e) (by rw[show n+(i+1)=n+1+i by omega];exact j) k (by rw[show n+(i+1)+1=n+1+i+1 by omega];exact hk)) (fun ρ j=>fin ρ (by rw[FJ,show n+(xs.length+1)=n+1+xs.length by omega];exact j))
   cases r with
   | nx ρ'=>exact rc _ hr
   | ct ρ'=>exact rc _ hr
   | bk ρ'=>exact hr
   | rt w=>exact hr
theorem nP{xs:List α}{enc:α->EW}{Q:Fl->Prop}(J:Nat->En->Prop)(h0:J 0 ρ)
 (step:∀i (h:i<xs.length) ρ,J i ρ->∀k:Fl->Prop,(∀r,Dk fl (J (i+1)) Q r->k r)->b (enc xs[i]) ρ k)(fin:∀ρ,J xs.length ρ->Q (.nx ρ)):fR fl b (xs.map enc) ρ Q:=by
 refine kP J 0 h0 (fun i x ρ e j k hk=>?_) (fun ρ j=>fin ρ (by simpa using j))
 have hi:i<xs.length:=by have:=(FK.mp e).1;simpa using this
 rw[F0,FA hi]at e
 cases e
 rw[Nat.zero_add]at j hk
 exact step i hi ρ j k hk
theorem p5{lo:Int}{Q:Fl->Prop}(J:Nat->En->Prop)(h0:J 0 ρ)
 (step:∀i,i<n->∀ρ,J i ρ->∀k:Fl->Prop,(∀r,Dk fl (J (i+1)) Q r->k r)->b (.int (lo+i)) ρ k)(fin:∀ρ,J n ρ->Q (.nx ρ)):fR fl b (aZ lo n) ρ Q:=by
 refine nP (xs:=Gh n) J h0 (fun i h ρ j k hk=>?_) (fun ρ j=>fin ρ (by simpa using j))
 rw[List.getElem_range]
 exact step i (by simpa using h) ρ j k hk
end
noncomputable def gz(fl:List Nat)(f:TB)(t:D1)(ρ:En):Mo Fl:=fun Q=>∃m,mS (B6 fl f t m) ρ Q
theorem s_while(fl:List Nat)(f:TB)(t:D1)(ρ:En):mS (mj fl f t) ρ=gz fl f t (fo fl ρ):=nr rfl
theorem pi(fl:List Nat)(f:TB)(t:D1)(m:Nat)(ρ:En):mS (B6 fl f t m) ρ=DO (f ρ) fun b=>if b=true then DO (mS t ρ) (Dl fl fun ρ'=>fun Q=>∃k,∃h:k<m,mS (B6 fl f t k) ρ' Q)else ret (.nx ρ):=by
 refine ah fun Q=>?_
 show B6 fl f t m _ ρ↔_
 rw[qK]
 simp only[DO,fT]
 exact Ju
theorem rP{fl:List Nat}{f:TB}{t:D1}(h:f ρ=ret false):gz fl f t ρ=ret (.nx ρ):=by
 refine ah fun Q=>?_
 constructor
 · rintro⟨m,q⟩;rw[pi,h,bnd_ret,if_neg (by decide)]at q;exact q
 · intro q;refine⟨0,?_⟩;rw[pi,h,bnd_ret,if_neg (by decide)];exact q
theorem rO{fl:List Nat}{f:TB}{t:D1}{ρ':En}(h:f ρ=ret true)(h2:mS t ρ=ret (.nx ρ')):gz fl f t ρ=gz fl f t (fo fl ρ'):=by
 refine ah fun Q=>?_
 constructor
 · rintro⟨m,q⟩;rw[pi,h,bnd_ret,if_pos rfl,h2,bnd_ret]at q;obtain⟨k,_,q⟩:=q;exact⟨k,q⟩
 · rintro⟨m,q⟩;refine⟨m+1,?_⟩;rw[pi,h,bnd_ret,if_pos rfl,h2,bnd_ret];exact⟨m,J4 m,q⟩
theorem lQ{σ:Type}{fl:List Nat}{f:TB}{t:D1}(st:σ->En)(c:σ->Bool)(nxt:σ->σ)(μ:σ->Nat)(I:σ->Prop)
 (hf:∀s,I s->f (st s)=ret (c s))(ht:∀s,I s->c s=true->I (nxt s)/\μ (nxt s)<μ s/\∃ρ',mS t (st s)=ret (.nx ρ')/\fo fl ρ'=st (nxt s))(s:σ)(hs:I s):∃s',I s'/\c s'=false/\gz fl f t (st s)=ret (.nx (st s')):=by
 induction hm:μ s using Nat.strongRecOn generalizing s with
 | ind n ih =>
   subst hm
   cases hc:c s with
   | false=>exact⟨s,hs,hc,rP (by rw[hf s hs,hc])⟩
   | true =>
     obtain⟨i1,m1,ρ',e1,e2⟩:=ht s hs hc
     obtain⟨s',a,b,e⟩:=ih _ m1 (nxt s) i1 rfl
     exact⟨s',a,b,by rw[rO (by rw[hf s hs,hc]) e1,e2,e]⟩
noncomputable def lM(ρ0:En)(g:D5)(ft:TB)(fe:TV):List EW->List EW->(List EW->Prop)->Prop
 | [],acc,Q=>Q acc
 | x::xs,acc,Q=>g x ρ0 fun ρ2=>Le ρ0 ρ2/\ft ρ2 fun b=>if b=true then fe ρ2 fun w=>∃d,w.fz = .d d/\acc.length<sizeLine/\lM ρ0 g ft fe xs (acc++[d]) Q else lM ρ0 g ft fe xs acc Q
noncomputable def gE(fi:En->(List EW->Prop)->Prop)(fr:List (Option Nat))(g:D5)(ft:TB)(fe:TV):TV:=fun ρ Q=>fi ρ fun xs=>lM (c_ fr ρ) g ft fe xs [] fun ds=>Q (.ml ds)
section
variable{X:Cx}{rl:RlT}{elt tg iter:Expr}{ifs:List Expr}{scope:Scope}{pos:Pos}{fi:En->(List EW->Prop)->Prop}{g:D5}{ft:TB}{fe:TV}
theorem kR{wi:TI}(fr:List (Option Nat))(k0:∀{F₀ H₀ F H:Hp}{σ:St}{ρ:En},VR X.K rl F₀ H₀ F H σ ρ->∀(Qd:List EW->Prop)(R:It->Hp->Prop),fi ρ Qd ->
 (∀J xs F' H',Grow rl F H F' H'->VIt X.K rl F' J xs->Qd xs->R J H')->wi σ H R)
 (hg:∀y,Et (blk X N' scope y) rl tg g)(ht:∀y,jA (blk X N' scope y) rl ifs ft)(he:∀y,PV (blk X N' scope y) rl elt fe)
 (R:VR X.K rl F₀ H₀ F H σ ρ)(Qd:W->Prop)(Q:VK)(q:gE fi fr g ft fe ρ Qd)
 (k:∀v w F' H',Grow rl F H F' H'->cS X.K rl F' H' v w->de H v w->Qd w->Q v H'):pE wi fr (fun y=>Gm (hg y)) (fun y=>Gm (ht y)) (fun y=>Gm (he y)) σ H Q:=by
 refine k0 R _ _ q fun J xs F1 H1 g1 vi q1=>?_
 intro D hD
 have rD:rl.a≠some D:=fun e=>by obtain⟨o,z⟩:=g1.reel.live e;rw[hD]at z;cases z
 have FD:F1 D=none:=g1.sub.free hD
 have gD:Grow rl F1 H1 F1 (Cb H1 D (.lst [])):=Grow.laid g1.sub g1.reel hD
 have R1:=R.grow g1
 have n0:jz (c_ fr ρ):=cC
 refine⟨fun i m acc σc Hc=>m=xs.length-i/\i<=xs.length/\∃Fc ds,VR X.K rl F1 H1 Fc Hc σc (c_ fr ρ)/\Hc D=some (.lst acc)/\Fc D=none/\Reps X.K Fc acc ds/\lM (c_ fr ρ) g ft fe (xs.drop i) ds (fun ds=>Qd (.ml ds)),
  ⟨xs.length,by simp,FI _,F1,[],dC R1 gD,ar,FD,.nil,by simpa using q1⟩,?_⟩
 rintro z i m acc σc Hc ⟨rfl,hi,Fc,ds,Rc,hDc,fDc,rs,q2⟩
 have sH:bC F1 Hc:=Rc.g.fs.trans Rc.sub
 by_cases hlt:i<xs.length
 · have ei:xs[i]?=some xs[i]:=by simp[hlt]
   have ed:xs.drop i=xs[i]::xs.drop (i+1):=Gx hlt
   rw[ed]at q2
   refine .inr ⟨vi.go i Hc _ ei sH,fun v H' y=>?_⟩
   obtain⟨Fy,gy,rv⟩:=vi.yld i Hc v H' _ Fc ei Rc.g.fs Rc.sub Rc.reel y
   refine(E5 (hg z)).2 (Rc.grow gy) v _ _ _ rv q2 fun F3 H3 σ3 ρ3 g3 n3 R3 ⟨le3,q3⟩=>?_
   refine(E5 (ht z)).2 R3 _ _ q3 fun b F4 H4 g4 q4=>?_
   have R4:=R3.grow g4
   have g34:=(gy.trans g3).trans g4
   have keepD:∀{Fx Hx:Hp},Grow rl Fc Hc Fx Hx->Hx D=some (.lst acc)/\Fx D=none:=fun gx=>⟨gx.same D _ hDc rD,by rw[gx.old D _ hDc];exact fDc⟩
   cases b with
   | false=>exact⟨xs.length-(i+1),by omega,rfl,hlt,F4,ds,R4.le le3,(keepD g34).1,(keepD g34).2,rs.mono g34.fs,q4⟩
   | true =>
     refine(E5 (he z)).2 R4 _ _ q4 fun v5 w5 F5 H5 g5 r5 n5 ⟨d,ed5,hl,q5⟩=>?_
     obtain⟨F6,g6,s6,r6⟩:=cS.fz g5 r5 n5
     rw[ed5]at r6
     have g36:=g34.trans g6
     refine⟨(keepD g36).1,by rw[rs.length];exact hl,xs.length-(i+1),by omega,rfl,hlt,F6,ds++[d],((R4.grow g6).le le3).other n0 hD (keepD g36).2 rD,ar,(keepD g36).2,(rs.mono g36.fs).snoc r6,q5⟩
 · have e:i=xs.length:=by omega
   subst e
   rw[Hj]at q2
   refine .inl ⟨vi.stop _ Hc (Fa _) sH,k _ (.ml ds) Fc Hc (g1.trans Rc.g) ⟨D,acc,rfl,fDc,rD,hDc,rs⟩ (fun a ea=>by cases ea;exact g1.freeB hD) q2⟩
theorem bD(N':List Str)(fr:List (Option Nat))(hc:X.calm=true)(hi:Ep X rl tg iter fi)
 (hg:∀y,Et (blk X N' scope y) rl tg g)(ht:∀y,jA (blk X N' scope y) rl ifs ft)(he:∀y,PV (blk X N' scope y) rl elt fe)
 (hfr:jV fr N' X.N scope X.env.scope=true:=by rfl)(hsc:kF scope X.env.scope=true:=by rfl)
 (hs:∀x,FF iter X.env x=pure x:=by intro _;rfl):PV X rl (.ListComp elt [⟨tg,iter,ifs,0⟩] scope pos) (gE fi fr g ft fe):=by
 obtain⟨wi,p0,k0⟩:=hi
 exact⟨_,iD N' fr hc p0 hfr hsc (fun y=>(E5 (hg y)).1) (fun y=>(E5 (ht y)).1) (fun y=>(E5 (he y)).1) hs,fun R Qd Q q k=>kR fr k0 hg ht he R Qd Q q k⟩
end
noncomputable def Du(ρ0:En)(g:D5)(ft:TB)(fe:TV)(x:EW):Mo (Option EW):=DO (g x ρ0) fun ρ2=>DC (Le ρ0 ρ2) (DO (ft ρ2) fun b=>if b=true then DO (fe ρ2) fun w=>aP (asD w.fz) fun d=>ret (some d)else ret none)
noncomputable def cj(b:EW->Mo (Option EW)):List EW->List EW->Mo (List EW)
 | [],acc=>ret acc
 | x::xs,acc=>DO (b x) fun o=>match o with
   | some d=>DC (acc.length<sizeLine) (cj b xs (acc++[d]))
   | none=>cj b xs acc
theorem j8(ρ0:En)(g:D5)(ft:TB)(fe:TV):∀(xs acc:List EW),lM ρ0 g ft fe xs acc=cj (Du ρ0 g ft fe) xs acc
 | [],acc=>rfl
 | x::xs,acc=>by
   refine ah fun Q=>?_
   show(g x ρ0 fun ρ2=>Le ρ0 ρ2/\ft ρ2 fun b=>if b=true then fe ρ2 fun w=>∃d,w.fz = .d d/\acc.length<sizeLine/\lM ρ0 g ft fe xs (acc++[d]) Q else lM ρ0 g ft fe xs acc Q)↔(DO (Du ρ0 g ft fe x) _) Q
   simp only[j8 ρ0 g ft fe xs]
   have:∀(ρ2:En)(b:Bool),(if b=true then fe ρ2 fun w=>∃d,w.fz = .d d/\acc.length<sizeLine/\cj (Du ρ0 g ft fe) xs (acc++[d]) Q else cj (Du ρ0 g ft fe) xs acc Q)=(DO (if b=true then DO (fe ρ2) fun w=>aP (asD w.fz) fun d=>ret (some d)else ret none) fun o=>match o with
   | some d=>DC (acc.length<sizeLine) (cj (Du ρ0 g ft fe) xs (acc++[d]))
   | none=>cj (Du ρ0 g ft fe) xs acc) Q:=by
     intro ρ2 b
     cases b with
     | false=>rfl
     | true =>
       rw[if_pos rfl,if_pos rfl]
       show _=fe ρ2 fun w=>_
       congr 1
       funext w
       refine propext ?_
       show _↔(DO (aP (asD w.fz) fun d=>ret (some d)) _) Q
       rw[bnd_opt,aq]
       simp only[hG]
       exact Ju
   simp only[this]
   exact Ju
theorem m_comp(fi:En->(List EW->Prop)->Prop)(fr:List (Option Nat))(g:D5)(ft:TB)(fe:TV)(ρ:En):gE fi fr g ft fe ρ=DO (fi ρ) fun xs=>DO (cj (Du (c_ fr ρ) g ft fe) xs []) fun ds=>ret (.ml ds):=by
 refine ah fun Q=>?_
 show(fi ρ fun xs=>lM (c_ fr ρ) g ft fe xs [] fun ds=>Q (.ml ds))↔_
 simp only[j8]
 exact Ju
section
variable{α:Type}{b:EW->Mo (Option EW)}
theorem dZ{enc:α->EW}(f:α->Option EW):∀(xs:List α)(acc:List EW),(∀x∈xs,b (enc x)=ret (f x))->acc.length+xs.length<=sizeLine->cj b (xs.map enc) acc=ret (acc++xs.filterMap f)
 | [],acc,_,_=>by simp[cj]
 | x::xs,acc,h,hl=>by
   show DO (b (enc x)) _=_
   rw[h x Ff,bnd_ret]
   simp at hl
   cases e:f x with
   | none =>
     show cj b (xs.map enc) acc=_
     rw[dZ f xs acc (fun y hy=>h y (E9 _ hy)) (by omega),List.filterMap_cons_none e]
   | some d =>
     show DC (acc.length<sizeLine) (cj b (xs.map enc) (acc++[d]))=_
     rw[ag (by omega),dZ f xs (acc++[d]) (fun y hy=>h y (E9 _ hy)) (by simp;omega),List.filterMap_cons_some e]
     simp
theorem jZ{xs:List α}{enc:α->EW}(f:α->Option EW)(h:∀x∈xs,b (enc x)=ret (f x))(hl:xs.length<=sizeLine):cj b (xs.map enc) []=ret (xs.filterMap f):=by
 have:=dZ f xs [] h (by simpa using hl)
 simpa using this
theorem comp_map{xs:List α}{enc:α->EW}(f:α->EW)(h:∀x∈xs,b (enc x)=ret (some (f x)))(hl:xs.length<=sizeLine):cj b (xs.map enc) []=ret (xs.map f):=by
 rw[jZ (fun x=>some (f x)) h hl,J9]
theorem oE{lo:Int}(f:Nat->EW)(h:∀j,j<n->b (.int (lo+j))=ret (some (f j)))(hl:n<=sizeLine):cj b (aZ lo n) []=ret ((Gh n).map f) :=
 comp_map (xs:=Gh n) f (fun j hj=>h j (HV.mp hj)) (by simpa using hl)
theorem qy{lo:Int}(f:Nat->Option EW)(h:∀j,j<n->b (.int (lo+j))=ret (f j))(hl:n<=sizeLine):cj b (aZ lo n) []=ret ((Gh n).filterMap f) :=
 jZ (xs:=Gh n) f (fun j hj=>h j (HV.mp hj)) (by simpa using hl)
end
section
variable(c:Prop)[Decidable c]
theorem ite_nx(a b:En):(if c then ret (Fl.nx a)else ret (Fl.nx b))=ret (Fl.nx (if c then a else b)):=by split<;>rfl
theorem ite_rt(a b:W):(if c then ret (Fl.rt a)else ret (Fl.rt b))=ret (Fl.rt (if c then a else b)):=by split<;>rfl
theorem ite_retd(a b:EW):(if c then ret (W.d a)else ret (W.d b))=ret (W.d (if c then a else b)):=by split<;>rfl
theorem ite_retb(a b:Bool):(if c then ret a else ret b)=ret (if c then a else b):=by split<;>rfl
theorem ite_rets(a b:EW):(if c then ret (some a)else ret (some b))=ret (some (if c then a else b)):=by split<;>rfl
theorem ite_cons{α:Type}(x y:α)(l m:List α):(if c then x::l else y::m)=(if c then x else y)::(if c then l else m):=by split<;>rfl
theorem ite_some{α:Type}(x y:α):(if c then some x else some y)=some (if c then x else y):=by split<;>rfl
theorem ite_d(a b:EW):(if c then W.d a else W.d b)=W.d (if c then a else b):=by split<;>rfl
theorem ite_pi(a b:Int):(if c then Fm a else Fm b)=Fm (if c then a else b):=by split<;>rfl
theorem ite_pb(a b:Bool):(if c then IT a else IT b)=IT (if c then a else b):=by split<;>rfl
theorem itb_tt(b y:Bool):(if b=true then true else y)=(b||y):=by cases b<;>rfl
theorem itb_ff(b y:Bool):(if b=true then y else false)=(b&&y):=by cases b<;>rfl
theorem itb_ft(b y:Bool):(if b=true then false else y)=(!b&&y):=by cases b<;>rfl
theorem itb_tf(b y:Bool):(if b=true then y else true)=(!b||y):=by cases b<;>rfl
end
theorem ae(h:n<=1000):(n<=sizeLine)=True:=by have:=FG;exact propext ⟨fun _=>trivial,fun _=>by omega⟩
theorem tup2(x y:EW):(match [x,y]with | [x,y]=>some (x,y)|_=>none)=some (x,y):=rfl
theorem bnd_tt{α β:Type}(a:α)(f:α->Mo β):DO (fun Q=>Q a) f=f a:=nr rfl
section
variable{α β:Type}
theorem aI{P:α->Prop}{f:α->Mo β}{Q:β->Prop}(h:∀a,P a->f a Q):DO (anyM P) f Q:=h
theorem bU{P:Prop}{m:Mo α}{Q:α->Prop}(h:P)(h':m Q):DC P m Q:=⟨h,h'⟩
theorem cz{c:Prop}[Decidable c]{a b:Mo α}{Q:α->Prop}(h:c->a Q)(h':¬c->b Q):(if c then a else b) Q:=by split<;>simp_all
theorem p9{b:Bool}{x y:Mo α}{Q:α->Prop}(h:b=true->x Q)(h':b=false->y Q):(if b=true then x else y) Q:=by cases b<;>simp_all
end
theorem av{Q:EW->Prop}(h:Q d):ret (Fl.rt (.d d)) (uv Q):=⟨d,rfl,h⟩
theorem iB{Q:EW->Prop}{d:List EW}(h:Q (.list d)):ret (Fl.rt (.ml d)) (uv Q):=⟨_,rfl,h⟩
section
variable{α:Type}{k:En->Mo Fl}{Q:Fl->Prop}
theorem CA{m:Mo α}{h:α->Mo Fl}(z:DO m (fun a=>sq (h a) k) Q):sq (DO m h) k Q:=z
theorem Cz{o:Option α}{h:α->Mo Fl}(z:aP o (fun a=>sq (h a) k) Q):sq (aP o h) k Q:=by rw[vM];exact z
noncomputable def kc(k1 k2:En->Mo Fl):En->Mo Fl:=fun ρ=>sq (k1 ρ) k2
theorem kc_ap(k1 k2:En->Mo Fl)(ρ:En):kc k1 k2 ρ=sq (k1 ρ) k2:=nr rfl
theorem sq_sq(m:Mo Fl)(k1 k2:En->Mo Fl):sq (sq m k1) k2=sq m (kc k1 k2):=by
 refine ah fun Q=>?_
 show m _↔m _
 have:∀fl:Fl,(sq (match fl with | .nx ρ=>k1 ρ | .rt w=>ret (.rt w) | .bk ρ=>ret (.bk ρ) | .ct ρ=>ret (.ct ρ)) k2) Q=(match fl with | .nx ρ=>kc k1 k2 ρ | .rt w=>ret (.rt w) | .bk ρ=>ret (.bk ρ) | .ct ρ=>ret (.ct ρ):Mo Fl) Q:=by intro fl;cases fl<;>rfl
 exact Iff.of_eq (congrArg m (funext this))
theorem bc{P:α->Prop}{f:α->Mo Fl}(z:∀a,P a->sq (f a) k Q):sq (DO (anyM P) f) k Q:=z
end
theorem pk_sc(x:List Int):L2.VL.W.peek (.sc x) = .sc x:=rfl
theorem fz_sc(x:List Int):(W.sc x).fz = .sc x:=rfl
theorem arg_sc(x:List Int):gf (.sc x)=true:=rfl
theorem isPk_sc(x:List Int):(W.sc x).isPk=false:=rfl
section
variable{X:Cx}{rl:RlT}{a b c e:Expr}{es:List Expr}{fa fb fc:TV}{fs:D0}{pos p p2:Pos}{ρ:En}
noncomputable def asSc:W->Option (List Int)
 | .sc ns=>some ns
 | _=>none
theorem asSc_s(ns:List Int):asSc (.sc ns)=some ns:=rfl
theorem uF{w:W}{i:List Int}:asSc w=some i↔w = .sc i:=by
 constructor
 · intro h;unfold asSc at h;split at h<;>simp_all
 · rintro rfl;rfl
theorem ck(f:α->β)(xs:List α)(i:Int):atI (xs.map f) i=(atI xs i).map f:=by
 unfold atI
 rw[Fd]
 cases ixN xs.length i<;>simp
theorem mU{K:W.Frag}{F:Hp}:∀ns:List Int,Reps K F (ns.map V.int) (ns.map Fm)
 | []=>.nil
 | n::ns=>.cons (.int n) (mU ns)
noncomputable def yj(fa:TV)(fl fh:D3):TV:=fun ρ Q=>fa ρ fun w=>fl ρ fun l=>fh ρ fun h=>∃ns:List Int,w = .sc ns/\Q (.ml (cutD (ns.map .int) l h))
theorem va{lo hi:Option Expr}{fl fh:D3}(ha:PV X rl a fa)(hl:Eg X rl lo fl)(hh:Eg X rl hi fh):PV X rl (.Subscript a (.Slice lo hi none p2) pos) (yj fa fl fh):=by
 obtain⟨t,p,k⟩:=ha
 obtain⟨tl,pl,kl⟩:=hl
 obtain⟨th,ph,kh⟩:=hh
 refine⟨_,kG sC p pl ph,fun R Qd Q q h=>k R _ _ q fun v w F1 H1 g1 r1 n1 q1=>?_⟩
 refine kl (R.grow g1) _ _ q1 fun l F2 H2 g2 q2=>kh ((R.grow g1).grow g2) _ _ q2 fun u F3 H3 g3 q3=>?_
 obtain⟨ns,rfl,q3⟩:=q3
 obtain⟨a,rfl,sq⟩:=(r1.grow g2).grow g3
 have g:=(g1.trans g2).trans g3
 exact⟨a,_,rfl,pI g3.sub sq,fun p hp=>h _ (.ml _) _ _ (g.trans (Grow.laid g3.sub g3.reel hp)) (cy g3.sub g3.reel hp ((mU ns).cut l u)) (fun a ea=>by cases ea;exact g.freeB hp) q3⟩
theorem m_vSlS{fl fh:D3}:yj fa fl fh ρ=DO (fa ρ) fun w=>DO (fl ρ) fun l=>DO (fh ρ) fun h=>aP (asSc w) fun ns=>ret (.ml (cutD (ns.map .int) l h)):=by
 refine ah fun Q=>?_
 simp only[yj,DO,aq,uF,ret]
end
noncomputable def CD(K:W.Frag)(pre:List W->Prop):Sp:=fun vs H Q _=>∃F ws,bC F H/\gi K RlT.no F H vs ws/\ws.all gf=true/\pre ws/\∀r n' F' H',H r=none->Grow RlT.no F H F' H'->Ed (RlT.at' r n') F' H'->Q (.ref r) H'
structure DfnR (P:FS) (w:GD) (K:W.Frag) (mg:Str->Option E7) (base:Heap) (x:Str) (ps:List Str) (k:Nat) (pre:List W->Prop):Prop where
 ex:∃f fd,mg x=some (.ref f)/\W.keepIn K (.ref f)=true/\Binds K fd ps []/\FnOk P w K mg base EN k f fd ps (CD K pre)
noncomputable def C5:Option W->Option W
 | some .reel=>none
 | o=>o
noncomputable def nR(ρ:En):En:=ρ.map C5
noncomputable def W.isR:W->Bool
 | .reel=>true
 | _=>false
noncomputable def vq(i:Nat)(pre:List W->Prop)(fs:D0)(t:D1):D1:=fun D ρ=>fs ρ fun ws=>ws.all gf=true/\pre ws/\t ⟨fun ρ'=>D.nx (nR ρ'),fun w=>w.isR=false/\D.rt w,fun ρ'=>D.bk (nR ρ'),fun ρ'=>D.ct (nR ρ')⟩ (ρ.set i (some .reel))
theorem ug{r:Addr}(g:Grow RlT.no F₀ H₀ F H)(ra:Ed (RlT.at' r n') F H):Grow (RlT.at' r n') F₀ H₀ F H:=⟨fun b o e _=>g.same b o e (by simp),g.fs,g.sub,g.old,ra⟩
theorem kX{r:Addr}(g:Grow (RlT.at' r n') F₀ H₀ F H)(n:H₀ r=none):Grow RlT.no F₀ H₀ F H:=⟨fun b o e _=>g.same b o e (fun z=>by cases z;rw[n]at e;cases e),g.fs,g.sub,g.old,fun _ z=>by cases z⟩
theorem v4{K:W.Frag}{r:Addr}{w:W}(h:cS K RlT.no F H v w)(ne:∀a,w.own=true\/(∃xs,w = .pk xs)->v = .ref a->a≠r):cS K (RlT.at' r n') F H v w:=by
 cases w with
 | d x=>exact h
 | ml xs=>obtain⟨a,vs,e,f,_,g⟩:=h;exact⟨a,vs,e,f,fun z=>ne a (.inl rfl) e (by cases z;rfl),g⟩
 | pk xs=>obtain⟨a,vs,e,f,_,g⟩:=h;exact⟨a,vs,e,f,fun z=>ne a (.inr ⟨_,rfl⟩) e (by cases z;rfl),g⟩
 | reel=>obtain⟨_,z,_⟩:=h;cases z
 | vv u=>exact h
 | md kvs=>obtain⟨a,vs,e,f,_,g⟩:=h;exact⟨a,vs,e,f,fun z=>ne a (.inl rfl) e (by cases z;rfl),g⟩
 | mk kvs=>obtain⟨a,vs,e,f,_,g⟩:=h;exact⟨a,vs,e,f,fun z=>ne a (.inl rfl) e (by cases z;rfl),g⟩
 | nt ds=>exact h
 | lk=>trivial
 | sc ns=>exact h
 | fd _=>exact h
 | fw _=>exact h
 | ft _=>exact h
 | xc _ _=>exact h
 | dp _ _=>exact h
theorem mV{K:W.Frag}{r:Addr}{w:W}(h:cS K (RlT.at' r n') F H v w)(n:w.isR=false):cS K RlT.no F H v w:=by
 cases w with
 | d x=>exact h
 | ml xs=>obtain⟨a,vs,e,f,_,g⟩:=h;exact⟨a,vs,e,f,by simp,g⟩
 | pk xs=>obtain⟨a,vs,e,f,_,g⟩:=h;exact⟨a,vs,e,f,by simp,g⟩
 | reel=>cases n
 | vv u=>exact h
 | md kvs=>obtain⟨a,vs,e,f,_,g⟩:=h;exact⟨a,vs,e,f,by simp,g⟩
 | mk kvs=>obtain⟨a,vs,e,f,_,g⟩:=h;exact⟨a,vs,e,f,by simp,g⟩
 | nt ds=>exact h
 | lk=>trivial
 | sc ns=>exact h
 | fd _=>exact h
 | fw _=>exact h
 | ft _=>exact h
 | xc _ _=>exact h
 | dp _ _=>exact h
theorem kM{w:W}(h:(nR ρ)[i]?=some (some w)):ρ[i]?=some (some w)/\w.isR=false:=by
 unfold nR at h
 rw[F0]at h
 cases e:ρ[i]? with
 | none=>rw[e]at h;cases h
 | some o =>
   rw[e]at h
   cases o with
   | none=>cases h
   | some u=>cases u<;>first|(cases h;exact⟨rfl,rfl⟩)|cases h
theorem VR.out{K:W.Frag}{r:Addr}(R:VR K (RlT.at' r n') F₀ H₀ F H σ ρ)(n:H₀ r=none):VR K RlT.no F₀ H₀ F H σ (nR ρ):=by
 refine⟨kX R.g n,fun i w e=>?_,fun i j x y v hn e1 e2=>R.ap i j x y v hn (kM e1).1 (kM e2).1,fun i xs e=>R.np i xs (kM e).1,?_⟩
 · obtain⟨e1,e2⟩:=kM e
   obtain⟨v,h1,h2,h3⟩:=R.sl i w e1
   exact⟨v,h1,mV h2 e2,h3⟩
 · have:=R.len;simpa[nR]using this
theorem VR.into{K:W.Frag}{r:Addr}(R:VR K RlT.no F₀ H₀ F H σ ρ)(n:H r=none)(g:Grow RlT.no F H F' H')(ra:Ed (RlT.at' r n') F' H')(i:Nat):VR K (RlT.at' r n') F₀ H₀ F' H' (σ.set i (some (.ref r))) (ρ.set i (some .reel)):=by
 have R1:=R.grow g
 refine⟨ug R1.g ra,fun j w e=>?_,fun j k x y v hn e1 e2 o1 o2 s1 s2=>?_,fun j xs e=>?_,by simp[R.len]⟩
 · by_cases hj:i=j
   · subst hj
     have hi:i<ρ.length:=by
      rw[GH]at e
      by_cases hi:i<ρ.length
      · exact hi
      · simp[hi]at e
     rw[FR hi]at e
     cases e
     exact⟨.ref r,by rw[FR (by rw[<- R.len];exact hi)],⟨r,rfl,rfl⟩,trivial⟩
   · rw[FM hj]at e
     obtain⟨v,h1,h2,h3⟩:=R1.sl j w e
     refine⟨v,by rw[FM hj];exact h1,v4 h2 fun a ow ea z=>?_,h3⟩
     obtain⟨v0,h10,h20,_⟩:=R.sl j w e
     rw[h1]at h10
     cases h10
     rcases ow with ow|⟨xs,rfl⟩
     · obtain⟨b,o,eb,hb⟩:=h20.live ow
       rw[ea]at eb
       cases eb
       rw[z,n]at hb
       cases hb
     · exact absurd e (R.np j xs)
 · have key:∀(m:Nat)(z:W),(ρ.set i (some W.reel))[m]?=some (some z)->z.own=true->i≠m/\ρ[m]?=some (some z):=fun m z e o=>by
     by_cases hm:i=m
     · subst hm
       rw[GH]at e
       split at e
       · split at e
         · cases e;cases o
         · cases e
       · exact absurd rfl (by assumption)
     · rw[FM hm]at e;exact⟨hm,e⟩
   obtain⟨n1,d1⟩:=key j x e1 o1
   obtain⟨n2,d2⟩:=key k y e2 o2
   rw[FM n1]at s1
   rw[FM n2]at s2
   exact R1.ap j k x y v hn d1 d2 o1 o2 s1 s2
 · rw[GH]at e
   split at e
   · split at e
     · cases e
     · cases e
   · exact R1.np j xs e
section
variable{X:Cx}{st:Stmt}{rest body:List Stmt}{t u:D1}{a b c e:Expr}{es:List Expr}{fa fb:TV}{fs:D0}{pos p px cpos:Pos}{ρ:En}
theorem rQ(i:Nat){f:Str}{ps:List Str}{k:Nat}{pre:List W->Prop}(D:DfnR X.prog X.w X.K X.mg X.base f ps k pre)(hr:Room k X.A)(hN:X.N.Nodup)(ha:Ef X RlT.no (e::es) fs)(hrest:∀r n',lj X (RlT.at' r n') rest t)
 (hi:X.N[i]?=some x:=by rfl)(hx:Loc X.env.scope x:=by first|exact G3 rfl|exact GA rfl)(hg:Gl X f:=by rfl)(hdb:(f==("__debug__" : Str))=false:=by decide)
 (he:Fg (e::es) X.env=(false,eval e X.env)::Fg es X.env:=by rfl)(hpl:(GQ cpos (Fg es X.env)).any (·.1)=false:=by rfl)
 (hs:G0 (.Call (.Name f p) (e::es) [] cpos) (some (.Name x px)) pos.line X.env=pure false:=by rfl)(hf:X.fn x=true\/X.env.scope.names.lookup x=some .local:=by first|exact .inl rfl|exact .inr rfl) :
 lj X RlT.no (.Assign [.Name x px] (.Call (.Name f p) (e::es) [] cpos) pos::rest) (vq i pre fs t):=by
 obtain⟨fa,fd,hm,hk,hb,F⟩:=D.ex
 obtain⟨ta,p1,k1⟩:=ha
 refine⟨_,ff (fK hN hi hx (jN F hr hg hm hk hb .nil tI p1 hdb he hpl) hs hf) (sX X rest),fun{F₀ H₀ F H σ ρ} R Dv D ok q=>k1 R _ _ q fun vs ws F1 H1 g1 r1 ⟨ao,pw,q1⟩=>?_⟩
 have R1:=R.grow g1
 refine⟨F1,ws,g1.sub,by rw[HG];exact r1,ao,pw,fun r n' F2 H2 hr2 g2 ra=>?_⟩
 intro pins s I
 obtain⟨T,pT,kT⟩:=hrest r n'
 have h0:H₀ r=none:=R1.g.freeB hr2
 refine pT pins s _ H2 D I (kT (R1.into hr2 g2 ra i) _ D ⟨fun F3 H3 σ3 ρ3 s3 R3 q3=>?_,fun v w F3 H3 g3 r3 n3 q3=>?_,fun F3 H3 σ3 ρ3 s3 R3 q3=>?_,fun F3 H3 σ3 ρ3 s3 R3 q3=>?_⟩ q1)
 · exact ok.nx F3 H3 σ3 _ (g1.fs.trans (g2.fs.trans s3)) (R3.out h0) q3
 · exact ok.rt v w F3 H3 (kX g3 h0) (mV r3 q3.1) n3 q3.2
 · exact ok.bk F3 H3 σ3 _ (g1.fs.trans (g2.fs.trans s3)) (R3.out h0) q3
 · exact ok.ct F3 H3 σ3 _ (g1.fs.trans (g2.fs.trans s3)) (R3.out h0) q3
end
noncomputable def Cc:Fl->Mo Fl
 | .nx ρ=>ret (.nx (nR ρ))
 | .rt w=>DC (w.isR=false) (ret (.rt w))
 | .bk ρ=>ret (.bk (nR ρ))
 | .ct ρ=>ret (.ct (nR ρ))
theorem s_newR(i:Nat)(pre:List W->Prop)(fs:D0)(t:D1)(ρ:En):mS (vq i pre fs t) ρ=DO (fs ρ) fun ws=>DC (ws.all gf=true) (DC (pre ws) (DO (mS t (ρ.set i (some .reel))) Cc)):=nr rfl
theorem nR_nil:nR []=[]:=rfl
theorem nR_r(l:En):nR (some .reel::l)=none::nR l:=rfl
theorem nR_n(l:En):nR (none::l)=none::nR l:=rfl
theorem nR_d(x:EW)(l:En):nR (some (.d x)::l)=some (.d x)::nR l:=rfl
theorem nR_ml(x:List EW)(l:En):nR (some (.ml x)::l)=some (.ml x)::nR l:=rfl
theorem nR_sc(x:List Int)(l:En):nR (some (.sc x)::l)=some (.sc x)::nR l:=rfl
noncomputable def gG(K:W.Frag):Sp:=fun vs H Q _=>∃(a:Addr)(ns:List Int),vs=[.ref a]/\D8 K H a (ns.map V.int)/\ns.length<=63/\∀H',Q (.bl true) H'
noncomputable def Bq:VEnds:=⟨fun _=>False,fun w=>w = .d (.bool true),fun _=>False,fun _=>False⟩
noncomputable def uN:Fl->Prop
 | .rt w=>w = .d (.bool true)
 | _=>False
theorem un_law(m:Mo Fl):DO m Cc uN=m uN:=by
 show m (fun fl=>Cc fl uN)=m uN
 congr 1
 funext fl
 cases fl with
 | rt w=>exact propext ⟨fun⟨_,h⟩=>h,fun h=>⟨by rw[show w = .d (.bool true)from h];rfl,h⟩⟩
 | _=>rfl
theorem t_:ret (Fl.rt (.d (.bool true))) uN:=rfl
section
variable{P:FS}{w:GD}{K:W.Frag}{mg:Str->Option E7}{base:Heap}{st:Stmt}{N:List Str}{k:Nat}{t:D1}{x:Str}
theorem tO{f:Addr}(F:Fun K "law" "law" st f fd)(S:FnScope N [x] (defScope st))
 (hbody:∀(cdv:E7)(A:GJ)(outer:List Env)(s:E_)(H:Hp)(E:XK),Room k (A.deeper (Ke "law" (defScope st) s.heap.objs.size f cdv))->lj (o3 EN P w K mg base N "law" (defScope st) f cdv A outer s H E).nox RlT.no (defBody st) t)
 (hread:∀ns:List Int,ns.length<=63->mS t (dg N [.sc ns]) uN):FnOk P w K mg base EN (k+1) f fd [x] (gG K):=by
 refine F.ok S (fun vs H Q E h=>?_) (fun cdv A outer s H vs Q E hr h=>?_)
 · obtain⟨a,ns,rfl,_⟩:=h
   rfl
 · obtain⟨a,ns,rfl,hS,hl,kq⟩:=h
   obtain⟨T,p,kk⟩:=hbody cdv A outer s H E hr
   have rw0:gi K RlT.no H H [.ref a] [.sc ns]:=.cons ⟨a,rfl,hS⟩ .nil
   have R:VR K RlT.no H H H H (start N [.ref a]) (dg N [.sc ns]):=hW (.refl H) (fun _ z=>by cases z) rw0 rfl
   refine⟨T,p,kk R Bq _ ⟨fun _ _ _ _ _ _ z=>GR z,?_,fun _ _ _ _ _ _ z=>GR z,fun _ _ _ _ _ _ z=>GR z⟩ (hread ns hl)⟩
   rintro v w1 F1 H1 g1 r1 n1 z
   have z:w1 = .d (.bool true):=z
   subst z
   have e:=fI r1
   subst e
   exact kq H1
end
noncomputable def pz(i:Nat)(fa:TV):D1:=fun D ρ=>fa ρ fun w=>∃d,w.fz = .d d/\D.nx (ρ.set i (some (.d d)))
section
variable{X:Cx}{rl:RlT}{st:Stmt}{rest body:List Stmt}{t u:D1}{a b c e:Expr}{es:List Expr}{fa fb:TV}{fs:D0}{f:TB}{pos p:Pos}{ρ:En}
theorem am(i:Nat)(hN:X.N.Nodup)(he:PV X rl e fa)(hi:X.N[i]?=some x:=by rfl)(hx:Loc X.env.scope x:=by first|exact G3 rfl|exact GA rfl)
 (hs:G0 e (some (.Name x pos')) pos.line X.env=pure false:=by rfl)(hf:X.fn x=true\/X.env.scope.names.lookup x=some .local:=by first|exact .inl rfl|exact .inr rfl) :
 Ej X rl (.Assign [.Name x pos'] e pos) (pz i fa):=by
 obtain⟨t,p,k⟩:=he
 refine⟨_,fK hN hi hx p hs hf,fun R Dv D ok q=>k R _ _ q fun v w F1 H1 g1 r1 n1 ⟨d,ed,q1⟩=>?_⟩
 obtain⟨F2,g2,s2,r2⟩:=cS.fz g1 r1 n1
 rw[ed]at r2
 exact ok.nx _ _ _ _ g2.fs (R.set g2 r2 trivial (fun xs z=>by cases z) i) q1
theorem s_setZ(i:Nat):mS (pz i fa) ρ=DO (fa ρ) fun w=>aP (asD w.fz) fun d=>ret (.nx (ρ.set i (some (.d d)))):=by
 show(DO (fa ρ) fun w=>fun(Q:Fl->Prop)=>∃d,w.fz = .d d/\Q (.nx (ρ.set i (some (.d d)))))=_
 congr 1;funext w
 refine ah fun Q=>?_
 simp only[aq,hG,ret]
end
section
variable{X:Cx}{rl:RlT}{elt tg iter:Expr}{ifs:List Expr}{scope:Scope}{pos:Pos}{fi:En->(List EW->Prop)->Prop}{g:D5}{ft:TB}{fe:TV}
theorem bV(i:Nat){b:Bool}(hN:X.N.Nodup)(N':List Str)(fr:List (Option Nat))(hc:X.calm=true)(hi:Ep X rl tg iter fi)
 (hg:∀y,Et (blk X N' scope y) rl tg g)(ht:∀y,jA (blk X N' scope y) rl ifs ft)(he:∀y,PV (blk X N' scope y) rl elt fe)
 (hsw:G0 (.ListComp elt [⟨tg,iter,ifs,0⟩] scope pos) (some (.Name x px)) spos.line X.env=pure b:=by rfl)
 (hix:X.N[i]?=some x:=by rfl)(hx:Loc X.env.scope x:=by first|exact G3 rfl|exact GA rfl)(hf:X.fn x=true\/X.env.scope.names.lookup x=some .local:=by first|exact .inl rfl|exact .inr rfl)
 (hfr:jV fr N' X.N scope X.env.scope=true:=by rfl)(hsc:kF scope X.env.scope=true:=by rfl)
 (hs:∀x,FF iter X.env x=pure x:=by intro _;rfl):Ej X rl (.Assign [.Name x px] (.ListComp elt [⟨tg,iter,ifs,0⟩] scope pos) spos) (pz i (gE fi fr g ft fe)):=by
 obtain⟨wi,p0,k0⟩:=hi
 refine⟨_,gN N' fr hc p0 hfr hsc (fun y=>(E5 (hg y)).1) (fun y=>(E5 (ht y)).1) (fun y=>(E5 (he y)).1) hN hix hx hf hsw hs,fun R Dv D ok q=>kR fr k0 hg ht he R _ _ q fun v w F1 H1 g1 r1 n1 ⟨d,ed,q1⟩=>?_⟩
 obtain⟨F2,g2,s2,r2⟩:=cS.fz g1 r1 n1
 rw[ed]at r2
 exact ok.nx _ _ _ _ g2.fs (R.set g2 r2 trivial (fun xs z=>by cases z) i) q1
end
noncomputable def vA(xs:List Int):EW:=.tuple (xs.map .int)
noncomputable def uL(xs:List Int):EW:=.list (xs.map .int)
theorem dz:∀{xs ys:List Int},xs.map Fm=ys.map Fm↔xs=ys:=by
 intro xs ys
 constructor
 · intro h
   have:=congrArg iM h
   rw[intsD_map,intsD_map]at this
   exact Gr this
 · rintro rfl;rfl
theorem kw{xs ys:List Int}:vA xs=vA ys↔xs=ys:=by
 unfold vA
 rw[GK,dz]
theorem p4{xs ys:List Int}:uL xs=uL ys↔xs=ys:=by
 unfold uL
 rw[IU,dz]
theorem bO{α:Type}{f:α->EW}(h:∀a b,f a=f b↔a=b):∀{xs ys:List α},xs.map f=ys.map f↔xs=ys
 | [],[]=>by simp
 | [],_::_=>by simp
 | _::_,[]=>by simp
 | x::xs,y::ys=>by simp[h,bO h (xs:=xs) (ys:=ys)]
noncomputable def yu(xs:List (List Int)):EW:=.tuple (xs.map vA)
theorem pC{xs ys:List (List Int)}:yu xs=yu ys↔xs=ys:=by
 unfold yu
 rw[GK,bO fun _ _=>kw]
theorem xK{xs:List α}{i:Int}(h0:0<=i)(h1:i<(xs.length:Int)):atI xs i=some (xs[i.toNat]'(by omega)):=by
 obtain⟨n,rfl⟩:=Hq h0
 exact cW (FA (by omega))
section
variable{α σ:Type}{fl:List Nat}{b:EW->En->Mo Fl}{k:En->Mo Fl}{Q:Fl->Prop}{ρ:En}
theorem hU{f:TB}{t:D1}(st:σ->En)(c:σ->Bool)(nxt:σ->σ)(μ:σ->Nat)(I:σ->Prop)(s:σ)(h0:ρ=st s)(hs:I s)
 (hf:∀s,I s->f (st s)=ret (c s))(ht:∀s,I s->c s=true->I (nxt s)/\μ (nxt s)<μ s/\∃ρ',mS t (st s)=ret (.nx ρ')/\fo fl ρ'=st (nxt s))(fin:∀s,I s->c s=false->k (st s) Q):sq (gz fl f t ρ) k Q:=by
 subst h0
 obtain⟨s',a,b,e⟩:=lQ st c nxt μ I hf ht s hs
 rw[e]
 exact fin s' a b
noncomputable def Dj(fl:List Nat)(J:En->Prop)(k:En->Mo Fl)(Q:Fl->Prop):Fl->Prop
 | .nx ρ=>J (fo fl ρ)
 | .ct ρ=>J (fo fl ρ)
 | .bk ρ=>k (fo fl ρ) Q
 | .rt w=>Q (.rt w)
theorem b_{J:En->Prop}{ρ:En}(h:J (fo fl ρ)):Dj fl J k Q (.nx ρ):=h
theorem cD{xs:List α}{enc:α->EW}(J:Nat->En->Prop)(hx:xs'=xs.map enc)(h0:J 0 ρ)
 (step:∀i (h:i<xs.length) ρ,J i ρ->∀K:Fl->Prop,(∀r,Dj fl (J (i+1)) k Q r->K r)->b (enc xs[i]) ρ K)(fin:∀ρ,J xs.length ρ->k ρ Q):sq (fR fl b xs' ρ) k Q:=by
 subst hx
 refine nP (Q:=fun r=>(match r with | .nx ρ=>k ρ | .rt w=>ret (.rt w) | .bk ρ=>ret (.bk ρ) | .ct ρ=>ret (.ct ρ):Mo Fl) Q) J h0 (fun i hi ρ j K hK=>step i hi ρ j K fun r hr=>hK r ?_) fin
 cases r<;>exact hr
theorem iI{lo:Int}(J:Nat->En->Prop)(h0:J 0 ρ)
 (step:∀i,i<n->∀ρ,J i ρ->∀K:Fl->Prop,(∀r,Dj fl (J (i+1)) k Q r->K r)->b (.int (lo+i)) ρ K)(fin:∀ρ,J n ρ->k ρ Q):sq (fR fl b (aZ lo n) ρ) k Q:=by
 refine p5 (Q:=fun r=>(match r with | .nx ρ=>k ρ | .rt w=>ret (.rt w) | .bk ρ=>ret (.bk ρ) | .ct ρ=>ret (.ct ρ):Mo Fl) Q) J h0 (fun i hi ρ j K hK=>step i hi ρ j K fun r hr=>hK r ?_) fin
 cases r<;>exact hr
theorem kZ{lo:Int}(step:∀i,i<n->∀K:Fl->Prop,(∀r,Dj fl (fun ρ'=>ρ'=ρ) k Q r->K r)->b (.int (lo+i)) ρ K)(fin:k ρ Q):sq (fR fl b (aZ lo n) ρ) k Q :=
 iI (fun _ ρ'=>ρ'=ρ) rfl (fun i h ρ' e K hK=>by subst e;exact step i h K hK) fun ρ' e=>by subst e;exact fin
end
theorem AZ{m:Mo Fl}{Q:Fl->Prop}(h:sq m (fun ρ=>ret (.nx ρ)) Q):m Q:=by
 have e:(fun fl:Fl=>(match fl with | .nx ρ=>ret (.nx ρ) | .rt w=>ret (.rt w) | .bk ρ=>ret (.bk ρ) | .ct ρ=>ret (.ct ρ):Mo Fl) Q)=Q:=by
  funext fl;cases fl<;>rfl
 have h:m (fun fl:Fl=>(match fl with | .nx ρ=>ret (.nx ρ) | .rt w=>ret (.rt w) | .bk ρ=>ret (.bk ρ) | .ct ρ=>ret (.ct ρ):Mo Fl) Q):=h
 rw[e]at h
 exact h
section
variable{α β:Type}{b:EW->Mo (Option EW)}{k:List EW->Mo β}{Q:β->Prop}
theorem gc{xs:List α}{enc:α->EW}(f:α->Option EW)(hx:xs'=xs.map enc)(h:∀x∈xs,b (enc x)=ret (f x))(hl:xs.length<=sizeLine)(fin:k (xs.filterMap f) Q):DO (cj b xs' []) k Q:=by
 subst hx;rw[jZ f h hl];exact fin
theorem bP{xs:List α}{enc:α->EW}(f:α->EW)(hx:xs'=xs.map enc)(h:∀x∈xs,b (enc x)=ret (some (f x)))(hl:xs.length<=sizeLine)(fin:k (xs.map f) Q):DO (cj b xs' []) k Q:=by
 subst hx;rw[comp_map f h hl];exact fin
theorem qA{lo:Int}(f:Nat->EW)(h:∀j,j<n->b (.int (lo+j))=ret (some (f j)))(hl:n<=sizeLine)(fin:k ((Gh n).map f) Q):DO (cj b (aZ lo n) []) k Q:=by
 rw[oE f h hl];exact fin
theorem uE{lo:Int}(f:Nat->Option EW)(h:∀j,j<n->b (.int (lo+j))=ret (f j))(hl:n<=sizeLine)(fin:k ((Gh n).filterMap f) Q):DO (cj b (aZ lo n) []) k Q:=by
 rw[qy f h hl];exact fin
end
section
variable{α β:Type}
theorem nM{i:Int}{k:EW->Mo β}{Q:β->Prop}(h0:0<=i)(h1:i<(xs.length:Int))(h:∀z∈xs,k z Q):aP (atI xs i) k Q:=by
 obtain⟨z,e,m⟩:=qD h0 h1
 rw[e]
 exact h z m
theorem cr{xs:List α}{enc:α->EW}{i:Int}{k:EW->Mo β}{Q:β->Prop}(P:α->Prop)(hx:xs'=xs.map enc)(h0:0<=i)(h1:i<(xs.length:Int))(hP:∀z∈xs,P z)(h:∀z,P z->k (enc z) Q):aP (atI xs' i) k Q:=by
 subst hx
 refine nM h0 (by simpa using h1) fun z mz=>?_
 obtain⟨x,hx,rfl⟩:=Gn.mp mz
 exact h x (hP x hx)
end
section
variable{X:Cx}{rl:RlT}{a b c o e:Expr}{es:List Expr}{fa fb:TV}{fs:D0}{pos p apos cpos:Pos}{ρ:En}
end
end L2.VL
namespace L2
section
variable{X:Cx}{pos:Pos}
end
end L2
namespace L2.VL
section
variable{X:Cx}{rl:RlT}{es:List Expr}{pos:Pos}{ρ:En}
end
noncomputable def zN:=EY @bnd_tt (EY @bnd_ret (EY @bnd_bnd (EY @bnd_grd (EY @bnd_stk (EY @bnd_ite (EY @bnd_opt (EY @opt_some (EY @opt_none (EY @grd_T (EY @sq_nx (EY @sq_rt (EY @sq_bk (EY @sq_ct (EY @sq_grd (EY @sq_stk (EY @sq_ite (EY @sq_sq (@kc_ap))))))))))))))))))
noncomputable def zQ:=EY @ite_nx (EY @ite_rt (EY @ite_retd (EY @ite_retb (EY @ite_rets (EY @ite_cons (EY @ite_some (EY @ite_d (EY @ite_pi (EY @ite_pb (EY @itb_tt (EY @itb_ff (EY @itb_ft (EY @itb_tf (@ite_self.{1}))))))))))))))
noncomputable def zT:=EY @m_vC (EY @m_vVar (EY @m_vNil (EY @m_vCons (EY @m_vOp (EY @m_gI (EY @m_gI0 (EY @m_vNeg (EY @m_vTest (EY @m_gEqD (EY @m_vAnd (EY @m_vOr (EY @m_vNot (EY @m_vAndV (EY @m_vOrV (EY @m_vNotV (EY @m_vIf (EY @m_vTup (EY @m_vLst (EY @m_gIx (EY @m_vCall (EY @m_gAbs (@m_gLen))))))))))))))))))))))
noncomputable def zS:=EY @m_gRepr (EY @m_gTupO (EY @m_gLstO (EY @m_gI2 (EY @m_gInt1 (EY @m_oNo (EY @m_oIt (EY @m_vSlL (EY @m_vSlA (EY @m_gCatD (EY @m_gCatA (EY @m_vLR1 (EY @m_iL (EY @m_iT (@m_iR1))))))))))))))
noncomputable def zR:=EY @m_vUse (EY @m_gRepL (EY @m_gEqS (EY @m_comp (@m_vSlS))))
noncomputable def zJ:=EY @s_next (EY @s_seq (EY @s_ret (EY @s_ifS (EY @s_set (EY @s_setZ (EY @s_never (EY @s_asg (EY @s_par (EY @s_aug (EY @s_frz (EY @s_mut (EY @s_for (EY @bdy_ap (EY @s_while (EY @s_newR (EY @m_hName (@m_hNil_n)))))))))))))))))
noncomputable def zH:=EY @m_hCons_c (EY @m_hTup (EY @m_gApp (@m_gExt)))
noncomputable def zM:=EY @pk_sc (EY @fz_sc (EY @arg_sc (EY @isPk_sc (EY @asI_d (EY @asB_d (EY @asS_d (EY @asD_d (EY @asT_d (EY @asL_d (EY @asL_ml (EY @asL_pk (EY @asQ_d (EY @asQ_ml (EY @asQ_pk (EY @lstD_l (EY @tupD_t (EY @toI_i (EY @toI_b (EY @isiT_t (EY @asM_ml (EY @asSc_s (EY @two_d (@fz_d)))))))))))))))))))))))
noncomputable def zL:=EY @fz_ml (EY @fz_pk (EY @fz_reel (EY @fz_vv (EY @pk_d (EY @pk_ml (EY @pk_reel (EY @pk_vv (EY @dat_d (EY @dat_ml (EY @dat_pk (EY @isPk_d (EY @isPk_ml (EY @isPk_reel (EY @dats_nil (EY @dats_d (EY @arg_d (EY @arg_reel (EY @item_l (EY @item_t (EY @len_l (EY @len_t (EY @seq_l (@seq_t)))))))))))))))))))))))
noncomputable def zK:=EY @at0 (EY @at1 (EY @blsD_map (EY @tup2 (EY @fo_nil (EY @fo_cons (EY @nR_nil (EY @nR_r (EY @nR_n (EY @nR_d (EY @nR_ml (EY @nR_sc (EY @le_nil (EY @le_cn (EY @le_cs (EY @end_d (EY @end_ml (EY @end_nx (@un_law))))))))))))))))))
noncomputable def zP:=EY @Gi.{0,0} (EY @JE.{0,0} (EY @FJ.{0} (EY @Jp.{0} (EY @List.getElem?_cons_zero.{0} (EY @List.getElem?_cons_succ.{0} (EY @List.set_cons_zero.{0} (EY @List.set_cons_succ.{0} (EY @List.set_nil.{0} (EY @Jd.{0} (EY @List.nil_append.{0} (EY @List.all_cons.{0} (EY @List.all_nil.{0} (EY @List.head?_cons.{0} (EY @Bool.and_true (EY @Option.some.injEq.{0} (EY @Option.map_some.{0,0} (EY @Option.bind_some.{0,0} (EY @Option.bind_none.{0,0} (EY @Option.join_some.{0} (EY @Option.join_none.{0} (EY @GB (EY @and_self (@and_true)))))))))))))))))))))))
noncomputable def zO:=EY @true_and (EY @shaped_i (EY @eqv_ii (EY @shaped_b (EY @Bool.true_and (EY @Bool.and_self (EY @Ip (EY @HY (EY @Fd.{0,0} (EY @GO (EY @Bool.true_eq_false (EY @decide_true (EY @decide_false (EY @List.isEmpty_cons.{0} (EY @List.isEmpty_nil.{0} (@List.isEmpty_map.{0,0})))))))))))))))
noncomputable def kC:EA:=Gg "cells"
noncomputable def kA:EA:=Gg "at"
noncomputable def kL:EA:=Gg "left"
noncomputable def kT:EA:=Gg "turn"
theorem zi:¬kC=kA:=by decide +kernel
theorem zh:¬kC=kL:=by decide +kernel
theorem zg:¬kC=kT:=by decide +kernel
theorem xU:¬kA=kL:=by decide +kernel
theorem xT:¬kA=kT:=by decide +kernel
theorem xS:¬kL=kT:=by decide +kernel
noncomputable def bv(c:Addr)(a l t:Int):List (EA×V):=[(kC,.ref c),(kA,.int a),(kL,.int l),(kT,.int t)]
theorem bY{p:EA×V}{r:List (EA×V)}{k:EA}(e:¬p.1=k):eQ (p::r) k=eQ r k:=by
 unfold eQ
 rw[GE]
 simp[e]
theorem v8(c:Addr)(a l t:Int):eQ (bv c a l t) kC=some (.ref c):=cI rfl
theorem v_(c:Addr)(a l t:Int):eQ (bv c a l t) kA=some (.int a):=by unfold bv;rw[bY zi];exact cI rfl
theorem v7(c:Addr)(a l t:Int):eQ (bv c a l t) kL=some (.int l):=by unfold bv;rw[bY zh,bY xU];exact cI rfl
theorem v6(c:Addr)(a l t:Int):eQ (bv c a l t) kT=some (.int t):=by unfold bv;rw[bY zg,bY xT,bY xS];exact cI rfl
theorem ne'{a b:EA}(h:¬a=b):¬b=a:=fun e=>h e.symm
theorem yQ(c:Addr)(a l t n:Int):cY (bv c a l t) kA (.int n)=bv c n l t:=by
 unfold cY bv
 rw[if_pos (by simp)]
 simp[zi,ne' xU,ne' xT]
theorem yP(c:Addr)(a l t n:Int):cY (bv c a l t) kL (.int n)=bv c a n t:=by
 unfold cY bv
 rw[if_pos (by simp)]
 simp[zh,xU,ne' xS]
theorem yO(c:Addr)(a l t n:Int):cY (bv c a l t) kT (.int n)=bv c a l n:=by
 unfold cY bv
 rw[if_pos (by simp)]
 simp[zg,xT,xS]
theorem ReelOk.kv{c:Nat×List Int}{r:Addr}(h:ReelOk c F H r):∃(a l t:Int),H r=some (.dK (bv c.1 a l t))/\F c.1=some (.lst (c.2.map V.int))/\c.2.length<=63/\0<=a/\0<=l/\0<=t:=by
 obtain⟨o,e,a,l,t,rfl,q⟩:=h.ex
 exact⟨a,l,t,e,q⟩
theorem Ed.put{K:W.Frag}{r:Addr}{a l t:Int}(R:VR K rl F₀ H₀ F H σ ρ)(e:rl.a=some r)(h:F rl.b.1=some (.lst (rl.b.2.map V.int))/\rl.b.2.length<=63/\0<=a/\0<=l/\0<=t) :
 VR K rl F₀ H₀ F (Cb H r (.dK (bv rl.b.1 a l t))) σ ρ:=by
 have fr:F r=none:=(R.reel r e).1
 have neF:∀b u,F b=some u->b≠r:=fun b u q z=>by subst z;rw[fr]at q;cases q
 have g:Grow rl F H F (Cb H r (.dK (bv rl.b.1 a l t))):=by
  refine⟨fun b o q n=>by rw[ak (fun z=>n (by rw[z];exact e))];exact q,.refl F,fun b o q=>by rw[ak (neF b o q)];exact R.sub b o q,fun _ _ _=>rfl,fun y z=>?_⟩
  have:y=r:=Gr (z.symm.trans e)
  subst this
  exact⟨fr,⟨_,ar,a,l,t,rfl,h⟩⟩
 exact R.grow g
section
variable{X:Cx}{rl:RlT}{e:Expr}{fa:TV}{pos p p1 p2:Pos}
noncomputable def B7(i:Nat):TV:=fun ρ Q=>ρ[i]?=some (some .reel)/\∀n:Int,0<=n->Q (.d (.int n))
noncomputable def B8(cs:List Int)(i:Nat):TV:=fun ρ Q=>ρ[i]?=some (some .reel)/\(cs.length<=63->Q (.d (.list (cs.map .int))))
theorem fG{K:W.Frag}{F:Hp}:∀ns:List Int,Reps K F (ns.map V.int) (ns.map Fm)
 | []=>.nil
 | n::ns=>.cons (.int n) (fG ns)
theorem fx{k:Str}{j}(hr:Room 0 X.A)(hk:(Gg k:EA)=kA\/(Gg k:EA)=kL\/(Gg k:EA)=kT)(hN:X.N[i]?=some x:=by rfl)(hv:DW X.env.scope x:=by first|exact G3 rfl|exact GA (G3 rfl)|exact GA (GA rfl))
 (hd:(x==("__debug__" : Str))=false:=by decide)(hcd:(x==("__classdict__" : Str))=false:=by decide)(hs:uR (.Constant (.str k) j p2):=by exact fun _ _=>rfl):PV X rl (.Subscript (.Name x p1) (.Constant (.str k) j p2) pos) (B7 i):=by
 refine⟨_,iE (p_ hr) (cR hN hv hd hcd) cU hs,fun{F₀ H₀ F H σ ρ} R Qd Q ⟨e1,q⟩ h=>?_⟩
 obtain⟨v,s1,⟨r,er,ev⟩,_⟩:=R.sl i _ e1
 subst ev
 obtain⟨_,ok⟩:=R.reel r er
 obtain⟨a,l,t,hH,_,_,b1,b2,b3⟩:=ok.kv
 have go:∀n:Int,0<=n->eQ (bv rl.b.1 a l t) (Gg k)=some (.int n)->vH (AK i) (tC (.str k)) σ H Q:=fun n hn e=>by
  refine⟨.ref r,s1,r,.int n,rfl,?_,h _ (.d _) F H (Grow.refl R.sub R.reel) (.int n) trivial (q n hn)⟩
  have g:=yb.k (k:=(Gg k:EA)) hH
  rw[e]at g
  exact g
 rcases hk with hk|hk|hk
 · exact go a b1 (by rw[hk];exact v_ rl.b.1 a l t)
 · exact go l b2 (by rw[hk];exact v7 rl.b.1 a l t)
 · exact go t b3 (by rw[hk];exact v6 rl.b.1 a l t)
theorem eY{j}(hr:Room 0 X.A)(hN:X.N[i]?=some x:=by rfl)(hv:DW X.env.scope x:=by first|exact G3 rfl|exact GA (G3 rfl)|exact GA (GA rfl))
 (hd:(x==("__debug__" : Str))=false:=by decide)(hcd:(x==("__classdict__" : Str))=false:=by decide)(hs:uR (.Constant (.str "cells") j p2):=by exact fun _ _=>rfl):PV X rl (.Subscript (.Name x p1) (.Constant (.str "cells") j p2) pos) (B8 rl.b.2 i):=by
 refine⟨_,iE (p_ hr) (cR hN hv hd hcd) cU hs,fun{F₀ H₀ F H σ ρ} R Qd Q ⟨e1,q⟩ h=>?_⟩
 obtain⟨v,s1,⟨r,er,ev⟩,_⟩:=R.sl i _ e1
 subst ev
 obtain⟨_,ok⟩:=R.reel r er
 obtain⟨a,l,t,hH,hc,hl,_⟩:=ok.kv
 refine⟨.ref r,s1,r,.ref rl.b.1,rfl,?_,h _ (.d _) F H (Grow.refl R.sub R.reel) (Rep.lst hc (fG _)) trivial (q hl)⟩
 have g:=yb.k (k:=kC) hH
 rw[v8]at g
 exact g
noncomputable def vj(i:Nat)(fa:TV):D1:=fun D ρ=>fa ρ fun w=>∃n,w = .d (.int n)/\0<=n/\ρ[i]?=some (some .reel)/\D.nx ρ
theorem hV{k:Str}{j}(hr:Room 0 X.A)(hk:(Gg k:EA)=kA\/(Gg k:EA)=kL\/(Gg k:EA)=kT)(ha:PV X rl e fa)(hN:X.N[i]?=some x:=by rfl)(hv:DW X.env.scope x:=by first|exact G3 rfl|exact GA (G3 rfl)|exact GA (GA rfl))
 (hd:(x==("__debug__" : Str))=false:=by decide)(hcd:(x==("__classdict__" : Str))=false:=by decide)(hsw:G0 e (some (.Subscript (.Name x p1) (.Constant (.str k) j p2) pos')) pos.line X.env=pure false:=by rfl) :
 Ej X rl (.Assign [.Subscript (.Name x p1) (.Constant (.str k) j p2) pos'] e pos) (vj i fa):=by
 obtain⟨t,p3,kk⟩:=ha
 refine⟨_,sY (p_ hr) (cR hN hv hd hcd) cU p3 hsw,fun{F₀ H₀ F H σ ρ} R Dv D ok q=>kk R _ _ q fun v w F1 H1 g1 r1 n1 ⟨n,ew,hn,e1,q1⟩=>?_⟩
 subst ew
 have ev:=aQ r1
 subst ev
 have R1:=R.grow g1
 obtain⟨v,s1,⟨r,er,ev⟩,_⟩:=R1.sl i _ e1
 subst ev
 obtain⟨_,okr⟩:=R1.reel r er
 obtain⟨a,l,t,hH,hc,hl,b1,b2,b3⟩:=okr.kv
 refine⟨.ref r,s1,r,_,rfl,zG.k (k:=(Gg k:EA)) hH (mK (by show 4<=1000;decide)),?_⟩
 have go:∀a' l' t':Int,0<=a'->0<=l'->0<=t'->cY (bv rl.b.1 a l t) (Gg k) (.int n)=bv rl.b.1 a' l' t'->D.nx σ (Cb H1 r (.dK (cY (bv rl.b.1 a l t) (Gg k) (.int n)))):=fun a' l' t' x1 x2 x3 e=>by
  rw[e]
  exact ok.nx _ _ _ _ g1.fs (Ed.put R1 er ⟨hc,hl,x1,x2,x3⟩) q1
 rcases hk with hk|hk|hk
 · exact go n l t hn b2 b3 (by rw[hk];exact yQ rl.b.1 a l t n)
 · exact go a n t b1 hn b3 (by rw[hk];exact yP rl.b.1 a l t n)
 · exact go a l n b1 b2 hn (by rw[hk];exact yO rl.b.1 a l t n)
end
theorem lE(c:Addr):dS [] [(kC,V.ref c),(kA,.int 0),(kL,.int 0),(kT,.int 0)]=bv c 0 0 0:=by
 unfold dS bv
 simp only[HK,List.foldl_nil]
 have p0:cY ([]:List (EA×V)) kC (V.ref c)=[(kC,V.ref c)]:=rfl
 rw[p0]
 unfold cY
 simp[zi,zh,zg,xU,xT,xS]
section
variable{X:Cx}{rl:RlT}{e:Expr}{fa:TV}{pos p p1 p2:Pos}{ρ:En}
noncomputable def DS:W->Option Unit
 | .reel=>some ()
 | _=>none
theorem cc:DS .reel=some ():=rfl
theorem AM:(((ρ[i]?).join).bind DS=some ())↔ρ[i]?=some (some .reel):=by
 constructor
 · intro h
   cases q:ρ[i]? with
   | none=>rw[q]at h;cases h
   | some o=>rw[q]at h;cases o with
     | none=>cases h
     | some w=>cases w<;>first|rfl|cases h
 · intro h;rw[h];rfl
theorem vR{k:Unit->Mo β}{Q:β->Prop}:aP (((ρ[i]?).join).bind DS) k Q↔ρ[i]?=some (some .reel)/\k () Q:=by
 rw[aq]
 exact⟨fun⟨u,a,q⟩=>⟨AM.mp a,q⟩,fun⟨a,q⟩=>⟨(),AM.mpr a,q⟩⟩
theorem ca(i:Nat):B7 i ρ=aP (((ρ[i]?).join).bind DS) fun _=>DO (anyM fun n:Int=>0<=n) fun n=>ret (.d (.int n)):=ah fun Q=>(Iff.intro (fun⟨a,q⟩=>vR.mpr ⟨a,fun n h=>q n h⟩) fun h=>⟨(vR.mp h).1,fun n hn=>(vR.mp h).2 n hn⟩)
theorem cb(cs:List Int)(i:Nat):B8 cs i ρ=aP (((ρ[i]?).join).bind DS) fun _=>DO (anyM fun _:Unit=>cs.length<=63) fun _=>ret (.d (uL cs)):=ah fun Q=>(Iff.intro (fun⟨a,q⟩=>vR.mpr ⟨a,fun _ h=>q h⟩) fun h=>⟨(vR.mp h).1,fun hn=>(vR.mp h).2 () hn⟩)
theorem bf(i:Nat):mS (vj i fa) ρ=DO (fa ρ) fun w=>aP (asI w) fun n=>DC (0<=n) (aP (((ρ[i]?).join).bind DS) fun _=>ret (.nx ρ)):=by
 show(DO (fa ρ) fun w=>fun(Q:Fl->Prop)=>∃n,w = .d (.int n)/\0<=n/\ρ[i]?=some (some .reel)/\Q (.nx ρ))=_
 congr 1;funext w
 refine ah fun Q=>?_
 simp only[aq (o:=asI w),cX,DC,vR,ret]
end
theorem bg(xs:List Int):rg (uL xs)=some xs.length:=by show some (xs.map Fm).length=_;rw[Fd]
theorem aE(xs:List Int)(i:Int):itemAt (uL xs) i=(atI xs i).map .int:=ck _ _ _
section
variable{X:Cx}{rl:RlT}{e:Expr}{fa:TV}{pos dpos q1 q2 q3 q4:Pos}{ρ:En}{j1 j2 j3 j4:Nat}{a b x y:Str}
end
end L2.VL
namespace L2
theorem lK{prog:FS}{R:Lo->E_->Prop}{kx vx target:Expr}{it:E7}{D:Addr}{env:Env}(I:Nat->E_->Prop)
 (turn:∀n s,I n s->FH (FT prog w) A (Kc it) (fun r s₁=>(r=none/\R (.ok .next) s₁)\/∃v,r=some v /\
  FH (FT prog w) A (Hd target it v) (fun _ s₂=>FH (FT prog w) A (Iq target env v) (fun _ s₃=>FH (FT prog w) A (dr ifs env) (fun ok s₄ =>
   if ok=true then FH (FT prog w) A (eval kx env) (fun x s₅=>FH (FT prog w) A (eval vx env) (fun y s₆=>FH (FT prog w) A (dictSet D x y) (fun _ s₇=>∃m,m<n/\I m s₇) (fun _ _=>False) s₆) (fun _ _=>False) s₅) (fun _ _=>False) s₄
   else ∃m,m<n/\I m s₄) (fun _ _=>False) s₃) (fun _ _=>False) s₂) (fun _ _=>False) s₁) (fun _ _=>False) s)
 (n:Nat)(h:I n s):Hr (FT prog w) A (.compLoop (.DictComp kx vx [⟨target,iter,ifs,0⟩] scope pos) 0 it (.ref D) env) R s:=by
 refine Kg rfl I (fun n s hI=>?_) n h
 show FH _ A ((K0 (.DictComp kx vx [⟨target,iter,ifs,0⟩] scope pos) 0 it (.ref D) env).onRaise (fun x=>do K1 x env;Jr x)) _ _ s
 refine KJ ?_
 rw[compTurn_dict]
 refine EZ (GW (EZ (FX (turn n s hI) (fun r s₁ h₁=>?_) fun _ _ h'=>h'.elim)))
 rcases h₁ with⟨rfl,h₁⟩|⟨v,rfl,h₁⟩
 · exact Fh h₁
 · refine EZ (FX h₁ (fun _ s₂ h₂=>EZ (FX h₂ (fun _ s₃ h₃=>EZ (FX h₃ (fun ok s₄ h₄=>?_) fun _ _ z=>z.elim)) fun _ _ z=>z.elim)) fun _ _ z=>z.elim)
   cases ok with
   | false=>exact Fh ⟨rfl,h₄⟩
   | true=>exact EZ (EZ (FX h₄ (fun x s₅ h₅=>EZ (HS (FX h₅ (fun y s₆ h₆=>EZ (GW (HS (FX h₆ (fun _ s₇ h₇=>Fh ⟨rfl,h₇⟩) fun _ _ z=>z.elim)))) fun _ _ z=>z.elim))) fun _ _ z=>z.elim))
noncomputable def mD(wi:TI)(fr:List (Option Nat))(g:CompA->TG)(tt:CompA->TT)(tk te:CompA->TE):TE:=fun σ H Q=>wi σ H fun J H1=>∀D,H1 D=none->∃Wv:Nat->Nat->List (EA×V)->St->Hp->Prop,(∃m,Wv 0 m [] (lP fr σ) (Cb H1 D (.dK []))) /\
 ∀ (z:CompA) i m acc σc H,Wv i m acc σc H->(J.stop i H/\Q (.ref D) H)\/(J.go i H/\∀x H',J.yld i H x H'->g z x σc H' fun σ2 H2=>tt z σ2 H2 fun b H3 =>
   if b=true then tk z σ2 H3 fun ky H4=>te z σ2 H4 fun y H5=>∃k:EA,ky=kV k/\H5 D=some (.dK acc)/\acc.length<sizeLine/\∃m',m'<m/\Wv (i+1) m' (cY acc k y) σ2 (Cb H5 D (.dK (cY acc k y)))else ∃m',m'<m/\Wv (i+1) m' acc σ2 H3)
theorem fZ{kx vx:Expr}{g:TG}{tt:TT}{tk te:TE}{H3:Hp}{s3:E_}{D:Addr}{J:It}{Q:VK}
 (N':List Str)(fr:List (Option Nat))(hc:X.calm=true)(hkind:scope.kind = .function)(hcell:∀y∈scope.names,y.2 = .cell->scope.names.lookup y.1=some .cell)
 (hfree:∀y∈scope.names,y.2 = .free->X.env.kindOf y.1=some .cell\/X.env.kindOf y.1=some .free)(frl:fr.length=N'.length)
 (frg:∀(i j:Nat),fr[i]?=some (some j)->∃x,N'[i]?=some x/\X.N[j]?=some x/\scope.names.lookup x=some .free/\(X.env.scope.names.lookup x=some .cell\/X.env.scope.names.lookup x=some .free))
 (cl1:∀x c,cl.lookup x=some c->X.env.cells.lookup x=some c)(cl2:∀x,(x,Gw)∈scope.names->(cl.lookup x).isSome=true)
 (I3:Inv X pins σ H3 s3)(T:Turn X.prog X.w X.K tg J fp it tn)(tn3:tn 0 s3.heap)(fpD:∀b∈fp,H3 b=none)(fp3:∀b∈fp,b<s3.heap.objs.size)
 (fpk:∀b∈fp,b≠X.env.locals/\b∉X.fs/\(b∈X.ex\/X.s₀.heap.objs.size<=b)/\(∀x c,X.env.cells.lookup x=some c->c≠b)/\∀p∈X.pn++pins,p.1≠b)
 (hg:PG (ba X N' scope cl fp (X.pn++pins) s3 H3) tg g)(ht:Eh (ba X N' scope cl fp (X.pn++pins) s3 H3) ifs tt)(hk:PE (ba X N' scope cl fp (X.pn++pins) s3 H3) kx tk)(he:PE (ba X N' scope cl fp (X.pn++pins) s3 H3) vx te)
 {Wv:Nat->Nat->List (EA×V)->St->Hp->Prop}{m0:Nat}(w0:Wv 0 m0 [] (lP fr σ) H3)
 (turn:∀i m acc σc H,Wv i m acc σc H->(J.stop i H/\Q (.ref D) H)\/(J.go i H/\∀x H',J.yld i H x H'->g x σc H' fun σ2 H2=>tt σ2 H2 fun b H3 =>
  if b=true then tk σ2 H3 fun ky H4=>te σ2 H4 fun y H5=>∃k:EA,ky=kV k/\H5 D=some (.dK acc)/\acc.length<sizeLine/\∃m',m'<m/\Wv (i+1) m' (cY acc k y) σ2 (Cb H5 D (.dK (cY acc k y)))else ∃m',m'<m/\Wv (i+1) m' acc σ2 H3))
 (fin:∀s5 H4 m,s5.heap.Ns s3.heap.objs.size m->(∀h',HM s3.heap.objs.size s5.heap h'->Inv X pins σ H4 {s5 with heap:=h' })->jB X pins H4 s3.heap.objs.size->Q (.ref D) H4->Rp s3.heap.objs.size (.ok .next) s5) :
 FH (FT X.prog X.w) X.A (I0 scope X.env.globals cl [] X.env.qual none .none (some X.env)) (fun cenv s₄ =>
  Hr (FT X.prog X.w) X.A (.compStart (.DictComp kx vx [⟨tg,iter,ifs,0⟩] scope pos) 0 (.ref it) (.ref D) {cenv with scope:=LD scope X.env})
   (Rp cenv.locals) s₄) X.xe s3:=by
 refine cP N' fr hc hkind hcell hfree frl frg cl1 cl2 I3 T tn3 fpD fp3 fpk (fun s' IY tY stat=>?_) fin
 have loop:Hr (FT X.prog X.w) X.A (.compLoop (.DictComp kx vx [⟨tg,iter,ifs,0⟩] scope pos) 0 (.ref it) (.ref D) (ba X N' scope cl fp (X.pn++pins) s3 H3).env)
  (fun r s5=>r = .ok .next/\∃σ5 H4,Inv (ba X N' scope cl fp (X.pn++pins) s3 H3) [] σ5 H4 s5/\Q (.ref D) H4) s':=by
  refine lK (fun n s'=>∃i acc σ' H',Inv (ba X N' scope cl fp (X.pn++pins) s3 H3) [] σ' H' s'/\tn i s'.heap/\(∀b∈fp,H' b=none)/\Wv i n acc σ' H') ?_ m0
   ⟨0,[],_,_,IY,tY,fpD,w0⟩
  rintro n s4 ⟨i,acc,σ4,H4,I4,st4,fr4,w4⟩
  rcases turn i n acc σ4 H4 w4 with⟨stop,qn⟩|⟨go,step⟩
  · exact Cj (T.done (ba X N' scope cl fp (X.pn++pins) s3 H3) rfl rfl rfl hc i [] s4 σ4 H4 (fun _ _=>False) I4 (stat fr4) st4 stop) fun r s5 ⟨hr,I5⟩=>.inl ⟨hr,rfl,σ4,H4,I5,qn⟩
  · refine Cj (T.item (ba X N' scope cl fp (X.pn++pins) s3 H3) rfl rfl rfl hc i [] s4 σ4 H4 (fun _ _=>False) I4 (stat fr4) st4 go) fun r s5 ⟨u,hr,h5⟩=>.inr ⟨u,hr,?_⟩
    refine Cj h5 fun _ s6 ⟨x,H6,I6,r6,y6,st6,fr6⟩=>?_
    have I6':=I6.pinned (stat fr6) (T.obj _ _ st6)
    have again:∀{σ7:St}{H7:Hp}{s7:E_},Inv (ba X N' scope cl fp (X.pn++pins) s3 H3) ([]++eM fp s6.heap) σ7 H7 s7->∀{acc':List (EA×V)}{m':Nat},m'<n->Wv (i+1) m' acc' σ7 H7 ->
     ∃m,m<n/\∃i acc σ' H',Inv (ba X N' scope cl fp (X.pn++pins) s3 H3) [] σ' H' s7/\tn i s7.heap/\(∀b∈fp,H' b=none)/\Wv i m acc σ' H':=fun{σ7 H7 s7} I7 {acc' m'} hm w7=>by
     refine⟨m',hm,i+1,acc',σ7,H7,I7.unpinned,T.keep _ _ _ st6 fun b hb o e=>(I7.pin (b,o) (Fu _ (Fu _ (bx hb e)))).1,fun b hb=>?_,w7⟩
     obtain⟨o,e,d⟩:=T.obj _ _ st6 b hb
     exact(I7.pin (b,o) (Fu _ (Fu _ (bx hb e)))).2.1
    refine Cj (hg _ s6 σ4 H6 x u _ I6' r6 (step x H6 y6)) fun _ s7 ⟨σ7,H7,I7,q7⟩=>?_
    refine Cj (ht _ s7 σ7 H7 _ I7 q7) fun ok s8 ⟨H8,I8,q8⟩=>?_
    cases ok with
    | false =>
      rw[if_neg FO]at q8 ⊢
      obtain⟨m',hm,w8⟩:=q8
      exact again I8 hm w8
    | true =>
      rw[if_pos rfl]at q8 ⊢
      refine Cj (hk _ s8 σ7 H8 _ I8 q8) fun ku s9 ⟨ky,H9,I9,rk,q9⟩=>?_
      refine Cj (he _ s9 σ7 H9 _ I9 q9) fun y s10 ⟨yv,H10,I10,r10,k,ek,eD,hl,m',hm,w10⟩=>?_
      subst ek
      obtain⟨z,hd,vs,rel,dd⟩:=uz I10.hok eD
      have hz:vs.length<=sizeLine:=by rw[<- rel.length];exact z
      have hl2:(cY acc k yv).length<=sizeLine:=by have:=cO acc k yv;omega
      refine wpAny_dictSet_pairs (hsz:=hz) (nX rk) dd fun h' dd' hs=>?_
      have hex:∃q,h'.get? D=some q:=let ⟨q,_,_,hq,_⟩:=dd';⟨q,hq⟩
      exact again (iU I10 (by rw[eD];exact Jk) hs hex (dk_new hl2 hd (rel.put k r10) dd')) hm w10
 exact codeAny_compStart_dict loop (T.self X.A 0 _ _ _ tY loop)
section
variable{X:Cx}{kx vx tg iter:Expr}{ifs:List Expr}{scope:Scope}{pos:Pos}{wi:TI}{g:CompA->TG}{tt:CompA->TT}{tk te:CompA->TE}
theorem pV(N':List Str)(fr:List (Option Nat))(hc:X.calm=true)(hi:PI X tg iter wi)(hfr:jV fr N' X.N scope X.env.scope=true)(hsc:kF scope X.env.scope=true)
 (hg:∀y,PG (blk X N' scope y) tg (g y))(ht:∀y,Eh (blk X N' scope y) ifs (tt y))(hk:∀y,PE (blk X N' scope y) kx (tk y))(he:∀y,PE (blk X N' scope y) vx (te y))
 (hs:∀x,FF iter X.env x=pure x:=by intro _;rfl):PE X (.DictComp kx vx [⟨tg,iter,ifs,0⟩] scope pos) (mD wi fr g tt tk te):=by
 intro pins s σ H Q I h
 obtain⟨sk,sn⟩:=Fb.mp hsc
 have hkind:scope.kind = .function:=of_decide_eq_true sk
 have hall:=G5.mp sn
 have hcell:∀y∈scope.names,y.2 = .cell->scope.names.lookup y.1=some .cell:=fun y hy hl=>by
  rcases FC.mp (Fb.mp (Fb.mp (hall y hy)).1).1 with z|z
  · exact absurd hl (of_decide_eq_true z)
  · exact of_decide_eq_true z
 have hnames:∀y∈scope.names,y.2 = .local->scope.names.lookup y.1=some .local:=fun y hy hl=>by
  rcases FC.mp (Fb.mp (Fb.mp (hall y hy)).1).2 with z|z
  · exact absurd hl (of_decide_eq_true z)
  · exact of_decide_eq_true z
 have hfree:∀y∈scope.names,y.2 = .free->X.env.kindOf y.1=some .cell\/X.env.kindOf y.1=some .free:=fun y hy hl=>by
  rcases FC.mp (Fb.mp (hall y hy)).2 with z|z
  · exact absurd hl (of_decide_eq_true z)
  · exact(FC.mp z).imp of_decide_eq_true of_decide_eq_true
 obtain⟨frl,frg⟩:=jV.get hfr
 obtain⟨cl,hclos,cl1,cl2⟩:=cf (env:=X.env) (scope:=scope) fun y hy hl=>I.ok.has y.1 (hfree y hy hl)
 rw[arm_eval_DictComp]
 refine GY (use:=none) rfl hs hclos hkind hnames (Cj (hi pins s σ H _ I h) fun v s1 h1=>Cj h1 fun itv s2 h2=>?_)
 obtain⟨it,fp,tn,J,H2,e,I2,T,st2,f2,q2⟩:=h2
 subst e
 refine Gs ?_
 have hD:H2 s2.heap.objs.size=none:=I2.hok.fresh (Fa _)
 have I3:Inv X pins σ (Cb H2 s2.heap.objs.size (.dK [])) {s2 with heap:=s2.heap.push {cls:=.type "dict", data:=.dict #[]}} :=
  I2.laid (t':=s2.toks) (fun b u e=>E4 _ e) (Fa _) (iR s2.heap I2.big)
 obtain⟨Wv,⟨m0,w0⟩,turn⟩:=q2 _ hD
 have tn3:tn 0 (s2.heap.push {cls:=.type "dict", data:=.dict #[]}):=T.keep _ _ _ st2 fun b _ o e=>E4 _ e
 have fpD:∀b∈fp,(Cb H2 s2.heap.objs.size (.dK [])) b=none:=fun b hb=>by
  obtain⟨o,e,_⟩:=T.obj _ _ st2 b hb
  rw[ak (FZ (Fq e))]
  exact(f2 b hb).1
 have fp3:∀b∈fp,b<(s2.heap.push {cls:=.type "dict", data:=.dict #[]}).objs.size:=fun b hb=>by
  obtain⟨o,e,_⟩:=T.obj _ _ tn3 b hb
  exact Fq e
 exact fZ N' fr hc hkind hcell hfree frl frg cl1 cl2 I3 T tn3 fpD fp3 (fun b hb=>(f2 b hb).2) (hg ⟨cl,fp,X.pn++pins,_,_⟩) (ht ⟨cl,fp,X.pn++pins,_,_⟩) (hk ⟨cl,fp,X.pn++pins,_,_⟩) (he ⟨cl,fp,X.pn++pins,_,_⟩) w0 (turn ⟨cl,fp,X.pn++pins,_,_⟩)
  (Rp:=K4 (FT X.prog X.w) X.A X.xe none (EP X pins σ Q) (.ref s2.heap.objs.size)) fun s5 H4 m hn k _ qn=>⟨m,hn,fun h' hs'=>⟨.ref _,H4,k h' hs',rfl,qn⟩⟩
theorem jK{b:Bool}{ix:Nat}(N':List Str)(fr:List (Option Nat))(hc:X.calm=true)(hi:PI X tg iter wi)(hfr:jV fr N' X.N scope X.env.scope=true)(hsc:kF scope X.env.scope=true)
 (hg:∀y,PG (blk X N' scope y) tg (g y))(ht:∀y,Eh (blk X N' scope y) ifs (tt y))(hk:∀y,PE (blk X N' scope y) kx (tk y))(he:∀y,PE (blk X N' scope y) vx (te y))(hN:X.N.Nodup)(hix:X.N[ix]?=some x)(hx:Loc X.env.scope x)
 (hf:X.fn x=true\/X.env.scope.names.lookup x=some .local)(hsw:G0 (.DictComp kx vx [⟨tg,iter,ifs,0⟩] scope pos) (some (.Name x px)) spos.line X.env=pure b)
 (hs:∀x,FF iter X.env x=pure x):PS X (.Assign [.Name x px] (.DictComp kx vx [⟨tg,iter,ifs,0⟩] scope pos) spos) (vJ (mD wi fr g tt tk te) (iP ix)):=by
 cases b with
 | false=>exact fK hN hix hx (pV N' fr hc hi hfr hsc hg ht hk he hs) hsw hf
 | true =>
 intro pins s σ H DD I h
 obtain⟨sk,sn⟩:=Fb.mp hsc
 have hkind:scope.kind = .function:=of_decide_eq_true sk
 have hall:=G5.mp sn
 have hcell:∀y∈scope.names,y.2 = .cell->scope.names.lookup y.1=some .cell:=fun y hy hl=>by
  rcases FC.mp (Fb.mp (Fb.mp (hall y hy)).1).1 with z|z
  · exact absurd hl (of_decide_eq_true z)
  · exact of_decide_eq_true z
 have hnames:∀y∈scope.names,y.2 = .local->scope.names.lookup y.1=some .local:=fun y hy hl=>by
  rcases FC.mp (Fb.mp (Fb.mp (hall y hy)).1).2 with z|z
  · exact absurd hl (of_decide_eq_true z)
  · exact of_decide_eq_true z
 have hfree:∀y∈scope.names,y.2 = .free->X.env.kindOf y.1=some .cell\/X.env.kindOf y.1=some .free:=fun y hy hl=>by
  rcases FC.mp (Fb.mp (hall y hy)).2 with z|z
  · exact absurd hl (of_decide_eq_true z)
  · exact(FC.mp z).imp of_decide_eq_true of_decide_eq_true
 obtain⟨frl,frg⟩:=jV.get hfr
 obtain⟨cl,hclos,cl1,cl2⟩:=cf (env:=X.env) (scope:=scope) fun y hy hl=>I.ok.has y.1 (hfree y hy hl)
 rw[Ja _ _ _ _ hsw]
 refine EZ (GW (EZ ?_))
 show FH _ X.A (do let _ <- K5 (.DictComp kx vx [⟨tg,iter,ifs,0⟩] scope pos) scope X.env _ newDict false (eval iter X.env) (some (Iq (.Name x px) X.env))) _ _ s
 refine EZ (FX (GY (use:=some (Iq (.Name x px) X.env)) (Q:=fun _ s'=>SP X pins DD .next s') rfl hs hclos hkind hnames
  (Cj (hi pins s σ H _ I h) fun v s1 h1=>Cj h1 fun itv s2 h2=>?_)) (fun _ s' hq=>Fh (Fh hq)) fun _ _ e=>e)
 obtain⟨it,fp,tn,J,H2,e,I2,T,st2,f2,q2⟩:=h2
 subst e
 refine Gs ?_
 have hD:H2 s2.heap.objs.size=none:=I2.hok.fresh (Fa _)
 have I3:Inv X pins σ (Cb H2 s2.heap.objs.size (.dK [])) {s2 with heap:=s2.heap.push {cls:=.type "dict", data:=.dict #[]}} :=
  I2.laid (t':=s2.toks) (fun b u e=>E4 _ e) (Fa _) (iR s2.heap I2.big)
 obtain⟨Wv,⟨m0,w0⟩,turn⟩:=q2 _ hD
 have tn3:tn 0 (s2.heap.push {cls:=.type "dict", data:=.dict #[]}):=T.keep _ _ _ st2 fun b _ o e=>E4 _ e
 have fpD:∀b∈fp,(Cb H2 s2.heap.objs.size (.dK [])) b=none:=fun b hb=>by
  obtain⟨o,e,_⟩:=T.obj _ _ st2 b hb
  rw[ak (FZ (Fq e))]
  exact(f2 b hb).1
 have fp3:∀b∈fp,b<(s2.heap.push {cls:=.type "dict", data:=.dict #[]}).objs.size:=fun b hb=>by
  obtain⟨o,e,_⟩:=T.obj _ _ tn3 b hb
  exact Fq e
 refine fZ (Q:=fun v H1=>iP ix v σ H1 DD.nx) N' fr hc hkind hcell hfree frl frg cl1 cl2 I3 T tn3 fpD fp3 (fun b hb=>(f2 b hb).2) (hg ⟨cl,fp,X.pn++pins,_,_⟩) (ht ⟨cl,fp,X.pn++pins,_,_⟩) (hk ⟨cl,fp,X.pn++pins,_,_⟩) (he ⟨cl,fp,X.pn++pins,_,_⟩) w0 (turn ⟨cl,fp,X.pn++pins,_,_⟩)
  (Rp:=K4 (FT X.prog X.w) X.A X.xe (some (Iq (.Name x px) X.env)) (fun _ s'=>SP X pins DD .next s') (.ref s2.heap.objs.size)) fun s5 H4 m hn k fpo qn=>?_
 show FH _ X.A (Iq (.Name x px) X.env (.ref s2.heap.objs.size)) _ _ s5
 have I5:Inv X pins σ H4 s5:=k s5.heap (JQ _ _)
 obtain⟨f0,f1,f2',f3,f4,f5⟩:=fpo
 refine IQ (dI I5 hN hix hx (v:=.ref s2.heap.objs.size) rfl (fun s6 I6 sb=>?_) hf)
 obtain⟨a,sb,ha⟩:=sb
 have hne:(s2.heap.push {cls:=.type "dict", data:=.dict #[]}).objs.size≠a:=by
  rcases ha with rfl|ha
  · exact f1
  · exact fun z=>f4 x a ha z.symm
 refine⟨m,hn.at' fun o e=>sb.extBut _ o hne e,fun h' hs'=>?_⟩
 exact⟨_,H4,I6.turned (t':=s6.toks) (fun b o hb e=>hs'.extBut b o hb e) f0 f1 f3 f4 f5,qn⟩
end
noncomputable def cv:Option Int->List Int->Option Int
 | o,[]=>o
 | none,n::r=>cv (some n) r
 | some m,n::r=>cv (some (if n>m then n else m)) r
theorem oV(a d:E7):argsOk "max" ⟨[a],[(EX "default", d)]⟩:=by unfold argsOk;kernel_rfl
section
variable{prog:FS}{w:GD}{A:GJ}{E:E7->E_->Prop}
noncomputable def xO(o:Option Int)(arr:Array E7):Prop:=match o with
 | none=>arr = #[]
 | some m=>∃t,arr = #[.int m t,.int m t]
theorem nN{R:Lo->E_->Prop}{I l S:Addr}{vs:List E7}{d:E7}(hh:A.handled=none)(hI:Jo vs ns)(hl:l≠I)(hSI:S≠I)(hSl:S≠l) :
 ∀ (k j:Nat)(s:E_)(o:Option Int)(arr:Array E7)(c:Nat),vs.length-j=k->j<=vs.length->xO o arr->s.heap.IsListIter I l j->s.heap.IsList l vs.toArray ->
   s.heap.get? S=some {cls:=.type "list", dict:=none,data:=.seq arr c,slots:=#[]} ->
   (∀v h' tk,(cv o (ns.drop j)=none/\v=d\/∃m t,cv o (ns.drop j)=some m/\v = .int m t)->(∀b q,b≠I->b≠S->s.heap.get? b=some q->h'.get? b=some q)->R (.ok (.ret v)) {s with heap:=h',toks:=tk}) ->
   Hr (FT prog w) A (.builtin "max.loop" ⟨[.ref I,.none,.ref S],[(EX "default", d)]⟩) R s:=by
 have hn:(K6 "max" ++ K6 ".loop" : String) = "max.loop" := by decide
 have W:=Walks.list (prog:=prog) (w:=w) (A:=A.in1) hh I l hl vs.toArray
 have hz:vs.toArray.size=vs.length:=Fw ..
 have len:vs.length=ns.length:=hI.length
 intro k
 induction k with
 | zero =>
   intro j s o arr c hk hj hb h1 h2 hS hR
   have ej:j=vs.length:=by omega
   subst ej
   have ed:ns.drop vs.length=[]:=by rw[len];exact Hj
   rw[ed]at hR
   refine codeAny_builtin (J_) ?_;rw[Kv G8 _]
   show FH _ A.in1 (Lr (.ref S) >>= _) _ _ s;refine EZ (JK hS rfl ?_)
   show FH _ A.in1 (tryCatch (Kc (.ref I)) _ >>= _) _ _ s;refine EZ (KA (W.done s _ _ (by rw[hz];exact⟨h1,h2⟩) fun h' tk kp=>?_))
   have kp':∀b q,b≠I->s.heap.get? b=some q->h'.get? b=some q:=fun b q n e=>kp b q (by simpa using n) e
   cases o with
   | none =>
     cases(show arr = #[]from hb)
     exact EZ (Jj (Fh (hR d h' tk (.inl ⟨rfl,rfl⟩) fun b q n _ e=>kp' b q n e)))
   | some m =>
     obtain⟨t,rfl⟩:=(show ∃t,arr = #[.int m t,.int m t]from hb)
     show FH _ A.in1 (updateSeq S (fun _=>#[]) >>= _) _ _ _;refine EZ (Kk (kp' S _ hSI hS) rfl (EZ (JX (Fh ?_))))
     exact hR _ _ tk (.inr ⟨m,t,rfl,rfl⟩) fun b q n n2 e=>(GS _ _ n2.symm).trans (kp' b q n e)
 | succ k ih =>
   intro j s o arr c hk hj hb h1 h2 hS hR
   have hlt:j<vs.length:=by omega
   refine codeAny_builtin (J_) ?_;rw[Kv G8 _]
   show FH _ A.in1 (Lr (.ref S) >>= _) _ _ s;refine EZ (JK hS rfl ?_)
   show FH _ A.in1 (tryCatch (Kc (.ref I)) _ >>= _) _ _ s;refine EZ (KA (W.item j s _ _ (by rw[hz];exact hlt) ⟨h1,h2⟩ fun v h' tk hP st kp=>?_))
   have kp':∀b q,b≠I->s.heap.get? b=some q->h'.get? b=some q:=fun b q n e=>kp b q (by simpa using n) e
   have hS':=kp' S _ hSI hS
   have hv:vs[j]?=some v:=by simpa using hP
   obtain⟨n,t,en,rfl⟩:∃n t,ns[j]?=some n/\v = .int n t:=by
    have hv':=hv
    clear hR ih hk hj hlt h1 h2 hP st W hz len
    induction hI generalizing j with
    | nil=>simp at hv'
    | cons n t r ih2 =>
      cases j with
      | zero=>simp at hv';subst hv';exact⟨n,t,rfl,rfl⟩
      | succ j=>simp at hv';simpa using ih2 j (by simpa using hv) hv'
   have ed:ns.drop j=n::ns.drop (j+1):=by
    have hj2:j<ns.length:=by omega
    rw[Gx hj2]
    rw[FA hj2]at en
    cases en
    rfl
   rw[ed]at hR
   have put:∀(o2:Option Int)(t2:Tok),o2=some n->t2=t->cv o (n::ns.drop (j+1))=cv (some n) (ns.drop (j+1)) ->
    Hr (FT prog w) A (.builtin "max.loop" ⟨[.ref I,.none,.ref S],[(EX "default", d)]⟩) R {s with heap:=h'.update S (K9 fun _=>#[.int n t,.int n t]),toks:=tk}:=fun o2 t2 _ _ er=>by
    refine ih (j+1) _ (some n) #[.int n t,.int n t] _ (by omega) (by omega) ⟨t,rfl⟩ (st.1.at fun q e=>(GS _ _ hSI).trans e) (st.2.at fun q e=>(GS _ _ hSl).trans e) (Kj _ hS' rfl) fun v2 h2 tk2 hv2 kp2=>?_
    rw[<- er]at hv2
    exact hR v2 h2 tk2 hv2 fun b q n1 n2 e=>kp2 b q n1 n2 ((GS _ _ n2.symm).trans (kp' b q n1 e))
   cases o with
   | none =>
     cases(show arr = #[]from hb)
     show FH _ A.in1 (updateSeq S (fun _=>#[.int n t,.int n t]) >>= _) _ _ _;refine EZ (Kk hS' rfl ?_)
     rw[hn]
     exact Fh ⟨JY G8 _,put _ _ rfl rfl rfl⟩
   | some m =>
     obtain⟨t0,rfl⟩:=(show ∃t,arr = #[.int m t,.int m t]from hb)
     show FH _ A.in1 (tryCatch (holding [.int n t,.int n t] (richCompare .Gt (.int n t) (.int m t0) >>= _)) _ >>= _) _ _ _
     have cm:CmpOf prog w A.in1 .Gt (fun i v=>∃x t,v=Kb x t/\x=(if i=0 then m else n)) (fun i j=>decide ((if i=0 then m else n)>(if j=0 then m else n))):=PySem.CmpOf.ints_gt (fun i=>if i=0 then m else n) fun i v ⟨x,t,e,e2⟩=>⟨t,by rw[e,e2]⟩
     refine EZ (KA (HS (EZ (cm 1 0 _ _ _ _ _ ⟨n,t,rfl,rfl⟩ ⟨m,t0,rfl,rfl⟩ ?_))))
     refine EZ (HS (HE (EZ (JX (Fh ?_)))))
     by_cases hg:n>m
     · simp only[if_neg (show ¬((1:Nat)=0) by decide),if_pos (show(0:Nat)=0 from rfl),decide_eq_true hg,if_true]
       refine EZ (Kk hS' rfl (EZ (JX ?_)))
       rw[hn]
       exact Fh ⟨JY G8 _,put _ _ rfl rfl (by simp only[cv,if_pos hg])⟩
     · simp only[if_neg (show ¬((1:Nat)=0) by decide),if_pos (show(0:Nat)=0 from rfl),if_true,decide_eq_false hg,GB,if_false]
       refine EZ (JX ?_)
       rw[hn]
       refine Fh ⟨JY G8 _,ih (j+1) _ (some m) _ c (by omega) (by omega) ⟨t0,rfl⟩ st.1 st.2 hS' fun v2 h2 tk2 hv2 kp2=>?_⟩
       refine hR v2 h2 tk2 ?_ fun b q n1 n2 e=>kp2 b q n1 n2 (kp' b q n1 e)
       simp only[cv,if_neg hg]
       exact hv2
theorem jS{l:Addr}{vs:List E7}{d:E7}(hh:A.handled=none)(hI:Jo vs ns)(hls:s.heap.IsList l vs.toArray)
 (hQ:∀v h' tk,(cv none ns=none/\v=d\/∃m t,cv none ns=some m/\v = .int m t)->(∀b q,s.heap.get? b=some q->h'.get? b=some q)->Q v {s with heap:=h',toks:=tk}) :
 FH (FT prog w) A (call (.builtin "max") [.ref l] [(EX "default", d)]) Q E s:=by
 have hn:(K6 "max" ++ K6 ".loop" : String) = "max.loop" := by decide
 obtain⟨ol,hol,_⟩:=id hls
 have hll:l<s.heap.objs.size:=Fq hol
 refine PyProof.Rows.kmk_tree (PySem.F.kind_max) PySem.F.plain_max PySem.F.entry_max (oV _ _) ?_
 show FH _ A.in1 (Jv "max" ["key", "default"] 0 ⟨[],[(EX "default", d)]⟩ >>= _) _ _ s
 refine EZ (Ls (show Jv "max" ["key", "default"] 0 ⟨[],[(EX "default", d)]⟩=pure [none,some d]from rfl) ?_)
 refine EZ (Fh (EZ (Ik hls (EZ (wpAny_newList ?_ (FI _))))))
 rw[hn]
 have zI:(s.heap.push {cls:=.type "list_iterator", data:=.fields #[.ref l,.int 0 0]}).objs.size=s.heap.objs.size+1:=size_push' ..
 refine Fh ⟨JY G8 _,?_⟩
 refine nN (I:=s.heap.objs.size) (l:=l) hh hI (FZ hll) (by rw[zI];exact Ic (J4 _)) (by rw[zI];exact Ic (IV hll)) vs.length 0 _ none #[] 0 (by omega) (FI _) rfl
  ⟨_,E4 _ (FB _ rfl),rfl,rfl⟩ (hls.at fun q e=>E4 _ (E4 _ e)) (FB _ rfl) fun v h' tk hv kp=>?_
 refine hQ v h' tk (by simpa using hv) fun b q e=>?_
 have hb:=Fq e
 exact kp b q (FZ hb) (by rw[zI];exact FZ (IV hb)) (E4 _ (E4 _ e))
end
section
variable{X:Cx}
theorem dX{P:FS}{w:GD}:∀{vs:List (EA×E7)}{ns:List Int}{l:List E7},vs.map (·.1)=ns.map Hn->l.length=vs.length ->
 (∀(i:Nat) v,l[i]?=some v->∃k x,vs[i]?=some (k,x)/\(bA P w).is k v=true)->Jo l ns
 | [],[],[],_,_,_=>.nil
 | [],[],_::_,_,h,_=>by simp at h
 | [],_::_,_,h,_,_=>by simp at h
 | _::_,[],_,h,_,_=>by simp at h
 | _::_,_::_,[],_,h,_=>by simp at h
 | (k,x)::vs,n::ns,v::l,h1,h2,h3=>by
   simp only[Gi,GG]at h1
   obtain⟨k',x',e,hv⟩:=h3 0 v rfl
   simp at e
   obtain⟨rfl,rfl⟩:=e
   rw[h1.1]at hv
   have hv:jU (Hn n) v=true:=hv
   rcases be hv with⟨i,t,e1,e2⟩|⟨y,t,e1,e2⟩
   · cases e1
     subst e2
     exact .cons n t (dX (P:=P) (w:=w) h1.2 (by simpa using h2) fun i v hv=>by simpa using h3 (i+1) v (by simpa using hv))
   · cases e1
theorem jD{prog:FS}{vs:List (EA×E7)}(hh:A.handled=none)(hd:(a==Ij)=false)
 (dd:s.heap.DictOf (bA prog w) a vs)(hk:vs.map (·.1)=ns.map Hn)(h64:ns.length<64)
 (h:∀(h0 h':Heap)(tk:Nat)(out:Array E7)(ns':List Int)(c:Nat),(∀b o,s.heap.get? b=some o->h0.get? b=some o)->(∀b o,h0.get? b=some o->h'.get? b=some o)->h'.get? h0.objs.size=some (Lu "list" out c) ->
  Jo out.toList ns'->ns'.Perm ns->ns'.Pairwise (· <= ·)->Q (.ref h0.objs.size) {s with heap:=h',toks:=tk}) :
 FH (FT prog w) A (call (.builtin "sorted") [.ref a]) Q E s:=by
 obtain⟨ep,da⟩:=dd.dictAt
 have sz:=FG
 have hl:vs.length=ns.length:=by have:=congrArg List.length hk;simpa using this
 refine Calls.call_function_entry kind_sorted plain_sorted entry_sorted (args_sorted1 (.ref a)) ?_;unfold Builtin.«sorted»
 refine EZ (m:=checkCount "sorted" 1 1 _) (Fh (EZ (W.kdu_collect (A:=A.in1) (W.kdl_dict (knd:=bA prog w) (kvs:=vs) (ep:=ep) hd) hh da (by omega) fun h0 tk acc k0 hacc=>EZ (wpAny_newList ?_ ?_))))
 · have iA:Jo acc.toList ns:=dX (P:=prog) (w:=w) hk (by rw[HP];exact hacc.1) fun i v e=>hacc.2 i v (by rw[<- Array.getElem?_toList];exact e)
   have l64:acc.toList.length<64:=by rw[iA.length];exact h64
   have hoL:(h0.push (Lu "list" acc.toList.toArray 0)).get? h0.objs.size=some (Lu "list" acc.toList.toArray 0):=FB _ rfl
   show FH _ _ _ _ _ {s with heap:=h0.push (Lu "list" acc.toList.toArray 0),toks:=tk}
   refine EZ (HS (Hy slot_list_sort ⟨_,hoL,rfl⟩ entry_list_sort (list_sort_tree (s:={s with heap:=h0.push (Lu "list" acc.toList.toArray 0),toks:=tk}) hoL iA l64 fun out ns' q1 q2 q3=>⟨_,rfl,?_⟩) (args_list_sort _)))
   have e1:=get?_update_seq hoL (fun _=>#[])
   have e2:((((h0.push (Lu "list" acc.toList.toArray 0)).update h0.objs.size (K9 fun _=>#[])).push (Lu "tuple" acc.toList.toArray 0)).push (Lu "list" #[] 0)).get? h0.objs.size=_ :=
    E4 _ (E4 _ e1)
   have e3:=get?_update_seq e2 (fun _=>out)
   refine Fh ⟨_,rfl,h h0 _ _ out ns' _ k0 (fun b ob eb=>?_) e3 q1 q2 q3⟩
   have ne:h0.objs.size≠b:=Ic (Fq eb)
   exact(GS _ _ ne).trans (E4 _ (E4 _ ((GS _ _ ne).trans (E4 _ eb))))
 · rw[HP,hacc.1];omega
theorem js(hc:X.calm=true):d8 X (.builtin "sorted") (fun xs H Q=>∃(a:Addr)(us:List (EA×V))(ns:List Int),xs=[.ref a]/\Rd H a (.dK us)/\us.map (·.1)=ns.map Hn/\ns.length<64 /\
 ∀ns':List Int,ns'.Perm ns->ns'.Pairwise (· <= ·)->∀l,H l=none->Q (.ref l) (Cb H l (.lst (ns'.map V.int)))):=by
 intro pins s σ H xs us Q I r ⟨a,vs,ns,ex,hq,hk,h64,q⟩
 subst ex
 obtain⟨u,rfl,ru⟩:=vals1 r
 cases ru
 obtain⟨z,hd,ws,rel,dd⟩:=qv I.hok hq
 have sz:=FG
 refine jD (I.ok.hd hc) hd dd (by rw[<- rel.keys];exact hk) h64 fun h0 h' tk out ns' c k0 k1 e a1 a2 a3=>?_
 have I1:Inv X pins σ H {s with heap:=h0}:=I.kept (t':=s.toks) k0
 refine⟨.ref h0.objs.size,_,I1.laid (t':=tk) (o:=.lst (ns'.map V.int)) k1 (Fa _) ⟨?_,out.toList,c,lm a1,by rw[Ku];exact e⟩,rfl,q ns' a2 a3 _ (I1.hok.fresh (Fa _))⟩
 rw[Fd,a2.length_eq]
 omega
noncomputable def C6(d:V)(ns:List Int):V:=match cv none ns with
 | none=>d
 | some m=>.int m
noncomputable def yB(K:W.Frag)(t tk:TA):TE:=fun σ H Q=>t σ H fun vs H1=>tk σ H1 fun zs H2=>∃l ns d,vs=[.ref l]/\zs=[d]/\D8 K H2 l (ns.map V.int)/\Q (C6 d ns) H2
theorem tD{t tk:TA}{p kpos:Pos}(hc:X.calm=true)(hm:X.mg "max" = none)(ha:PA X [e] t)(hk:PK X [⟨some "default", c,kpos⟩] tk)(hg:Gl X "max")
 (he:GQ pos (Fg [e] X.env)=(false,eval e X.env)::GQ pos (Fg [] X.env):=by rfl)(hpl:(GQ pos (Fg [e] X.env)).any (·.1)=false:=by rfl) :
 PE X (.Call (.Name "max" p) [e] [⟨some "default", c,kpos⟩] pos) (yB X.K t tk):=by
 intro pins s σ H Q I h
 refine H0 (fS I hg hm (by rfl) ?_ (by decide) (by decide))
 refine PyProof.Rows.callWith_kw (Cj (ha pos pins s σ H _ I h) fun us s1 ⟨vs,H1,I1,r1,q1⟩=>?_) he hpl
 refine Cj (hk pos pins s1 σ H1 _ I1 q1) fun ws s2 ⟨zs,H2,I2,r2,l,ns,d,e1,e2,sq,q2⟩=>?_
 subst e1 e2
 obtain⟨u,rfl,ru⟩:=vals1 r1
 obtain⟨w',rfl,rw'⟩:=vals1 r2
 cases ru
 obtain⟨its,rv,pl,hz⟩:=I2.list sq
 show FH _ _ (call (.builtin "max") [.ref l] [(EX "default", w')]) _ _ _
 refine jS (I.ok.hd hc) (intsAre_of rv) pl.isList fun v h' tk hv kp=>⟨C6 d ns,H2,I2.kept kp,?_,q2⟩
 rcases hv with⟨e,rfl⟩|⟨m,t,e,rfl⟩
 · unfold C6;rw[e];exact rw'
 · unfold C6;rw[e];exact⟨t,rfl⟩
end
end L2
theorem L2.Room.un1{k:Nat}{A:PySem.Around}(r:L2.Room k A):A.units+1<PySem.cLine:=by have:=r.un;omega
namespace L2.VL
noncomputable def gB(kvs:List (EA×EW))(k:EA):Option EW:=(kvs.find? fun kv=>decide (kv.1=k)).map (·.2)
noncomputable def putF(kvs:List (EA×EW))(k:EA)(x:EW):List (EA×EW) :=
 if(kvs.any fun kv=>decide (kv.1=k))=true then kvs.map (fun kv=>if kv.1=k then(kv.1,x)else kv)else kvs++[(k,x)]
section
variable{K:W.Frag}{F:Hp}{us:List (EA×V)}{kvs:List (EA×EW)}
theorem EC.val(r:EC K F us kvs)(k:EA):(eQ us k=none/\gB kvs k=none)\/∃v d,eQ us k=some v/\gB kvs k=some d/\Rep K F v d:=by
 induction r with
 | nil=>exact .inl ⟨rfl,rfl⟩
 | @cons p q ps qs h t ih =>
   unfold eQ gB at *
   rw[GE,GE,h.1]
   by_cases e:q.1=k
   · simp only[e,decide_true]
     exact .inr ⟨p.2,q.2,rfl,rfl,h.2⟩
   · simp only[e,decide_false]
     exact ih
theorem EC.any(r:EC K F us kvs)(k:EA):(us.any fun kv=>decide (kv.1=k))=kvs.any fun kv=>decide (kv.1=k):=by
 induction r with
 | nil=>rfl
 | cons h t ih=>rw[IJ,IJ,ih,h.1]
theorem EC.keys(r:EC K F us kvs):us.map (·.1)=kvs.map (·.1):=by
 induction r with
 | nil=>rfl
 | cons h t ih=>rw[Gi,Gi,ih,h.1]
theorem EC.repl(r:EC K F us kvs)(k:EA)(rv:Rep K F v d):EC K F (us.map fun kv=>if kv.1=k then(kv.1,v)else kv) (kvs.map fun kv=>if kv.1=k then(kv.1,d)else kv):=by
 induction r with
 | nil=>exact .nil
 | @cons p q ps qs h t ih =>
   refine .cons ?_ ih
   show(if p.1=k then(p.1,v)else p).1=(if q.1=k then(q.1,d)else q).1/\Rep K F (if p.1=k then(p.1,v)else p).2 (if q.1=k then(q.1,d)else q).2
   by_cases e:q.1=k
   · have e':p.1=k:=h.1.trans e
     rw[if_pos e,if_pos e']
     exact⟨h.1,rv⟩
   · have e':¬p.1=k:=fun z=>e (h.1.symm.trans z)
     rw[if_neg e,if_neg e']
     exact h
theorem EC.snoc(r:EC K F us kvs)(k:EA)(rv:Rep K F v d):EC K F (us++[(k,v)]) (kvs++[(k,d)]):=by
 induction r with
 | nil=>exact .cons ⟨rfl,rv⟩ .nil
 | cons h t ih=>exact .cons h ih
theorem EC.put(r:EC K F us kvs)(k:EA)(rv:Rep K F v d):EC K F (cY us k v) (putF kvs k d):=by
 unfold cY putF
 rw[r.any k]
 split
 · exact r.repl k rv
 · exact r.snoc k rv
theorem EC.mono{F':Hp}(s:bC F F')(r:EC K F us kvs):EC K F' us kvs:=Gy.mapP r fun _ _ z=>⟨z.1,z.2.mono s⟩
end
noncomputable def lO:W->Option EA
 | .d (.int i)=>some (.inl i)
 | .d (.str x)=>some (.inr x)
 | _=>none
noncomputable def asFd:W->Option (List (EA×EW))
 | .fd kvs=>some kvs
 | _=>none
theorem keyW_i(i:Int):lO (.d (.int i))=some (.inl i):=rfl
theorem keyW_s(x:Str):lO (.d (.str x))=some (.inr x):=rfl
theorem asFd_f(kvs:List (EA×EW)):asFd (.fd kvs)=some kvs:=rfl
theorem uG{w:W}{kvs:List (EA×EW)}:asFd w=some kvs↔w = .fd kvs:=by
 constructor
 · intro h;unfold asFd at h;split at h<;>simp_all
 · rintro rfl;rfl
theorem kU{K:W.Frag}{w:W}{k:EA}(e:lO w=some k)(r:cS K rl F H v w):v=kV k:=by
 unfold lO at e
 split at e
 · cases e;exact aQ r
 · cases e;exact fH r
 · cases e
theorem isPk_fd(kvs:List (EA×EW)):(W.fd kvs).isPk=false:=rfl
theorem fz_fd(kvs:List (EA×EW)):(W.fd kvs).fz = .fd kvs:=rfl
theorem pk_fd(kvs:List (EA×EW)):(W.fd kvs).peek = .fd kvs:=rfl
noncomputable def qM(ρ0:En)(g:D5)(ft:TB)(fk fe:TV):List EW->List (EA×EW)->(List (EA×EW)->Prop)->Prop
 | [],acc,Q=>Q acc
 | x::xs,acc,Q=>g x ρ0 fun ρ2=>Le ρ0 ρ2/\ft ρ2 fun b=>if b=true then fk ρ2 fun wk=>∃k,lO wk=some k/\fe ρ2 fun w=>∃d,w.fz = .d d/\acc.length<sizeLine/\qM ρ0 g ft fk fe xs (putF acc k d) Q else qM ρ0 g ft fk fe xs acc Q
noncomputable def mw(fi:En->(List EW->Prop)->Prop)(fr:List (Option Nat))(g:D5)(ft:TB)(fk fe:TV):TV:=fun ρ Q=>fi ρ fun xs=>qM (c_ fr ρ) g ft fk fe xs [] fun kvs=>Q (.fd kvs)
section
variable{X:Cx}{rl:RlT}{kx vx tg iter:Expr}{ifs:List Expr}{scope:Scope}{pos:Pos}{fi:En->(List EW->Prop)->Prop}{g:D5}{ft:TB}{fk fe:TV}
theorem uA{wi:TI}(fr:List (Option Nat))(k0:∀{F₀ H₀ F H:Hp}{σ:St}{ρ:En},VR X.K rl F₀ H₀ F H σ ρ->∀(Qd:List EW->Prop)(R:It->Hp->Prop),fi ρ Qd ->
 (∀J xs F' H',Grow rl F H F' H'->VIt X.K rl F' J xs->Qd xs->R J H')->wi σ H R)
 (hg:∀y,Et (blk X N' scope y) rl tg g)(ht:∀y,jA (blk X N' scope y) rl ifs ft)(hk:∀y,PV (blk X N' scope y) rl kx fk)(he:∀y,PV (blk X N' scope y) rl vx fe)
 (R:VR X.K rl F₀ H₀ F H σ ρ)(Qd:W->Prop)(Q:VK)(q:mw fi fr g ft fk fe ρ Qd)
 (k:∀v w F' H',Grow rl F H F' H'->cS X.K rl F' H' v w->de H v w->Qd w->Q v H'):mD wi fr (fun y=>Gm (hg y)) (fun y=>Gm (ht y)) (fun y=>Gm (hk y)) (fun y=>Gm (he y)) σ H Q:=by
 refine k0 R _ _ q fun J xs F1 H1 g1 vi q1=>?_
 intro D hD
 have rD:rl.a≠some D:=fun e=>by obtain⟨o,z⟩:=g1.reel.live e;rw[hD]at z;cases z
 have FD:F1 D=none:=g1.sub.free hD
 have gD:Grow rl F1 H1 F1 (Cb H1 D (.dK [])):=Grow.laid g1.sub g1.reel hD
 have R1:=R.grow g1
 have n0:jz (c_ fr ρ):=cC
 refine⟨fun i m acc σc Hc=>m=xs.length-i/\i<=xs.length/\∃Fc ds,VR X.K rl F1 H1 Fc Hc σc (c_ fr ρ)/\Hc D=some (.dK acc)/\Fc D=none/\EC X.K Fc acc ds/\qM (c_ fr ρ) g ft fk fe (xs.drop i) ds (fun ds=>Qd (.fd ds)),
  ⟨xs.length,by simp,FI _,F1,[],dC R1 gD,ar,FD,.nil,by simpa using q1⟩,?_⟩
 rintro z i m acc σc Hc ⟨rfl,hi,Fc,ds,Rc,hDc,fDc,rs,q2⟩
 have sH:bC F1 Hc:=Rc.g.fs.trans Rc.sub
 by_cases hlt:i<xs.length
 · have ei:xs[i]?=some xs[i]:=by simp[hlt]
   have ed:xs.drop i=xs[i]::xs.drop (i+1):=Gx hlt
   rw[ed]at q2
   refine .inr ⟨vi.go i Hc _ ei sH,fun v H' y=>?_⟩
   obtain⟨Fy,gy,rv⟩:=vi.yld i Hc v H' _ Fc ei Rc.g.fs Rc.sub Rc.reel y
   refine(E5 (hg z)).2 (Rc.grow gy) v _ _ _ rv q2 fun F3 H3 σ3 ρ3 g3 n3 R3 ⟨le3,q3⟩=>?_
   refine(E5 (ht z)).2 R3 _ _ q3 fun b F4 H4 g4 q4=>?_
   have R4:=R3.grow g4
   have g34:=(gy.trans g3).trans g4
   have keepD:∀{Fx Hx:Hp},Grow rl Fc Hc Fx Hx->Hx D=some (.dK acc)/\Fx D=none:=fun gx=>⟨gx.same D _ hDc rD,by rw[gx.old D _ hDc];exact fDc⟩
   cases b with
   | false=>exact⟨xs.length-(i+1),by omega,rfl,hlt,F4,ds,R4.le le3,(keepD g34).1,(keepD g34).2,rs.mono g34.fs,q4⟩
   | true =>
     refine(E5 (hk z)).2 R4 _ _ q4 fun vk wk Fk Hk gk rk nk ⟨kk,ekk,qk⟩=>?_
     have evk:=kU ekk rk
     have R5:=R4.grow gk
     refine(E5 (he z)).2 R5 _ _ qk fun v5 w5 F5 H5 g5 r5 n5 ⟨d,ed5,hl,q5⟩=>?_
     obtain⟨F6,g6,s6,r6⟩:=cS.fz g5 r5 n5
     rw[ed5]at r6
     have g36:=(g34.trans gk).trans g6
     have lds:acc.length=ds.length:=Ii rs
     refine⟨kk,evk,(keepD g36).1,by rw[lds];exact hl,xs.length-(i+1),by omega,rfl,hlt,F6,putF ds kk d,((R5.grow g6).le le3).other n0 hD (keepD g36).2 rD,ar,(keepD g36).2,(rs.mono g36.fs).put kk r6,q5⟩
 · have e:i=xs.length:=by omega
   subst e
   rw[Hj]at q2
   have neF:∀b u,Fc b=some u->b≠D:=fun b u q z=>by subst z;rw[fDc]at q;cases q
   have fsm:bC Fc (Cb Fc D (.dK acc)):=fun b u z=>by rw[ak (neF b u z)];exact z
   refine .inl ⟨vi.stop _ Hc (Fa _) sH,k _ (.fd ds) (Cb Fc D (.dK acc)) Hc ((g1.trans Rc.g).freeze (g1.freeB hD) hDc fDc rD) ⟨D,acc,rfl,ar,rs.mono fsm⟩ trivial q2⟩
theorem jC(i:Nat){b:Bool}(hN:X.N.Nodup)(N':List Str)(fr:List (Option Nat))(hc:X.calm=true)(hi:Ep X rl tg iter fi)
 (hg:∀y,Et (blk X N' scope y) rl tg g)(ht:∀y,jA (blk X N' scope y) rl ifs ft)(hk:∀y,PV (blk X N' scope y) rl kx fk)(he:∀y,PV (blk X N' scope y) rl vx fe)
 (hsw:G0 (.DictComp kx vx [⟨tg,iter,ifs,0⟩] scope pos) (some (.Name x px)) spos.line X.env=pure b:=by rfl)
 (hix:X.N[i]?=some x:=by rfl)(hx:Loc X.env.scope x:=by first|exact G3 rfl|exact GA rfl)(hf:X.fn x=true\/X.env.scope.names.lookup x=some .local:=by first|exact .inl rfl|exact .inr rfl)
 (hfr:jV fr N' X.N scope X.env.scope=true:=by rfl)(hsc:kF scope X.env.scope=true:=by rfl)
 (hs:∀x,FF iter X.env x=pure x:=by intro _;rfl):Ej X rl (.Assign [.Name x px] (.DictComp kx vx [⟨tg,iter,ifs,0⟩] scope pos) spos) (yl i (mw fi fr g ft fk fe)):=by
 obtain⟨wi,p0,k0⟩:=hi
 refine⟨_,jK N' fr hc p0 hfr hsc (fun y=>(E5 (hg y)).1) (fun y=>(E5 (ht y)).1) (fun y=>(E5 (hk y)).1) (fun y=>(E5 (he y)).1) hN hix hx hf hsw hs,fun R Dv D ok q=>uA fr k0 hg ht hk he R _ _ q fun v w F1 H1 g1 r1 n1 ⟨hp,q1⟩=>?_⟩
 exact ok.nx _ _ _ _ g1.fs (R.set g1 r1 n1 (fun xs z=>by subst z;cases hp) i) q1
end
noncomputable def Dw(ρ0:En)(g:D5)(ft:TB)(fk fe:TV)(x:EW):Mo (Option (EA×EW)):=DO (g x ρ0) fun ρ2=>DC (Le ρ0 ρ2) (DO (ft ρ2) fun b=>if b=true then DO (fk ρ2) fun wk=>aP (lO wk) fun k=>DO (fe ρ2) fun w=>aP (asD w.fz) fun d=>ret (some (k,d))else ret none)
noncomputable def d7(b:EW->Mo (Option (EA×EW))):List EW->List (EA×EW)->Mo (List (EA×EW))
 | [],acc=>ret acc
 | x::xs,acc=>DO (b x) fun o=>match o with
   | some d=>DC (acc.length<sizeLine) (d7 b xs (putF acc d.1 d.2))
   | none=>d7 b xs acc
theorem k_(ρ0:En)(g:D5)(ft:TB)(fk fe:TV):∀(xs:List EW)(acc:List (EA×EW)),qM ρ0 g ft fk fe xs acc=d7 (Dw ρ0 g ft fk fe) xs acc
 | [],acc=>rfl
 | x::xs,acc=>by
   refine ah fun Q=>?_
   show(g x ρ0 fun ρ2=>Le ρ0 ρ2/\ft ρ2 fun b=>if b=true then fk ρ2 fun wk=>∃k,lO wk=some k/\fe ρ2 fun w=>∃d,w.fz = .d d/\acc.length<sizeLine/\qM ρ0 g ft fk fe xs (putF acc k d) Q else qM ρ0 g ft fk fe xs acc Q)↔(DO (Dw ρ0 g ft fk fe x) _) Q
   simp only[k_ ρ0 g ft fk fe xs]
   have:∀(ρ2:En)(b:Bool),(if b=true then fk ρ2 fun wk=>∃k,lO wk=some k/\fe ρ2 fun w=>∃d,w.fz = .d d/\acc.length<sizeLine/\d7 (Dw ρ0 g ft fk fe) xs (putF acc k d) Q else d7 (Dw ρ0 g ft fk fe) xs acc Q)=(DO (if b=true then DO (fk ρ2) fun wk=>aP (lO wk) fun k=>DO (fe ρ2) fun w=>aP (asD w.fz) fun d=>ret (some (k,d))else ret none) fun o=>match o with
   | some d=>DC (acc.length<sizeLine) (d7 (Dw ρ0 g ft fk fe) xs (putF acc d.1 d.2))
   | none=>d7 (Dw ρ0 g ft fk fe) xs acc) Q:=by
     intro ρ2 b
     cases b with
     | false=>rfl
     | true =>
       rw[if_pos rfl,if_pos rfl]
       show _=fk ρ2 fun wk=>_
       congr 1
       funext wk
       refine propext ?_
       show _↔(DO (aP (lO wk) fun k=>DO (fe ρ2) fun w=>aP (asD w.fz) fun d=>ret (some (k,d))) _) Q
       rw[bnd_opt,aq]
       have e2:∀(k:EA),(fe ρ2 fun w=>∃d,w.fz = .d d/\acc.length<sizeLine/\d7 (Dw ρ0 g ft fk fe) xs (putF acc k d) Q)=(DO (DO (fe ρ2) fun w=>aP (asD w.fz) fun d=>ret (some (k,d))) fun o=>match o with
        | some d=>DC (acc.length<sizeLine) (d7 (Dw ρ0 g ft fk fe) xs (putF acc d.1 d.2))
        | none=>d7 (Dw ρ0 g ft fk fe) xs acc) Q:=fun k=>by
        show _=fe ρ2 fun w=>_
        congr 1
        funext w
        refine propext ?_
        show _↔(DO (aP (asD w.fz) fun d=>ret (some (k,d))) _) Q
        rw[bnd_opt,aq]
        simp only[hG]
        exact Ju
       simp only[e2]
   simp only[this]
   exact Ju
theorem m_compD(fi:En->(List EW->Prop)->Prop)(fr:List (Option Nat))(g:D5)(ft:TB)(fk fe:TV)(ρ:En):mw fi fr g ft fk fe ρ=DO (fi ρ) fun xs=>DO (d7 (Dw (c_ fr ρ) g ft fk fe) xs []) fun kvs=>ret (.fd kvs):=by
 refine ah fun Q=>?_
 show(fi ρ fun xs=>qM (c_ fr ρ) g ft fk fe xs [] fun ds=>Q (.fd ds))↔_
 simp only[k_]
 exact Ju
theorem pO(kvs:List (EA×EW))(k:EA)(x:EW):(putF kvs k x).length<=kvs.length+1:=by
 unfold putF;split<;>simp
section
variable{α:Type}{b:EW->Mo (Option (EA×EW))}
theorem jr{enc:α->EW}(f:α->EA×EW):∀(xs:List α)(acc:List (EA×EW)),(∀x∈xs,b (enc x)=ret (some (f x)))->acc.length+xs.length<=sizeLine->d7 b (xs.map enc) acc=ret ((xs.map f).foldl (fun a p=>putF a p.1 p.2) acc)
 | [],acc,_,_=>rfl
 | x::xs,acc,h,hl=>by
   show DO (b (enc x)) _=_
   rw[h x Ff,bnd_ret]
   show DC (acc.length<sizeLine) (d7 b (xs.map enc) (putF acc (f x).1 (f x).2))=_
   simp only[FJ]at hl
   have:=pO acc (f x).1 (f x).2
   rw[ag (by omega),jr f xs _ (fun y hy=>h y (E9 _ hy)) (by omega)]
   rfl
theorem uy{Q:β->Prop}{k:List (EA×EW)->Mo β}{xs:List α}{enc:α->EW}(f:α->EA×EW)(hx:xs'=xs.map enc)(h:∀x∈xs,b (enc x)=ret (some (f x)))(hl:xs.length<=sizeLine)
 (fin:k ((xs.map f).foldl (fun a p=>putF a p.1 p.2) []) Q):DO (d7 b xs' []) k Q:=by
 subst hx
 rw[jr f xs [] h (by simpa using hl)]
 exact fin
end
section
variable{X:Cx}{rl:RlT}{a c e o i:Expr}{es:List Expr}{fa fb:TV}{fs:D0}{pos p kpos:Pos}{ρ:En}
noncomputable def mv(fa fb:TV):TV:=fun ρ Q=>fa ρ fun x=>fb ρ fun y=>∃kvs k d,x = .fd kvs/\lO y=some k/\gB kvs k=some d/\Q (.d d)
theorem rZ(hu:X.A.units+1<LA)(ho:PV X rl o fa)(hi:PV X rl i fb)(hs:uR i:=by intro _ _;rfl):PV X rl (.Subscript o i pos) (mv fa fb):=by
 obtain⟨t1,p1,k1⟩:=ho
 obtain⟨t2,p2,k2⟩:=hi
 refine⟨_,iE hu p1 p2 hs,fun R Qd Q q h=>k1 R _ _ q fun v w F1 H1 g1 r1 n1 q1=>k2 (R.grow g1) _ _ q1 fun v2 w2 F2 H2 g2 r2 n2 ⟨kvs,k,d,ex,ek,ed,q2⟩=>?_⟩
 subst ex
 obtain⟨x,us,rfl,hx,rk⟩:=r1.grow g2
 have ev:=kU ek r2
 subst ev
 rcases rk.val k with⟨_,z⟩|⟨v3,d3,e1,e2,r3⟩
 · rw[ed]at z;cases z
 · rw[ed]at e2
   cases e2
   refine⟨x,v3,rfl,?_,h v3 (.d d) F2 H2 (g1.trans g2) r3 trivial q2⟩
   rw[<- e1]
   exact yb.k (g2.sub _ _ hx)
theorem m_vDGetF:mv fa fb ρ=DO (fa ρ) fun x=>DO (fb ρ) fun y=>aP (asFd x) fun kvs=>aP (lO y) fun k=>aP (gB kvs k) fun d=>ret (.d d):=by
 refine ah fun Q=>?_
 simp only[mv,DO,aq,uG,ret]
 constructor
 · intro h;refine cast ?_ h;congr 1;funext x;congr 1;funext y;exact propext ⟨fun⟨a,b,c,d,e,f,g⟩=>⟨a,d,b,e,c,f,g⟩,fun⟨a,d,b,e,c,f,g⟩=>⟨a,b,c,d,e,f,g⟩⟩
 · intro h;refine cast ?_ h;congr 1;funext x;congr 1;funext y;exact propext ⟨fun⟨a,d,b,e,c,f,g⟩=>⟨a,b,c,d,e,f,g⟩,fun⟨a,b,c,d,e,f,g⟩=>⟨a,d,b,e,c,f,g⟩⟩
noncomputable def xy:List W->(W->Prop)->Prop:=fun ws Q=>∃(kvs:List (EA×EW))(ns:List Int),ws=[.fd kvs]/\kvs.map (·.1)=ns.map Hn/\ns.length<64/\∀ns':List Int,ns'.Perm ns->ns'.Pairwise (· <= ·)->Q (.ml (ns'.map .int))
theorem lX(hc:X.calm=true)(hm:X.mg "sorted" = none)(ha:Ef X rl [a] fs)(hg:Gl X "sorted" := by rfl)(he:Fg [a] X.env=(false,eval a X.env)::Fg [] X.env:=by rfl)(hpl:(GQ pos (Fg [] X.env)).any (·.1)=false:=by rfl) :
 PV X rl (.Call (.Name "sorted" p) [a] [] pos) (dG xy fs):=by
 refine dq (js hc) (fun{F H vs ws} Qd Q s ra r ⟨kvs,ns,ew,ek,hl,q⟩ k=>?_) hm (by rfl) ha hg (by decide) (by decide) he hpl
 subst ew
 obtain⟨v,rfl,b,us,rfl,hb,rk⟩:=lN r
 exact⟨b,us,ns,rfl,.inl (s _ _ hb),by rw[rk.keys];exact ek,hl,fun ns' h1 h2 l hl=>k _ (.ml _) _ _ (Grow.laid s ra hl) (cy s ra hl kW) (fun a ea=>by cases ea;exact hl) (q ns' h1 h2)⟩
theorem sA{Q:α->Prop}{K:W->Mo α}{kvs:List (EA×EW)}(ns:List Int)(e:kvs.map (·.1)=ns.map Hn)(hl:ns.length<64)(h:∀ns':List Int,ns'.Perm ns->ns'.Pairwise (· <= ·)->K (.ml (ns'.map .int)) Q):DO (xy [.fd kvs]) K Q :=
 ⟨kvs,ns,rfl,e,hl,fun ns' h1 h2=>h ns' h1 h2⟩
noncomputable def C7(d:Int)(ns:List Int):Int:=(cv none ns).getD d
noncomputable def r_(fs:D0)(fc:TV):TV:=fun ρ Q=>fs ρ fun ws=>fc ρ fun y=>∃ns d,fX ws=some [.list (ns.map .int)]/\y = .d (.int d)/\Q (.d (.int (C7 d ns)))
theorem ve(hc:X.calm=true)(hm:X.mg "max" = none)(ha:Ef X rl [e] fs)(hk:PV X rl c fb)(hg:Gl X "max" := by rfl)
 (he:GQ pos (Fg [e] X.env)=(false,eval e X.env)::GQ pos (Fg [] X.env):=by rfl)(hpl:(GQ pos (Fg [e] X.env)).any (·.1)=false:=by rfl) :
 PV X rl (.Call (.Name "max" p) [e] [⟨some "default", c,kpos⟩] pos) (r_ fs fb):=by
 obtain⟨t1,p1,k1⟩:=ha
 obtain⟨t2,p2,k2⟩:=hk
 refine⟨_,tD hc hm p1 (tm p2 wz) hg he hpl,fun R Qd Q q h=>k1 R _ _ q fun vs ws F1 H1 g1 r1 q1=>k2 (R.grow g1) _ _ q1 fun v2 w2 F2 H2 g2 r2 n2 ⟨ns,d,ed,ew,q2⟩=>?_⟩
 subst ew
 have e2:=aQ r2
 subst e2
 have rs:=cA r1 ed
 cases rs with
 | cons rx rs =>
   cases rs
   cases rx with
   | @lst l us _ hb ry =>
     have eu:=dO ry
     subst eu
     refine⟨l,ns,.int d,rfl,rfl,.inl (.inl (g2.sub _ _ (g2.fs _ _ hb))),h _ (.d (.int (C7 d ns))) F2 H2 (g1.trans g2) ?_ trivial q2⟩
     have:C6 (.int d) ns = .int (C7 d ns):=by unfold C6 C7;cases cv none ns<;>rfl
     rw[this]
     exact .int _
noncomputable def nB(ws:List W):Option (List Int):=match fX ws with
 | some [.list xs]=>iM xs
 | _=>none
theorem m_vMaxD{fc:TV}:r_ fs fc ρ=DO (fs ρ) fun ws=>DO (fc ρ) fun y=>aP (nB ws) fun ns=>aP (asI y) fun d=>ret (.d (.int (C7 d ns))):=by
 have key:∀(ws:List W)(ns:List Int),nB ws=some ns↔fX ws=some [.list (ns.map .int)]:=by
  intro ws ns
  unfold nB
  constructor
  · intro h
    split at h
    · rename_i xs e;rw[e,iK h]
    · cases h
  · intro h;rw[h];exact intsD_map ns
 refine ah fun Q=>?_
 simp only[r_,DO,aq,cX,ret,key]
 constructor
 · intro h;refine cast ?_ h;congr 1;funext x;congr 1;funext y;exact propext ⟨fun⟨a,b,c,d,e⟩=>⟨a,c,b,d,e⟩,fun⟨a,c,b,d,e⟩=>⟨a,b,c,d,e⟩⟩
 · intro h;refine cast ?_ h;congr 1;funext x;congr 1;funext y;exact propext ⟨fun⟨a,c,b,d,e⟩=>⟨a,b,c,d,e⟩,fun⟨a,b,c,d,e⟩=>⟨a,c,b,d,e⟩⟩
theorem oneIs_l(ns:List Int):nB [.d (.list (ns.map .int))]=some ns:=by
 unfold nB fX
 exact intsD_map ns
end
noncomputable def EU:=EY @m_compD (EY @m_vDGetF (EY @m_vMaxD (EY @keyW_i (EY @keyW_s (EY @asFd_f (EY @isPk_fd (EY @fz_fd (EY @pk_fd (@oneIs_l)))))))))
end L2.VL
namespace L2
noncomputable def Bu(K:W.Frag)(tl:TE):TI:=fun σ H R=>tl σ H fun x H1=>∃a,x = .ref a/\(((∃xs,D8 K H1 a xs)/\R (EG K a) H1)\/((∃xs,D7 K H1 a xs)/\R (EE K a) H1))
theorem wB{l:Expr}{tl:TE}(hl:PE X l tl):PI X tg l (Bu X.K tl):=by
 intro pins s σ H R I h
 refine Cj (hl pins s σ H _ I h) fun v s1 ⟨x,H1,I1,r1,q1⟩=>?_
 obtain⟨a,e,q1⟩:=q1
 subst e
 cases r1
 have fin:∀b∈[s1.heap.objs.size],jB X pins H1 b:=fun b hb=>by
  have e:b=s1.heap.objs.size:=by simpa using hb
  subst e
  exact I1.fpOk (Fa _) (I1.hok.fresh (Fa _))
 rcases q1 with⟨⟨xs,hq⟩,q⟩|⟨⟨xs,hq⟩,q⟩
 · obtain⟨its,rv,p,hz⟩:=I1.list hq
   exact Ik p.isList ⟨s1.heap.objs.size,[s1.heap.objs.size],_,_,H1,rfl,I1.kept (t':=s1.toks) fun b o e=>E4 _ e,i6 a _,⟨_,FB _ rfl,rfl,rfl⟩,fin,q⟩
 · obtain⟨its,rv,p,hz⟩:=I1.tuple hq
   exact JC (show s1.heap.IsTuple a its.toArray from p) ⟨s1.heap.objs.size,[s1.heap.objs.size],_,_,H1,rfl,I1.kept (t':=s1.toks) fun b o e=>E4 _ e,gF a _,⟨_,FB _ rfl,rfl,rfl⟩,fin,q⟩
end L2
namespace L2.VL
section
variable{X:Cx}{rl:RlT}{tg:Expr}{fa:TV}{ρ:En}
noncomputable def iS(fa:TV):En->(List EW->Prop)->Prop:=fun ρ Q=>fa ρ fun w=>∃xs,(w.fz = .d (.list xs)\/w.fz = .d (.tuple xs))/\Q xs
theorem qI{l:Expr}(hl:PV X rl l fa):Ep X rl tg l (iS fa):=by
 obtain⟨t,p,k⟩:=hl
 refine⟨_,wB p,fun R Qd Q q h=>k R _ _ q fun v w F1 H1 g1 r1 n1 ⟨xs,ew,q1⟩=>?_⟩
 obtain⟨F2,g2,s2,r2⟩:=cS.fz g1 r1 n1
 rcases ew with ew|ew
 · rw[ew]at r2
   cases(show Rep X.K F2 v (.list xs)from r2)with
   | @lst a vs _ sq rs =>
     have sqH:∀H,bC F2 H->D8 X.K H a vs:=fun H s=>.inl (.inl (s _ _ sq))
     refine⟨a,rfl,.inl ⟨⟨vs,sqH H1 g2.sub⟩,h _ xs F2 H1 g2 (.of (fun i H x e s=>?_) (fun i H hl s=>⟨vs,sqH H s,by rw[rs.length];exact hl⟩) (fun i H v H' x e s y=>?_)) q1⟩⟩
     · obtain⟨v,ev,_⟩:=rs.get e
       exact⟨vs,v,sqH H s,ev⟩
     · obtain⟨e',hy⟩:=y
       obtain⟨v',ev,rv⟩:=rs.get e
       have:=hy vs (sqH H s)
       rw[ev]at this
       cases this
       exact⟨e',rv⟩
 · rw[ew]at r2
   cases(show Rep X.K F2 v (.tuple xs)from r2)with
   | @tup a vs _ sq rs =>
     have sqH:∀H,bC F2 H->D7 X.K H a vs:=fun H s=>dN s sq
     refine⟨a,rfl,.inr ⟨⟨vs,sqH H1 g2.sub⟩,h _ xs F2 H1 g2 (.of (fun i H x e s=>?_) (fun i H hl s=>⟨vs,sqH H s,by rw[rs.length];exact hl⟩) (fun i H v H' x e s y=>?_)) q1⟩⟩
     · obtain⟨v,ev,_⟩:=rs.get e
       exact⟨vs,v,sqH H s,ev⟩
     · obtain⟨e',hy⟩:=y
       obtain⟨v',ev,rv⟩:=rs.get e
       have:=hy vs (sqH H s)
       rw[ev]at this
       cases this
       exact⟨e',rv⟩
noncomputable def seqW:W->Option (List EW)
 | .d (.list xs)=>some xs
 | .d (.tuple xs)=>some xs
 | _=>none
theorem seqW_l(xs:List EW):seqW (.d (.list xs))=some xs:=rfl
theorem seqW_t(xs:List EW):seqW (.d (.tuple xs))=some xs:=rfl
theorem sJ{w:W}:seqW w=some xs↔(w = .d (.list xs)\/w = .d (.tuple xs)):=by
 constructor
 · intro h;unfold seqW at h;split at h<;>simp_all
 · rintro(rfl|rfl)<;>rfl
theorem m_iS:iS fa ρ=DO (fa ρ) fun w=>aP (seqW w.fz) ret:=by
 refine ah fun Q=>?_
 simp only[iS,DO,aq,sJ,ret]
noncomputable def EQ:=EY @m_iS (EY @seqW_l (@seqW_t))
end
end L2.VL
namespace L2
noncomputable def insAt{α:Type}(xs:List α)(k:Nat)(y:α):List α:=xs.take k++y::xs.drop k
theorem cu.insAt{xs:List V}{its:List E7}{y:V}{u:E7}(r:cu xs its)(ry:RelV y u)(k:Nat):cu (L2.insAt xs k y) (L2.insAt its k u):=by
 unfold L2.insAt
 induction r generalizing k with
 | nil=>simp;exact .cons ry .nil
 | cons h t ih =>
   cases k with
   | zero=>exact .cons ry (.cons h t)
   | succ k=>exact .cons h (ih k)
variable{X:Cx}
noncomputable def mX:V->List V->Hp->VK->Prop:=fun x vs H Q=>∃l xs i y,x = .ref l/\vs=[.int i,y]/\H l=some (.lst xs)/\0<=i/\i<=xs.length/\xs.length<sizeLine/\Q .non (Cb H l (.lst (insAt xs i.toNat y)))
theorem nE:Ex X "list.insert" mX:=by
 intro pins s σ H x vs v us Q I rx rv h
 obtain⟨l,xs,i,y,rfl,rfl,hH,h0,h1,hz,q⟩:=h
 cases rx
 obtain⟨u,u2,rfl,⟨t,rfl⟩,ru⟩:=vals2 rv
 obtain⟨z,its,n,r,hl,e⟩:=I.lstM hH
 have len:xs.length=its.length:=r.length
 have sz:=FG
 have fit:Ir i=true:=by simp[Ir];omega
 refine Kr F.slot_list_insert ⟨_,e,rfl⟩ F.entry_list_insert (F.args_list_insert_3 _ _ _) (PySem.AutoSeq1.list_insert_list_int_val_1 l its.toArray n i t u2 (by simp[fit]) (by rw[Fw];omega)) ⟨e,?_⟩
 refine⟨.non,_,I.lset (its':=insAt its i.toNat u2) hH e ?_ (r.insAt ru _) ?_,rfl,q⟩
 · have hn:¬i<0:=by omega
   have hm:min i.toNat its.length=i.toNat:=by omega
   simp only[hn,if_false,Fw,hm]
   unfold insAt
   simp[List.extract_eq_drop_take]
   rw[Fv (by rw[HU];omega)]
 · unfold insAt
   rw[Fj,FJ,Gc,HU]
   omega
end L2
namespace L2.VL
section
variable{X:Cx}{rl:RlT}{a e:Expr}{es:List Expr}{fs:D0}{pos:Pos}
theorem Reps.insAt{K:W.Frag}{F:Hp}{vs:List V}{ds:List EW}{v:V}{d:EW}(r:Reps K F vs ds)(h:Rep K F v d)(k:Nat):Reps K F (L2.insAt vs k v) (L2.insAt ds k d):=by
 unfold L2.insAt
 exact(r.take k).append (.cons h (r.drop k))
noncomputable def xX:List EW->List W->(List EW->Prop)->Prop:=fun xs ws Q=>∃i x,fX ws=some [.int i,x]/\0<=i/\i<=xs.length/\xs.length<sizeLine/\Q (insAt xs i.toNat x)
theorem uV{K:W.Frag}:x_ K rl mX xX:=fun{F H a vs args xs ws} Qn Q s ha rs ra ⟨i,x,e,h0,h1,z,q⟩ k=>by
 have r2:=cA ra e
 cases r2 with
 | cons ri r3 =>
   cases r3 with
   | cons rx r4 =>
     cases r4
     have ei:=aQ ri
     subst ei
     exact⟨a,vs,i,_,rfl,rfl,ha,h0,by rw[rs.length];exact h1,by rw[rs.length];exact z,k _ _ (rs.insAt rx _) q⟩
theorem qF(i:Nat){apos:Pos}(ha:Ef X rl [a,e] fs)(hN:X.N[i]?=some x:=by rfl)(hv:DW X.env.scope x:=by first|exact G3 rfl|exact GA (G3 rfl)|exact GA (GA rfl))
 (hd:(x==("__debug__" : Str))=false:=by decide)(hcd:(x==("__classdict__" : Str))=false:=by decide)
 (hbase:II (.Name x px) "insert" X.env (eval (.Name x px) X.env)=eval (.Name x px) X.env:=by rfl)
 (hfew:((GQ cpos (Fg [a,e] X.env)).all (fun x=>!x.1)&&(JT cpos (Iz [] X.env)).all (fun x=>x.1.isSome)
  && decide (([a,e]).length+([]:List IR).length+(if([]:List IR).isEmpty then 0 else 1)<30))=true:=by rfl)
 (hline:(apos.endLine==cpos.line)=true:=by rfl)(hs:Fg [a,e] X.env=(false,eval a X.env)::Fg [e] X.env:=by rfl)(hplain:(GQ cpos (Fg [e] X.env)).any (·.1)=false:=by rfl)
 (hsw:G0 (.Call (.Attribute (.Name x px) "insert" apos) [a,e] [] cpos) none pos.line X.env=pure false:=by rfl) :
 Ej X rl (.Expr (.Call (.Attribute (.Name x px) "insert" apos) [a,e] [] cpos) pos) (uI i xX fs) :=
 lS i PySem.F.slot_list_insert PySem.F.type_list_insert nE uV ha hN hv hd hcd hbase hfew hline hs hplain hsw
noncomputable def insW(ws:List W):Option (Int×EW):=match fX ws with
 | some [.int i,x]=>some (i,x)
 | _=>none
theorem insW_d(i:Int)(x:EW):insW [.d (.int i),.d x]=some (i,x):=rfl
theorem uf{ws:List W}{p:Int×EW}:insW ws=some p↔fX ws=some [.int p.1,p.2]:=by
 constructor
 · intro h
   unfold insW at h
   split at h
   · rename_i i x e;cases h;exact e
   · cases h
 · intro h;unfold insW;rw[h]
theorem m_gIns(xs:List EW)(ws:List W):xX xs ws=aP (insW ws) fun p=>DC (0<=p.1) (DC (p.1<=xs.length) (DC (xs.length<sizeLine) (ret (insAt xs p.1.toNat p.2)))):=by
 refine ah fun Q=>?_
 simp only[xX,aq,uf,DC,ret]
 exact⟨fun⟨i,x,e,a,b,c,q⟩=>⟨(i,x),e,a,b,c,q⟩,fun⟨p,e,a,b,c,q⟩=>⟨p.1,p.2,e,a,b,c,q⟩⟩
noncomputable def ER:=EY @m_gIns (@insW_d)
end
noncomputable def EK(K:W.Frag)(rl:RlT)(H₀ F₁ H₁ F:Hp)(b:Addr)(xs:List EW):Prop:=∃vs,H₁ b=some (.lst vs)/\F₁ b=none/\rl.a≠some b/\H₀ b=none/\Reps K F vs xs
structure Cl (K:W.Frag) (rl:RlT) (F₀ H₀ F₁ H₁ F:Hp) (a:Addr) (as:List Addr) (xss:List (List EW)):Prop where
 g:Grow rl F₀ H₀ F₁ H₁
 ha:H₁ a=some (.lst (as.map V.ref))
 ra:rl.a≠some a
 nd:as.Nodup
 nm:a∉as
 inn:Gy (EK K rl H₀ F₁ H₁ F) as xss
theorem Cl.mono{K:W.Frag}{rl:RlT}{F₀ H₀ F₁ H₁ F F':Hp}{a:Addr}{as:List Addr}{xss:List (List EW)}(c:Cl K rl F₀ H₀ F₁ H₁ F a as xss)(s:bC F F'):Cl K rl F₀ H₀ F₁ H₁ F' a as xss :=
 ⟨c.g,c.ha,c.ra,c.nd,c.nm,Gy.mapP c.inn fun _ _ ⟨vs,h1,h2,h3,h4,h5⟩=>⟨vs,h1,h2,h3,h4,h5.mono s⟩⟩
theorem fL{α β:Type}{R:α->β->Prop}:∀{xs:List α}{ys:List β},Gy R xs ys->∀{n:Nat}{y:β},ys[n]?=some y->∃x,xs[n]?=some x/\R x y
 | _,_,.nil,n,y,e=>by simp at e
 | _,_,.cons r rs,0,y,e=>by simp at e;subst e;exact⟨_,rfl,r⟩
 | _,_,.cons r rs,n+1,y,e=>by simpa using fL rs (n:=n) (by simpa using e)
theorem jn{α β:Type}{R R':α->β->Prop}{x:α}(k:∀a b,a≠x->R a b->R' a b):∀{xs:List α}{ys:List β},Gy R xs ys->x∉xs->Gy R' xs ys
 | _,_,.nil,_=>.nil
 | _,_,.cons r rs,n=>.cons (k _ _ (fun z=>n (z▸Ff)) r) (jn k rs fun z=>n (E9 _ z))
theorem gO{α β:Type}{R R':α->β->Prop}{x:α}{y:β}(h:R' x y)(k:∀a b,a≠x->R a b->R' a b):∀{xs:List α}{ys:List β},Gy R xs ys->xs.Nodup->∀{n:Nat},xs[n]?=some x->Gy R' xs (ys.set n y)
 | _,_,.nil,_,n,e=>by simp at e
 | x0::xs,y0::ys,.cons r rs,nd,0,e=>by
   simp at e
   subst e
   rw[List.set_cons_zero]
   exact .cons h (jn k rs (Hs.mp nd).1)
 | x0::xs,y0::ys,.cons r rs,nd,n+1,e=>by
   rw[List.set_cons_succ]
   have e':xs[n]?=some x:=by simpa using e
   exact .cons (k _ _ (fun z=>(Hs.mp nd).1 (z▸Hm e')) r) (gO h k rs (Hs.mp nd).2 e')
theorem cS.apart{K:W.Frag}{o:HO}{w:W}(r:cS K rl F H v w)(ne:w.own=true->v ≠ .ref b)(np:∀xs,w ≠ .pk xs):cS K rl F (Cb H b o) v w:=by
 cases w with
 | ml xs=>obtain⟨a,vs,e,h1,h2,h3,h4⟩:=r;exact⟨a,vs,e,h1,h2,by rw[ak (fun z=>ne rfl (by rw[e,z]))];exact h3,h4⟩
 | pk xs=>exact absurd rfl (np xs)
 | md kvs=>obtain⟨a,vs,e,h1,h2,h3,h4⟩:=r;exact⟨a,vs,e,h1,h2,by rw[ak (fun z=>ne rfl (by rw[e,z]))];exact h3,h4⟩
 | mk kvs=>obtain⟨a,vs,e,h1,h2,h3,h4⟩:=r;exact⟨a,vs,e,h1,h2,by rw[ak (fun z=>ne rfl (by rw[e,z]))];exact h3,h4⟩
 | _=>exact r
theorem VR.moved{K:W.Frag}{F₁ H₁:Hp}{o o':HO}(R:VR K rl F₁ H₁ F H σ ρ)(hb:H₁ b=some o)(fb:F₁ b=none)(rb:rl.a≠some b):VR K rl F₁ (Cb H₁ b o') F (Cb H b o') σ ρ:=by
 have f:F b=none:=by rw[R.g.old b _ hb];exact fb
 have neF:∀c u,F c=some u->c≠b:=fun c u q z=>by subst z;rw[f]at q;cases q
 have own:∀{v w},de H₁ v w->w.own=true->v ≠ .ref b:=fun n ow z=>by have:=n.none ow z;rw[hb]at this;cases this
 refine⟨⟨fun c u q n=>?_,R.g.fs,fun c u q=>by rw[ak (neF c u q)];exact R.sub c u q,fun c u q=>?_,fun r er=>?_⟩,fun i w e=>?_,R.ap,R.np,R.len⟩
 · by_cases z:c=b
   · subst z;rw[ar]at q ⊢;exact q
   · rw[ak z]at q ⊢;exact R.g.same c u q n
 · by_cases z:c=b
   · subst z;rw[f,fb]
   · rw[ak z]at q;exact R.g.old c u q
 · obtain⟨h1,⟨o2,h2,h3⟩⟩:=R.g.reel r er
   exact⟨h1,⟨o2,by rw[ak (fun z=>rb (by rw[<- z];exact er))];exact h2,h3⟩⟩
 · obtain⟨v,h1,h2,h3⟩:=R.sl i w e
   refine⟨v,h1,h2.apart (own h3) (fun xs z=>R.np i xs (z▸e)),?_⟩
   cases w with
   | ml xs=>exact fun a ea=>by rw[ak (fun z=>own h3 rfl (by rw[ea,z]))];exact h3 a ea
   | md xs=>exact fun a ea=>by rw[ak (fun z=>own h3 rfl (by rw[ea,z]))];exact h3 a ea
   | mk xs=>exact fun a ea=>by rw[ak (fun z=>own h3 rfl (by rw[ea,z]))];exact h3 a ea
   | _=>trivial
theorem Cl.moved{K:W.Frag}{F₁ H₁:Hp}{as:List Addr}(c:Cl K rl F₀ H₀ F₁ H₁ F a as xss)(e:as[n]?=some b)(fb:F₁ b=none)(rb:rl.a≠some b)(h0:H₀ b=none)(rs:Reps K F vs xs) :
 Cl K rl F₀ H₀ F₁ (Cb H₁ b (.lst vs)) F a as (xss.set n xs):=by
 have nb:∀d u,F₁ d=some u->d≠b:=fun d u q z=>by subst z;rw[fb]at q;cases q
 refine⟨⟨fun d u q m=>by rw[ak (aO q h0)];exact c.g.same d u q m,c.g.fs,fun d u q=>by rw[ak (nb d u q)];exact c.g.sub d u q,c.g.old,fun r er=>?_⟩,?_,c.ra,c.nd,c.nm,gO (R':=EK K rl H₀ F₁ (Cb H₁ b (.lst vs)) F) (x:=b) ⟨vs,ar,fb,rb,h0,rs⟩ (fun d ys nd ⟨us,h1,h2⟩=>⟨us,by rw[ak nd];exact h1,h2⟩) c.inn c.nd e⟩
 · obtain⟨h1,⟨o2,h2,h3⟩⟩:=c.g.reel r er
   exact⟨h1,⟨o2,by rw[ak (fun z=>rb (by rw[<- z];exact er))];exact h2,h3⟩⟩
 · rw[ak (show a≠b from fun z=>by subst z;exact c.nm (Hm e))]
   exact c.ha
structure MEnds where
 nx:List (List EW)->En->Prop
 rt:W->Prop
structure EndsM (K:W.Frag) (rl:RlT) (F₀ H₀:Hp) (a:Addr) (as:List Addr) (Fs:Hp) (Dm:MEnds) (D:Ends):Prop where
 nx:∀F₁ H₁ F H σ ρ xss,bC Fs F->Cl K rl F₀ H₀ F₁ H₁ F a as xss->VR K rl F₁ H₁ F H σ ρ->Dm.nx xss ρ->D.nx σ H
 rt:∀v w F H,Grow rl F₀ H₀ F H->cS K rl F H v w->de H₀ v w->Dm.rt w->D.rt v H
theorem EndsM.on{K:W.Frag}{as:List Addr}{Fs:Hp}{Dm:MEnds}{D:Ends}(ok:EndsM K rl F₀ H₀ a as Fs Dm D)(s:bC Fs F):EndsM K rl F₀ H₀ a as F Dm D :=
 ⟨fun F₁ H₁ F' H σ ρ xss s'=>ok.nx F₁ H₁ F' H σ ρ xss (s.trans s'),ok.rt⟩
abbrev D2:=Addr->MEnds->List (List EW)->En->Prop
noncomputable def Ek(X:Cx)(rl:RlT)(st:Stmt)(t:D2):Prop:=∃T,PS X st T/\∀{F₀ H₀ F₁ H₁ F H:Hp}{σ:St}{ρ:En}{a:Addr}{as:List Addr}{xss:List (List EW)},Cl X.K rl F₀ H₀ F₁ H₁ F a as xss->VR X.K rl F₁ H₁ F H σ ρ->∀Dm D,EndsM X.K rl F₀ H₀ a as F Dm D->t a Dm xss ρ->T D σ H
noncomputable def xM(X:Cx)(rl:RlT)(st:List Stmt)(t:D2):Prop:=∃T,Ei X st T/\∀{F₀ H₀ F₁ H₁ F H:Hp}{σ:St}{ρ:En}{a:Addr}{as:List Addr}{xss:List (List EW)},Cl X.K rl F₀ H₀ F₁ H₁ F a as xss->VR X.K rl F₁ H₁ F H σ ρ->∀Dm D,EndsM X.K rl F₀ H₀ a as F Dm D->t a Dm xss ρ->T D σ H
noncomputable def xi:D2:=fun _ Dm xss ρ=>Dm.nx xss ρ
noncomputable def AW(t u:D2):D2:=fun a Dm xss ρ=>t a {Dm with nx:=u a Dm} xss ρ
noncomputable def Df(t:D1):D2:=fun _ Dm xss ρ=>t ⟨fun ρ'=>Dm.nx xss ρ',Dm.rt,fun _=>False,fun _=>False⟩ ρ
section
variable{X:Cx}{rl:RlT}{st:Stmt}{rest body:List Stmt}{t:D1}{u v:D2}{e:Expr}{fa:TV}{pos p:Pos}
theorem tW:xM X rl [] xi:=⟨_,nj,fun C R Dm D ok q=>ok.nx _ _ _ _ _ _ _ (.refl _) C R q⟩
theorem dj(h:Ek X rl st u)(h2:xM X rl rest v):xM X rl (st::rest) (AW u v):=by
 obtain⟨T,p,k⟩:=h
 obtain⟨T2,p2,k2⟩:=h2
 exact⟨_,ff p p2,fun C R Dm D ok q=>k C R {Dm with nx:=v _ Dm} {D with nx:=T2 D} ⟨fun F₁ H₁ F' H' σ' ρ' xss' s' C' R' q'=>k2 C' R' Dm D (ok.on s') q',ok.rt⟩ q⟩
theorem uK(h:Ej X rl st t):Ek X rl st (Df t):=by
 obtain⟨T,p,k⟩:=h
 exact⟨T,p,fun C R Dm D ok q=>k R _ D ⟨fun F' H' σ' ρ' s R' q'=>ok.nx _ _ _ _ _ _ _ s (C.mono s) R' q',fun v w F' H' g r n q'=>ok.rt v w F' H' (C.g.trans g) r (de.back C.g n) q',fun _ _ _ _ _ _ z=>GR z,fun _ _ _ _ _ _ z=>GR z⟩ q⟩
noncomputable def AX(fi:En->(List EW->Prop)->Prop)(g:D5)(t:D2):D2:=fun a Dm xss ρ=>fi ρ fun ys=>∃J:Nat->List (List EW)->En->Prop,J 0 xss ρ /\
 (∀i y xss ρ,ys[i]?=some y->J i xss ρ->g y ρ fun ρ2=>t a {Dm with nx:=J (i+1)} xss ρ2)/\∀xss ρ,J ys.length xss ρ->Dm.nx xss ρ
theorem xh{g:D5}(hp:KU (FT X.prog X.w) X.A X.env X.xe)(hc:X.calm=true)(hi:Ep X rl tg iter fi)(hg:Et X rl tg g)(hb:xM X rl body u)
 (hs:∀x,FF iter X.env x=pure x:=by intro _;rfl):Ek X rl (.For tg iter body [] pos) (AX fi g u):=by
 obtain⟨wi,p0,k0⟩:=hi
 obtain⟨G,p1,k1⟩:=hg
 obtain⟨T,p2,k2⟩:=hb
 refine⟨_,qU hp hc p0 p1 p2 hs,fun{F₀ H₀ F₁ H₁ F H σ ρ a as xss} C R Dm D ok q=>k0 R _ _ q fun I xs F1 H1 g1 vi ⟨J,j0,turn,fin⟩=>?_⟩
 refine⟨fun i m σ H=>m=xs.length-i/\i<=xs.length/\∃F₁ H₁ F ρ xss,bC F1 F/\Cl X.K rl F₀ H₀ F₁ H₁ F a as xss/\VR X.K rl F₁ H₁ F H σ ρ/\J i xss ρ,⟨xs.length,by simp,FI _,F₁,H₁,F1,ρ,xss,.refl _,C.mono g1.fs,R.grow g1,j0⟩,?_⟩
 rintro i m σ H ⟨rfl,hi,E₁,G₁,F2,ρ2,xs2,s2,C2,R2,j2⟩
 have sH:bC F1 H:=s2.trans R2.sub
 by_cases hlt:i<xs.length
 · have ei:xs[i]?=some xs[i]:=by simp[hlt]
   refine .inr ⟨vi.go i H _ ei sH,fun σ' H'=>∃F₁ H₁ F ρ xss,bC F1 F/\Cl X.K rl F₀ H₀ F₁ H₁ F a as xss/\VR X.K rl F₁ H₁ F H' σ' ρ/\J (i+1) xss ρ,fun σ' H' z=>⟨xs.length-(i+1),by omega,rfl,hlt,z⟩,fun v H' y=>?_⟩
   obtain⟨Fy,gy,rv⟩:=vi.yld i H v H' _ F2 ei s2 R2.sub R2.reel y
   refine k1 (R2.grow gy) v _ _ _ rv (turn i _ xs2 ρ2 ei j2) fun F3 H3 σ3 ρ3 s3 n3 R3 q3=>?_
   have s13:bC F1 F3:=s2.trans (gy.fs.trans s3.fs)
   exact k2 (C2.mono (gy.fs.trans s3.fs)) R3 {Dm with nx:=J (i+1)} _ ⟨fun E' G' F4 H4 σ4 ρ4 xs4 s4 C4 R4 q4=>⟨E',G',F4,ρ4,xs4,s13.trans s4,C4,R4,q4⟩,ok.rt⟩ q3
 · have e:i=xs.length:=by omega
   subst e
   exact .inl ⟨vi.stop _ H (Fa _) sH,ok.nx _ _ _ _ _ _ _ (g1.fs.trans s2) C2 R2 (fin _ _ j2)⟩
noncomputable def Bp(ic ik ix:Nat):D2:=fun a Dm xss ρ=>ρ[ic]?=some (some (.vv (.ref a)))/\∃(n:Nat)(xs:List EW)(d:EW),ρ[ik]?=some (some (.d (.int n)))/\xss[n]?=some xs/\ρ[ix]?=some (some (.d d))/\xs.length<sizeLine/\Dm.nx (xss.set n (xs++[d])) ρ
theorem oT{as:List Addr}(e:as[n]?=some b):atI (as.map V.ref) (n:Int)=some (V.ref b):=by
 have hl:n<as.length:=(FK.mp e).1
 rw[ck]
 unfold atI
 rw[show ixN as.length (n:Int)=some n by unfold ixN;simp;omega,Option.bind_some,e]
 rfl
theorem ze(ic ik ix:Nat){c k:Str}{pc pk p1 apos:Pos} 
 (hc:X.N[ic]?=some c:=by rfl)(vc:DW X.env.scope c:=by first|exact G3 rfl|exact GA (G3 rfl)|exact GA (GA rfl))(dc:(c==("__debug__" : Str))=false:=by decide)(ec:(c==("__classdict__" : Str))=false:=by decide)
 (hk:X.N[ik]?=some k:=by rfl)(vk:DW X.env.scope k:=by first|exact G3 rfl|exact GA (G3 rfl)|exact GA (GA rfl))(dk:(k==("__debug__" : Str))=false:=by decide)(ek:(k==("__classdict__" : Str))=false:=by decide)
 (hx:X.N[ix]?=some x:=by rfl)(vx:DW X.env.scope x:=by first|exact G3 rfl|exact GA (G3 rfl)|exact GA (GA rfl))(dx:(x==("__debug__" : Str))=false:=by decide)(ex:(x==("__classdict__" : Str))=false:=by decide)
 (hs:i3 (.Name k pk):=by exact fun _ _=>rfl)
 (hbase:II (.Subscript (.Name c pc) (.Name k pk) p1) "append" X.env (eval (.Subscript (.Name c pc) (.Name k pk) p1) X.env)=eval (.Subscript (.Name c pc) (.Name k pk) p1) X.env:=by rfl)
 (hfew:((GQ cpos (Fg [.Name x px] X.env)).all (fun x=>!x.1)&&(JT cpos (Iz [] X.env)).all (fun x=>x.1.isSome)
  && decide (([.Name x px]:List Expr).length+([]:List IR).length+(if([]:List IR).isEmpty then 0 else 1)<30))=true:=by rfl)
 (hline:(apos.endLine==cpos.line)=true:=by rfl)(hst:Fg [.Name x px] X.env=(false,eval (.Name x px) X.env)::Fg [] X.env:=by rfl)(hplain:(GQ cpos (Fg [] X.env)).any (·.1)=false:=by rfl)
 (hsw:G0 (.Call (.Attribute (.Subscript (.Name c pc) (.Name k pk) p1) "append" apos) [.Name x px] [] cpos) none pos.line X.env=pure false:=by rfl) :
 Ek X rl (.Expr (.Call (.Attribute (.Subscript (.Name c pc) (.Name k pk) p1) "append" apos) [.Name x px] [] cpos) pos) (Bp ic ik ix):=by
 refine⟨_,nl (wH JW JO JP dQ (tE nY (cR hc vc dc ec) (cR hk vk dk ek) hs) (fM (cR hx vx dx ex) nA hst) hbase hfew hline hst hplain) hsw,fun{F₀ H₀ F₁ H₁ F H σ ρ a as xss} C R Dm D ok ⟨e1,n,xs,d,e2,e3,e4,hl,q⟩=>?_⟩
 obtain⟨v1,s1,rfl,_⟩:=R.sl ic _ e1
 obtain⟨v2,s2,r2,_⟩:=R.sl ik _ e2
 have ev2:=aQ r2
 subst ev2
 obtain⟨v3,s3,r3,_⟩:=R.sl ix _ e4
 obtain⟨b,eb,vs,h1,h2,h3,h4,h5⟩:=fL C.inn e3
 have ha:H a=some (.lst (as.map V.ref)):=R.g.same a _ C.ha C.ra
 have hb:H b=some (.lst vs):=R.g.same b _ h1 h3
 refine⟨_,s1,_,s2,.inl ⟨a,_,_,_,rfl,rfl,.inl (.inl ha),oT eb,.inl ⟨rfl,vs,.inl (.inl hb)⟩,_,s3,b,vs,_,rfl,rfl,hb,by rw[h5.length];exact hl,?_⟩⟩
 exact ok.nx F₁ _ F _ σ ρ _ (.refl _) (C.moved eb h2 h3 h4 (h5.snoc r3)) (R.moved h1 h2 h3) q
noncomputable def Bo(i jf ic ik:Nat)(Pd:List W->(EW->Prop)->Prop)(f3:TV):D2:=fun a Dm xss ρ=>ρ[jf]?=some (some .reel)/\ρ[ic]?=some (some (.vv (.ref a)))/\∃(n:Nat)(xs:List EW),ρ[ik]?=some (some (.d (.int n)))/\xss[n]?=some xs /\
 f3 ρ fun w=>∃b:Bool,w = .d (.bool b)/\Pd [.reel,.d (.list xs),.d (.bool b)] fun d=>(∃p q:Int,d = .tuple [.int p,.int q])/\Dm.nx xss (ρ.set i (some (.d d)))
theorem zc(i jf ic ik:Nat){f h c k:Str}{pf ph pc pk p1:Pos}{e3:Expr}{f3:TV}{ps:List Str}{kk:Nat}{Pd:List W->(EW->Prop)->Prop}(hN:X.N.Nodup)(Dd:Dfn X.prog X.w X.K X.mg X.base rl f ps kk Pd)(hr:Room kk X.A)(h3:PV X rl e3 f3)
 (hi:X.N[i]?=some x:=by rfl)(hx:Loc X.env.scope x:=by first|exact G3 rfl|exact GA rfl)(hf:X.fn x=true\/X.env.scope.names.lookup x=some .local:=by first|exact .inl rfl|exact .inr rfl)
 (hh:X.N[jf]?=some h:=by rfl)(vh:DW X.env.scope h:=by first|exact G3 rfl|exact GA (G3 rfl)|exact GA (GA rfl))(dh:(h==("__debug__" : Str))=false:=by decide)(eh:(h==("__classdict__" : Str))=false:=by decide)
 (hc:X.N[ic]?=some c:=by rfl)(vc:DW X.env.scope c:=by first|exact G3 rfl|exact GA (G3 rfl)|exact GA (GA rfl))(dc:(c==("__debug__" : Str))=false:=by decide)(ec:(c==("__classdict__" : Str))=false:=by decide)
 (hk:X.N[ik]?=some k:=by rfl)(vk:DW X.env.scope k:=by first|exact G3 rfl|exact GA (G3 rfl)|exact GA (GA rfl))(dk:(k==("__debug__" : Str))=false:=by decide)(ek:(k==("__classdict__" : Str))=false:=by decide)
 (hs:i3 (.Name k pk):=by exact fun _ _=>rfl)(hg:Gl X f:=by rfl)(hdb:(f==("__debug__" : Str))=false:=by decide)
 (st1:Fg [.Name h ph,.Subscript (.Name c pc) (.Name k pk) p1,e3] X.env=(false,eval (.Name h ph) X.env)::Fg [.Subscript (.Name c pc) (.Name k pk) p1,e3] X.env:=by rfl)
 (st2:Fg [.Subscript (.Name c pc) (.Name k pk) p1,e3] X.env=(false,eval (.Subscript (.Name c pc) (.Name k pk) p1) X.env)::Fg [e3] X.env:=by rfl)(st3:Fg [e3] X.env=(false,eval e3 X.env)::Fg [] X.env:=by rfl)
 (hpl:(GQ cpos (Fg [.Subscript (.Name c pc) (.Name k pk) p1,e3] X.env)).any (·.1)=false:=by rfl)
 (hsw:G0 (.Call (.Name f pf) [.Name h ph,.Subscript (.Name c pc) (.Name k pk) p1,e3] [] cpos) (some (.Name x px)) pos.line X.env=pure false:=by rfl) :
 Ek X rl (.Assign [.Name x px] (.Call (.Name f pf) [.Name h ph,.Subscript (.Name c pc) (.Name k pk) p1,e3] [] cpos) pos) (Bo i jf ic ik Pd f3):=by
 obtain⟨fa,fd,hm,hkp,hb,Fk⟩:=Dd.ex
 obtain⟨t3,p3,k3⟩:=h3
 refine⟨_,fK hN hi hx (jN Fk hr hg hm hkp hb .nil tI (fM (cR hh vh dh eh) (fM (tE nY (cR hc vc dc ec) (cR hk vk dk ek) hs) (fM p3 nA st3) st2) st1) hdb st1 hpl) hsw hf,fun{F₀ H₀ F₁ H₁ F H σ ρ a as xss} C R Dm D ok ⟨e0,e1,n,xs,e2,e3,q⟩=>?_⟩
 obtain⟨v0,s0,⟨r,er,rfl⟩,_⟩:=R.sl jf _ e0
 obtain⟨v1,s1,rfl,_⟩:=R.sl ic _ e1
 obtain⟨v2,s2,r2,_⟩:=R.sl ik _ e2
 have ev2:=aQ r2
 subst ev2
 obtain⟨b,eb,vs,h1,h2,h3,h4,h5⟩:=fL C.inn e3
 have ha:H a=some (.lst (as.map V.ref)):=R.g.same a _ C.ha C.ra
 have hb:H b=some (.lst vs):=R.g.same b _ h1 h3
 refine⟨_,s0,_,s1,_,s2,.inl ⟨a,_,_,_,rfl,rfl,.inl (.inl ha),oT eb,k3 R _ _ q fun v3 w3 F3 H3 g3 r3 n3 ⟨bb,ew,q3⟩=>?_⟩⟩
 subst ew
 have hb3:H3 b=some (.lst vs):=g3.same b _ hb h3
 have fb3:F3 b=none:=by rw[g3.old b _ hb,R.g.old b _ h1];exact h2
 have nb3:∀d u,F3 d=some u->d≠b:=fun d u z y=>by subst y;rw[fb3]at z;cases z
 have fsm:bC F3 (Cb F3 b (.lst vs)):=fun d u z=>by rw[ak (nb3 d u z)];exact z
 have sub:bC (Cb F3 b (.lst vs)) H3:=fun d u z=>by
  by_cases y:d=b
  · subst y;rw[ar]at z;cases z;exact hb3
  · rw[ak y]at z;exact g3.sub d u z
 have ra:Ed rl (Cb F3 b (.lst vs)) H3:=fun r er=>by
  obtain⟨z1,⟨o,z2,z3⟩⟩:=g3.reel r er
  exact⟨by rw[ak (fun y=>h3 (by rw[<- y];exact er))];exact z1,⟨o,z2,z3.mono fsm⟩⟩
 have rb:rl.b.1≠b:=by
  obtain⟨_,⟨o,_,_,_,_,_,z,_⟩⟩:=g3.reel r er
  exact nb3 _ _ z
 refine⟨Cb F3 b (.lst vs),[.reel,.d (.list xs),.d (.bool bb)],sub,ra,.cons ⟨r,er,rfl⟩ (.cons (Rep.lst ar (h5.mono (g3.fs.trans fsm))) (.cons (Rep.mono fsm r3) .nil)),rfl,Dd.mono _ _ _ (fun d ⟨⟨p,q,ed⟩,qn⟩ v F4 H4 g4 r4=>?_) q3⟩
 subst ed
 have f4b:F4 b=some (.lst vs):=g4.fs b _ ar
 let F5:Hp:=fun d=>if d=b then none else F4 d
 have e5:∀d,d≠b->F5 d=F4 d:=fun d y=>if_neg y
 have e5b:F5 b=none:=if_pos rfl
 have g5:Grow rl F3 H3 F5 H4:=by
  refine⟨g4.same,fun d u z=>?_,fun d u z=>?_,fun d u z=>?_,fun r er=>?_⟩
  · rw[e5 d (nb3 d u z)];exact g4.fs d u (fsm d u z)
  · by_cases y:d=b
    · subst y;rw[e5b]at z;cases z
    · rw[e5 d y]at z;exact g4.sub d u z
  · by_cases y:d=b
    · subst y;rw[e5b,fb3]
    · rw[e5 d y,g4.old d u z,ak y]
  · obtain⟨z1,⟨o,z2,x1,x2,x3,z3,z4,z5⟩⟩:=g4.reel r er
    exact ⟨by by_cases y:r=b
              · subst y;exact e5b
              · rw[e5 r y];exact z1,⟨o,z2,x1,x2,x3,z3,by rw[e5 _ rb];exact z4,z5⟩⟩
 have r5:Rep X.K F5 v (.tuple [.int p,.int q]):=by
  cases r4 with
  | @tup a' us _ sq rs =>
    have ev:=dO (ns:=[p,q]) rs
    subst ev
    refine .tup ?_ (fG [p,q])
    rcases sq with(z|⟨o,z⟩)|z
    · exact .inl (.inl (by rw[e5 _ (fun y=>by subst y;rw[f4b]at z;cases z)];exact z))
    · exact .inl (.inr ⟨o,by rw[e5 _ (fun y=>by subst y;rw[f4b]at z;cases z)];exact z⟩)
    · exact .inr z
 exact ok.nx F₁ H₁ F5 H4 _ _ xss (g3.fs.trans g5.fs) (C.mono (g3.fs.trans g5.fs)) (R.set (g3.trans g5) (w:=.d _) r5 trivial (fun _ z=>by cases z) i) qn
end
theorem VR.here{K:W.Frag}(R:VR K rl F₀ H₀ F H σ ρ)(n:jz ρ):VR K rl F H F H σ ρ:=by
 refine⟨Grow.refl R.sub R.reel,fun i w e=>?_,R.ap,R.np,R.len⟩
 obtain⟨v,h1,h2,_⟩:=R.sl i w e
 have ow:=n i w e
 refine⟨v,h1,h2,?_⟩
 cases w with
 | ml _=>cases ow
 | md _=>cases ow
 | mk _=>cases ow
 | _=>trivial
theorem gP{α β:Type}{R:α->β->Prop}{y:β}:∀{xs:List α},(∀x∈xs,R x y)->Gy R xs (FQ xs.length y)
 | [],_=>.nil
 | x::xs,h=>by rw[FJ,GL];exact .cons (h x Ff) (gP fun z mz=>h z (E9 _ mz))
section
variable{X:Cx}{rl:RlT}{rest:List Stmt}{u:D2}{tg iter:Expr}{scope:Scope}{fi:En->(List EW->Prop)->Prop}
noncomputable def Dg(ic:Nat)(fi:En->(List EW->Prop)->Prop)(fr:List (Option Nat))(u:D2):D1:=fun Dv ρ=>fi ρ fun xs=>jz ρ/\(∀x,Le (c_ fr ρ) ((c_ fr ρ).set 0 (some (.d x))))/\xs.length<=sizeLine/\∀a,u a ⟨fun _ _=>False,Dv.rt⟩ (FQ xs.length []) (ρ.set ic (some (.vv (.ref a))))
theorem y9(ic:Nat){b:Bool}{lp:Pos}(hN:X.N.Nodup)(N':List Str)(fr:List (Option Nat))(hc:X.calm=true)(hi:Ep X rl tg iter fi)
 (hg:∀y,Et (blk X N' scope y) rl tg (qf 0))(hrest:xM X rl rest u)
 (hsw:G0 (.ListComp (.List [] lp) [⟨tg,iter,[],0⟩] scope pos) (some (.Name x px)) spos.line X.env=pure b:=by rfl)
 (hix:X.N[ic]?=some x:=by rfl)(hx:Loc X.env.scope x:=by first|exact G3 rfl|exact GA rfl)(hf:X.fn x=true\/X.env.scope.names.lookup x=some .local:=by first|exact .inl rfl|exact .inr rfl)
 (hfr:jV fr N' X.N scope X.env.scope=true:=by rfl)(hsc:kF scope X.env.scope=true:=by rfl)
 (hs:∀x,FF iter X.env x=pure x:=by intro _;rfl):lj X rl (.Assign [.Name x px] (.ListComp (.List [] lp) [⟨tg,iter,[],0⟩] scope pos) spos::rest) (Dg ic fi fr u):=by
 have ht:∀y,jA (blk X N' scope y) rl [] (fun _ Q=>Q true):=fun _=>bQ
 have he:∀y,PV (blk X N' scope y) rl (.List [] lp) (sa mo):=fun _=>ce ab
 obtain⟨wi,p0,k0⟩:=hi
 obtain⟨T2,p2,k2⟩:=hrest
 refine⟨_,ff (gN N' fr hc p0 hfr hsc (fun y=>(E5 (hg y)).1) (fun y=>(E5 (ht y)).1) (fun y=>(E5 (he y)).1) hN hix hx hf hsw hs) p2,fun{F₀ H₀ F H σ ρ} R Dv D ok q=>k0 R _ _ q fun J xs F1 H1 g1 vi ⟨nm,le,hz,q1⟩=>?_⟩
 intro a hD
 have rne:∀c,H1 c=none->rl.a≠some c:=fun c z e=>by obtain⟨o,y⟩:=g1.reel.live e;rw[z]at y;cases y
 have rD:=rne a hD
 have FD:F1 a=none:=g1.sub.free hD
 have gD:Grow rl F1 H1 F1 (Cb H1 a (.lst [])):=Grow.laid g1.sub g1.reel hD
 have R1:=R.grow g1
 have n0:jz (c_ fr ρ):=cC
 refine⟨fun i m acc σc Hc=>m=xs.length-i/\i<=xs.length/\∃Fc as,acc=as.map V.ref/\as.length=i/\as.Nodup/\a∉as/\(∀b∈as,H1 b=none/\Hc b=some (.lst [])/\Fc b=none)/\VR X.K rl F1 H1 Fc Hc σc (c_ fr ρ)/\Hc a=some (.lst acc)/\Fc a=none,
  ⟨xs.length,by simp,FI _,F1,[],rfl,rfl,List.nodup_nil,by simp,by simp,dC R1 gD,ar,FD⟩,?_⟩
 rintro z i m acc σc Hc ⟨rfl,hi,Fc,as,rfl,hl,nd,na,hin,Rc,hac,fac⟩
 have sH:bC F1 Hc:=Rc.g.fs.trans Rc.sub
 by_cases hlt:i<xs.length
 · have ei:xs[i]?=some xs[i]:=by simp[hlt]
   refine .inr ⟨vi.go i Hc _ ei sH,fun v H' y=>?_⟩
   obtain⟨Fy,gy,rv⟩:=vi.yld i Hc v H' _ Fc ei Rc.g.fs Rc.sub Rc.reel y
   refine(E5 (hg z)).2 (Rc.grow gy) v _ (fun ρ3=>Le (c_ fr ρ) ρ3) _ rv (le _) fun F3 H3 σ3 ρ3 g3 n3 R3 le3=>?_
   refine(E5 (ht z)).2 R3 (fun b=>b=true) _ rfl fun b F4 H4 g4 eb=>?_
   subst eb
   rw[if_pos rfl]
   have R4:=R3.grow g4
   have g34:=(gy.trans g3).trans g4
   refine(E5 (he z)).2 R4 (fun w=>w = .ml []) _ ⟨[],rfl,FI _,rfl⟩ fun v5 w5 F5 H5 g5 r5 n5 ew=>?_
   subst ew
   obtain⟨b,us,rfl,f5,rb,hb5,rs⟩:=(show hJ X.K rl F5 H5 v5 []from r5)
   cases rs
   have hb4:H4 b=none:=n5 b rfl
   have g35:=g34.trans g5
   have hb1:H1 b=none:=(Rc.g.trans g34).freeB hb4
   have ne4:∀c o,Hc c=some o->rl.a≠some c->c≠b:=fun c o e n y=>by have:=g34.same c o e n;rw[y,hb4]at this;cases this
   have nba:a≠b:=ne4 a _ hac rD
   have nb:b∉as:=fun mb=>ne4 b _ (hin b mb).2.1 (rne b hb1) rfl
   refine⟨g35.same a _ hac rD,by rw[Fd];omega,xs.length-(i+1),by omega,rfl,hlt,F5,as++[b],by rw[FY];rfl,by rw[Fj,hl];rfl,?_,?_,fun c mc=>?_,((R4.grow g5).le le3).other n0 hD (by rw[g35.old a _ hac];exact fac) rD,ar,by rw[g35.old a _ hac];exact fac⟩
   · refine List.nodup_append.mpr ⟨nd,by simp,fun c mc d md y=>?_⟩
     cases Gb.mp md
     exact nb (y▸mc)
   · simp only[Ga,Gb,not_or]
     exact⟨na,nba⟩
   · rcases Ga.mp mc with mc|mc
     · obtain⟨x1,x2,x3⟩:=hin c mc
       have nc:c≠a:=fun y=>na (y▸mc)
       exact⟨x1,by rw[ak nc];exact g35.same c _ x2 (rne c x1),by rw[g35.old c _ x2];exact x3⟩
     · cases Gb.mp mc
       exact⟨hb1,by rw[ak nba.symm];exact hb5,f5⟩
 · have e:i=xs.length:=by omega
   subst e
   refine .inl ⟨vi.stop _ Hc (Fa _) sH,?_⟩
   have gg:Grow rl F₀ H₀ Fc Hc:=(R.g.trans g1).trans Rc.g
   have Rn:=(R.grow (g1.trans Rc.g)).here nm
   have inn:Gy (EK X.K rl H₀ Fc Hc Fc) as (FQ xs.length []):=by
    rw[<- hl]
    exact gP fun b mb=>by
     obtain⟨x1,x2,x3⟩:=hin b mb
     exact⟨[],x2,x3,rne b x1,(R.g.trans g1).freeB x1,.nil⟩
   exact k2 ⟨gg,hac,rD,nd,na,inn⟩ (Rn.set (Grow.refl Rn.sub Rn.reel) (w:=.vv (.ref a)) rfl trivial (fun _ y=>by cases y) ic) _ D ⟨fun _ _ _ _ _ _ _ _ _ _ y=>GR y,ok.rt⟩ (q1 a)
end
theorem tQ(h:ρ.all (fun o=>match o with|some w=>!w.own|none=>true)=true):jz ρ:=fun i w e=>by
 have:=G5.mp h _ (Hm e)
 simpa using this
noncomputable def mQ(Dm:MEnds)(xss:List (List EW)):Fl->Prop
 | .nx ρ=>Dm.nx xss ρ
 | .rt w=>Dm.rt w
 | _=>False
theorem nJ{Dm:MEnds}(h:Dm.nx xss ρ):ret (Fl.nx ρ) (mQ Dm xss):=h
theorem y_{Dm:MEnds}{w:W}(h:Dm.rt w):ret (Fl.rt w) (mQ Dm xss):=h
theorem cN{t u:D2}{Dm:MEnds}(h:t a {Dm with nx:=u a Dm} xss ρ):AW t u a Dm xss ρ:=h
theorem xw{x:EW}{Q:En->Prop}(h:Q (ρ.set i (some (.d x)))):qf i x ρ Q:=h
theorem nL{g:D5}{t:D2}{Dm:MEnds}(h:fi ρ fun ys=>∃J:Nat->List (List EW)->En->Prop,J 0 xss ρ /\
 (∀i y xss ρ,ys[i]?=some y->J i xss ρ->g y ρ fun ρ2=>t a {Dm with nx:=J (i+1)} xss ρ2)/\∀xss ρ,J ys.length xss ρ->Dm.nx xss ρ):AX fi g t a Dm xss ρ:=h
theorem kN{Dm:MEnds}(h:Dm.nx xss ρ):xi a Dm xss ρ:=h
theorem gT{t:D1}{Dm:MEnds}(h:mS t ρ (mQ Dm xss)):Df t a Dm xss ρ:=by
 have e:Df t a Dm xss ρ=mS t ρ (mQ Dm xss):=rfl
 rw[e];exact h
section
variable{X:Cx}{e1:Expr}{f1:TV}{pos dpos q1 q2 q3 q4 q5 q6 q7:Pos}{j1 j2 j3 j4 j5 j6 j7:Nat}
theorem oo{j1 j2 j3 j4 j5 j6 j7}(h1:PV X RlT.no e1 f1) :
 ∃ T,Ei X [.Return (some (.Dict [some (.Constant (.str "cells") j1 q1),some (.Constant (.str "at") j2 q2),some (.Constant (.str "left") j3 q3),some (.Constant (.str "turn") j6 q6)] [e1,.Constant (.int 0) j4 q4,.Constant (.int 0) j5 q5,.Constant (.int 0) j7 q7] dpos)) pos] T /\
   ∀ {F H:Hp}{σ:St}{ρ:En},VR X.K RlT.no F H F H σ ρ->∀D:Ends,(f1 ρ fun w=>∃ns:List Int,w = .ml (ns.map .int)/\ns.length<=63) ->
     (∀r n' F' H',H r=none->Grow RlT.no F H F' H'->Ed (RlT.at' r n') F' H'->D.rt (.ref r) H')->T D σ H:=by
 obtain⟨g1,pe1,ke1⟩:=h1
 refine⟨_,nh (qT (nw (cJ cU pe1 (cJ cU kH (cJ cU kH (cJ cU kH nn)))) rfl rfl (by intro z;cases z) (by show 4<=15;decide))),fun{F H σ ρ} R D q fin=>?_⟩
 intro p hp
 have gp:Grow RlT.no F H F (Cb H p (.dK [])):=Grow.laid R.sub R.reel hp
 refine ke1 (R.grow gp) _ _ q fun v1 w1 F3 H3 g3 r1 n1 qc=>?_
 obtain⟨ns,rfl,hl⟩:=qc
 obtain⟨F4,g4,s4,r4⟩:=cS.fz (w:=.ml (ns.map .int)) g3 r1 n1
 have r4:Rep X.K F4 v1 (.list (ns.map .int)):=r4
 cases r4 with
 | @lst a vs _ hc rs =>
   have ev:=dO rs
   subst ev
   have hp5:H3 p=some (.dK []):=g3.same p _ ar (by simp)
   refine⟨hp5,[(kC,.ref a),(kA,.int 0),(kL,.int 0),(kT,.int 0)],rfl,(by show 4<=15;decide),?_⟩
   rw[lE]
   have f5:F4 p=none:=by rw[g4.old p _ ar];exact R.sub.free hp
   have g0:Grow RlT.no F H F4 H3:=gp.trans g4
   refine fin p (a,ns) F4 _ hp ⟨fun b o eb _=>by rw[ak (aO eb hp)];exact g0.same b o eb (by simp),g0.fs,fun b o eb=>?_,g0.old,fun _ z=>by cases z⟩ (fun r er=>?_)
   · have:b≠p:=fun z=>by subst z;rw[f5]at eb;cases eb
     rw[ak this]
     exact g0.sub b o eb
   · cases er
     exact⟨f5,⟨_,ar,0,0,0,rfl,hc,hl,by omega,by omega,by omega⟩⟩
end
end L2.VL
namespace L2
abbrev Dr(elt t1 i1:Expr)(f1:List Expr)(t2 i2:Expr)(f2:List Expr)(scope:Scope)(pos:Pos):Expr:=.ListComp elt [⟨t1,i1,f1,0⟩,⟨t2,i2,f2,0⟩] scope pos
theorem si(elt t1 i1:Expr)(f1:List Expr)(t2 i2:Expr)(f2:List Expr)(scope:Scope)(pos:Pos)(it acc:E7)(env:Env) :
 K0 (Dr elt t1 i1 f1 t2 i2 f2 scope pos) 0 it acc env=(KH i1.pos >>= fun _=>Kc it >>= fun r=>match r with
  | none=>pure (.done .next)
  | some v=>Hd t1 it v >>= fun _=>Iq t1 env v >>= fun _=>dr f1 env >>= fun ok=>(if ok=true then
      (eval i2 env >>= fun x=>KH i2.pos >>= fun _=>FF i2 env x >>= fun x=>holding [x] (Ln x) >>= fun y=>runOwn (.compStart (Dr elt t1 i1 f1 t2 i2 f2 scope pos) 1 y acc env) env >>= fun _=>again (.compLoop (Dr elt t1 i1 f1 t2 i2 f2 scope pos) 0 it acc env))
      else again (.compLoop (Dr elt t1 i1 f1 t2 i2 f2 scope pos) 0 it acc env))):=by rfl
theorem se(elt t1 i1:Expr)(f1:List Expr)(t2 i2:Expr)(f2:List Expr)(scope:Scope)(pos:Pos)(it acc:E7)(env:Env) :
 K0 (Dr elt t1 i1 f1 t2 i2 f2 scope pos) 1 it acc env=(KH i2.pos >>= fun _=>Kc it >>= fun r=>match r with
  | none=>pure (.done .next)
  | some v=>Hd t2 it v >>= fun _=>Iq t2 env v >>= fun _=>dr f2 env >>= fun ok=>(if ok=true then
      ((eval elt env >>= fun x=>call (.builtin "list.append") [acc,x] >>= fun _=>pure ()) >>= fun _=>again (.compLoop (Dr elt t1 i1 f1 t2 i2 f2 scope pos) 1 it acc env))
      else again (.compLoop (Dr elt t1 i1 f1 t2 i2 f2 scope pos) 1 it acc env))):=by rfl
section
variable{prog:FS}{w:GD}{A:GJ}{R:Lo->E_->Prop}{s:E_}{elt t1 i1 t2 i2:Expr}{f1 f2:List Expr}{scope:Scope}{pos:Pos}{it acc:E7}{env:Env}
theorem t6(I:Nat->E_->Prop)(hs:∀x,FF i2 env x=pure x)
 (turn:∀n s,I n s->FH (FT prog w) A (Kc it) (fun r s₁=>(r=none/\R (.ok .next) s₁)\/∃v,r=some v /\
  FH (FT prog w) A (Hd t1 it v) (fun _ s₂=>FH (FT prog w) A (Iq t1 env v) (fun _ s₃=>FH (FT prog w) A (dr f1 env) (fun ok s₄ =>
   if ok=true then FH (FT prog w) A (eval i2 env) (fun x s₅=>FH (FT prog w) A (Ln x) (fun y s₆=>Hr (FT prog w) A (.compStart (Dr elt t1 i1 f1 t2 i2 f2 scope pos) 1 y acc env) (fun r s₇=>r = .ok .next/\∃m,m<n/\I m s₇) s₆) (fun _ _=>False) s₅) (fun _ _=>False) s₄
   else ∃m,m<n/\I m s₄) (fun _ _=>False) s₃) (fun _ _=>False) s₂) (fun _ _=>False) s₁) (fun _ _=>False) s)
 (n:Nat)(h:I n s):Hr (FT prog w) A (.compLoop (Dr elt t1 i1 f1 t2 i2 f2 scope pos) 0 it acc env) R s:=by
 refine Kg rfl I (fun n s hI=>?_) n h
 show FH _ A ((K0 (Dr elt t1 i1 f1 t2 i2 f2 scope pos) 0 it acc env).onRaise (fun x=>do K1 x env;Jr x)) _ _ s
 refine KJ ?_
 rw[si]
 refine EZ (GW (EZ (FX (turn n s hI) (fun r s₁ h₁=>?_) fun _ _ h'=>h'.elim)))
 rcases h₁ with⟨rfl,h₁⟩|⟨v,rfl,h₁⟩
 · exact Fh h₁
 · refine EZ (FX h₁ (fun _ s₂ h₂=>EZ (FX h₂ (fun _ s₃ h₃=>EZ (FX h₃ (fun ok s₄ h₄=>?_) fun _ _ z=>z.elim)) fun _ _ z=>z.elim)) fun _ _ z=>z.elim)
   cases ok with
   | false=>exact Fh ⟨rfl,h₄⟩
   | true =>
     refine EZ (FX h₄ (fun x s₅ h₅=>EZ (GW (EZ (Ls (hs x) (EZ (HS (FX h₅ (fun y s₆ h₆=>?_) fun _ _ z=>z.elim))))))) fun _ _ z=>z.elim)
     refine EZ (wpAny_runOwn (JD h₆ fun r s₇ ⟨hr,h₇⟩=>?_))
     subst hr
     exact Fh ⟨rfl,h₇⟩
theorem tZ(I:Nat->E_->Prop)
 (turn:∀n s,I n s->FH (FT prog w) A (Kc it) (fun r s₁=>(r=none/\R (.ok .next) s₁)\/∃v,r=some v /\
  FH (FT prog w) A (Hd t2 it v) (fun _ s₂=>FH (FT prog w) A (Iq t2 env v) (fun _ s₃=>FH (FT prog w) A (dr f2 env) (fun ok s₄ =>
   if ok=true then FH (FT prog w) A (eval elt env) (fun x s₅=>FH (FT prog w) A (call (.builtin "list.append") [acc,x]) (fun _ s₆=>∃m,m<n/\I m s₆) (fun _ _=>False) s₅) (fun _ _=>False) s₄
   else ∃m,m<n/\I m s₄) (fun _ _=>False) s₃) (fun _ _=>False) s₂) (fun _ _=>False) s₁) (fun _ _=>False) s)
 (n:Nat)(h:I n s):Hr (FT prog w) A (.compLoop (Dr elt t1 i1 f1 t2 i2 f2 scope pos) 1 it acc env) R s:=by
 refine Kg rfl I (fun n s hI=>?_) n h
 show FH _ A ((K0 (Dr elt t1 i1 f1 t2 i2 f2 scope pos) 1 it acc env).onRaise (fun x=>do K1 x env;Jr x)) _ _ s
 refine KJ ?_
 rw[se]
 refine EZ (GW (EZ (FX (turn n s hI) (fun r s₁ h₁=>?_) fun _ _ h'=>h'.elim)))
 rcases h₁ with⟨rfl,h₁⟩|⟨v,rfl,h₁⟩
 · exact Fh h₁
 · refine EZ (FX h₁ (fun _ s₂ h₂=>EZ (FX h₂ (fun _ s₃ h₃=>EZ (FX h₃ (fun ok s₄ h₄=>?_) fun _ _ z=>z.elim)) fun _ _ z=>z.elim)) fun _ _ z=>z.elim)
   cases ok with
   | false=>exact Fh ⟨rfl,h₄⟩
   | true=>exact EZ (EZ (FX h₄ (fun x s₅ h₅=>EZ (FX h₅ (fun _ s₆ h₆=>Fh (Fh ⟨rfl,h₆⟩)) fun _ _ z=>z.elim)) fun _ _ z=>z.elim))
theorem pF
 (h0:Hr (FT prog w) A (.compLoop (Dr elt t1 i1 f1 t2 i2 f2 scope pos) 1 it acc env) R s)
 (h:FH (FT prog w) A (Ln it) (fun it' s'=>Hr (FT prog w) A (.compLoop (Dr elt t1 i1 f1 t2 i2 f2 scope pos) 1 it' acc env) R s') (notedBy (FT prog w) A env fun x s'=>R (.error x) s') s) :
 Hr (FT prog w) A (.compStart (Dr elt t1 i1 f1 t2 i2 f2 scope pos) 1 it acc env) R s:=by
 refine codeAny_of_tree ?_
 show FH _ _ ((compStart (Dr elt t1 i1 f1 t2 i2 f2 scope pos) 1 it acc env).onRaise (fun x=>do K1 x env;KH theWindowsPlace)) _ _ s
 refine wpAny_notedAt ?_
 unfold compStart
 show FH _ _ (ask >>= _) _ _ s
 refine EZ (wpAny_askSetting (wpAny_ite ?_))
 split
 · first
     | exact EZ (Fh (Fh (EY rfl h0)))
     | exact Fh (EY rfl h0)
 · first
     | exact EZ (Jj (EZ (GW (EZ (FX h (fun it' s' h'=>Fh (EY rfl h')) fun _ _ x=>x)))))
     | (refine EZ (Jj ?_);show FH _ _ (KH i2.pos >>= _) _ _ s;exact EZ (GW (EZ (FX h (fun it' s' h'=>Fh (EY rfl h')) fun _ _ x=>x))))
end
noncomputable def Cp(wi:TI)(g:TG)(tt:TT)(te:TE)(D:Addr)(acc:List V)(σ:St)(H:Hp)(R:List V->St->Hp->Prop):Prop:=wi σ H fun J H1=>∃Wv:Nat->Nat->List V->St->Hp->Prop,(∃m,Wv 0 m acc σ H1) /\
 ∀ i m acc σc H,Wv i m acc σc H->(J.stop i H/\R acc σc H)\/(J.go i H/\∀x H',J.yld i H x H'->g x σc H' fun σ2 H2=>tt σ2 H2 fun b H3 =>
   if b=true then te σ2 H3 fun y H4=>H4 D=some (.lst acc)/\acc.length<sizeLine/\∃m',m'<m/\Wv (i+1) m' (acc++[y]) σ2 (Cb H4 D (.lst (acc++[y])))else ∃m',m'<m/\Wv (i+1) m' acc σ2 H3)
section
variable{Y:Cx}{elt t1 i1 t2 i2:Expr}{f1 f2:List Expr}{scope:Scope}{pos:Pos}{wi:TI}{g:TG}{tt:TT}{te:TE}{D:Addr}
theorem xv(hc:Y.calm=true)(hx:Y.xe=fun _ _=>False)(hi:PI Y t2 i2 wi)(hg:PG Y t2 g)(ht:Eh Y f2 tt)(he:PE Y elt te){acc:List V}{R:List V->St->Hp->Prop}{Rp:E_->Prop}
 (I:Inv Y pins σ H s)(q:Cp wi g tt te D acc σ H R)(fin:∀acc σ5 H5 s5,Inv Y pins σ5 H5 s5->R acc σ5 H5->Rp s5) :
 FH (FT Y.prog Y.w) Y.A (eval i2 Y.env) (fun x s₅=>FH (FT Y.prog Y.w) Y.A (Ln x) (fun y s₆=>Hr (FT Y.prog Y.w) Y.A (.compStart (Dr elt t1 i1 f1 t2 i2 f2 scope pos) 1 y (.ref D) Y.env) (fun r s₇=>r = .ok .next/\Rp s₇) s₆) (fun _ _=>False) s₅) (fun _ _=>False) s:=by
 have hi':=hi pins s σ H _ I q
 rw[hx]at hi'
 refine Cj hi' fun v s1 h1=>Cj h1 fun itv s2 h2=>?_
 obtain⟨it,fp,tn,J,H2,e,I2,T,st2,f2',Wv,⟨m0,w0⟩,turn⟩:=h2
 subst e
 have stat:∀{H':Hp},(∀b∈fp,H' b=none)->∀b∈fp,jB Y pins H' b:=fun hn b hb=>⟨hn b hb,(f2' b hb).2⟩
 have loop:Hr (FT Y.prog Y.w) Y.A (.compLoop (Dr elt t1 i1 f1 t2 i2 f2 scope pos) 1 (.ref it) (.ref D) Y.env) (fun r s₇=>r = .ok .next/\Rp s₇) s2:=by
  refine tZ (fun n s'=>∃i acc σ' H',Inv Y pins σ' H' s'/\tn i s'.heap/\(∀b∈fp,H' b=none)/\Wv i n acc σ' H') ?_ m0 ⟨0,acc,σ,H2,I2,st2,fun b hb=>(f2' b hb).1,w0⟩
  rintro n s4 ⟨i,acc,σ4,H4,I4,st4,fr4,w4⟩
  rcases turn i n acc σ4 H4 w4 with⟨stop,qn⟩|⟨go,step⟩
  · exact Cj (T.done Y rfl rfl rfl hc i pins s4 σ4 H4 (fun _ _=>False) I4 (stat fr4) st4 stop) fun r s5 ⟨hr,I5⟩=>.inl ⟨hr,rfl,fin acc σ4 H4 s5 I5 qn⟩
  · refine Cj (T.item Y rfl rfl rfl hc i pins s4 σ4 H4 (fun _ _=>False) I4 (stat fr4) st4 go) fun r s5 ⟨u,hr,h5⟩=>.inr ⟨u,hr,?_⟩
    refine Cj h5 fun _ s6 ⟨x,H6,I6,r6,y6,st6,fr6⟩=>?_
    have I6':=I6.pinned (stat fr6) (T.obj _ _ st6)
    have again:∀{σ7:St}{H7:Hp}{s7:E_},Inv Y (pins++eM fp s6.heap) σ7 H7 s7->∀{acc':List V}{m':Nat},m'<n->Wv (i+1) m' acc' σ7 H7 ->
     ∃m,m<n/\∃i acc σ' H',Inv Y pins σ' H' s7/\tn i s7.heap/\(∀b∈fp,H' b=none)/\Wv i m acc σ' H':=fun{σ7 H7 s7} I7 {acc' m'} hm w7=>by
     refine⟨m',hm,i+1,acc',σ7,H7,I7.unpinned,T.keep _ _ _ st6 fun b hb o e=>(I7.pin (b,o) (Fu _ (Fu _ (bx hb e)))).1,fun b hb=>?_,w7⟩
     obtain⟨o,e,d⟩:=T.obj _ _ st6 b hb
     exact(I7.pin (b,o) (Fu _ (Fu _ (bx hb e)))).2.1
    have h7:=hg _ s6 σ4 H6 x u _ I6' r6 (step x H6 y6)
    rw[hx]at h7
    refine Cj h7 fun _ s7 ⟨σ7,H7,I7,q7⟩=>?_
    have h8:=ht _ s7 σ7 H7 _ I7 q7
    rw[hx]at h8
    refine Cj h8 fun ok s8 ⟨H8,I8,q8⟩=>?_
    cases ok with
    | false =>
      rw[if_neg FO]at q8 ⊢
      obtain⟨m',hm,w8⟩:=q8
      exact again I8 hm w8
    | true =>
      rw[if_pos rfl]at q8 ⊢
      have h9:=he _ s8 σ7 H8 _ I8 q8
      rw[hx]at h9
      refine Cj h9 fun y s9 ⟨yv,H9,I9,r9,eD,hl,m',hm,w9⟩=>?_
      have h10:=dQ (X:=Y) _ s9 σ7 H9 (.ref D) [yv] (.ref D) [y] (fun _ H'=>H'=Cb H9 D (.lst (acc++[yv]))) I9 rfl (.cons r9 .nil) ⟨D,acc,yv,rfl,rfl,eD,hl,rfl⟩
      rw[hx]at h10
      exact Cj h10 fun _ s10 ⟨_,H10,I10,_,e10⟩=>by subst e10;exact again I10 hm w9
 exact pF loop (T.self Y.A 0 _ _ _ st2 loop)
end
noncomputable def mF(wi:TI)(fr:List (Option Nat))(g:CompA->TG)(tt:CompA->TT)(wj:CompA->TI)(g2:CompA->TG)(tt2:CompA->TT)(te:CompA->TE):TE:=fun σ H Q=>wi σ H fun J H1=>∀D,H1 D=none->∃Wv:Nat->Nat->List V->St->Hp->Prop,(∃m,Wv 0 m [] (lP fr σ) (Cb H1 D (.lst []))) /\
 ∀ (z:CompA) i m acc σc H,Wv i m acc σc H->(J.stop i H/\Q (.ref D) H)\/(J.go i H/\∀x H',J.yld i H x H'->g z x σc H' fun σ2 H2=>tt z σ2 H2 fun b H3 =>
   if b=true then Cp (wj z) (g2 z) (tt2 z) (te z) D acc σ2 H3 fun acc' σ5 H5=>∃m',m'<m/\Wv (i+1) m' acc' σ5 H5 else ∃m',m'<m/\Wv (i+1) m' acc σ2 H3)
section
variable{Y:Cx}{elt t1 i1 t2 i2:Expr}{f1 f2:List Expr}{scope:Scope}{pos:Pos}{wj:TI}{g g2:TG}{tt tt2:TT}{te:TE}{D:Addr}
theorem qY(hc:Y.calm=true)(hx:Y.xe=fun _ _=>False)(hg:PG Y t1 g)(ht:Eh Y f1 tt)(hj:PI Y t2 i2 wj)(hg2:PG Y t2 g2)(ht2:Eh Y f2 tt2)(he:PE Y elt te)(hs:∀x,FF i2 Y.env x=pure x)
 {J:It}{Q:VK}(T:Turn Y.prog Y.w Y.K t1 J fp it tn)(I:Inv Y [] σ H s)(st0:tn 0 s.heap)(fp0:∀b∈fp,H b=none)(stat:∀{H':Hp},(∀b∈fp,H' b=none)->∀b∈fp,jB Y [] H' b)
 {Wv:Nat->Nat->List V->St->Hp->Prop}{m0:Nat}(w0:Wv 0 m0 [] σ H)
 (turn:∀i m acc σc H,Wv i m acc σc H->(J.stop i H/\Q (.ref D) H)\/(J.go i H/\∀x H',J.yld i H x H'->g x σc H' fun σ2 H2=>tt σ2 H2 fun b H3 =>
  if b=true then Cp wj g2 tt2 te D acc σ2 H3 fun acc' σ5 H5=>∃m',m'<m/\Wv (i+1) m' acc' σ5 H5 else ∃m',m'<m/\Wv (i+1) m' acc σ2 H3)) :
 Hr (FT Y.prog Y.w) Y.A (.compStart (Dr elt t1 i1 f1 t2 i2 f2 scope pos) 0 (.ref it) (.ref D) Y.env) (fun r s5=>r = .ok .next/\∃σ5 H4,Inv Y [] σ5 H4 s5/\Q (.ref D) H4) s:=by
 have loop:Hr (FT Y.prog Y.w) Y.A (.compLoop (Dr elt t1 i1 f1 t2 i2 f2 scope pos) 0 (.ref it) (.ref D) Y.env) (fun r s5=>r = .ok .next/\∃σ5 H4,Inv Y [] σ5 H4 s5/\Q (.ref D) H4) s:=by
  refine t6 (fun n s'=>∃i acc σ' H',Inv Y [] σ' H' s'/\tn i s'.heap/\(∀b∈fp,H' b=none)/\Wv i n acc σ' H') hs ?_ m0 ⟨0,[],_,_,I,st0,fp0,w0⟩
  rintro n s4 ⟨i,acc,σ4,H4,I4,st4,fr4,w4⟩
  rcases turn i n acc σ4 H4 w4 with⟨stop,qn⟩|⟨go,step⟩
  · exact Cj (T.done Y rfl rfl rfl hc i [] s4 σ4 H4 (fun _ _=>False) I4 (stat fr4) st4 stop) fun r s5 ⟨hr,I5⟩=>.inl ⟨hr,rfl,σ4,H4,I5,qn⟩
  · refine Cj (T.item Y rfl rfl rfl hc i [] s4 σ4 H4 (fun _ _=>False) I4 (stat fr4) st4 go) fun r s5 ⟨u,hr,h5⟩=>.inr ⟨u,hr,?_⟩
    refine Cj h5 fun _ s6 ⟨x,H6,I6,r6,y6,st6,fr6⟩=>?_
    have I6':=I6.pinned (stat fr6) (T.obj _ _ st6)
    have again:∀{σ7:St}{H7:Hp}{s7:E_},Inv Y ([]++eM fp s6.heap) σ7 H7 s7->∀{acc':List V}{m':Nat},m'<n->Wv (i+1) m' acc' σ7 H7 ->
     ∃m,m<n/\∃i acc σ' H',Inv Y [] σ' H' s7/\tn i s7.heap/\(∀b∈fp,H' b=none)/\Wv i m acc σ' H':=fun{σ7 H7 s7} I7 {acc' m'} hm w7=>by
     refine⟨m',hm,i+1,acc',σ7,H7,I7.unpinned,T.keep _ _ _ st6 fun b hb o e=>(I7.pin (b,o) (Fu _ (Fu _ (bx hb e)))).1,fun b hb=>?_,w7⟩
     obtain⟨o,e,d⟩:=T.obj _ _ st6 b hb
     exact(I7.pin (b,o) (Fu _ (Fu _ (bx hb e)))).2.1
    have h7:=hg _ s6 σ4 H6 x u _ I6' r6 (step x H6 y6)
    rw[hx]at h7
    refine Cj h7 fun _ s7 ⟨σ7,H7,I7,q7⟩=>?_
    have h8:=ht _ s7 σ7 H7 _ I7 q7
    rw[hx]at h8
    refine Cj h8 fun ok s8 ⟨H8,I8,q8⟩=>?_
    cases ok with
    | false =>
      rw[if_neg FO]at q8 ⊢
      obtain⟨m',hm,w8⟩:=q8
      exact again I8 hm w8
    | true =>
      rw[if_pos rfl]at q8 ⊢
      exact xv hc hx hj hg2 ht2 he I8 q8 fun acc' σ9 H9 s9 I9 ⟨m',hm,w9⟩=>again I9 hm w9
 exact J8 loop (T.self Y.A 0 _ _ _ st0 loop)
end
section
variable{X:Cx}{elt t1 i1 t2 i2:Expr}{f1 f2:List Expr}{scope:Scope}{pos:Pos}{wi:TI}{wj:CompA->TI}{g g2:CompA->TG}{tt tt2:CompA->TT}{te:CompA->TE}
theorem kF.get{scope scX:Scope}(hsc:kF scope scX=true):scope.kind = .function/\(∀y∈scope.names,y.2 = .cell->scope.names.lookup y.1=some .cell)/\(∀y∈scope.names,y.2 = .local->scope.names.lookup y.1=some .local) /\
 ∀y∈scope.names,y.2 = .free->scX.names.lookup y.1=some .cell\/scX.names.lookup y.1=some .free:=by
 obtain⟨sk,sn⟩:=Fb.mp hsc
 have hall:=G5.mp sn
 refine⟨of_decide_eq_true sk,fun y hy hl=>?_,fun y hy hl=>?_,fun y hy hl=>?_⟩
 · rcases FC.mp (Fb.mp (Fb.mp (hall y hy)).1).1 with z|z
   · exact absurd hl (of_decide_eq_true z)
   · exact of_decide_eq_true z
 · rcases FC.mp (Fb.mp (Fb.mp (hall y hy)).1).2 with z|z
   · exact absurd hl (of_decide_eq_true z)
   · exact of_decide_eq_true z
 · rcases FC.mp (Fb.mp (hall y hy)).2 with z|z
   · exact absurd hl (of_decide_eq_true z)
   · exact(FC.mp z).imp of_decide_eq_true of_decide_eq_true
theorem jm(N':List Str)(fr:List (Option Nat))(hc:X.calm=true)(hi:PI X t1 i1 wi)(hfr:jV fr N' X.N scope X.env.scope=true)(hsc:kF scope X.env.scope=true)
 (hg:∀y,PG (blk X N' scope y) t1 (g y))(ht:∀y,Eh (blk X N' scope y) f1 (tt y))(hj:∀y,PI (blk X N' scope y) t2 i2 (wj y))(hg2:∀y,PG (blk X N' scope y) t2 (g2 y))(ht2:∀y,Eh (blk X N' scope y) f2 (tt2 y))(he:∀y,PE (blk X N' scope y) elt (te y))
 (hs:∀x,FF i1 X.env x=pure x:=by intro _;rfl)(hs2:∀y x,FF i2 (blk X N' scope y).env x=pure x:=by intro _ _;rfl):PE X (Dr elt t1 i1 f1 t2 i2 f2 scope pos) (mF wi fr g tt wj g2 tt2 te):=by
 intro pins s σ H Q I h
 obtain⟨hkind,hcell,hnames,hfree⟩:=kF.get hsc
 obtain⟨frl,frg⟩:=jV.get hfr
 obtain⟨cl,hclos,cl1,cl2⟩:=cf (env:=X.env) (scope:=scope) fun y hy hl=>I.ok.has y.1 (hfree y hy hl)
 rw[eval_ListComp]
 refine GY (use:=none) rfl hs hclos hkind hnames (Cj (hi pins s σ H _ I h) fun v s1 h1=>Cj h1 fun itv s2 h2=>?_)
 obtain⟨it,fp,tn,J,H2,e,I2,T,st2,f2,q2⟩:=h2
 subst e
 refine Gs ?_
 have hD:H2 s2.heap.objs.size=none:=I2.hok.fresh (Fa _)
 have I3:Inv X pins σ (Cb H2 s2.heap.objs.size (.lst [])) {s2 with heap:=s2.heap.push {cls:=.type "list", data:=.seq ([]:List E7).toArray}} :=
  I2.laid (t':=s2.toks) (fun b u e=>E4 _ e) (Fa _) ⟨by show 0<=sizeLine;exact FI _,[],0,.nil,FB _ rfl⟩
 obtain⟨Wv,⟨m0,w0⟩,turn⟩:=q2 _ hD
 have tn3:tn 0 (s2.heap.push {cls:=.type "list", data:=.seq ([]:List E7).toArray}):=T.keep _ _ _ st2 fun b _ o e=>E4 _ e
 have fpD:∀b∈fp,(Cb H2 s2.heap.objs.size (.lst [])) b=none:=fun b hb=>by
  obtain⟨o,e,_⟩:=T.obj _ _ st2 b hb
  rw[ak (FZ (Fq e))]
  exact(f2 b hb).1
 have fp3:∀b∈fp,b<(s2.heap.push {cls:=.type "list", data:=.seq ([]:List E7).toArray}).objs.size:=fun b hb=>by
  obtain⟨o,e,_⟩:=T.obj _ _ tn3 b hb
  exact Fq e
 exact cP N' fr hc hkind hcell hfree frl frg cl1 cl2 I3 T tn3 fpD fp3 (fun b hb=>(f2 b hb).2)
  (fun s' IY tY stat=>qY (Y:=blk X N' scope ⟨cl,fp,X.pn++pins,_,_⟩) hc rfl (hg ⟨cl,fp,X.pn++pins,_,_⟩) (ht ⟨cl,fp,X.pn++pins,_,_⟩) (hj ⟨cl,fp,X.pn++pins,_,_⟩) (hg2 ⟨cl,fp,X.pn++pins,_,_⟩) (ht2 ⟨cl,fp,X.pn++pins,_,_⟩) (he ⟨cl,fp,X.pn++pins,_,_⟩) (hs2 ⟨cl,fp,X.pn++pins,_,_⟩) T IY tY fpD stat w0 (turn ⟨cl,fp,X.pn++pins,_,_⟩))
  (Rp:=K4 (FT X.prog X.w) X.A X.xe none (EP X pins σ Q) (.ref s2.heap.objs.size)) fun s5 H4 m hn k _ qn=>⟨m,hn,fun h' hs'=>⟨.ref _,H4,k h' hs',rfl,qn⟩⟩
theorem jL{b:Bool}{ix:Nat}(N':List Str)(fr:List (Option Nat))(hc:X.calm=true)(hi:PI X t1 i1 wi)(hfr:jV fr N' X.N scope X.env.scope=true)(hsc:kF scope X.env.scope=true)
 (hg:∀y,PG (blk X N' scope y) t1 (g y))(ht:∀y,Eh (blk X N' scope y) f1 (tt y))(hj:∀y,PI (blk X N' scope y) t2 i2 (wj y))(hg2:∀y,PG (blk X N' scope y) t2 (g2 y))(ht2:∀y,Eh (blk X N' scope y) f2 (tt2 y))(he:∀y,PE (blk X N' scope y) elt (te y))
 (hN:X.N.Nodup)(hix:X.N[ix]?=some x)(hx:Loc X.env.scope x)(hf:X.fn x=true\/X.env.scope.names.lookup x=some .local)(hsw:G0 (Dr elt t1 i1 f1 t2 i2 f2 scope pos) (some (.Name x px)) spos.line X.env=pure b)
 (hs:∀x,FF i1 X.env x=pure x)(hs2:∀y x,FF i2 (blk X N' scope y).env x=pure x):PS X (.Assign [.Name x px] (Dr elt t1 i1 f1 t2 i2 f2 scope pos) spos) (vJ (mF wi fr g tt wj g2 tt2 te) (iP ix)):=by
 cases b with
 | false=>exact fK hN hix hx (jm N' fr hc hi hfr hsc hg ht hj hg2 ht2 he hs hs2) hsw hf
 | true =>
 intro pins s σ H DD I h
 obtain⟨hkind,hcell,hnames,hfree⟩:=kF.get hsc
 obtain⟨frl,frg⟩:=jV.get hfr
 obtain⟨cl,hclos,cl1,cl2⟩:=cf (env:=X.env) (scope:=scope) fun y hy hl=>I.ok.has y.1 (hfree y hy hl)
 rw[Ja _ _ _ _ hsw]
 refine EZ (GW (EZ ?_))
 show FH _ X.A (do let _ <- K5 (Dr elt t1 i1 f1 t2 i2 f2 scope pos) scope X.env _ (newList []) false (eval i1 X.env) (some (Iq (.Name x px) X.env))) _ _ s
 refine EZ (FX (GY (use:=some (Iq (.Name x px) X.env)) (Q:=fun _ s'=>SP X pins DD .next s') rfl hs hclos hkind hnames
  (Cj (hi pins s σ H _ I h) fun v s1 h1=>Cj h1 fun itv s2 h2=>?_)) (fun _ s' hq=>Fh (Fh hq)) fun _ _ e=>e)
 obtain⟨it,fp,tn,J,H2,e,I2,T,st2,f2,q2⟩:=h2
 subst e
 refine Gs ?_
 have hD:H2 s2.heap.objs.size=none:=I2.hok.fresh (Fa _)
 have I3:Inv X pins σ (Cb H2 s2.heap.objs.size (.lst [])) {s2 with heap:=s2.heap.push {cls:=.type "list", data:=.seq ([]:List E7).toArray}} :=
  I2.laid (t':=s2.toks) (fun b u e=>E4 _ e) (Fa _) ⟨by show 0<=sizeLine;exact FI _,[],0,.nil,FB _ rfl⟩
 obtain⟨Wv,⟨m0,w0⟩,turn⟩:=q2 _ hD
 have tn3:tn 0 (s2.heap.push {cls:=.type "list", data:=.seq ([]:List E7).toArray}):=T.keep _ _ _ st2 fun b _ o e=>E4 _ e
 have fpD:∀b∈fp,(Cb H2 s2.heap.objs.size (.lst [])) b=none:=fun b hb=>by
  obtain⟨o,e,_⟩:=T.obj _ _ st2 b hb
  rw[ak (FZ (Fq e))]
  exact(f2 b hb).1
 have fp3:∀b∈fp,b<(s2.heap.push {cls:=.type "list", data:=.seq ([]:List E7).toArray}).objs.size:=fun b hb=>by
  obtain⟨o,e,_⟩:=T.obj _ _ tn3 b hb
  exact Fq e
 refine cP (Q:=fun v H1=>iP ix v σ H1 DD.nx) N' fr hc hkind hcell hfree frl frg cl1 cl2 I3 T tn3 fpD fp3 (fun b hb=>(f2 b hb).2)
  (fun s' IY tY stat=>qY (Y:=blk X N' scope ⟨cl,fp,X.pn++pins,_,_⟩) (Q:=fun v H1=>iP ix v σ H1 DD.nx) hc rfl (hg ⟨cl,fp,X.pn++pins,_,_⟩) (ht ⟨cl,fp,X.pn++pins,_,_⟩) (hj ⟨cl,fp,X.pn++pins,_,_⟩) (hg2 ⟨cl,fp,X.pn++pins,_,_⟩) (ht2 ⟨cl,fp,X.pn++pins,_,_⟩) (he ⟨cl,fp,X.pn++pins,_,_⟩) (hs2 ⟨cl,fp,X.pn++pins,_,_⟩) T IY tY fpD stat w0 (turn ⟨cl,fp,X.pn++pins,_,_⟩))
  (Rp:=K4 (FT X.prog X.w) X.A X.xe (some (Iq (.Name x px) X.env)) (fun _ s'=>SP X pins DD .next s') (.ref s2.heap.objs.size)) fun s5 H4 m hn k fpo qn=>?_
 show FH _ X.A (Iq (.Name x px) X.env (.ref s2.heap.objs.size)) _ _ s5
 have I5:Inv X pins σ H4 s5:=k s5.heap (JQ _ _)
 obtain⟨f0,f1,f2',f3,f4,f5⟩:=fpo
 refine IQ (dI I5 hN hix hx (v:=.ref s2.heap.objs.size) rfl (fun s6 I6 sb=>?_) hf)
 obtain⟨a,sb,ha⟩:=sb
 have hne:(s2.heap.push {cls:=.type "list", data:=.seq ([]:List E7).toArray}).objs.size≠a:=by
  rcases ha with rfl|ha
  · exact f1
  · exact fun z=>f4 x a ha z.symm
 refine⟨m,hn.at' fun o e=>sb.extBut _ o hne e,fun h' hs'=>?_⟩
 exact⟨_,H4,I6.turned (t':=s6.toks) (fun b o hb e=>hs'.extBut b o hb e) f0 f1 f3 f4 f5,qn⟩
end
end L2
namespace L2.VL
noncomputable def pA(ρ0:En)(g:D5)(ft:TB)(fj:En->(List EW->Prop)->Prop)(g2:D5)(ft2:TB)(fe:TV):List EW->List EW->(List EW->Prop)->Prop
 | [],acc,Q=>Q acc
 | x::xs,acc,Q=>g x ρ0 fun ρ2=>Le ρ0 ρ2/\ft ρ2 fun b=>if b=true then fj ρ2 fun ys=>lM ρ2 g2 ft2 fe ys acc fun acc'=>pA ρ0 g ft fj g2 ft2 fe xs acc' Q else pA ρ0 g ft fj g2 ft2 fe xs acc Q
noncomputable def kr(fi:En->(List EW->Prop)->Prop)(fr:List (Option Nat))(g:D5)(ft:TB)(fj:En->(List EW->Prop)->Prop)(g2:D5)(ft2:TB)(fe:TV):TV:=fun ρ Q=>fi ρ fun xs=>pA (c_ fr ρ) g ft fj g2 ft2 fe xs [] fun ds=>Q (.ml ds)
section
variable{X:Cx}{rl:RlT}{elt t1 i1 t2 i2:Expr}{f1 f2:List Expr}{scope:Scope}{pos:Pos}{fi fj:En->(List EW->Prop)->Prop}{g g2:D5}{ft ft2:TB}{fe:TV}
theorem kS{wi:TI}(fr:List (Option Nat))(k0:∀{F₀ H₀ F H:Hp}{σ:St}{ρ:En},VR X.K rl F₀ H₀ F H σ ρ->∀(Qd:List EW->Prop)(R:It->Hp->Prop),fi ρ Qd ->
 (∀J xs F' H',Grow rl F H F' H'->VIt X.K rl F' J xs->Qd xs->R J H')->wi σ H R)
 (hg:∀y,Et (blk X N' scope y) rl t1 g)(ht:∀y,jA (blk X N' scope y) rl f1 ft)(hj:∀y,Ep (blk X N' scope y) rl t2 i2 fj)(hg2:∀y,Et (blk X N' scope y) rl t2 g2)(ht2:∀y,jA (blk X N' scope y) rl f2 ft2)(he:∀y,PV (blk X N' scope y) rl elt fe)
 (R:VR X.K rl F₀ H₀ F H σ ρ)(Qd:W->Prop)(Q:VK)(q:kr fi fr g ft fj g2 ft2 fe ρ Qd)
 (k:∀v w F' H',Grow rl F H F' H'->cS X.K rl F' H' v w->de H v w->Qd w->Q v H') :
 mF wi fr (fun y=>Gm (hg y)) (fun y=>Gm (ht y)) (fun y=>Gm (hj y)) (fun y=>Gm (hg2 y)) (fun y=>Gm (ht2 y)) (fun y=>Gm (he y)) σ H Q:=by
 refine k0 R _ _ q fun J xs F1 H1 g1 vi q1=>?_
 intro D hD
 have rD:rl.a≠some D:=fun e=>by obtain⟨o,z⟩:=g1.reel.live e;rw[hD]at z;cases z
 have FD:F1 D=none:=g1.sub.free hD
 have gD:Grow rl F1 H1 F1 (Cb H1 D (.lst [])):=Grow.laid g1.sub g1.reel hD
 have R1:=R.grow g1
 have n0:jz (c_ fr ρ):=cC
 have keepD:∀{acc:List V}{Fc Hc Fx Hx:Hp},Hc D=some (.lst acc)->Fc D=none->Grow rl Fc Hc Fx Hx->Hx D=some (.lst acc)/\Fx D=none:=fun hDc fDc gx=>⟨gx.same D _ hDc rD,by rw[gx.old D _ hDc];exact fDc⟩
 refine⟨fun i m acc σc Hc=>m=xs.length-i/\i<=xs.length/\∃Fc ds,VR X.K rl F1 H1 Fc Hc σc (c_ fr ρ)/\Hc D=some (.lst acc)/\Fc D=none/\Reps X.K Fc acc ds/\pA (c_ fr ρ) g ft fj g2 ft2 fe (xs.drop i) ds (fun ds=>Qd (.ml ds)),
  ⟨xs.length,by simp,FI _,F1,[],dC R1 gD,ar,FD,.nil,by simpa using q1⟩,?_⟩
 rintro z i m acc σc Hc ⟨rfl,hi,Fc,ds,Rc,hDc,fDc,rs,q2⟩
 have sH:bC F1 Hc:=Rc.g.fs.trans Rc.sub
 by_cases hlt:i<xs.length
 · have ei:xs[i]?=some xs[i]:=by simp[hlt]
   have ed:xs.drop i=xs[i]::xs.drop (i+1):=Gx hlt
   rw[ed]at q2
   refine .inr ⟨vi.go i Hc _ ei sH,fun v H' y=>?_⟩
   obtain⟨Fy,gy,rv⟩:=vi.yld i Hc v H' _ Fc ei Rc.g.fs Rc.sub Rc.reel y
   refine(E5 (hg z)).2 (Rc.grow gy) v _ _ _ rv q2 fun F3 H3 σ3 ρ3 g3 n3 R3 ⟨le3,q3⟩=>?_
   refine(E5 (ht z)).2 R3 _ _ q3 fun b F4 H4 g4 q4=>?_
   have R4:=R3.grow g4
   have g34:=(gy.trans g3).trans g4
   have nm3:jz ρ3:=n3 n0
   cases b with
   | false=>exact⟨xs.length-(i+1),by omega,rfl,hlt,F4,ds,R4.le le3,(keepD hDc fDc g34).1,(keepD hDc fDc g34).2,rs.mono g34.fs,q4⟩
   | true =>
     refine(E5 (hj z)).2 R4 _ _ q4 fun J2 ys F5 H5 g5 vi2 q5=>?_
     have g35:=g34.trans g5
     refine⟨fun j m acc σe He=>m=ys.length-j/\j<=ys.length/\∃Fe es,VR X.K rl F1 H1 Fe He σe ρ3/\bC F5 Fe/\He D=some (.lst acc)/\Fe D=none/\Reps X.K Fe acc es /\
      lM ρ3 g2 ft2 fe (ys.drop j) es (fun es=>pA (c_ fr ρ) g ft fj g2 ft2 fe (xs.drop (i+1)) es (fun ds=>Qd (.ml ds))),
      ⟨ys.length,by simp,FI _,F5,ds,R4.grow g5,.refl _,(keepD hDc fDc g35).1,(keepD hDc fDc g35).2,rs.mono g35.fs,by simpa using q5⟩,?_⟩
     rintro j m acc2 σe He ⟨rfl,hj',Fe,es,Re,s5,hDe,fDe,res,q6⟩
     have sHe:bC F5 He:=s5.trans Re.sub
     by_cases hlt2:j<ys.length
     · have ej:ys[j]?=some ys[j]:=by simp[hlt2]
       have edj:ys.drop j=ys[j]::ys.drop (j+1):=Gx hlt2
       rw[edj]at q6
       refine .inr ⟨vi2.go j He _ ej sHe,fun v2 H2' y2=>?_⟩
       obtain⟨Fy2,gy2,rv2⟩:=vi2.yld j He v2 H2' _ Fe ej s5 Re.sub Re.reel y2
       refine(E5 (hg2 z)).2 (Re.grow gy2) v2 _ _ _ rv2 q6 fun F7 H7 σ7 ρ7 g7 n7 R7 ⟨le7,q7⟩=>?_
       refine(E5 (ht2 z)).2 R7 _ _ q7 fun b2 F8 H8 g8 q8=>?_
       have R8:=R7.grow g8
       have g78:=(gy2.trans g7).trans g8
       cases b2 with
       | false=>exact⟨ys.length-(j+1),by omega,rfl,hlt2,F8,es,R8.le le7,s5.trans g78.fs,(keepD hDe fDe g78).1,(keepD hDe fDe g78).2,res.mono g78.fs,q8⟩
       | true =>
         refine(E5 (he z)).2 R8 _ _ q8 fun v9 w9 F9 H9 g9 r9 n9 ⟨d,ed9,hl,q9⟩=>?_
         obtain⟨F10,g10,s10,r10⟩:=cS.fz g9 r9 n9
         rw[ed9]at r10
         have g710:=g78.trans g10
         refine⟨(keepD hDe fDe g710).1,by rw[res.length];exact hl,ys.length-(j+1),by omega,rfl,hlt2,F10,es++[d],((R8.grow g10).le le7).other nm3 hD (keepD hDe fDe g710).2 rD,s5.trans g710.fs,ar,(keepD hDe fDe g710).2,(res.mono g710.fs).snoc r10,q9⟩
     · have e:j=ys.length:=by omega
       subst e
       rw[Hj]at q6
       exact .inl ⟨vi2.stop _ He (Fa _) sHe,xs.length-(i+1),by omega,rfl,hlt,Fe,es,Re.le le3,hDe,fDe,res,q6⟩
 · have e:i=xs.length:=by omega
   subst e
   rw[Hj]at q2
   refine .inl ⟨vi.stop _ Hc (Fa _) sH,k _ (.ml ds) Fc Hc (g1.trans Rc.g) ⟨D,acc,rfl,fDc,rD,hDc,rs⟩ (fun a ea=>by cases ea;exact g1.freeB hD) q2⟩
theorem pq(N':List Str)(fr:List (Option Nat))(hc:X.calm=true)(hi:Ep X rl t1 i1 fi)
 (hg:∀y,Et (blk X N' scope y) rl t1 g)(ht:∀y,jA (blk X N' scope y) rl f1 ft)(hj:∀y,Ep (blk X N' scope y) rl t2 i2 fj)(hg2:∀y,Et (blk X N' scope y) rl t2 g2)(ht2:∀y,jA (blk X N' scope y) rl f2 ft2)(he:∀y,PV (blk X N' scope y) rl elt fe)
 (hfr:jV fr N' X.N scope X.env.scope=true:=by rfl)(hsc:kF scope X.env.scope=true:=by rfl)
 (hs:∀x,FF i1 X.env x=pure x:=by intro _;rfl)(hs2:∀y x,FF i2 (blk X N' scope y).env x=pure x:=by intro _ _;rfl):PV X rl (.ListComp elt [⟨t1,i1,f1,0⟩,⟨t2,i2,f2,0⟩] scope pos) (kr fi fr g ft fj g2 ft2 fe):=by
 obtain⟨wi,p0,k0⟩:=hi
 exact⟨_,jm N' fr hc p0 hfr hsc (fun y=>(E5 (hg y)).1) (fun y=>(E5 (ht y)).1) (fun y=>(E5 (hj y)).1) (fun y=>(E5 (hg2 y)).1) (fun y=>(E5 (ht2 y)).1) (fun y=>(E5 (he y)).1) hs hs2,
  fun R Qd Q q k=>kS fr k0 hg ht hj hg2 ht2 he R Qd Q q k⟩
theorem fu(i:Nat){b:Bool}(hN:X.N.Nodup)(N':List Str)(fr:List (Option Nat))(hc:X.calm=true)(hi:Ep X rl t1 i1 fi)
 (hg:∀y,Et (blk X N' scope y) rl t1 g)(ht:∀y,jA (blk X N' scope y) rl f1 ft)(hj:∀y,Ep (blk X N' scope y) rl t2 i2 fj)(hg2:∀y,Et (blk X N' scope y) rl t2 g2)(ht2:∀y,jA (blk X N' scope y) rl f2 ft2)(he:∀y,PV (blk X N' scope y) rl elt fe)
 (hsw:G0 (.ListComp elt [⟨t1,i1,f1,0⟩,⟨t2,i2,f2,0⟩] scope pos) (some (.Name x px)) spos.line X.env=pure b:=by rfl)
 (hix:X.N[i]?=some x:=by rfl)(hx:Loc X.env.scope x:=by first|exact G3 rfl|exact GA rfl)(hf:X.fn x=true\/X.env.scope.names.lookup x=some .local:=by first|exact .inl rfl|exact .inr rfl)
 (hfr:jV fr N' X.N scope X.env.scope=true:=by rfl)(hsc:kF scope X.env.scope=true:=by rfl)
 (hs:∀x,FF i1 X.env x=pure x:=by intro _;rfl)(hs2:∀y x,FF i2 (blk X N' scope y).env x=pure x:=by intro _ _;rfl) :
 Ej X rl (.Assign [.Name x px] (.ListComp elt [⟨t1,i1,f1,0⟩,⟨t2,i2,f2,0⟩] scope pos) spos) (pz i (kr fi fr g ft fj g2 ft2 fe)):=by
 obtain⟨wi,p0,k0⟩:=hi
 refine⟨_,jL N' fr hc p0 hfr hsc (fun y=>(E5 (hg y)).1) (fun y=>(E5 (ht y)).1) (fun y=>(E5 (hj y)).1) (fun y=>(E5 (hg2 y)).1) (fun y=>(E5 (ht2 y)).1) (fun y=>(E5 (he y)).1) hN hix hx hf hsw hs hs2,
  fun R Dv D ok q=>kS fr k0 hg ht hj hg2 ht2 he R _ _ q fun v w F1 H1 g1 r1 n1 ⟨d,ed,q1⟩=>?_⟩
 obtain⟨F2,g2,s2,r2⟩:=cS.fz g1 r1 n1
 rw[ed]at r2
 exact ok.nx _ _ _ _ g2.fs (R.set g2 r2 trivial (fun xs z=>by cases z) i) q1
end
noncomputable def nZ(ρ0:En)(g:D5)(ft:TB)(fj:En->(List EW->Prop)->Prop)(g2:D5)(ft2:TB)(fe:TV)(x:EW)(acc:List EW):Mo (List EW) :=
 DO (g x ρ0) fun ρ2=>DC (Le ρ0 ρ2) (DO (ft ρ2) fun b=>if b=true then DO (fj ρ2) fun ys=>cj (Du ρ2 g2 ft2 fe) ys acc else ret acc)
noncomputable def d0(b:EW->List EW->Mo (List EW)):List EW->List EW->Mo (List EW)
 | [],acc=>ret acc
 | x::xs,acc=>DO (b x acc) (d0 b xs)
theorem la(ρ0:En)(g:D5)(ft:TB)(fj:En->(List EW->Prop)->Prop)(g2:D5)(ft2:TB)(fe:TV):∀(xs acc:List EW),pA ρ0 g ft fj g2 ft2 fe xs acc=d0 (nZ ρ0 g ft fj g2 ft2 fe) xs acc
 | [],acc=>rfl
 | x::xs,acc=>by
   refine ah fun Q=>?_
   show(g x ρ0 fun ρ2=>Le ρ0 ρ2/\ft ρ2 fun b=>if b=true then fj ρ2 fun ys=>lM ρ2 g2 ft2 fe ys acc fun acc'=>pA ρ0 g ft fj g2 ft2 fe xs acc' Q else pA ρ0 g ft fj g2 ft2 fe xs acc Q)↔(DO (nZ ρ0 g ft fj g2 ft2 fe x acc) (d0 (nZ ρ0 g ft fj g2 ft2 fe) xs)) Q
   simp only[la ρ0 g ft fj g2 ft2 fe xs,j8]
   have:∀(ρ2:En)(b:Bool),(if b=true then fj ρ2 fun ys=>cj (Du ρ2 g2 ft2 fe) ys acc fun acc'=>d0 (nZ ρ0 g ft fj g2 ft2 fe) xs acc' Q else d0 (nZ ρ0 g ft fj g2 ft2 fe) xs acc Q)
    = (DO (if b=true then DO (fj ρ2) fun ys=>cj (Du ρ2 g2 ft2 fe) ys acc else ret acc) (d0 (nZ ρ0 g ft fj g2 ft2 fe) xs)) Q:=by
    intro ρ2 b
    cases b<;>rfl
   simp only[this]
   exact Ju
theorem m_comp2(fi:En->(List EW->Prop)->Prop)(fr:List (Option Nat))(g:D5)(ft:TB)(fj:En->(List EW->Prop)->Prop)(g2:D5)(ft2:TB)(fe:TV)(ρ:En) :
 kr fi fr g ft fj g2 ft2 fe ρ=DO (fi ρ) fun xs=>DO (d0 (nZ (c_ fr ρ) g ft fj g2 ft2 fe) xs []) fun ds=>ret (.ml ds):=by
 refine ah fun Q=>?_
 show(fi ρ fun xs=>pA (c_ fr ρ) g ft fj g2 ft2 fe xs [] fun ds=>Q (.ml ds))↔_
 simp only[la]
 exact Ju
section
variable{α β:Type}{b:EW->Mo (Option EW)}
theorem j9{c:EW->List EW->Mo (List EW)}{xs:List α}{enc:α->EW}(F:α->List EW)(h:∀x∈xs,∀acc:List EW,acc.length+(F x).length<=sizeLine->c (enc x) acc=ret (acc++F x)) :
 ∀acc:List EW,acc.length+(xs.flatMap F).length<=sizeLine->d0 c (xs.map enc) acc=ret (acc++xs.flatMap F):=by
 induction xs with
 | nil=>intro acc _;show ret acc=_;simp
 | cons x xs ih =>
   intro acc hl
   rw[Gp,Fj]at hl
   show DO (c (enc x) acc) _=_
   rw[h x Ff acc (by omega),bnd_ret,ih (fun y my=>h y (E9 _ my)) (acc++F x) (by rw[Fj];omega),Gp,Il]
theorem qC{γ:Type}{c:EW->List EW->Mo (List EW)}{k:List EW->Mo γ}{Q:γ->Prop}{xs:List α}{enc:α->EW}(F:α->List EW)(hx:xs'=xs.map enc)
 (h:∀x∈xs,∀acc:List EW,acc.length+(F x).length<=sizeLine->c (enc x) acc=ret (acc++F x))(hl:(xs.flatMap F).length<=sizeLine)(fin:k (xs.flatMap F) Q):DO (d0 c xs' []) k Q:=by
 subst hx
 rw[j9 F h [] (by simpa using hl),bnd_ret]
 simpa using fin
end
noncomputable def EV:=EY @m_comp2 (@bnd_ret)
noncomputable def fr(q:Rat):EW:=.tuple [.int q.num,.int q.den]
theorem gW(h:fr q=fr r):q=r:=by
 simp only[fr,GK,GG,J5,and_true]at h
 exact Rat.ext h.1 (by omega)
theorem dU(n:Int)(d:Nat)(h:d≠0):uM n d=fr (JZ n d h):=by
 unfold uM fr
 rw[Rat.normalize_eq]
 have g:(G6 n d:Int)=((n.natAbs.gcd d:Nat):Int):=by simp[G6]
 have gp:0<n.natAbs.gcd d:=Nat.gcd_pos_of_pos_right _ (by omega)
 have e1:n.fdiv (G6 n d)=n / ((n.natAbs.gcd d:Nat):Int):=by rw[g,Hw _ (by omega)]
 have e2:(d:Int).fdiv (G6 n d)=((d / n.natAbs.gcd d:Nat):Int):=by rw[g,Hw _ (by omega),Int.natCast_ediv]
 rw[e1,e2]
theorem fQ{a b:Int}(hb:0<b):uM a b=fr ((a:Rat) / (b:Rat)):=by
 obtain⟨d,rfl⟩:=Hq (show 0<=b by omega)
 rw[dU a d (by omega)]
 congr 1
 have:(JZ a d (by omega))=mkRat a d:=by rw[Rat.normalize_eq_mkRat]
 rw[this,Rat.mkRat_eq_div]
 rfl
theorem xD(q r:Rat):uM (q.num*r.den+r.num*q.den) (q.den*r.den)=fr (q+r):=by
 have:=dU (q.num*r.den+r.num*q.den) (q.den*r.den) (Kl q.den_nz r.den_nz)
 rw[Km]at this
 rw[this,Rat.add_def]
theorem xB(q r:Rat):uM (q.num*r.den-r.num*q.den) (q.den*r.den)=fr (q-r):=by
 have:=dU (q.num*r.den-r.num*q.den) (q.den*r.den) (Kl q.den_nz r.den_nz)
 rw[Km]at this
 rw[this,Rat.sub_def]
theorem xC(q r:Rat):uM (q.num*r.num) (q.den*r.den)=fr (q*r):=by
 have:=dU (q.num*r.num) (q.den*r.den) (Kl q.den_nz r.den_nz)
 rw[Km]at this
 rw[this,Rat.mul_def]
theorem uk(q r:Rat):decide (q.num*r.den<r.num*q.den)=decide (q<r):=by
 rw[decide_eq_decide]
 exact(Rat.lt_iff q r).symm
noncomputable def CT(n:Nat)(q:Rat):Prop:=q.num.natAbs<2^n/\q.den<2^n
theorem CT.mono{m:Nat}(h:CT n q)(hm:n<=m):CT m q:=⟨E8 h.1 (Ft (by decide) hm),E8 h.2 (Ft (by decide) hm)⟩
theorem iY{i:Int}(h:i.natAbs<2^2000):EO i:=E8 h (Ft (by decide) (by decide))
theorem CT.bn(h:CT 2000 q):EO q.num:=iY h.1
theorem CT.bd(h:CT 2000 q):EO (q.den:Int):=iY (by rw[Gj];exact h.2)
theorem den_pos(q r:Rat):(0:Int)<(q.den:Int)*(r.den:Int):=Lv (by have:=q.den_nz;omega) (by have:=r.den_nz;omega)
theorem fW(h:CT 2000 q)(h':CT 2000 r):((q.den:Int)*(r.den:Int)).natAbs<2^8000:=by
 rw[Hb,Gj,Gj]
 have:q.den*r.den<2^2000*2^2000:=J6 h.2 h'.2
 rw[<- Lw]at this
 exact E8 this (Ft (by decide) (by decide))
inductive Sd where
 | to (t:Rat)|from(a b:Rat)|round (a b:Rat)
noncomputable def Sd.last:Sd->Rat
 | .to t=>t | .from _ b=>b | .round _ b=>b
noncomputable def Sd.first:Sd->Rat
 | .to t=>t | .from a _=>a | .round a _=>a
noncomputable def CL:Sd->EW
 | .to t=>.tuple [.str "to", fr t]
 | .from a b=>.tuple [.str "from", fr a,fr b]
 | .round a b=>.tuple [.str "round", fr a,fr b]
noncomputable def mx(q r:Rat):Rat:=if q<r then r else q
noncomputable def mn(q r:Rat):Rat:=if q<r then q else r
noncomputable def Ct:Sd->Rat
 | .to t=>mx t 0
 | .from a b=>mx (mx b 0-mx a 0) 0
 | .round a b=>mn (1+(mx b 0-mx a 0)) 1
noncomputable def Sd.Sm(s:Sd):Prop:=CT 60 s.first/\CT 60 s.last
theorem fr0:pr 0 1=fr 0:=rfl
theorem fr1:pr 1 1=fr 1:=rfl
theorem pM:CT 60 0:=⟨by decide,by decide⟩
theorem AV:CT 60 1:=⟨by decide,by decide⟩
theorem dP(h:CT n q)(h':CT n r):CT n (mx q r):=by unfold mx;split<;>assumption
theorem za(h:CT n q)(h':CT n r):CT n (mn q r):=by unfold mn;split<;>assumption
theorem jO{n:Int}{d k:Nat}(hd:d≠0)(h1:n.natAbs<2^k)(h2:d<2^k):CT k (JZ n d hd):=by
 rw[Rat.normalize_eq]
 refine⟨?_,H_ (Nat.div_le_self _ _) h2⟩
 show(n / ((n.natAbs.gcd d:Nat):Int)).natAbs<2^k
 have hdv:((n.natAbs.gcd d:Nat):Int)∣n:=Int.ofNat_dvd_left.mpr (Nat.gcd_dvd_left _ _)
 rw[Int.natAbs_ediv_of_dvd hdv,Gj]
 exact H_ (Nat.div_le_self _ _) h1
theorem bN{a b m:Nat}(h1:a<2^m)(h2:b<2^n):a*b<2^(m+n):=by
 rw[Lw]
 exact J6 h1 h2
theorem wX{m:Nat}(h:CT m q)(h':CT n r):CT (m+n) (q*r):=by
 rw[Rat.mul_def]
 refine jO _ ?_ (bN h.2 h'.2)
 rw[Hb]
 exact bN h.1 h'.1
theorem oW{m:Nat}(h:CT m q)(h':CT n r):CT (m+n+1) (q+r):=by
 rw[Rat.add_def]
 have a1:=bN h.1 h'.2
 have a2:=bN h'.1 h.2
 rw[Nat.add_comm n m]at a2
 have a3:=bN h.2 h'.2
 refine jO _ ?_ (E8 a3 (Ft (by decide) (by omega)))
 have t:=Int.natAbs_add_le (q.num*r.den) (r.num*q.den)
 rw[Hb,Hb,Gj,Gj]at t
 rw[Kn]
 omega
theorem fC{m:Nat}(h:CT m q)(h':CT n r):CT (m+n+1) (q-r):=by
 rw[Rat.sub_eq_add_neg]
 exact oW h ⟨by rw[Rat.neg_num,Int.natAbs_neg];exact h'.1,h'.2⟩
theorem dY(a b:Str):FV (.str a) (.str b)=decide (a=b):=by
 rw[xE]
 by_cases h:a=b
 · simp[h]
 · rw[decide_eq_false h];simp[h]
theorem CT.up(h:CT 60 q):CT 2000 q:=h.mono (by decide)
noncomputable def DH(x y:Rat)(b:Bool):Bool:=if b then !decide (y<x)else decide (x<y)
noncomputable def Dx(w:Str):Prop:=w = "half" \/ w = "shut" \/ w = "open"
noncomputable def Di(s:Sd)(w:Str)(x:Rat):Bool :=
 let ahead:=DH x s.last (decide (w = "shut"))
 let behind:=DH s.first x (!decide (w = "open"))
 match s with
 | .to _=>ahead
 | .from _ _=>behind&&ahead
 | .round _ _=>behind||ahead
noncomputable def sZ(qs:List Rat):Rat:=qs.foldl (· * ·) 1
noncomputable def gl(ss:List Sd):EW:=.tuple (ss.map CL)
noncomputable def im(ss:List Sd):Rat:=sZ (ss.map Ct)
noncomputable def CV(qs:List Rat):EW:=.tuple (qs.map fr)
noncomputable def Dq(qs:List Rat)(ss:List Sd)(w:Str):Bool:=(qs.zip ss).all fun p=>Di p.2 w p.1
noncomputable def ptsQ(ps:List (List Rat)):EW:=.tuple (ps.map CV)
noncomputable def cntN(ps:List (List Rat))(ss:List Sd)(w:Str):Nat:=(ps.filter fun p=>Dq p ss w).length
theorem at_last2{α:Type}(x y:α):L2.atI [x,y] (-1)=some y:=rfl
theorem at_last3{α:Type}(x y z:α):L2.atI [x,y,z] (-1)=some z:=rfl
theorem jT:∀qs:List Rat,GI (qs.map fr)=true
 | []=>rfl
 | q::qs=>by simp[GI,GN,fr,jT qs]
theorem jY:∀qs:List Rat,GF (qs.map fr)<=3
 | []=>by simp[GF]
 | q::qs=>by
   have:=jY qs
   simp[GF,Hf,fr]at this ⊢
   omega
theorem lv(qs:List Rat):F_ (.list (qs.map fr))=true:=by
 have:=jY qs
 simp[F_,GN,Hf,jT]
 omega
theorem at_last1{α:Type}(x:α):L2.atI [x] (-1)=some x:=rfl
theorem cF:fr q=fr r↔q=r:=⟨gW,fun h=>by rw[h]⟩
theorem bE{s t:Sd}:CL s=CL t↔s=t:=by
 constructor
 · intro h
   have n1:¬(EX "from" = EX "round"):=by decide +kernel
   cases s<;>cases t<;>simp[CL,cF,n1,KF n1]at h ⊢ <;> first|exact h|exact(n1 h.1.symm).elim|exact(n1 h.1).elim
 · rintro rfl;rfl
theorem bG{a b:List Rat}:CV a=CV b↔a=b:=by
 unfold CV
 rw[GK,bO fun _ _=>cF]
theorem aH{a b:List Sd}:gl a=gl b↔a=b:=by
 unfold gl
 rw[GK,bO fun _ _=>bE]
theorem aJ{a b:List (List Rat)}:ptsQ a=ptsQ b↔a=b:=by
 unfold ptsQ
 rw[GK,bO fun _ _=>bG]
theorem bM{a b:List Rat}:a.map fr=b.map fr↔a=b:=bO fun _ _=>cF
theorem item_fr0(q:Rat):itemAt (fr q) 0=some (.int q.num):=rfl
theorem item_fr1(q:Rat):itemAt (fr q) 1=some (.int q.den):=rfl
theorem tupD_pt(a:List Rat):tupD (CV a)=some (a.map fr):=rfl
theorem seqD_pt(a:List Rat):jE (CV a)=some (a.map fr):=rfl
theorem lenD_pt(a:List Rat):rg (CV a)=some a.length:=by show some (a.map fr).length=_;rw[Fd]
theorem item_pt(a:List Rat)(i:Int):itemAt (CV a) i=(atI a i).map fr:=ck _ _ _
theorem tupD_bx(a:List Sd):tupD (gl a)=some (a.map CL):=rfl
theorem seqD_bx(a:List Sd):jE (gl a)=some (a.map CL):=rfl
theorem lenD_bx(a:List Sd):rg (gl a)=some a.length:=by show some (a.map CL).length=_;rw[Fd]
theorem item_bx(a:List Sd)(i:Int):itemAt (gl a) i=(atI a i).map CL:=ck _ _ _
theorem tupD_ps(a:List (List Rat)):tupD (ptsQ a)=some (a.map CV):=rfl
theorem seqD_ps(a:List (List Rat)):jE (ptsQ a)=some (a.map CV):=rfl
theorem lenD_ps(a:List (List Rat)):rg (ptsQ a)=some a.length:=by show some (a.map CV).length=_;rw[Fd]
theorem item_ps(a:List (List Rat))(i:Int):itemAt (ptsQ a) i=(atI a i).map CV:=ck _ _ _
theorem kind_pt(a:List Rat):gv (CV a)=gv (.tuple []):=rfl
theorem kind_bx(a:List Sd):gv (gl a)=gv (.tuple []):=rfl
noncomputable def qd(a b:Int):Rat:=(a:Rat) / (b:Rat)
theorem rf{a b:Int}(hb:0<b):Gf [.int (a.fdiv (G6 a b)),.int (b.fdiv (G6 a b))]=fr (qd a b):=fQ hb
theorem m8(q:Rat):qd q.num q.den=q:=by
 unfold qd
 have:=Rat.mkRat_self q
 rw[Rat.mkRat_eq_div]at this
 exact this
theorem wm(q r:Rat):qd (q.num*r.den+r.num*q.den) (q.den*r.den)=q+r:=gW (by rw[<- xD];exact(fQ (den_pos q r)).symm)
theorem m7(q r:Rat):qd (q.num*r.den-r.num*q.den) (q.den*r.den)=q-r:=gW (by rw[<- xB];exact(fQ (den_pos q r)).symm)
theorem wg(q r:Rat):qd (q.num*r.num) (q.den*r.den)=q*r:=gW (by rw[<- xC];exact(fQ (den_pos q r)).symm)
theorem ou(q:Rat):(0:Int)<(q.den:Int):=by have:=q.den_nz;omega
theorem sQ{a b:Int}{k:Nat}(hb:0<b)(h1:a.natAbs<2^k)(h2:b.natAbs<2^k):CT k (qd a b):=by
 obtain⟨d,rfl⟩:=Hq (show 0<=b by omega)
 have hd:d≠0:=by omega
 have e:qd a d=JZ a d hd:=gW (by rw[<- dU,fQ (by omega)];rfl)
 rw[e]
 exact jO _ h1 (by simpa using h2)
theorem um(h:CT n q)(hn:n<=1000):Sm 2 2 (fr q) :=
 Sm.pair (E8 h.1 (Ft (by decide) hn)) (by rw[Gj];exact E8 h.2 (Ft (by decide) hn))
theorem kz{s:Sd}(h:s.Sm):CT 190 (Ct s):=by
 cases s with
 | to t=>exact(dP h.2 pM).mono (by decide)
 | «from» a b=>exact(dP (fC (dP h.2 pM) (dP h.1 pM)) (pM.mono (by decide))).mono (by decide)
 | round a b=>exact(za (oW AV (fC (dP h.2 pM) (dP h.1 pM))) (AV.mono (by decide))).mono (by decide)
noncomputable def sg(x y:Rat):Int:=x.num*y.den-y.num*x.den
theorem nT:∀ps:List (List Rat),GI (ps.map CV)=true
 | []=>rfl
 | p::ps=>by simp[GI,GN,CV,jT,nT ps]
theorem ot:∀ps:List (List Rat),GF (ps.map CV)<=5
 | []=>by simp[GF]
 | p::ps=>by
   have:=ot ps
   have:=jY p
   simp[GF,Hf,CV]at *
   omega
theorem lq(ps:List (List Rat)):F_ (.list (ps.map CV))=true:=by
 have:=ot ps
 simp[F_,GN,Hf,nT]
 omega
theorem pK{a b:Int}(hb:0<b)(h:0<=a):0<=qd a b:=by
 unfold qd
 have h1:(0:Rat)<=(a:Rat):=by exact_mod_cast h
 have h2:(0:Rat)<(b:Rat):=by exact_mod_cast hb
 rw[Ig]
 exact Rat.mul_nonneg h1 (GZ (Rat.inv_pos.mpr h2))
theorem qS{a b:Int}(hb:0<b)(h:a<b):qd a b<1:=by
 unfold qd
 have h1:(a:Rat)<(b:Rat):=by exact_mod_cast h
 have h2:(0:Rat)<(b:Rat):=by exact_mod_cast hb
 exact(Rat.div_lt_iff h2).mpr (by rw[Rat.one_mul];exact h1)
noncomputable def ET:=EY @item_fr0 (EY @item_fr1 (EY @tupD_pt (EY @seqD_pt (EY @lenD_pt (EY @item_pt (EY @tupD_bx (EY @seqD_bx (EY @lenD_bx (EY @item_bx (EY @tupD_ps (EY @seqD_ps (EY @lenD_ps (EY @item_ps (EY @at_last1 (EY @at_last2 (EY @at_last3 (EY @kind_pt (EY @kind_bx (EY @fr0 (@fr1))))))))))))))))))))
theorem xF(a b:Rat):FV (fr a) (fr b)=decide (a=b):=by
 unfold fr
 simp only[FV,EW.eqvAll]
 by_cases h:a=b
 · subst h;simp[FV]
 · have:¬(a.num=b.num/\a.den=b.den):=fun z=>h (Rat.ext z.1 z.2)
   simp only[h,decide_false,Bool.and_true,FV]
   rw[Bool.and_eq_false_iff]
   by_cases h1:a.num=b.num
   · right
     have:a.den≠b.den:=fun z=>this ⟨h1,z⟩
     simp;omega
   · left;simpa using h1
theorem i_(q:Rat):F_ (fr q)=true:=by
 simp[F_,fr,GN,GI,Hf,GF]
noncomputable def q9:Rat:=⟨999999999998,999999999999,by decide,by decide⟩
noncomputable def CB(b:Bool)(qs:List Rat):EW:=if b then .tuple (qs.map fr)else .list (qs.map fr)
theorem yG{b c:Bool}{qs:List Rat}:CB b qs=CB c rs↔b=c/\qs=rs:=by
 cases b<;>cases c<;>simp[CB,bM]
theorem dt(b:Bool)(qs:List Rat):seqW (.d (CB b qs))=some (qs.map fr):=by cases b<;>rfl
noncomputable def o0(kvs:List (EA×EW))(k:EA):Bool:=kvs.any fun kv=>decide (kv.1=k)
theorem qe{kvs:List (EA×EW)}{k:EA}:o0 kvs k=true↔k∈kvs.map (·.1):=by
 unfold o0
 simp only[List.any_eq_true,decide_eq_true_iff,Gn]
theorem jk(kvs:List (EA×EW))(k:EA)(x:EW):(putF kvs k x).map (·.1)=if o0 kvs k=true then kvs.map (·.1)else kvs.map (·.1)++[k]:=by
 unfold putF
 show Ks _ (if o0 kvs k=true then _ else _)=_
 split
 · rw[GM]
   congr 1;funext kv;simp only[Function.comp];split<;>rfl
 · rw[FY];rfl
theorem pN(kvs:List (EA×EW))(k j:EA)(x:EW):gB (putF kvs k x) j=if j=k then some x else gB kvs j:=by
 have one:∀l:List (EA×EW),gB (l.map fun kv=>if kv.1=k then(kv.1,x)else kv) j=if j=k then(if o0 l k=true then some x else none)else gB l j:=by
  intro l
  induction l with
  | nil=>by_cases h:j=k<;>simp[gB,o0,h]
  | cons p r ih =>
    unfold gB o0 at *
    rw[Gi,GE,GE,IJ]
    by_cases h1:p.1=k
    · by_cases h:j=k
      · subst h;simp[h1]
      · have h2:¬k=j:=fun z=>h z.symm
        rw[if_pos h1,if_neg h]
        rw[if_neg h]at ih
        simp only[h1,h2,decide_false]
        exact ih
    · rw[if_neg h1]
      by_cases h:j=k
      · subst h
        rw[if_pos rfl]
        rw[if_pos rfl]at ih
        simp only[h1,decide_false,Bool.false_or]
        exact ih
      · rw[if_neg h]
        rw[if_neg h]at ih
        cases decide (p.1=j)with
        | true=>rfl
        | false=>exact ih
 unfold putF
 show gB (if o0 kvs k=true then _ else _) j=_
 by_cases hm:o0 kvs k=true
 · rw[if_pos hm,one]
   by_cases h:j=k<;>simp[h,hm]
 · rw[if_neg hm]
   unfold gB
   rw[List.find?_append]
   by_cases h:j=k
   · subst h
     have:kvs.find? (fun kv=>decide (kv.1=j))=none:=by
      rw[List.find?_eq_none];intro p hp z
      exact hm (qe.mpr (Gn.mpr ⟨p,hp,by simpa using z⟩))
     simp[this]
   · have h2:¬k=j:=fun z=>h z.symm
     simp[h,h2]
noncomputable def ut(f:Rat->Int)(qs:List Rat):List (EA×EW):=(qs.map fun q=>((Hn (f q):EA),fr q)).foldl (fun a p=>putF a p.1 p.2) []
theorem iQ(f:Rat->Int):∀(qs:List Rat)(acc:List (EA×EW))(ns:List Int),acc.map (·.1)=ns.map Hn->ns.Nodup->(∀q r,q∈qs->r∈qs->f q=f r->q=r) ->
 ∃ ms:List Int,((qs.map fun q=>((Hn (f q):EA),fr q)).foldl (fun a p=>putF a p.1 p.2) acc).map (·.1)=ms.map Hn/\ms.Nodup/\(∀n,n∈ms↔n∈ns\/∃q∈qs,f q=n) /\
   ∀n,gB ((qs.map fun q=>((Hn (f q):EA),fr q)).foldl (fun a p=>putF a p.1 p.2) acc) (.inl n)=(match qs.find? (fun q=>decide (f q=n))with|some q=>some (fr q)|none=>gB acc (.inl n))/\ms.length<=ns.length+qs.length
 | [],acc,ns,h,nd,_=>⟨ns,h,nd,fun n=>by simp,fun n=>⟨rfl,by simp⟩⟩
 | q::qs,acc,ns,h,nd,inj=>by
   have hmem:o0 acc (Hn (f q))=true↔f q∈ns:=by
    rw[qe,h,Gn];constructor
    · rintro⟨x,hx,e⟩;cases e;exact hx
    · intro hx;exact⟨_,hx,rfl⟩
   have inj':∀a b,a∈qs->b∈qs->f a=f b->a=b:=fun a b ha hb=>inj a b (E9 _ ha) (E9 _ hb)
   have val:∀n:Int,∀r,gB (putF acc (.inl (f q)) (fr q)) (.inl n)=r->(match qs.find? (fun q=>decide (f q=n))with|some q=>some (fr q)|none=>gB (putF acc (.inl (f q)) (fr q)) (.inl n))=(match(q::qs).find? (fun q=>decide (f q=n))with|some q=>some (fr q)|none=>gB acc (.inl n)):=by
    intro n r _
    rw[pN,GE]
    by_cases e:f q=n
    · subst e
      simp only[decide_true]
      cases e2:qs.find? (fun q'=>decide (f q'=f q))with
      | none=>simp
      | some q' =>
        have m:=JL e2
        have p:f q'=f q:=by simpa using List.find?_some e2
        have:=inj q' q (E9 _ m) Ff p
        rw[this]
    · have e':¬n=f q:=fun z=>e z.symm
      simp only[e,decide_false,Hn.injEq,e',if_false]
   by_cases hq:f q∈ns
   · obtain⟨ms,a1,a2,a3,a4⟩:=iQ f qs (putF acc (.inl (f q)) (fr q)) ns (by rw[jk,if_pos (hmem.mpr hq)];exact h) nd inj'
     refine⟨ms,a1,a2,fun n=>?_,fun n=>⟨?_,?_⟩⟩
     · rw[a3 n]
       simp only[FN]
       constructor
       · rintro(z|⟨r,hr,e⟩)
         · exact .inl z
         · exact .inr ⟨r,.inr hr,e⟩
       · rintro(z|⟨r,rfl|hr,e⟩)
         · exact .inl z
         · exact .inl (e▸hq)
         · exact .inr ⟨r,hr,e⟩
     · rw[<- val n _ rfl];exact(a4 n).1
     · have:=(a4 n).2;simp only[FJ];omega
   · obtain⟨ms,a1,a2,a3,a4⟩:=iQ f qs (putF acc (.inl (f q)) (fr q)) (ns++[f q]) (by rw[jk,if_neg (fun z=>hq (hmem.mp z)),h,FY];rfl)
       (List.nodup_append.mpr ⟨nd,by simp,fun a ha b hb=>by simp at hb;subst hb;rintro rfl;exact hq ha⟩) inj'
     refine⟨ms,a1,a2,fun n=>?_,fun n=>⟨?_,?_⟩⟩
     · rw[a3 n]
       simp only[FN,Ga,List.not_mem_nil,or_false]
       constructor
       · rintro((z|z)|⟨r,hr,e⟩)
         · exact .inl z
         · exact .inr ⟨q,.inl rfl,z.symm⟩
         · exact .inr ⟨r,.inr hr,e⟩
       · rintro(z|⟨r,rfl|hr,e⟩)
         · exact .inl (.inl z)
         · exact .inl (.inr e.symm)
         · exact .inr ⟨r,hr,e⟩
     · rw[<- val n _ rfl];exact(a4 n).1
     · have:=(a4 n).2;simp only[Fj,FJ,Jp]at this ⊢;omega
theorem uq(f:Rat->Int)(qs:List Rat)(inj:∀q r,q∈qs->r∈qs->f q=f r->q=r) :
 ∃ms:List Int,(ut f qs).map (·.1)=ms.map Hn/\ms.Nodup/\(∀n,n∈ms↔∃q∈qs,f q=n)/\(∀q∈qs,gB (ut f qs) (.inl (f q))=some (fr q))/\ms.length<=qs.length:=by
 obtain⟨ms,a1,a2,a3,a4⟩:=iQ f qs [] [] rfl List.nodup_nil inj
 refine⟨ms,a1,a2,fun n=>by rw[a3 n];simp,fun q hq=>?_,by have:=(a4 0).2;simpa using this⟩
 have:=(a4 (f q)).1
 show gB ((qs.map fun q=>((Hn (f q):EA),fr q)).foldl (fun a p=>putF a p.1 p.2) []) _=_
 rw[this]
 cases e:qs.find? (fun q'=>decide (f q'=f q))with
 | none =>
   rw[List.find?_eq_none]at e
   exact absurd (e q hq) (by simp)
 | some q' =>
   have m:=JL e
   have p:f q'=f q:=by simpa using List.find?_some e
   rw[inj q' q m hq p]
noncomputable def Cu(S:Int)(q:Rat):Int:=(q.num*S).fdiv q.den
theorem qO(S:Int)(q:Rat):Cu S q*q.den<=q.num*S/\q.num*S<(Cu S q+1)*q.den:=by
 have h0:(0:Int)<q.den:=ou q
 unfold Cu
 rw[Hw _ (by omega)]
 have h1:=Int.emod_nonneg (q.num*S) (show(q.den:Int)≠0 by omega)
 have h2:=Int.emod_lt_of_pos (q.num*S) h0
 have h3:=Int.mul_ediv_add_emod (q.num*S) q.den
 have e1:q.num*S / (q.den:Int)*(q.den:Int)=(q.den:Int)*(q.num*S / (q.den:Int)):=Lh _ _
 have e2:(q.num*S / (q.den:Int)+1)*(q.den:Int)=(q.den:Int)*(q.num*S / (q.den:Int))+(q.den:Int):=by rw[Int.add_mul,Int.one_mul,e1]
 rw[e1,e2]
 constructor<;>omega
theorem lA(q r:Rat):q<r↔q.num*r.den<r.num*q.den:=Rat.lt_iff q r
theorem mG{B:Int}(hq:(q.den:Int)<=B)(hr:(r.den:Int)<=B)(h:q<r):Cu (B*B) q<Cu (B*B) r:=by
 have h0:(0:Int)<q.den:=ou q
 have h1:(0:Int)<r.den:=ou r
 rw[lA]at h
 obtain⟨a1,a2⟩:=qO (B*B) q
 obtain⟨b1,b2⟩:=qO (B*B) r
 generalize Cu (B*B) q=a at *
 generalize Cu (B*B) r=b at *
 generalize (q.den:Int)=x at *
 generalize (r.den:Int)=y at *
 by_cases hab:a<b
 · exact hab
 · exfalso
   have hba:b+1<=a+1:=by omega
   have e1:a*x*y<=q.num*(B*B)*y:=Hg a1 (by omega)
   have e2:r.num*(B*B)*x<(b+1)*y*x:=Int.mul_lt_mul_of_pos_right b2 h0
   have e3:(b+1)*y*x<=(a+1)*y*x:=Hg (Hg hba (by omega)) (by omega)
   have hs:x*y<=B*B:=KB hq hr (by omega) (by omega)
   have h2:q.num*y+1<=r.num*x:=h
   have e4:(q.num*y+1)*(B*B)<=r.num*x*(B*B):=Hg h2 (KC (by omega) (by omega))
   have e5:(q.num*y+1)*(B*B)=q.num*(B*B)*y+B*B:=by grind
   have e6:r.num*x*(B*B)=r.num*(B*B)*x:=by grind
   have e7:(a+1)*y*x=a*x*y+x*y:=by grind
   omega
theorem mW(q r:Rat):q<r\/q=r\/r<q:=by
 by_cases h:q<r
 · exact .inl h
 · by_cases h2:r<q
   · exact .inr (.inr h2)
   · exact .inr (.inl (Rat.le_antisymm (Hh.mp h2) (Hh.mp h)))
theorem mH{B:Int}(hq:(q.den:Int)<=B)(hr:(r.den:Int)<=B)(h:Cu (B*B) q=Cu (B*B) r):q=r:=by
 rcases mW q r with z|z|z
 · have:=mG hq hr z;omega
 · exact z
 · have:=mG hr hq z;omega
theorem sv{B:Int}(hq:(q.den:Int)<=B)(hr:(r.den:Int)<=B)(h:Cu (B*B) q<Cu (B*B) r):q<r:=by
 rcases mW q r with z|z|z
 · exact z
 · subst z;omega
 · have:=mG hr hq z;omega
theorem fF:∀(ns:List Int)(m:Int),∃k,cv (some m) ns=some k/\m<=k/\(∀n∈ns,n<=k)/\(k=m\/k∈ns)
 | [],m=>⟨m,rfl,Lx _,by simp,.inl rfl⟩
 | n::ns,m=>by
   obtain⟨k,e,h1,h2,h3⟩:=fF ns (if n>m then n else m)
   refine⟨k,e,by split at h1<;>omega,fun x hx=>?_,?_⟩
   · rcases FN.mp hx with rfl|hx
     · split at h1<;>omega
     · exact h2 x hx
   · rcases h3 with h3|h3
     · split at h3
       · exact .inr (by rw[h3];exact Ff)
       · exact .inl h3
     · exact .inr (E9 _ h3)
theorem wW(ns:List Int):(∀n∈ns,n<=C7 1 ns)/\(C7 1 ns=1\/C7 1 ns∈ns):=by
 unfold C7
 cases ns with
 | nil=>exact⟨by simp,.inl rfl⟩
 | cons n ns =>
   obtain⟨k,e,h1,h2,h3⟩:=fF ns n
   have e':cv none (n::ns)=some k:=e
   rw[e']
   refine⟨fun x hx=>?_,.inr ?_⟩
   · rcases FN.mp hx with rfl|hx
     · exact h1
     · exact h2 x hx
   · rcases h3 with rfl|h3
     · exact Ff
     · exact E9 _ h3
theorem lh(f:Rat->Int){qs:List Rat}:∀(ns:List Int),(∀n∈ns,∃q∈qs,f q=n)->∃rs:List Rat,ns=rs.map f/\∀r∈rs,r∈qs
 | [],_=>⟨[],rfl,by simp⟩
 | n::ns,h=>by
   obtain⟨rs,e,hr⟩:=lh f ns fun m hm=>h m (E9 _ hm)
   obtain⟨q,hq,eq⟩:=h n Ff
   exact⟨q::rs,by rw[Gi,eq,<- e],fun r hr'=>(FN.mp hr').elim (fun z=>z▸hq) (hr r)⟩
noncomputable def eP(qs rs:List Rat):Prop:=rs.Pairwise (· < ·)/\∀q,q∈rs↔q∈qs
theorem mI{B:Int}{qs:List Rat}{ms:List Int}(hB:∀q∈qs,(q.den:Int)<=B)(nd:ms.Nodup)(hm:∀n,n∈ms↔∃q∈qs,Cu (B*B) q=n)(pm:ns.Perm ms)(pw:ns.Pairwise (· <= ·)) :
 ∃rs:List Rat,ns=rs.map (Cu (B*B))/\(∀r∈rs,r∈qs)/\eP qs rs:=by
 obtain⟨rs,e,hr⟩:=lh (Cu (B*B)) ns fun n hn=>(hm n).mp (pm.mem_iff.mp hn)
 refine⟨rs,e,hr,?_,fun q=>⟨hr q,fun hq=>?_⟩⟩
 · have nd':ns.Nodup:=pm.nodup_iff.mpr nd
   subst e
   have lt:(rs.map (Cu (B*B))).Pairwise (· < ·):=by
    have:=pw.and nd'
    exact this.imp fun z=>by have:=z.1;have:=z.2;omega
   rw[List.pairwise_map]at lt
   exact lt.imp_of_mem fun ha hb z=>sv (hB _ (hr _ ha)) (hB _ (hr _ hb)) z
 · have:Cu (B*B) q∈ns:=pm.mem_iff.mpr ((hm _).mpr ⟨q,hq,rfl⟩)
   rw[e,Gn]at this
   obtain⟨r,hr',e2⟩:=this
   rw[<- mH (hB r (hr r hr')) (hB q hq) e2]
   exact hr'
theorem jo:∀{rs qs:List Rat},rs.Nodup->(∀x∈rs,x∈qs)->rs.length<=qs.length
 | [],_,_,_=>FI _
 | r::rs,qs,nd,h=>by
   rw[Hs]at nd
   have hm:=h r Ff
   have:=jo (rs:=rs) (qs:=qs.erase r) nd.2 fun x hx=>(List.mem_erase_of_ne (fun(z:x=r)=>nd.1 (by rw[<- z];exact hx))).mpr (h x (E9 _ hx))
   rw[List.length_erase_of_mem hm]at this
   have:=List.length_pos_of_mem hm
   simp only[FJ]
   omega
theorem gJ{qs:List Rat}(h:eP qs rs):rs.length<=qs.length:=by
 have nd:rs.Nodup:=h.1.imp fun z e=>by subst e;exact absurd z (Jg)
 exact jo nd fun x hx=>(h.2 x).mp hx
theorem gH:∀{rs ss:List Rat},rs.Pairwise (· < ·)->ss.Pairwise (· < ·)->(∀q,q∈rs↔q∈ss)->rs=ss
 | [],[],_,_,_=>rfl
 | [],s::_,_,_,h=>by have:=(h s).mpr Ff;simp at this
 | r::_,[],_,_,h=>by have:=(h r).mp Ff;simp at this
 | r::rs,s::ss,h1,h2,h=>by
   rw[Ia]at h1 h2
   have e:r=s:=by
    rcases FN.mp ((h r).mp Ff)with z|z
    · exact z
    · rcases FN.mp ((h s).mpr Ff)with y|y
      · exact y.symm
      · have a:=h2.1 r z;have b:=h1.1 s y;exact absurd (show r<r by grind) Jg
   subst e
   congr 1
   refine gH h1.2 h2.2 fun q=>?_
   constructor
   · intro hq
     rcases FN.mp ((h q).mp (E9 _ hq))with z|z
     · subst z;exact absurd (h1.1 q hq) Jg
     · exact z
   · intro hq
     rcases FN.mp ((h q).mpr (E9 _ hq))with z|z
     · subst z;exact absurd (h2.1 q hq) Jg
     · exact z
noncomputable def tv(b:Int)(ds:List Int):Int:=ds.foldl (fun t d=>t*b+d) 0
theorem eL{b:Int}(h:0<b):(b:Rat)≠0:=by
 intro z
 have:b=0:=by exact_mod_cast z
 omega
noncomputable def Pw(b B:Int):Prop:=∃m:Nat,B∣b^m
noncomputable def ix(p:List Int)(f:Int):Int:=(p.idxOf f:Int)
theorem pL{a c:Int}(hc:0<c):(qd a c).num*c=a*(qd a c).den:=by
 have h1:=eL hc
 have h2:=eL (ou (qd a c))
 have e:qd (qd a c).num (qd a c).den=qd a c:=m8 _
 have e':((qd a c).num:Rat) / (((qd a c).den:Int):Rat)=(a:Rat) / (c:Rat):=e
 generalize (qd a c).num=x at *
 generalize ((qd a c).den:Int)=y at *
 have:(x:Rat)*(c:Rat)=(a:Rat)*(y:Rat):=by grind
 exact_mod_cast this
noncomputable def Fx(b:Int)(N:Nat)(q:Rat):Prop:=∃(T:Int)(k:Nat),q=qd T (b^k)/\0<=T/\T<b^k/\b^k<2^N
end L2.VL
variable{ss:List L2.VL.Sd}
namespace L2
section
variable{X:Cx}
theorem ud{its:List E7}(r:cu (ns.map V.int) its){v:E7}(e:its[i]?=some v):∃t,v = .int (ns.getD i 0) t:=by
 have hl:=r.length
 rw[Fd]at hl
 have hi:i<ns.length:=by have:=(FK.mp e).1;omega
 have hb:(ns.map V.int)[i]?=some (.int ns[i]):=by simp[hi]
 obtain⟨u,hu,ru⟩:=r.get hb
 rw[e]at hu
 cases hu
 have:ns.getD i 0=ns[i]:=by simp[List.getD,hi]
 rw[this]
 exact ru
theorem preSum_eq(ns:List Int):preSum (fun i=>ns.getD i 0) ns.length=ns.sum:=by
 have key:∀k,k<=ns.length->preSum (fun i=>ns.getD i 0) k=(ns.take k).sum:=by
  intro k
  induction k with
  | zero=>intro _;rfl
  | succ k ih =>
    intro hk
    have hk':k<ns.length:=by omega
    show preSum _ k+ns.getD k 0=_
    rw[ih (by omega),Fz hk',List.sum_append]
    simp[List.getD,hk']
 rw[key _ (Fa _),Fv (Fa _)]
theorem oN(hc:X.calm=true):d8 X (.builtin "sum") (fun xs H Q=>∃(p:Addr)(ns:List Int),xs=[.ref p]/\D8 X.K H p (ns.map V.int)/\Q (.int ns.sum) H):=by
 intro pins s σ H xs us Q I r ⟨p,ns,ex,hq,q⟩
 subst ex
 obtain⟨u,rfl,ru⟩:=vals1 r
 cases ru
 obtain⟨its,rv,pl,hz⟩:=I.list hq
 have hl:=rv.length
 rw[Fd]at hl
 refine call_sum_walkG (Ik pl.isList ?_)
 have ne:p≠s.heap.objs.size:=by obtain⟨o,ho,_⟩:=pl.isList;exact FZ (Fq ho)
 refine⟨s.heap.objs.size,_,_,_,_,_,fun i=>ns.getD i 0,rfl,Walks.list (A:=X.A.in1) (I.ok.hd hc) s.heap.objs.size p ne its.toArray,⟨⟨_,FB _ rfl,rfl,rfl⟩,pl.isList.push _⟩,?_,?_,?_⟩
 · intro b hb
   have hb:b=s.heap.objs.size\/b=p:=by simpa using hb
   show b<(Heap.push _ _).objs.size
   rw[HX]
   rcases hb with rfl|rfl
   · exact J4 _
   · obtain⟨o,ho,_⟩:=pl.isList;exact IV (Fq ho)
 · intro i v hP
   exact ud rv (by simpa using hP)
 · intro h' tk t' k
   have e:preSum (fun i=>ns.getD i 0) its.toArray.size=ns.sum:=by rw[Fw,<- hl];exact preSum_eq ns
   rw[e]
   exact⟨.int _,H,I.kept (t':=tk) fun b o eb=>k b o (by simp;exact FZ (Fq eb)) (E4 _ eb),⟨t',rfl⟩,q⟩
end
end L2
namespace L2.VL
section
variable{X:Cx}{rl:RlT}{a:Expr}{fs:D0}{pos p:Pos}
noncomputable def zq:List W->(W->Prop)->Prop:=fun ws Q=>∃(w:W)(ns:List Int),ws=[w]/\w.dat=some (.list (ns.map .int))/\Q (.d (.int ns.sum))
theorem u0:gh X rl (fun xs H Q=>∃(p:Addr)(ns:List Int),xs=[.ref p]/\D8 X.K H p (ns.map V.int)/\Q (.int ns.sum) H) zq:=fun{F H vs ws} Qd Q s ra r ⟨w,ns,ew,ed,q⟩ k=>by
 subst ew
 obtain⟨v,rfl,r1⟩:=lN r
 obtain⟨a,us,rfl,sq,rs⟩:=r1.items s ed
 have e:=dO rs
 subst e
 exact⟨a,ns,rfl,sq,k _ (.d _) _ _ (Grow.refl s ra) (.int _) trivial q⟩
theorem v_sum(hm:X.mg "sum" = none)(ha:Ef X rl [a] fs)(hc:X.calm=true:=by rfl)(hg:Gl X "sum" := by rfl)(he:Fg [a] X.env=(false,eval a X.env)::Fg [] X.env:=by rfl)(hpl:(GQ pos (Fg [] X.env)).any (·.1)=false:=by rfl) :
 PV X rl (.Call (.Name "sum" p) [a] [] pos) (dG zq fs):=dq (oN hc) u0 hm (by rfl) ha hg (by decide) (by decide) he hpl
noncomputable def ue:EW->Option (List Int)
 | .list xs=>iM xs
 | _=>none
theorem xV:ue d=some ns↔d = .list (ns.map .int):=by
 constructor
 · intro h
   cases d with
   | list xs=>rw[iK h]
   | _=>cases h
 · rintro rfl;exact intsD_map _
theorem xg(w:W):zq [w]=aP (w.dat.bind ue) fun ns=>ret (.d (.int ns.sum)):=by
 refine ah fun Q=>?_
 rw[aq]
 constructor
 · rintro⟨w',ns,e,ed,q⟩
   cases e
   exact⟨ns,by rw[ed];exact intsD_map ns,q⟩
 · rintro⟨ns,e,q⟩
   cases ed:w.dat with
   | none=>rw[ed]at e;cases e
   | some d =>
     rw[ed]at e
     exact⟨w,ns,rfl,by rw[ed,xV.mp e],q⟩
end
open PySem PySem.Spec
noncomputable def lim(c:List Rat):List Rat:=0::(c++[1])
theorem getD_mem{xs:List α}{k:Nat}{d:α}(h:k<xs.length):xs.getD k d∈xs:=by
 rw[FW,FA h];exact Ge h
theorem vz(xs:List Int):Gf (xs.map Fm)=vA xs:=rfl
theorem iN{xs:List α}{k:Nat}{d:α}(h:k<xs.length):xs.getD k d=xs[k]:=by rw[FW,FA h];rfl
theorem iZ{xs:List α}{i:Int}(d:α)(h0:0<=i)(h1:i<(xs.length:Int)):atI xs i=some (xs.getD i.toNat d):=by rw[xK h0 h1,iN (by omega)]
open PySem PySem.Spec
theorem mJ{α:Type}:∀{l:List α}{n:Nat},l.length=n+1->∃b t,l=b++[t]
 | [],_,h=>by simp at h
 | [x],_,_=>⟨[],x,rfl⟩
 | x::y::l,n,h=>by
   obtain⟨b,t,e⟩:=mJ (l:=y::l) (n:=l.length) (by simp)
   exact⟨x::b,t,by rw[e];rfl⟩
noncomputable def chP{α:Type}(rows:List (List α)):List (List α):=rows.foldl (fun ch r=>ch.flatMap fun b=>r.map fun t=>b++[t]) [[]]
theorem lb(rows:List (List α))(r:List α):chP (rows++[r])=(chP rows).flatMap fun b=>r.map fun t=>b++[t]:=by
 unfold chP;rw[G9];rfl
noncomputable def CK(p es:List Rat):Bool:=(p.zip es).all fun z=>!decide (z.2<z.1)
noncomputable def Cv(es:List Rat):Rat:=sZ (es.map fun e=>mx e 0)
noncomputable def CJ(ps:List (List Rat))(es:List Rat):Nat:=(ps.filter fun p=>CK p es).length
noncomputable def ov(ps:List (List Rat))(es:List Rat):Rat:=qd (CJ ps es) ps.length-Cv es
theorem o9{p:List α}{es:List β}{e:β}(d:α)(hl:es.length=i)(hi:i<p.length):p.zip (es++[e])=p.zip es++[(p.getD i d,e)]:=by
 have hp:p=p.take i++(p.getD i d)::p.drop (i+1):=by
  rw[iN hi,<- Gx hi,Jb]
 have e1:p.zip es=(p.take i).zip es:=by
  conv=>lhs;rw[hp]
  rw[show es=es++[]from(HG _).symm,List.zip_append (by rw[Gc];omega)]
  simp
 rw[e1]
 conv=>lhs;rw[hp]
 rw[List.zip_append (by rw[Gc];omega)]
 simp
noncomputable def plc(f:List Rat->Bool)(ps:List (List Rat)):List Nat:=(Gh ps.length).filter fun k=>f (ps.getD k [])
theorem jM(f:List Rat->Bool)(ps:List (List Rat)):(plc f ps).length=(ps.filter f).length:=by
 unfold plc
 have:ps.filter f=((Gh ps.length).filter fun k=>f (ps.getD k [])).map fun k=>ps.getD k []:=by
  have e:(Gh ps.length).map (fun k=>ps.getD k [])=ps:=by
   refine List.ext_getElem (by simp) fun i h1 h2=>?_
   simp[FW,FA h2]
  conv=>lhs;rw[<- e,List.filter_map]
  rfl
 rw[this,Fd]
theorem qW{f:List Rat->Bool}:∀k∈plc f ps,k<ps.length:=fun k mk=>HV.mp (Jl.mp mk).1
theorem tj{f g h:List Rat->Bool}(e:∀p∈ps,h p=(f p&&g p)):(plc f ps).filter (fun k=>g (ps.getD k []))=plc h ps:=by
 unfold plc
 rw[List.filter_filter]
 refine List.filter_congr fun k mk=>?_
 rw[e _ (getD_mem (HV.mp mk)),Bool.and_comm]
noncomputable def qz{ps:List (List Rat)}(h1:1<=ps.length)(h:ps.length<=60)(f:List Rat->Bool):CT 60 (qd (ps.filter f).length ps.length) :=
 sQ (by omega) (by have:=HA f ps;omega) (by omega)
end L2.VL
namespace L2.ZP
section
variable{prog:FS}{w:GD}{A:GJ}{E:E7->E_->Prop}{s:E_}{z it a:Addr}{k:Nat}{xs:Array E7}{x p:E7}{b:Bool}
abbrev e2(h:Heap)(b:Bool)(a:Addr):Heap:=(y1 h b a).push {cls:=.type "enumerate", data:=.fields #[.none,.bool false,.ref h.objs.size,rawInt 0,.none,.none]}
theorem qu(b:Bool)(a:Addr)(o:Obj)(xs:Array E7)(hr:∀h:Heap,h.get? a=some o->D_ b h a xs) :
 Meets (Builtin.«enumerate.__new__» ⟨[.type "enumerate", .ref a],[]⟩) (fun _ R s=>s.heap.get? a=some o/\R (.ok (.ret (.ref (y1 s.heap b a).objs.size))) {s with heap:=e2 s.heap b a}) :=
 .of_wp fun prog w A R s h=>by
  obtain⟨hp,g,d,tk,os⟩:=s
  obtain⟨l0,h⟩:=h
  have hsub:=sub_enumerate
  have k1:D_ b (E_.heap ⟨hp,g,d,tk,os⟩) a xs:=hr _ l0
  wp_walk using IE l0
  refine wpAny_stack_any fun st=>Fh ?_
  split
  · rename_i c _ _ _ _ _
    cases(c==E7.type "enumerate")<;>(wp_walk using IE l0,xr k1;exact⟨_,rfl,h⟩)
  · wp_walk using IE l0,xr k1
    exact⟨_,rfl,h⟩
theorem D_.obj(q:D_ b h a xs):∃o,h.get? a=some o/\∀h':Heap,h'.get? a=some o->D_ b h' a xs:=by
 cases b with
 | true=>obtain⟨o,h1,r⟩:=(show h.IsTuple a xs from q);exact⟨o,h1,fun h' e=>⟨o,e,r⟩⟩
 | false=>obtain⟨o,h1,r⟩:=(show h.IsList a xs from q);exact⟨o,h1,fun h' e=>⟨o,e,r⟩⟩
theorem oS(q1:D_ b s.heap a xs)
 (done:∀g,Ly g (s.heap.objs.size+1) s.heap.objs.size 0 .none->EI g s.heap.objs.size a xs 0->g.objs.size=s.heap.objs.size+2->(∀c o,s.heap.get? c=some o->g.get? c=some o)->Q (.ref (s.heap.objs.size+1)) {s with heap:=g}) :
 FH (FT prog w) A (call (.type "enumerate") [.ref a]) Q E s:=by
 obtain⟨o,h1,hr⟩:=q1.obj
 refine callType_new F.called_enumerate (by decide) (F.typeCall_enumerate_1 _) (F.newCall_enumerate_1 _) (fun u=>F.args_object_init_2 u _) F.entry_enumerate_new (qu b a o xs hr) ⟨h1,?_⟩
 have n1:(y1 s.heap b a).objs.size=s.heap.objs.size+1:=HX ..
 have n2:(e2 s.heap b a).objs.size=s.heap.objs.size+2:=by rw[HX,n1]
 have pu:∀{h:Heap}{o u:Obj}{c:Addr},h.get? c=some u->(h.push o).get? c=some u:=fun e=>E4 _ e
 have kp:∀c o,s.heap.get? c=some o->(e2 s.heap b a).get? c=some o:=fun c o e=>pu (pu e)
 have f2:(e2 s.heap b a).get? (y1 s.heap b a).objs.size=some _:=FB _ rfl
 have f1:(e2 s.heap b a).get? s.heap.objs.size=some _:=pu (FB _ rfl)
 show _/\_
 rw[n1]at f2
 rw[n1]
 have mk:EI (e2 s.heap b a) s.heap.objs.size a xs 0:=by
  have e:=hr _ (kp _ _ h1)
  cases b with
  | true=>exact .inr ⟨⟨_,f1,rfl,rfl⟩,e⟩
  | false=>exact .inl ⟨⟨_,f1,rfl,rfl⟩,e⟩
 exact⟨⟨_,f2,rfl⟩,done _ f2 mk n2 kp⟩
theorem uw(oz:Ly s.heap z it k p)(s1:EI s.heap it a xs k)(ex:xs[k]?=some x)(ne:z≠it)(nz:a≠z)(ni:a≠it)
 (done:∀g,IsEnumOut g z it ((k:Int)+1) x s.heap.objs.size->EI g it a xs (k+1)->g.get? s.heap.objs.size=some {cls:=.type "tuple", data:=.seq #[.int k s.toks,x]}->g.objs.size=s.heap.objs.size+1 ->
  (∀b o,b≠z->b≠it->s.heap.get? b=some o->g.get? b=some o)->Q (.ref s.heap.objs.size) {s with heap:=g,toks:=s.toks+1}) :
 FH (FT prog w) A (Builtin.«enumerate.__next__» ⟨[.ref z],[]⟩) (fun r s'=>∃u,r = .done (.ret u)/\Q u s') E s:=by
 show FH _ _ (do let c <- field (.ref z) 2;_) _ _ _
 refine EZ (Hi oz rfl (x:=.ref it) rfl ?_)
 refine EZ (s1.item ni ex fun g1 s1a b1=>?_)
 have z1:Ly g1 z it k p:=b1.extBut _ _ ne oz
 show FH _ _ (do let c <- field (.ref z) 3;_) _ _ _
 refine EZ (Hi z1 rfl (x:=rawInt k) rfl ?_)
 show FH _ _ (do let c <- field (.ref z) 4;_) _ _ _
 refine EZ (Hi z1 rfl (x:=.none) rfl ?_)
 show FH _ _ (do let c <- mkInt k;_) _ _ _
 refine EZ (wpAny_mkInt ?_)
 show FH _ _ (do setField (.ref z) 3 (rawInt ((k:Int)+1));_) _ _ _
 refine EZ (Ib z1 (by simp) fun g2 z2 b2=>?_)
 have z2:Ly g2 z it ((k:Int)+1) p:=z2
 show FH _ _ (do setField (.ref z) 4 .none;_) _ _ _
 refine EZ (Ib z2 (by simp) fun g3 z3 b3=>?_)
 have z3:Ly g3 z it ((k:Int)+1) p:=z3
 have size:g3.objs.size=s.heap.objs.size:=by rw[b3.1,b2.1,b1.1]
 have s3:EI g3 it a xs (k+1):=(s1a.keep (SameBut.keep b2 ne.symm) (SameBut.keep b2 nz)).keep (SameBut.keep b3 ne.symm) (SameBut.keep b3 nz)
 have k3:∀b o,b≠z->b≠it->s.heap.get? b=some o->g3.get? b=some o:=fun b o n1 n2 e=>b3.extBut _ _ n1 (b2.extBut _ _ n1 (b1.extBut _ _ n2 e))
 have zl:z<g3.objs.size:=Fq z3
 show FH _ _ (do let c <- newTuple [.int k s.toks,x];_) _ _ _
 refine EZ (wpAny_newTuple ?_)
 have z4:Ly (g3.push {cls:=.type "tuple", data:=.seq #[.int k s.toks,x]}) z it ((k:Int)+1) p:=E4 _ z3
 show FH _ _ (do let c <- IA (.ref z);_) _ _ _
 refine EZ ?_
 unfold IA
 refine EZ (Hi z4 rfl (x:=Ji) rfl (Fh ?_))
 simp only[if_true]
 refine EZ (Jj (EZ (Hi z4 rfl (x:=p) rfl (EZ (Ib z4 (by simp) fun g5 z5 b5=>?_)))))
 have z5:Ly g5 z it ((k:Int)+1) x:=z5
 show FH _ _ (do Ix (.ref z) (.ref g3.objs.size);_) _ _ _
 refine EZ ?_
 unfold Ix
 refine EZ (Ib z5 (by simp) fun g6 z6 b6=>?_)
 have z6:IsEnumOut g6 z it ((k:Int)+1) x g3.objs.size:=z6
 refine Ib z6 (by simp) fun g7 z7 b7=>?_
 have z7:IsEnumOut g7 z it ((k:Int)+1) x g3.objs.size:=z7
 have up:∀b o,b≠z->g3.get? b=some o->g7.get? b=some o:=fun b o n e=>b7.extBut _ _ n (b6.extBut _ _ n (b5.extBut _ _ n (E4 _ e)))
 have t7:g7.get? g3.objs.size=some {cls:=.type "tuple", data:=.seq #[.int k s.toks,x]} :=
  b7.extBut _ _ (Ic zl) (b6.extBut _ _ (Ic zl) (b5.extBut _ _ (Ic zl) (FB _ rfl)))
 have l7:g7.objs.size=g3.objs.size+1:=by rw[b7.1,b6.1,b5.1,HX]
 rw[size]at z7 t7 l7
 refine EZ (JX (Fh ⟨_,rfl,?_⟩))
 show Q (.ref g3.objs.size) _
 rw[size]
 exact done g7 z7 (s3.keep (fun o e=>up _ o ne.symm e) fun o e=>up _ o nz e) t7 l7 fun b o n1 n2 e=>up b o n1 (k3 b o n1 n2 e)
end
end L2.ZP
namespace L2
open PySem PySem.Spec PyProof.Rows L2.ZP
noncomputable def EH(K:W.Frag)(b:Bool)(a:Addr):It :=
 ⟨fun i H=>∃xs x,D9 b K H a xs/\xs[i]?=some x,
  fun i H v H'=>∃x p,(∀xs,D9 b K H a xs->xs[i]?=some x)/\H p=none/\v = .ref p/\H'=Cb H p (.tup [.int i,x]),
  fun i H=>∃xs,D9 b K H a xs/\xs.length<=i⟩
noncomputable def ES(b:Bool)(z it a:Addr)(i:Nat)(h:Heap):Prop:=(∃p,Ly h z it i p)/\EJ b h it a i
theorem mB{K:W.Frag}{elts:List Expr}{kt:Nat}{pt:Pos}(b:Bool)(z it a:Addr)(ne:z≠it)(nz:a≠z)(ni:a≠it) :
 Turn P w K (.Tuple elts kt pt) (EH K b a) [z,it] z (ES b z it a) where
 mem:=by simp
 obj:=fun i h ⟨⟨p,h1⟩,h4⟩ c hb=>by
  simp at hb
  rcases hb with rfl|rfl
  · exact⟨_,h1,fun v c=>by cases c⟩
  · exact h4.obj
 keep:=fun i h h' ⟨⟨p,h1⟩,h4⟩ k=>⟨⟨p,k z (by simp) _ h1⟩,h4.keep fun o e=>k it (by simp) o e⟩
 item:=by
  intro X hP hw hK hc i pins s σ H E I hf st hg
  subst hP hw hK
  obtain⟨⟨p,h1⟩,h4⟩:=st
  obtain⟨xs,x,q1,ex⟩:=hg
  obtain⟨its,r1,t1⟩:=I.sqB q1
  obtain⟨u,hu,ru⟩:=r1.get ex
  have ty:s.TypeIs (.ref z) "enumerate" := ⟨_,h1,rfl⟩
  unfold Kc
  refine EZ (wpAny_attempt (GP (name:=EX "__next__") ty F.slot_enumerate_next (Hy F.slot_enumerate_next ty F.entry_enumerate_next
   (uw h1 (h4.it1 t1) (by simpa using hu) ne nz ni fun g e1 e3 e5 e6 e7=>Fh ?_) (F.args_enumerate_next_1 _))))
  have hz:s.heap.objs.size≠z:=Ic (Fq h1)
  refine⟨.ref s.heap.objs.size,rfl,wpAny_letOwnedTupleGo_enum e1 fun g' f1 fb=>?_⟩
  have hp:H s.heap.objs.size=none:=I.hok.fresh (Fa _)
  have I1:Inv X pins σ (Cb H s.heap.objs.size (.tup [.int i,x])) {s with heap:=s.heap.push {cls:=.type "tuple", data:=.seq [.int i s.toks,u].toArray},toks:=s.toks+1} :=
   I.laid (t':=s.toks+1) (o:=.tup [.int i,x]) (fun b ob e=>E4 _ e) (Fa _) ⟨(by show 2<=sizeLine;decide),[.int i s.toks,u],.cons ⟨_,rfl⟩ (.cons ru .nil),oY.new _ _⟩
  have ne':∀b∈[z,it],b≠s.heap.objs.size:=fun b hb e=>by
   simp at hb
   rcases hb with rfl|rfl
   · exact hz e.symm
   · obtain⟨o,ho,_⟩:=h4.obj
     exact absurd (Fq ho) (by rw[e];exact Ha _)
  have kg:∀b o,b∉[z,it]->(s.heap.push {cls:=.type "tuple", data:=.seq [.int i s.toks,u].toArray}).get? b=some o->g'.get? b=some o:=fun b o hb e=>by
   simp at hb
   obtain⟨n1,n2⟩:=hb
   refine fb.extBut _ _ n1 ?_
   by_cases hbn:b=s.heap.objs.size
   · subst hbn
     rw[FB _ rfl]at e
     cases e
     exact e5
   · exact e7 b o n1 n2 (by rw[Heap.get?_push_ne _ _ _ hbn]at e;exact e)
  have fp1:∀b∈[z,it],jB X pins (Cb H s.heap.objs.size (.tup [.int i,x])) b:=fun b hb=>by
   obtain⟨f0,fr⟩:=hf b hb
   exact⟨by rw[ak (ne' b hb)];exact f0,fr⟩
  have I2:Inv X pins σ (Cb H s.heap.objs.size (.tup [.int i,x])) {s with heap:=g',toks:=s.toks+1}:=I1.turnedL (t':=s.toks+1) kg fp1
  have k8:∀b o,b≠z->g.get? b=some o->g'.get? b=some o:=fun b o n e=>fb.extBut _ _ n e
  have t1':D_ b g a its.toArray:=D_.of t1 fun o e=>e7 _ o nz ni e
  refine⟨.ref s.heap.objs.size,_,I2,rfl,⟨x,_,fun xs' q'=>by rw[I.sqB_inj q' q1];exact ex,hp,rfl,rfl⟩,⟨⟨_,by simpa using f1⟩,(EI.ir e3 h4 t1').keep fun o e=>k8 _ o ne.symm e⟩,fun b hb=>(fp1 b hb).1⟩
 done:=by
  intro X hP hw hK hc i pins s σ H E I hf st hg
  subst hP hw hK
  obtain⟨⟨p,h1⟩,h4⟩:=st
  obtain⟨xs,q1,ex⟩:=hg
  obtain⟨its,r1,t1⟩:=I.sqB q1
  have l1:=r1.length
  have ty:s.TypeIs (.ref z) "enumerate" := ⟨_,h1,rfl⟩
  unfold Kc
  refine EZ (wpAny_attempt (GP (name:=EX "__next__") ty F.slot_enumerate_next (Hy F.slot_enumerate_next ty F.entry_enumerate_next ?_ (F.args_enumerate_next_1 _))))
  show FH _ _ (do let c <- field (.ref z) 2;_) _ _ _
  refine EZ (Hi h1 rfl (x:=.ref it) rfl ?_)
  refine EZ ((h4.it1 t1).fin (I.ok.hd hc) (by simp;omega) fun g e kg ⟨o,ho,hoc⟩=>?_)
  refine EZ (wpAny_isInstance (T := "StopIteration") (b:=true) ⟨o,ho,hoc⟩ isSubtype_stop (Fh ⟨rfl,?_⟩))
  exact I.turnedL (t':=s.toks) (fun b o hb e=>by simp at hb;exact kg b o hb.2 e) hf
 self:=fun _ _ _ _ _ st h=>by
  obtain⟨⟨p,h1⟩,_⟩:=st
  exact wpAny_pyIter_enum h1 h
section
variable{X:Cx}{e1:Expr}{ta:TA}{elts:List Expr}{kt:Nat}{pt p pos:Pos}
noncomputable def Bv(K:W.Frag)(b:Bool)(t:TA):TI:=fun σ H R=>t σ H fun vs H1=>∃a xs,vs=[.ref a]/\D9 b K H1 a xs/\R (EH K b a) H1
theorem tp(b:Bool)(hg:Gl X "enumerate")(hm:X.mg "enumerate" = none)(ha:PA X [e1] ta)(hs:Fg [e1] X.env=(false,eval e1 X.env)::Fg [] X.env:=by rfl)(hpl:(GQ pos (Fg [] X.env)).any (·.1)=false:=by rfl) :
 PI X (.Tuple elts kt pt) (.Call (.Name "enumerate" p) [e1] [] pos) (Bv X.K b ta):=by
 intro pins s σ H R I h
 refine Call_ (fS I hg hm (by rfl) (G1 (Cj (ha pos pins s σ H _ I h) fun us s1 ⟨vs,H1,I1,r1,q1⟩=>?_) hs hpl) (by decide) (by decide))
 obtain⟨a,xs,ev,q1,q⟩:=q1
 subst ev
 cases r1 with
 | cons r rr =>
   cases rr
   cases r
   obtain⟨its,v1,t1⟩:=I1.sqB q1
   refine oS t1 fun g f1 f4 f6 kp=>wpAny_pyIter_enum f1 ?_
   have l1:a<s1.heap.objs.size:=by
    obtain⟨o,ho,_⟩:=t1.obj
    exact Fq ho
   have I2:Inv X pins σ H1 {s1 with heap:=g}:=I1.kept (t':=s1.toks) kp
   have ir:EJ b g s1.heap.objs.size a 0:=by
    have r':=D_.of t1 fun o e=>kp _ o e
    cases b with
    | true =>
      rcases f4 with⟨_,⟨o,e,c,_⟩⟩|⟨q,_⟩
      · obtain⟨o',e',c',_⟩:=(show g.IsTuple a _ from r')
        rw[e]at e';cases e';rw[c]at c';injection c' with z;exact absurd z (by decide)
      · exact q
    | false =>
      rcases f4 with⟨q,_⟩|⟨_,⟨o,e,c,_⟩⟩
      · exact q
      · obtain⟨o',e',c',_⟩:=(show g.IsList a _ from r')
        rw[e]at e';cases e';rw[c]at c';injection c' with z;exact absurd z (by decide)
   refine⟨_,[s1.heap.objs.size+1,s1.heap.objs.size],_,_,H1,rfl,I2,mB b _ _ a (by simp) (FZ (IV l1)) (FZ l1),⟨⟨_,f1⟩,ir⟩,fun b hb=>?_,q⟩
   have hb':s1.heap.objs.size<=b:=by
    simp at hb
    rcases hb with rfl|rfl
    · exact Nat.le_add_right _ 1
    · exact Fa _
   exact I1.fpOk hb' (I1.hok.fresh hb')
end
end L2
namespace L2.VL
section
variable{X:Cx}{rl:RlT}{a:Expr}{elts:List Expr}{kt:Nat}{pt p pos:Pos}{fs:D0}
noncomputable def gw(xs:List EW):List EW:=xs.zipIdx.map fun z=>.tuple [.int (z.2:Nat),z.1]
theorem jq(h:(gw xs)[i]?=some d):∃x,xs[i]?=some x/\d = .tuple [.int (i:Nat),x]:=by
 unfold gw at h
 rw[F0,List.getElem?_zipIdx]at h
 cases ex:xs[i]? with
 | none=>rw[ex]at h;cases h
 | some x=>rw[ex]at h;simp at h;exact⟨x,rfl,h.symm⟩
noncomputable def DB(b:Bool)(fs:D0):En->(List EW->Prop)->Prop:=fun ρ Q=>fs ρ fun ws=>∃dx xs,ws=[.d dx]/\jE dx=some xs/\gv dx=b/\Q (gw xs)
theorem rW(b:Bool)(hm:X.mg "enumerate" = none)(ha:Ef X rl [a] fs)(hg:Gl X "enumerate" := by rfl)(hs:Fg [a] X.env=(false,eval a X.env)::Fg [] X.env:=by rfl)(hpl:(GQ pos (Fg [] X.env)).any (·.1)=false:=by rfl) :
 Ep X rl (.Tuple elts kt pt) (.Call (.Name "enumerate" p) [a] [] pos) (DB b fs):=by
 obtain⟨t,p1,k⟩:=ha
 refine⟨_,tp b hg hm p1 hs hpl,fun R Qd Q q h=>k R _ _ q fun vs ws F1 H1 g1 r1 ⟨dx,xs,ew,e1,kb1,q1⟩=>?_⟩
 subst ew kb1
 obtain⟨v,rfl,rv⟩:=lN r1
 obtain⟨a1,vs,rfl,rs,sq1⟩:=vZ rv e1
 refine⟨a1,vs,rfl,sq1 _ g1.sub,h _ (gw xs) F1 H1 g1 ⟨fun i H x e s=>?_,fun i H hl s=>?_,fun i H v H' x F2 e s s2 ra y=>?_⟩ q1⟩
 · obtain⟨x1,ex,_⟩:=jq e
   obtain⟨v1,ev1,_⟩:=rs.get ex
   exact⟨vs,v1,sq1 _ s,ev1⟩
 · refine⟨vs,sq1 _ s,?_⟩
   unfold gw at hl
   rw[Fd,JG]at hl
   rw[rs.length]
   omega
 · obtain⟨x1,ex,ed⟩:=jq e
   obtain⟨vx,pp,hx,hp,ev,eH⟩:=y
   obtain⟨v1,ev1,rv1⟩:=rs.get ex
   have h1:=hx vs (sq1 _ (s.trans s2))
   rw[ev1]at h1
   cases h1
   subst ev eH ed
   have g:=Grow.data (a:=pp) (o:=.tup [.int (i:Nat),vx]) s2 ra hp
   exact⟨_,g,.tup (.inl (.inl ar)) (.cons (.int _) (.cons ((rv1.mono s).mono g.fs) .nil))⟩
theorem hZ(hm:X.mg "enumerate" = none)(ha:Ef X rl [a] fs)(hg:Gl X "enumerate" := by rfl)(hs:Fg [a] X.env=(false,eval a X.env)::Fg [] X.env:=by rfl)(hpl:(GQ pos (Fg [] X.env)).any (·.1)=false:=by rfl) :
 Ep X rl (.Tuple elts kt pt) (.Call (.Name "enumerate" p) [a] [] pos) (DB false fs):=rW false hm ha hg hs hpl
end
theorem oq(xs:List α)(enc:α->EW):gw (xs.map enc)=xs.zipIdx.map fun z=>Gf [.int (z.2:Nat),enc z.1]:=by
 unfold gw
 rw[List.zipIdx_map,GM]
 rfl
section
variable{α β:Type}{b:EW->Mo (Option EW)}
end
open PySem PySem.Spec
noncomputable def DP(bs:List Bool):EW:=.list (bs.map .bool)
theorem eW{a b:List Bool}:DP a=DP b↔a=b:=by
 unfold DP;rw[IU]
 exact bO fun x y=>by rw[IT.injEq]
noncomputable def C3(ns:List Nat):EW:=.list (ns.map fun k:Nat=>.int (k:Int))
theorem eV{a b:List Nat}:C3 a=C3 b↔a=b:=by
 unfold C3;rw[IU]
 exact bO fun x y=>by rw[J5];omega
noncomputable def colQ(ps:List (List Rat))(i:Nat):List Rat:=ps.map fun p=>p.getD i 0
theorem oG{k:Nat}(f:Rat->Bool)(hk:k<ps.length):((colQ ps i).map f).getD k false=f ((ps.getD k []).getD i 0):=by
 rw[iN (show k<((colQ ps i).map f).length by unfold colQ;rw[Fd,Fd];exact hk),iN hk]
 unfold colQ
 rw[List.getElem_map,List.getElem_map]
noncomputable def zy(ws:List W):Option (List EW):=match ws with
 | [.d (.list xs)]=>some (gw xs)
 | _=>none
theorem xG(xs:List EW):zy [.d (.list xs)]=some (gw xs):=rfl
theorem xb{fs:D0}:DB false fs ρ=DO (fs ρ) fun ws=>aP (zy ws) ret:=by
 show(DO (fs ρ) fun ws=>fun(Q:List EW->Prop)=>∃dx xs,ws=[.d dx]/\jE dx=some xs/\gv dx=false/\Q (gw xs))=_
 congr 1;funext ws
 refine ah fun Q=>?_
 simp only[aq,ret]
 constructor
 · rintro⟨dx,xs,rfl,a,b,q⟩
   cases dx with
   | list ys=>cases a;exact⟨_,rfl,q⟩
   | tuple ys=>cases b
   | _=>cases a
 · rintro⟨zs,e,q⟩
   unfold zy at e
   split at e
   · cases e;exact⟨_,_,rfl,rfl,rfl,q⟩
   · cases e
noncomputable def ko(k1 k2 k3:Str)(f1 f2 f3 fa:TV):TV:=fun ρ Q=>f1 ρ fun w1=>∃d1,w1.fz = .d d1/\f2 ρ fun w2=>∃d2,w2.fz = .d d2/\f3 ρ fun w3=>∃d3,w3.fz = .d d3/\fa ρ fun w=>∃k,w = .d (.str k)/\∃d,[(k1,d1),(k2,d2),(k3,d3)].lookup k=some d/\Q (.d d)
theorem lV(ps:List (Str×V))(k:Str):eQ (ps.map fun p=>((Gg p.1:EA),p.2)) (Gg k)=ps.lookup k:=by
 induction ps with
 | nil=>rfl
 | cons p ps ih =>
   unfold eQ at ih ⊢
   rw[Gi,GE,Gu]
   by_cases h:p.1=k
   · simp[h]
   · have h1:(k==p.1)=false:=by simpa using fun z=>h z.symm
     have h2:decide ((Gg p.1:EA)=Gg k)=false:=by simpa using h
     rw[h1]
     simp only[h2,GB,if_false]
     exact ih
theorem t8{K:W.Frag}{k1 k2 k3 k:Str}{v1 v2 v3:V}{d1 d2 d3:EW}(r1:Rep K F v1 d1)(r2:Rep K F v2 d2)(r3:Rep K F v3 d3)(h:[(k1,d1),(k2,d2),(k3,d3)].lookup k=some d):∃v,[(k1,v1),(k2,v2),(k3,v3)].lookup k=some v/\Rep K F v d:=by
 simp only[Hl]at h ⊢
 split at h
 · cases h;exact⟨v1,rfl,r1⟩
 · split at h
   · cases h;exact⟨v2,rfl,r2⟩
   · split at h
     · cases h;exact⟨v3,rfl,r3⟩
     · cases h
section
variable{X:Cx}{rl:RlT}{e e1 e2 e3:Expr}{fa f1 f2 f3:TV}{pos dpos q1 q2 q3:Pos}{ρ:En}{j1 j2 j3}
theorem mf{k1 k2 k3:Str}(hr:Room 0 X.A)(hd:k1≠k2/\k1≠k3/\k2≠k3)(h1:PV X rl e1 f1)(h2:PV X rl e2 f2)(h3:PV X rl e3 f3)(h:PV X rl e fa)(hs:uR e:=by exact fun _ _=>rfl) :
 PV X rl (.Subscript (.Dict [some (.Constant (.str k1) j1 q1),some (.Constant (.str k2) j2 q2),some (.Constant (.str k3) j3 q3)] [e1,e2,e3] dpos) e pos) (ko k1 k2 k3 f1 f2 f3 fa):=by
 obtain⟨t,p,k⟩:=h
 obtain⟨t1,p1,c1⟩:=h1
 obtain⟨t2,p2,c2⟩:=h2
 obtain⟨t3,p3,c3⟩:=h3
 obtain⟨d12,d13,d23⟩:=hd
 refine⟨_,iE (p_ hr) (nw (cJ cU p1 (cJ cU p2 (cJ cU p3 nn))) rfl rfl (by intro z;cases z) (by show 3<=15;decide)) p hs,fun{F₀ H₀ F H σ ρ} R Qd Q q h=>?_⟩
 intro d hd
 have rd:rl.a≠some d:=fun z=>by obtain⟨o,zz⟩:=R.reel.live z;rw[hd]at zz;cases zz
 have g0:Grow rl F H F (Cb H d (.dK [])):=Grow.laid R.sub R.reel hd
 refine c1 (R.grow g0) _ _ q fun v1 w1 F1 H1 g1 r1 n1 ⟨d1,e1,q1⟩=>?_
 obtain⟨E1,g1',s1,r1'⟩:=cS.fz g1 r1 n1
 rw[e1]at r1'
 refine c2 ((R.grow g0).grow g1') _ _ q1 fun v2 w2 F2 H2 g2 r2 n2 ⟨d2,e2,q2⟩=>?_
 obtain⟨E2,g2',s2,r2'⟩:=cS.fz g2 r2 n2
 rw[e2]at r2'
 refine c3 (((R.grow g0).grow g1').grow g2') _ _ q2 fun v3 w3 F3 H3 g3 r3 n3 ⟨d3,e3,q3⟩=>?_
 obtain⟨E3,g3',s3,r3'⟩:=cS.fz g3 r3 n3
 rw[e3]at r3'
 have ga:Grow rl F (Cb H d (.dK [])) E3 H3:=(g1'.trans g2').trans g3'
 have hD3:H3 d=some (.dK []):=ga.same d _ ar rd
 have fd:E3 d=none:=by rw[ga.old d _ ar];exact R.sub.free hd
 refine⟨hD3,[(Gg k1,v1),(Gg k2,v2),(Gg k3,v3)],rfl,(by show 3<=15;decide),?_⟩
 have em:dS [] [((Gg k1:EA),v1),(Gg k2,v2),(Gg k3,v3)]=[(Gg k1,v1),(Gg k2,v2),(Gg k3,v3)]:=by
  unfold dS
  simp only[HK,List.foldl_nil]
  have p0:cY ([]:List (EA×V)) (Gg k1) v1=[(Gg k1,v1)]:=rfl
  rw[p0]
  unfold cY
  simp[d12,d13,d23]
 rw[em]
 have gb:Grow rl F H E3 (Cb H3 d (.dK [(Gg k1,v1),(Gg k2,v2),(Gg k3,v3)])):=by
  have g:=g0.trans ga
  refine⟨fun b o eb n=>by rw[ak (aO eb hd)];exact g.same b o eb n,g.fs,fun b o eb=>?_,g.old,fun r er=>?_⟩
  · rw[ak (fun z=>by rw[z,fd]at eb;cases eb)];exact g.sub b o eb
  · obtain⟨z1,⟨o,z2,z3⟩⟩:=g.reel r er
    exact⟨z1,⟨o,by rw[ak (fun z=>rd (by rw[<- z];exact er))];exact z2,z3⟩⟩
 refine k (R.grow gb) _ _ q3 fun v w F4 H4 g4 r4 n4 ⟨kk,ew,dd,lk,q4⟩=>?_
 subst ew
 have ev:v = .str kk:=by cases(show Rep X.K F4 v (.str kk)from r4);rfl
 subst ev
 have hD:H4 d=some (.dK [(Gg k1,v1),(Gg k2,v2),(Gg k3,v3)]):=g4.same d _ ar rd
 obtain⟨u,lu,ru⟩:=t8 (Rep.mono (g3'.fs.trans g4.fs) (Rep.mono g2'.fs r1')) (Rep.mono (g3'.fs.trans g4.fs) r2') (Rep.mono g4.fs r3') lk
 have gd:=yb.k (k:=(Gg kk:EA)) hD
 have:eQ [((Gg k1:EA),v1),(Gg k2,v2),(Gg k3,v3)] (Gg kk)=some u:=(lV [(k1,v1),(k2,v2),(k3,v3)] kk).trans lu
 rw[this]at gd
 exact⟨d,u,rfl,gd,h _ (.d dd) _ _ (gb.trans g4) ru trivial q4⟩
theorem kO(k1 k2 k3:Str):ko k1 k2 k3 f1 f2 f3 fa ρ=DO (f1 ρ) fun w1=>aP (asD w1.fz) fun d1=>DO (f2 ρ) fun w2=>aP (asD w2.fz) fun d2=>DO (f3 ρ) fun w3=>aP (asD w3.fz) fun d3=>DO (fa ρ) fun w=>aP (asS w) fun k=>aP ([(k1,d1),(k2,d2),(k3,d3)].lookup k) fun d=>ret (.d d):=by
 refine ah fun Q=>?_
 simp only[ko,DO,aq,hG,rK,ret]
end
section
variable{X:Cx}{rl:RlT}{elt t1 i1 t2 i2:Expr}{f1 f2:List Expr}{scope:Scope}{pos:Pos}{fi fj:En->(List EW->Prop)->Prop}{g g2:D5}{ft ft2:TB}{fe:TV}
end
section
variable{X:Cx}{rl:RlT}{a b e:Expr}{es:List Expr}{fa fb fc:TV}{fs:D0}{pos p:Pos}
end
structure VItG (K:W.Frag) (rl:RlT) (F H1:Hp) (J:It) (xs:List EW):Prop where
 go:∀i F2 H x,xs[i]?=some x->Grow rl F H1 F2 H->J.go i H
 stop:∀i F2 H,xs.length<=i->Grow rl F H1 F2 H->J.stop i H
 yld:∀i H v H' x F2,xs[i]?=some x->Grow rl F H1 F2 H->J.yld i H v H'->∃F3,Grow rl F2 H F3 H'/\Rep K F3 v x
noncomputable def A1(X:Cx)(rl:RlT)(tg l:Expr)(fi:En->(List EW->Prop)->Prop):Prop:=∃t,PI X tg l t/\∀{F₀ H₀ F H:Hp}{σ:St}{ρ:En},VR X.K rl F₀ H₀ F H σ ρ->∀(Qd:List EW->Prop)(R:It->Hp->Prop),fi ρ Qd ->
 (∀J xs F' H',Grow rl F H F' H'->VItG X.K rl F' H' J xs->Qd xs->R J H')->t σ H R
section
variable{X:Cx}{rl:RlT}{elt tg iter:Expr}{ifs:List Expr}{scope:Scope}{pos px:Pos}{fi:En->(List EW->Prop)->Prop}{g:D5}{ft:TB}{fe:TV}{ρ:En}
noncomputable def DA(i:Nat):En->(List EW->Prop)->Prop:=fun ρ Q=>∃xs,ρ[i]?=some (some (.ml xs))/\Q xs
theorem uY(i:Nat)(hN:X.N[i]?=some x:=by rfl)(hv:DW X.env.scope x:=by first|exact G3 rfl|exact GA (G3 rfl)|exact GA (GA rfl))
 (hd:(x==("__debug__" : Str))=false:=by decide)(hcd:(x==("__classdict__" : Str))=false:=by decide):A1 X rl tg (.Name x px) (DA i):=by
 refine⟨_,nv (cR hN hv hd hcd),fun{F₀ H₀ F H σ ρ} R Qd Q ⟨xs,e,q⟩ h=>?_⟩
 obtain⟨v,h1,h2,h3⟩:=R.sl i _ e
 obtain⟨a,vs,rfl,f,hr,hh,rs⟩:=(show hJ X.K rl F H v xs from h2)
 have sq:∀{F2 H2:Hp},Grow rl F H F2 H2->D8 X.K H2 a vs:=fun g=>.inl (.inl (g.same a _ hh hr))
 refine⟨.ref a,h1,a,rfl,⟨vs,.inl (.inl hh)⟩,h _ xs F H (Grow.refl R.sub R.reel) ⟨fun i F2 H2 x e g=>?_,fun i F2 H2 hl g=>⟨vs,sq g,by rw[rs.length];exact hl⟩,fun i H2 v H' x F2 e g y=>?_⟩ q⟩
 · obtain⟨v,ev,_⟩:=rs.get e
   exact⟨vs,v,sq g,ev⟩
 · obtain⟨e',hy⟩:=y
   obtain⟨v',ev,rv⟩:=rs.get e
   have:=hy vs (sq g)
   rw[ev]at this
   cases this
   subst e'
   exact⟨F2,Grow.refl g.sub g.reel,rv.mono g.fs⟩
theorem p6{wi:TI}(fr:List (Option Nat))(k0:∀{F₀ H₀ F H:Hp}{σ:St}{ρ:En},VR X.K rl F₀ H₀ F H σ ρ->∀(Qd:List EW->Prop)(R:It->Hp->Prop),fi ρ Qd ->
 (∀J xs F' H',Grow rl F H F' H'->VItG X.K rl F' H' J xs->Qd xs->R J H')->wi σ H R)
 (hg:∀y,Et (blk X N' scope y) rl tg g)(ht:∀y,jA (blk X N' scope y) rl ifs ft)(he:∀y,PV (blk X N' scope y) rl elt fe)
 {ρ:En}(R:VR X.K rl F₀ H₀ F H σ ρ)(Qd:W->Prop)(Q:VK)(q:gE fi fr g ft fe ρ Qd)
 (k:∀v w F' H',Grow rl F H F' H'->cS X.K rl F' H' v w->de H v w->Qd w->Q v H'):pE wi fr (fun y=>Gm (hg y)) (fun y=>Gm (ht y)) (fun y=>Gm (he y)) σ H Q:=by
 refine k0 R _ _ q fun J xs F1 H1 g1 vi q1=>?_
 intro D hD
 have rD:rl.a≠some D:=fun e=>by obtain⟨o,z⟩:=g1.reel.live e;rw[hD]at z;cases z
 have FD:F1 D=none:=g1.sub.free hD
 have gD:Grow rl F1 H1 F1 (Cb H1 D (.lst [])):=Grow.laid g1.sub g1.reel hD
 have R1:=R.grow g1
 have n0:jz (c_ fr ρ):=cC
 refine⟨fun i m acc σc Hc=>m=xs.length-i/\i<=xs.length/\∃Fc ds,VR X.K rl F1 H1 Fc Hc σc (c_ fr ρ)/\Hc D=some (.lst acc)/\Fc D=none/\Reps X.K Fc acc ds/\lM (c_ fr ρ) g ft fe (xs.drop i) ds (fun ds=>Qd (.ml ds)),
  ⟨xs.length,by simp,FI _,F1,[],dC R1 gD,ar,FD,.nil,by simpa using q1⟩,?_⟩
 rintro z i m acc σc Hc ⟨rfl,hi,Fc,ds,Rc,hDc,fDc,rs,q2⟩
 have sH:bC F1 Hc:=Rc.g.fs.trans Rc.sub
 by_cases hlt:i<xs.length
 · have ei:xs[i]?=some xs[i]:=by simp[hlt]
   have ed:xs.drop i=xs[i]::xs.drop (i+1):=Gx hlt
   rw[ed]at q2
   refine .inr ⟨vi.go i Fc Hc _ ei Rc.g,fun v H' y=>?_⟩
   obtain⟨Fy,gy,rv⟩:=vi.yld i Hc v H' _ Fc ei Rc.g y
   refine(E5 (hg z)).2 (Rc.grow gy) v _ _ _ rv q2 fun F3 H3 σ3 ρ3 g3 n3 R3 ⟨le3,q3⟩=>?_
   refine(E5 (ht z)).2 R3 _ _ q3 fun b F4 H4 g4 q4=>?_
   have R4:=R3.grow g4
   have g34:=(gy.trans g3).trans g4
   have keepD:∀{Fx Hx:Hp},Grow rl Fc Hc Fx Hx->Hx D=some (.lst acc)/\Fx D=none:=fun gx=>⟨gx.same D _ hDc rD,by rw[gx.old D _ hDc];exact fDc⟩
   cases b with
   | false=>exact⟨xs.length-(i+1),by omega,rfl,hlt,F4,ds,R4.le le3,(keepD g34).1,(keepD g34).2,rs.mono g34.fs,q4⟩
   | true =>
     refine(E5 (he z)).2 R4 _ _ q4 fun v5 w5 F5 H5 g5 r5 n5 ⟨d,ed5,hl,q5⟩=>?_
     obtain⟨F6,g6,s6,r6⟩:=cS.fz g5 r5 n5
     rw[ed5]at r6
     have g36:=g34.trans g6
     refine⟨(keepD g36).1,by rw[rs.length];exact hl,xs.length-(i+1),by omega,rfl,hlt,F6,ds++[d],((R4.grow g6).le le3).other n0 hD (keepD g36).2 rD,ar,(keepD g36).2,(rs.mono g36.fs).snoc r6,q5⟩
 · have e:i=xs.length:=by omega
   subst e
   rw[Hj]at q2
   refine .inl ⟨vi.stop _ Fc Hc (Fa _) Rc.g,k _ (.ml ds) Fc Hc (g1.trans Rc.g) ⟨D,acc,rfl,fDc,rD,hDc,rs⟩ (fun a ea=>by cases ea;exact g1.freeB hD) q2⟩
theorem po(N':List Str)(fr:List (Option Nat))(hc:X.calm=true)(hi:A1 X rl tg iter fi)
 (hg:∀y,Et (blk X N' scope y) rl tg g)(ht:∀y,jA (blk X N' scope y) rl ifs ft)(he:∀y,PV (blk X N' scope y) rl elt fe)
 (hfr:jV fr N' X.N scope X.env.scope=true:=by rfl)(hsc:kF scope X.env.scope=true:=by rfl)
 (hs:∀x,FF iter X.env x=pure x:=by intro _;rfl):PV X rl (.ListComp elt [⟨tg,iter,ifs,0⟩] scope pos) (gE fi fr g ft fe):=by
 obtain⟨wi,p0,k0⟩:=hi
 exact⟨_,iD N' fr hc p0 hfr hsc (fun y=>(E5 (hg y)).1) (fun y=>(E5 (ht y)).1) (fun y=>(E5 (he y)).1) hs,fun R Qd Q q k=>p6 fr k0 hg ht he R Qd Q q k⟩
theorem zd(i:Nat):DA i ρ=aP (CG ρ i) ret:=by
 refine ah fun Q=>?_
 simp only[DA,aq,mM,ret]
end
section
variable{X:Cx}{rl:RlT}{a b c o e:Expr}{es:List Expr}{fa fb:TV}{fs:D0}{pos p apos cpos:Pos}{ρ:En}
end
end L2.VL
namespace L2
section
variable{prog:FS}{w:GD}{A:GJ}{E:E7->E_->Prop}{s:E_}
end
section
variable{X:Cx}
end
end L2
namespace L2.VL
section
variable{X:Cx}{rl:RlT}{e:Expr}{fa:TV}{pos:Pos}{ρ:En}
end
theorem GlK.int{K:W.Frag}{x:Str}{a:Int}{t:Tok}(h1:W.nsIn K Gq x=some (some (.int a t))):GlK K x (.int a):=⟨.int a,.int a t,h1,⟨t,rfl⟩,fun F=>.int a⟩
section
variable{X:Cx}{rl:RlT}{a b e:Expr}{fa fb:TV}{pos:Pos}{ρ:En}
end
end L2.VL
namespace L2
open L2.ZP
section
variable{X:Cx}{e1 e2:Expr}{elts:List Expr}{kt:Nat}{pt p pos:Pos}{ta:TA}
end
end L2
namespace L2.VL
section
variable{X:Cx}{rl:RlT}{a b:Expr}{elts:List Expr}{kt:Nat}{pt p pos:Pos}{fs:D0}
end
end L2.VL
namespace L2
section
variable{X:Cx}
end
end L2
namespace L2.VL
section
variable{X:Cx}{rl:RlT}{a e:Expr}{fs:D0}{pos p:Pos}
end
end L2.VL
namespace L2
section
variable{X:Cx}
end
end L2
namespace L2.VL
section
variable{X:Cx}{rl:RlT}{a e:Expr}{fs:D0}{pos p:Pos}
end
end L2.VL
namespace L2
section
variable{X:Cx}
end
end L2
namespace L2.VL
section
variable{X:Cx}{rl:RlT}{a e:Expr}{fs:D0}{pos p:Pos}
end
section
variable{X:Cx}{rl:RlT}{e:Expr}{fa:TV}{pos:Pos}{ρ:En}
end
section
variable{X:Cx}{rl:RlT}{a b:Expr}{fa fb:TV}{pos:Pos}
theorem v_shl(ha:PV X rl a fa)(hb:PV X rl b fb):PV X rl (.BinOp a .LShift b pos) (B_ (gI rL fun i j=>.int (i*2^j.toNat)) fa fb):=fJ wL (fv fun _ _ _ _=>.int _) ha hb
theorem v_band(ha:PV X rl a fa)(hb:PV X rl b fb):PV X rl (.BinOp a .BitAnd b pos) (B_ (DK fun i j=>.int (IZ i j)) fa fb):=fJ wR (cG fun _ _ _ _=>.int _) ha hb
end
theorem lg(a b:Nat):IZ (a:Int) (b:Int)=((a &&& b:Nat):Int):=rfl
noncomputable def C9:List Bool->Nat
 | []=>0
 | b::bs=>b.toNat+2*C9 bs
theorem iG:∀(bs:List Bool)(i:Nat),(C9 bs).testBit i=bs.getD i false
 | [],i=>by simp[C9]
 | b::bs,0=>by
   rw[C9,Nat.testBit_zero]
   cases b<;>simp<;>omega
 | b::bs,i+1=>by
   rw[C9,Nat.testBit_succ]
   have e:(b.toNat+2*C9 bs) / 2=C9 bs:=by cases b<;>simp<;>omega
   rw[e,iG bs i]
   simp
theorem tS(xs:List α)(f g:α->Bool):C9 (xs.map f) &&& C9 (xs.map g)=C9 (xs.map fun k=>f k&&g k):=by
 refine Nat.eq_of_testBit_eq fun i=>?_
 rw[Nat.testBit_and,iG,iG,iG,FW,FW,FW,F0,F0,F0]
 cases xs[i]?<;>rfl
theorem qZ:∀(bs:List Bool)(b:Bool),C9 (bs++[b])=C9 bs+b.toNat*2^bs.length
 | [],b=>by simp[C9]
 | c::bs,b=>by
   rw[Jd,C9,qZ bs b,C9,FJ,Kn]
   have:b.toNat*(2^bs.length*2)=2*(b.toNat*2^bs.length):=by rw[JF,Nat.mul_right_comm,JF];congr 1;rw[JF]
   omega
theorem q0:∀bs:List Bool,C9 bs<2^bs.length
 | []=>by simp[C9]
 | b::bs=>by
   have:=q0 bs
   have h:b.toNat<=1:=by cases b<;>decide
   rw[C9,FJ,Kn]
   omega
theorem tT(n:Nat):C9 (FQ n true)+1=2^n:=by
 induction n with
 | zero=>rfl
 | succ n ih=>rw[GL,C9,Kn,<- ih];show 1+2*_+1=_;omega
theorem tR(b:Nat->Bool)(n:Nat):((Gh n).filterMap fun j=>if b j=true then some ((1:Int)*2^j)else none).sum=(C9 ((Gh n).map b):Int):=by
 induction n with
 | zero=>rfl
 | succ n ih =>
   rw[List.range_succ,Ko,List.sum_append,ih,FY,List.map_singleton,qZ,Fd,Io]
   by_cases c:b n=true
   · simp[c]
   · simp[c]
theorem nH(d:α)(xs:List α)(f:α->Bool):((Gh xs.length).map fun j=>f (xs.getD j d))=xs.map f:=by
 refine List.ext_getElem (by simp) fun i h1 h2=>?_
 have:i<xs.length:=by simpa using h2
 simp[FW,FA this]
noncomputable def pcF:Nat->Nat->Nat
 | 0,_=>0
 | f+1,n=>n%2+pcF f (n / 2)
theorem qX:∀(f:Nat)(bs:List Bool),bs.length<=f->pcF f (C9 bs)=(bs.filter id).length
 | 0,bs,h=>by
   cases J0.mp (Nat.le_zero.mp h);rfl
 | f+1,[],h=>by
   have z:∀f,pcF f 0=0:=fun f=>by induction f with
    | zero=>rfl
    | succ f ih=>rw[pcF];simpa using ih
   exact z _
 | f+1,b::bs,h=>by
   have e1:(b.toNat+2*C9 bs) / 2=C9 bs:=by cases b<;>simp<;>omega
   have e2:(b.toNat+2*C9 bs)%2=b.toNat:=by cases b<;>simp<;>omega
   rw[pcF,C9,e1,e2,qX f bs (by simpa using h)]
   cases b<;>simp<;>omega
theorem tH:∀m:Fin 256,m.val≠0->(m.val &&& (m.val-1))<m.val/\pcF 8 (m.val &&& (m.val-1))+1=pcF 8 m.val:=by decide +kernel
open PySem PySem.Spec
noncomputable def Dh(w:Str)(xs:List Rat)(s:Sd):List Bool:=xs.map fun x=>Di s w x
noncomputable def Dc(s:Sd)(a b:List Bool):EW:=.tuple [CL s,DP a,DP b,fr (Ct s)]
theorem fP{e e':Sd}{s f s' f':List Bool}:Dc e s f=Dc e' s' f'↔e=e'/\s=s'/\f=f':=by
 unfold Dc
 simp only[GK,GG,and_true,bE,eW,cF]
 constructor
 · rintro⟨h1,h2,h3,_⟩;exact⟨h1,h2,h3⟩
 · rintro⟨rfl,rfl,rfl⟩;exact⟨rfl,rfl,rfl,rfl⟩
structure Rv where
 es:List Sd
 sh:List Nat
 op:List Nat
 sz:Rat
noncomputable def CM(r:Rv):EW:=.tuple [gl r.es,C3 r.sh,C3 r.op,fr r.sz]
theorem fE{a b:Rv}:CM a=CM b↔a=b:=by
 unfold CM
 simp only[GK,GG,and_true,aH,eV,cF]
 constructor
 · rintro⟨h1,h2,h3,h4⟩;cases a;cases b;simp_all
 · rintro rfl;exact⟨rfl,rfl,rfl,rfl⟩
noncomputable def rvO(ps:List (List Rat))(ss:List Sd):Rv:=⟨ss,plc (fun p=>Dq p ss "shut") ps,plc (fun p=>Dq p ss "open") ps,im ss⟩
noncomputable def Rv.wid(r:Rv)(s:Sd)(a b:List Bool):Rv:=⟨r.es++[s],r.sh.filter fun k=>a.getD k false,r.op.filter fun k=>b.getD k false,r.sz*Ct s⟩
theorem nQ{p:List Rat}{s:Sd}{w:Str}(hl:ss.length=i)(hi:i<p.length):Dq p (ss++[s]) w=(Dq p ss w&&Di s w (p.getD i 0)):=by
 unfold Dq;rw[o9 0 hl hi,List.all_append];simp
theorem i9(ss:List Sd)(s:Sd):im (ss++[s])=im ss*Ct s:=by
 unfold im sZ;rw[FY,G9];rfl
theorem rN(hp:∀p∈ps,p.length=n)(hl:ss.length=i)(hi:i<n)(s:Sd):(rvO ps ss).wid s (Dh "shut" (ps.map fun p=>p.getD i 0) s) (Dh "open" (ps.map fun p=>p.getD i 0) s)=rvO ps (ss++[s]):=by
 unfold Rv.wid rvO Dh
 have h:∀w:Str,(plc (fun p=>Dq p ss w) ps).filter (fun k=>((ps.map fun p=>p.getD i 0).map fun x=>Di s w x).getD k false)=plc (fun p=>Dq p (ss++[s]) w) ps:=fun w=>by
  rw[<- tj (f:=fun p=>Dq p ss w) (g:=fun p=>Di s w (p.getD i 0)) fun p mp=>nQ hl (by rw[hp p mp];exact hi)]
  exact List.filter_congr fun k mk=>oG (ps:=ps) (i:=i) (fun x=>Di s w x) (qW k mk)
 rw[h,h,i9]
noncomputable def teD(t:Rat×Str×List Sd):EW:=.tuple [fr t.1,.str t.2.1,gl t.2.2]
theorem eR{a b:Rat×Str×List Sd}:teD a=teD b↔a=b:=by
 unfold teD
 simp only[GK,GG,and_true,aH,cF,Gv.injEq]
 constructor
 · rintro⟨h1,h2,h3⟩;exact Prod.ext h1 (Prod.ext h2 h3)
 · rintro rfl;exact⟨rfl,rfl,rfl⟩
theorem fB{a b:List (Rat×Str×List Sd)}:a.map teD=b.map teD↔a=b:=bO fun _ _=>eR
noncomputable def CY(ps:List (List Rat))(ss:List Sd):Rat:=qd (cntN ps ss "shut") ps.length-im ss
noncomputable def Ds(ps:List (List Rat))(ss:List Sd):Rat:=im ss-qd (cntN ps ss "open") ps.length
noncomputable def C_(ps:List (List Rat))(ss:List Sd):List (Rat×Str×List Sd):=[(CY ps ss, "over", ss),(Ds ps ss, "lack", ss)]
noncomputable def DL{α:Type}(ts:List (Rat×α))(t0:Rat×α):Rat×α:=ts.foldl (fun b r=>if b.1<r.1 then r else b) t0
theorem uD(g:α->β)(rows:List (List α)):chP (rows.map (Ks g))=(chP rows).map (Ks g):=by
 have key:∀(rows:List (List α))(ch:List (List α)),(rows.map (Ks g)).foldl (fun ch r=>ch.flatMap fun b=>r.map fun t=>b++[t]) (ch.map (Ks g))=(rows.foldl (fun ch r=>ch.flatMap fun b=>r.map fun t=>b++[t]) ch).map (Ks g):=by
  intro rows
  induction rows with
  | nil=>intro ch;rfl
  | cons r rows ih =>
    intro ch
    rw[Gi,HK,HK,<- ih]
    congr 1
    rw[Je,List.flatMap_map]
    congr 1
    funext b
    rw[GM,GM]
    refine Ht fun t _=>?_
    simp
 exact key rows [[]]
theorem qV:∀(qs:List Rat)(k:Nat)(a:Rat),CT k a->(∀q∈qs,CT 190 q)->CT (k+190*qs.length) (qs.foldl (· * ·) a)
 | [],k,a,h,_=>h
 | q::qs,k,a,h,hq=>by
   have:=qV qs (k+190) (a*q) (wX h (hq q Ff)) fun r hr=>hq r (E9 _ hr)
   rw[HK]
   refine this.mono ?_
   rw[FJ];omega
theorem sG(h4:ss.length<=4)(h:∀s∈ss,s.Sm):CT 761 (im ss):=by
 refine(qV _ 1 1 ⟨by decide,by decide⟩ fun q mq=>?_).mono (by rw[Fd];omega)
 obtain⟨s,ms,rfl⟩:=Gn.mp mq
 exact kz (h s ms)
theorem wJ(h1:1<=ps.length)(h:ps.length<=60)(h4:ss.length<=4)(hs:∀s∈ss,s.Sm):CT 900 (CY ps ss)/\CT 900 (Ds ps ss):=by
 have s:=sG h4 hs
 exact⟨(fC (qz h1 h fun p=>Dq p ss "shut") s).mono (by decide),(fC s (qz h1 h fun p=>Dq p ss "open")).mono (by decide)⟩
end L2.VL
namespace K20
open PySem PySem.Spec PyProof.Rows L2 L2.VL
local macro_rules | `(tactic| simp_arith only [$xs,*])=>`(tactic| simp (maxSteps:=2000000) (disch:=(first | assumption | omega | decide)) only [zN,zQ,zT,zS,zR,zJ,zH,zM,zL,zK,zP,zO,A7,CH,CG,gv,dg,c_,W.cap,Dk,List.replicate,id,↓reduceIte,if_true,Nat.reduceAdd,Nat.reduceSub,Nat.reduceLeDiff,Int.cast_ofNat_Int,Int.reduceBEq,Int.reduceSub,Int.reduceAdd,Int.reduceLT,Int.reduceLE,Int.reduceMul,Int.reduceNeg,reduceCtorEq,xt,$xs,*])
local macro_rules | `(tactic| simp_arith only [$xs,*] at $h:ident)=>`(tactic| simp only [List.cons.injEq,W.d.injEq,PyData.int.injEq,PyData.bool.injEq,PyData.str.injEq,PyData.list.injEq,PyData.tuple.injEq,kw,p4,pC,dz,and_true,true_and,reduceCtorEq,$xs,*] at $h:ident)
section
variable{P:FS}{w:GD}{K:HN}{mg:Str->Option E7}{base:Heap}{rl:RlT}
noncomputable def xQ(ws:List W):Prop:=∃ns:List Int,ws=[.sc ns]/\ns.length<=63
theorem xQ.eq(h:ns.length<=63):xQ [.sc ns]=True:=propext ⟨fun _=>trivial,fun _=>⟨ns,rfl,h⟩⟩
theorem qQ{m:Mo Fl}{k:En->Mo Fl}{Q:Fl->Prop}(P:α->Prop)(g:α->Fl)(h:∀Q':Fl->Prop,(∀a,P a->Q' (g a))->m Q')(fin:∀a,P a->sq (VL.ret (g a)) k Q):sq m k Q:=h _ fun a ha=>fin a ha
theorem By(xs:List α)(f:α->EW)(k:Nat):VL.cutD (xs.map f) none (some (k:Int))=(xs.take k).map f:=by
 unfold VL.cutD
 rw[HT.sIx_none,HT.sIx_nat,List.drop_zero,Fd,Nat.sub_zero,<- Jh]
 congr 1
 by_cases z:k<=xs.length
 · rw[Jt z]
 · rw[J3 (by omega),Fv (by omega),Fv (by omega)]
theorem je:FnScope ["_law_script"] ["_law_script"] (defScope (Ch 38)):=⟨rfl,rfl,rfl,by decide +kernel,rfl,by decide +kernel,by decide +kernel⟩
theorem d__law_feed(Fn:FnIn K mg "_law_feed" (Ch 38) ["_law_script"])(Z:Bz mg):DfnR P w K mg base "_law_feed" ["_law_script"] 2 xQ:=by
 have sc:=je
 obtain⟨f,fd,hm,F,hb⟩:=Fn.ex
 refine⟨f,fd,hm,F.kp,hb,?_⟩
 refine F.ok (k:=1) sc (fun vs H Q E h=>?_) (fun cdv A outer s H vs Q E hr h=>?_)
 · obtain⟨F,ws,_,r,_,⟨ns,rfl,_⟩,_⟩:=h
   have:=Ii r
   simpa using this
 · obtain⟨F,ws,sm,r,ao,⟨ns,rfl,hn⟩,fin⟩:=h
   obtain⟨T,p,kk⟩:=oo (X:=(o3 EN P w K mg base ["_law_script"] "_law_feed" (defScope (Ch 38)) f cdv A outer s H E).nox) (ig Z.list_ (aa (va (vn 0) d_ (d9 ac)) ab))
   refine⟨T,p,kk (hW sm (fun _ z=>by cases z) r ao) _ ?_ fin⟩
   simp_arith only[ae]
   exact⟨ns.take 63,by rw[show(63:Int)=((63:Nat):Int)from rfl,By],by rw[Gc];omega⟩
noncomputable def aU:List W->(EW->Prop)->Prop:=fun ws Q=>∃(m:Int),ws=[.reel,.d (.int m)]/\((0<m)/\(m<2^60))/\∀k:Int,(0<=k/\k<m)->Q (.int k)
theorem aU.mono:∀ws (Q Q':EW->Prop),(∀d,Q d->Q' d)->aU ws Q->aU ws Q':=fun _ _ _ h_=>Fi fun _=>E6 (E6 fun q_ o_ ho_=>h_ _ (q_ o_ ho_))
theorem aU.len:∀ws (Q:EW->Prop),aU ws Q->ws.length=2:=fun _ _ h_=>by obtain⟨_,e_,_⟩:=h_;subst e_;rfl
theorem aU.eq(m:Int)(hm:0<m)(hb:m<2^60):aU [.reel,.d (.int m)]=DO (anyM fun k:Int=>0<=k/\k<m) fun k=>VL.ret (.int k:EW):=by
 refine ah fun Q=>⟨?_,fun q_=>⟨m,rfl,⟨hm,hb⟩,q_⟩⟩
 rintro⟨m',e_,_,q_⟩
 simp_arith only[and_true]at e_
 obtain rfl:=e_
 exact q_
theorem jg:FnScope ["_law_feed_here", "_law_many", "_law_found", "_law_spot", "_law_cell", "_law_mixed"] ["_law_feed_here", "_law_many"] (defScope (Ch 39)):=⟨rfl,rfl,rfl,by decide +kernel,rfl,by decide +kernel,by decide +kernel⟩
theorem d__law_draw(Fn:FnIn K mg "_law_draw" (Ch 39) ["_law_feed_here", "_law_many"])(Z:Bz mg)    : Dfn P w K mg base rl "_law_draw" ["_law_feed_here", "_law_many"] 1 aU:=by
 have sc:=jg
 refine Dfn.of Fn sc (aU.mono) (aU.len) (fun cdv A outer s H E hr=>(af (hV (i:=0) (hr.mono (FI _)) (.inr (.inr rfl)) (v_add (fx (i:=0) (hr.mono (FI _)) (.inr (.inr rfl))) ac))
  (af (b8 (az lD ll (aw _) (fx (i:=0) (hr.mono (FI _)) (.inr (.inl rfl))) ac) (af (am 2 sc.nd (v_mod (fx (i:=0) (hr.mono (FI _)) (.inr (.inl rfl))) (vn 1)))
  (af (hV (i:=0) (hr.mono (FI _)) (.inr (.inl rfl)) (v_div (fx (i:=0) (hr.mono (FI _)) (.inr (.inl rfl))) (vn 1)))
  (aj (au (vn 2))))) aY)
  (af (am 3 sc.nd (fx (i:=0) (hr.mono (FI _)) (.inl rfl)))
  (af (hV (i:=0) (hr.mono (FI _)) (.inl rfl) (v_add (vn 3) ac))
  (af (am 4 sc.nd ac)
  (af (b8 (az (gR hr.units) cq (aw _) (eY (i:=0) (hr.mono (FI _))) (ce ab)) (aj (am 4 sc.nd (aV (eY (i:=0) (hr.mono (FI _))) (v_mod (vn 3) (cB Z.len_ (aa (eY (i:=0) (hr.mono (FI _))) ab)))))) aY)
  (af (b8 (Eu.pb (kf (az yY yf (aw _) (vn 4) (v_pow ac ac)) (ia (az iF hX (aw _) (vn 3) (cB Z.len_ (aa (eY (i:=0) (hr.mono (FI _))) ab)))))) (af (hV (i:=0) (hr.mono (FI _)) (.inr (.inl rfl)) (v_div (vn 4) (vn 1)))
  (aj (au (v_mod (vn 4) (vn 1))))) aY)
  (af (am 5 sc.nd (v_mod (v_mul (v_add (v_add (v_mod (vn 4) ac) (v_mul ac (fx (i:=0) (hr.mono (FI _)) (.inr (.inr rfl))))) ac) ac) ac))
  (af (am 5 sc.nd (v_mod (v_mul (v_add (v_div (vn 5) ac) (v_mul ac (fx (i:=0) (hr.mono (FI _)) (.inr (.inr rfl))))) ac) ac))
  (aj (au (v_mod (v_div (vn 5) ac) (vn 1)))))))))))))) ?_
 rintro ws Q ⟨m,rfl,⟨hm,hb⟩,hQ⟩
 have hm0:m≠0:=by omega
 have hmd:∀i:Int,eX i m:=fun i=>eX.of hm0 (by omega)
 have hnn:∀i:Int,0<=i->0<=i.fdiv m:=fun i hi=>Int.fdiv_nonneg hi (by omega)
 have fm:∀i:Int,0<=i.fmod m/\i.fmod m<m:=fun i=>⟨GT _ hm,Hz _ hm⟩
 refine ax ?_
 have c1:∀z:Int,aX 1013 z:=fun z=>.lt (by decide)
 have c2:∀z:Int,aX 37 z:=fun z=>.lt (by decide)
 have c3:∀z:Int,aX z 48271:=fun z=>.rt (by decide)
 have c4:∀z:Int,aX z 69621:=fun z=>.rt (by decide)
 have d6:∀z:Int,eX z 64:=fun z=>eX.of (by decide) (by decide)
 simp_arith only[ag,ae,ca,cb,bf,cc,bg,aE]
 (with_reducible (first|refine aI fun n hn=>?_|refine bc fun n hn=>?_))
 try simp_arith only[ag,ae,ca,cb,bf,cc,bg,aE]
 (with_reducible (first|refine aI fun l hl=>?_|refine bc fun l hl=>?_))
 try rw[sq_ite]
 refine cz (fun _=>?_) fun _=>?_
 · simp_arith only[ag,ae,ca,cb,bf,cc,bg,aE]
   (with_reducible (first|refine aI fun l2 hl2=>?_|refine bc fun l2 hl2=>?_))
   try simp_arith only[ag,ae,ca,cb,bf,cc,bg,aE]
   (with_reducible (first|refine aI fun l3 hl3=>?_|refine bc fun l3 hl3=>?_))
   have h0:=hnn l3 hl3
   try simp_arith only[ag,ae,ca,cb,bf,cc,bg,aE]
   exact bU (hmd _) (av (hQ _ (fm _)))
 · simp_arith only[ag,ae,ca,cb,bf,cc,bg,aE]
   (with_reducible (first|refine aI fun a ha=>?_|refine bc fun a ha=>?_))
   try simp_arith only[ag,ae,ca,cb,bf,cc,bg,aE]
   generalize rl.b.snd=cs
   refine qQ (fun _:Int=>True) (fun z=>.nx [some .reel,some (.d (.int m)),none,some (.d (.int a)),some (.d (.int z)),none]) ?_ ?_
   · intro Q' hQ' _ _
     refine bU (shaped_ints cs) (p9 (fun he=>?_) fun _=>hQ' 0 trivial)
     intro _ _ _ _
     have he:cs≠[]:=by rintro rfl;exact absurd he (by decide)
     have hz:(0:Int)<(cs.length:Int):=by have:=KM.mpr he;omega
     refine bU (by omega) ?_
     obtain⟨z,ez,_⟩:=qD (xs:=cs) (GT a hz) (Hz a hz)
     rw[ez]
     exact hQ' z trivial
   · intro z _
     have t0:(10:Int)^Hu 18<=z->0<=z:=fun h=>Jc (by decide) h
     repeat' (first|exact av (hQ _ (fm _))|((with_reducible refine bU ?_ ?_);(first|exact hmd _|exact hnn _ (by assumption)|exact hnn _ (t0 (by simp_all))|exact c1 _|exact c2 _|exact c3 _|exact c4 _|exact d6 _|exact eX.of (by decide) (by decide)|exact⟨by decide,by decide,by decide⟩|omega|assumption|decide))|(with_reducible refine aI fun _ _=>?_)|(with_reducible refine bc fun _ _=>?_)|(with_reducible refine cz (fun _=>?_) fun _=>?_)|(simp_arith only[ae,ca,cb,bf,cc,bg,aE]))
noncomputable def bq:List W->(EW->Prop)->Prop:=fun ws Q=>∃(a b:Int),ws=[.d (.int a),.d (.int b)]/\((0<b)/\(b.natAbs<2^8000))/\Q (fr (qd a b))
theorem bq.mono:∀ws (Q Q':EW->Prop),(∀d,Q d->Q' d)->bq ws Q->bq ws Q':=fun _ _ _ h_=>Fi fun _=>Fi fun _=>E6 (E6 (h_ _))
theorem bq.len:∀ws (Q:EW->Prop),bq ws Q->ws.length=2:=fun _ _ h_=>by obtain⟨_,_,e_,_⟩:=h_;subst e_;rfl
theorem bq.eq(a b:Int)(hb:0<b)(hz:b.natAbs<2^8000):bq [.d (.int a),.d (.int b)]=VL.ret (fr (qd a b):EW):=by
 refine ah fun Q=>⟨?_,fun q_=>⟨a,b,rfl,⟨hb,hz⟩,q_⟩⟩
 rintro⟨a',b',e_,_,q_⟩
 simp_arith only[cF,bE,bG,aH,aJ,bM]at e_
 obtain⟨rfl,rfl⟩:=e_
 exact q_
theorem jd:FnScope ["_law_top", "_law_bottom", "_law_one", "_law_other"] ["_law_top", "_law_bottom"] (defScope (Ch 40)):=⟨rfl,rfl,rfl,by decide +kernel,rfl,by decide +kernel,by decide +kernel⟩
theorem d__law_frac(Fn:FnIn K mg "_law_frac" (Ch 40) ["_law_top", "_law_bottom"])(Z:Bz mg)    : Dfn P w K mg base rl "_law_frac" ["_law_top", "_law_bottom"] 1 bq:=by
 have sc:=jd
 refine Dfn.of Fn sc (bq.mono) (bq.len) (fun cdv A outer s H E hr=>(af (lR 2 3 rfl sc.nd (aa (vg Z.abs_ (aa (vn 0) ab)) (aa (vn 1) ab)))
  (af (fq [] FU (az lD ll (aw _) (vn 3) ac) (aj (lR 2 3 rfl sc.nd (aa (vn 3) (aa (v_mod (vn 2) (vn 3)) ab)))))
  (aj (au (bu (aa (v_div (vn 0) (vn 2)) (aa (v_div (vn 1) (vn 2)) ab)))))))) ?_
 rintro ws Q ⟨a,b,rfl,⟨hb,hz⟩,hQ⟩
 refine ax ?_
 have e:G6 (if a<0 then -a else a) b=G6 a b:=by split<;>simp[G6]
 simp_arith only[ae]
 refine hU (σ:=Int×Int) (fun s=>[some (.d (.int a)),some (.d (.int b)),some (.d (.int s.1)),some (.d (.int s.2))]) (fun s=>decide (0<s.2)) (fun s=>(s.2,s.1.fmod s.2)) (fun s=>s.2.natAbs) (fun s=>0<=s.1/\0<=s.2/\G6 s.1 s.2=G6 a b) (if a<0 then -a else a,b) rfl ⟨by dsimp only;split<;>omega,by dsimp only;omega,e⟩ ?_ ?_ ?_
 · intro s _
   simp_arith only[ae]
 · rintro s ⟨h1,h2,e⟩ c
   have hc:0<s.2:=by simpa using c
   have hc':s.2≠0:=by omega
   refine⟨⟨h2,GT _ hc,by rw[kY];exact e⟩,fV hc',_,?_,rfl⟩
   simp_arith only[ag,ae]
 · rintro s ⟨h1,h2,e⟩ c
   have hc:¬0<s.2:=by simpa using c
   have hc:s.2=0:=by omega
   rw[hc,Int.gcd_zero_right]at e
   have ex:s.1=(G6 a b:Int):=by omega
   have c1:eX a (G6 a b:Int):=iO hb hz _
   have c2:eX b (G6 a b:Int):=iO hb hz _
   simp_arith only[ag,ae,ex]
   rw[rf hb]
   exact av hQ
noncomputable def Gd(q:Rat):Prop:=CT 45 q/\0<=q/\q<1
noncomputable def DN(x y:Int):Int:=(if decide (y<x)=true then(1:Int)else 0)-(if decide (x<y)=true then(1:Int)else 0)
noncomputable def DM(q r:Rat):Int:=if r<q then 1 else if q<r then -1 else 0
theorem oJ(q r:Rat):decide (DM q r<=0)=decide (q<=r):=by
 unfold DM
 by_cases h:r<q
 · rw[if_pos h];simp;exact Lb.mpr h
 · rw[if_neg h];have:=Hh.mp h;split<;>simp[this]
theorem f_(q r:Rat):decide (DM q r<0)=decide (q<r):=by
 unfold DM
 by_cases h:r<q
 · rw[if_pos h];simp;exact Hh.mpr (GZ h)
 · rw[if_neg h]
   by_cases h2:q<r
   · rw[if_pos h2];simp[h2]
   · rw[if_neg h2];simp[h2]
noncomputable def CW(x:Int×Int):EW:=.tuple [.int x.1,.int x.2]
theorem yT{x y:Int×Int}:CW x=CW y↔x=y:=⟨fun h=>by obtain⟨a,b⟩:=x;obtain⟨c,d⟩:=y;unfold CW at h;cases h;rfl,fun h=>by rw[h]⟩
noncomputable def aK:List W->(EW->Prop)->Prop:=fun ws Q=>∃(x y:Int×Int),ws=[.d (CW x),.d (CW y)]/\((EO x.1)/\(EO x.2)/\(EO y.1)/\(EO y.2))/\Q (.int (DN (x.1*y.2) (y.1*x.2)))
theorem aK.mono:∀ws (Q Q':EW->Prop),(∀d,Q d->Q' d)->aK ws Q->aK ws Q':=fun _ _ _ h_=>Fi fun _=>Fi fun _=>E6 (E6 (h_ _))
theorem aK.len:∀ws (Q:EW->Prop),aK ws Q->ws.length=2:=fun _ _ h_=>by obtain⟨_,_,e_,_⟩:=h_;subst e_;rfl
theorem aK.eq(x y:Int×Int)(h1:EO x.1)(h2:EO x.2)(h3:EO y.1)(h4:EO y.2):aK [.d (CW x),.d (CW y)]=VL.ret (.int (DN (x.1*y.2) (y.1*x.2)):EW):=by
 refine ah fun Q=>⟨?_,fun q_=>⟨x,y,rfl,⟨h1,h2,h3,h4⟩,q_⟩⟩
 rintro⟨x',y',e_,_,q_⟩
 simp_arith only[cF,bE,bG,aH,aJ,bM,yT]at e_
 obtain⟨rfl,rfl⟩:=e_
 exact q_
theorem jI:FnScope ["_law_one", "_law_other", "_law_left", "_law_right"] ["_law_one", "_law_other"] (defScope (Ch 41)):=⟨rfl,rfl,rfl,by decide +kernel,rfl,by decide +kernel,by decide +kernel⟩
theorem d__law_cmp(Fn:FnIn K mg "_law_cmp" (Ch 41) ["_law_one", "_law_other"])(Z:Bz mg)    : Dfn P w K mg base rl "_law_cmp" ["_law_one", "_law_other"] 1 aK:=by
 have sc:=jI
 refine Dfn.of Fn sc (aK.mono) (aK.len) (fun cdv A outer s H E hr=>(af (am 2 sc.nd (v_mul (aV (vn 0) ac) (aV (vn 1) ac)))
  (af (am 3 sc.nd (v_mul (aV (vn 1) ac) (aV (vn 0) ac)))
  (aj (au (v_sub (km Z.int_ (aa (fA lD ll (aw _) (vn 2) (vn 3)) ab)) (km Z.int_ (aa (fA iF hX (aw _) (vn 2) (vn 3)) ab)))))))) ?_
 rintro ws Q ⟨x,y,rfl,⟨h1,h2,h3,h4⟩,hQ⟩
 refine ax ?_
 have m1:aX x.1 y.2:=.bb h1 h4
 have m2:aX y.1 x.2:=.bb h3 h2
 simp_arith only[ag,ae,ET,CW]
 exact av hQ
theorem aK.eqQ(q r:Rat)(h1:CT 2000 q)(h2:CT 2000 r):aK [.d (fr q),.d (fr r)]=VL.ret (.int (DM q r):EW):=by
 have e:=aK.eq (q.num,(q.den:Int)) (r.num,(r.den:Int)) h1.bn h1.bd h2.bn h2.bd
 have z:DN (q.num*(r.den:Int)) (r.num*(q.den:Int))=DM q r:=by
  unfold DN DM
  rw[uk,uk]
  by_cases a:r<q
  · have b:¬q<r:=Hh.mpr (GZ a)
    simp[a,b]
  · by_cases b:q<r<;>simp[a,b]
 have e:aK [.d (fr q),.d (fr r)]=VL.ret (.int (DN (q.num*(r.den:Int)) (r.num*(q.den:Int))):EW):=e
 rw[z]at e
 exact e
theorem oi{a b:List Rat}:a.map fr=b.map fr↔a=b:=List.map_inj_right fun x y h=>gW h
noncomputable def bo:List W->(EW->Prop)->Prop:=fun ws Q=>∃(qs:List Rat)(b:Bool),ws=[.reel,.d (.list (qs.map fr)),.d (.bool b)]/\((∀q∈qs,Gd q)/\(qs.length<1000))/\∀q:Rat,(Gd q)->Q (fr q)
theorem bo.mono:∀ws (Q Q':EW->Prop),(∀d,Q d->Q' d)->bo ws Q->bo ws Q':=fun _ _ _ h_=>Fi fun _=>Fi fun _=>E6 (E6 fun q_ o_ ho_=>h_ _ (q_ o_ ho_))
theorem bo.len:∀ws (Q:EW->Prop),bo ws Q->ws.length=3:=fun _ _ h_=>by obtain⟨_,_,e_,_⟩:=h_;subst e_;rfl
theorem bo.eq(qs:List Rat)(b:Bool)(hq:∀q∈qs,Gd q)(hl:qs.length<1000):bo [.reel,.d (.list (qs.map fr)),.d (.bool b)]=DO (anyM fun q:Rat=>Gd q) fun q=>VL.ret (fr q:EW):=by
 refine ah fun Q=>⟨?_,fun q_=>⟨qs,b,rfl,⟨hq,hl⟩,q_⟩⟩
 rintro⟨qs',b',e_,_,q_⟩
 simp_arith only[cF,bE,bG,aH,aJ,bM,oi]at e_
 obtain⟨rfl,rfl⟩:=e_
 exact q_
theorem gt:FnScope ["_law_feed_here", "_law_seen", "_law_is_first", "_law_way", "_law_some", "_law_bottom", "_law_top"] ["_law_feed_here", "_law_seen", "_law_is_first"] (defScope (Ch 42)):=⟨rfl,rfl,rfl,by decide +kernel,rfl,by decide +kernel,by decide +kernel⟩
theorem d__law_number(Fn:FnIn K mg "_law_number" (Ch 42) ["_law_feed_here", "_law_seen", "_law_is_first"])(Z:Bz mg)(d__law_draw:∀rl,Dfn P w K mg base rl "_law_draw" ["_law_feed_here", "_law_many"] 1 aU)(d__law_frac:∀rl,Dfn P w K mg base rl "_law_frac" ["_law_top", "_law_bottom"] 1 bq)   : Dfn P w K mg base rl "_law_number" ["_law_feed_here", "_law_seen", "_law_is_first"] 2 bo:=by
 have sc:=gt
 refine Dfn.of Fn sc (bo.mono) (bo.len) (fun cdv A outer s H E hr=>(af (am 3 sc.nd (al (d__law_draw _) (hr.mono (by decide)) (aa (vn 0) (aa ac ab))))
  (af (b8 (az (di hr.units) cq (aw _) (vn 3) ac) (aj (au (bu (aa ac (aa ac ab))))) aY)
  (af (b8 (Eu.pb (kf (az iF hX (aw _) (vn 3) ac) (ia (az (gR hr.units) cq (aw _) (vn 1) (ce ab))))) (aj (au (aV (vn 1) (al (d__law_draw _) (hr.mono (by decide)) (aa (vn 0) (aa (cB Z.len_ (aa (vn 1) ab)) ab)))))) aY)
  (af (am 4 sc.nd (ce (aa ac (aa ac (aa ac (aa ac (aa ac (aa ac (aa ac (aa ac (aa ac (aa ac ab))))))))))))
  (af (b8 (df (vn 2)) (aj (am 4 sc.nd (gC (ce (aa ac (aa ac (aa ac (aa ac (aa ac (aa ac (aa ac ab)))))))) (vb (ce (aa (v_sub (v_pow ac ac) ac) ab)) ac)))) aY)
  (af (am 5 sc.nd (aV (vn 4) (al (d__law_draw _) (hr.mono (by decide)) (aa (vn 0) (aa ac ab)))))
  (af (am 6 sc.nd (v_mod (v_add (v_mul (al (d__law_draw _) (hr.mono (by decide)) (aa (vn 0) (aa (v_pow ac ac) ab))) (v_pow ac ac)) (al (d__law_draw _) (hr.mono (by decide)) (aa (vn 0) (aa (v_pow ac ac) ab)))) (vn 5)))
  (aj (au (al (d__law_frac _) (hr.mono (by decide)) (aa (aV (ce (aa (vn 6) (aa (vn 6) (aa (v_sub (vn 5) ac) (aa ac ab))))) (al (d__law_draw _) (hr.mono (by decide)) (aa (vn 0) (aa ac ab)))) (aa (vn 5) ab))))))))))))) ?_
 rintro ws Q ⟨qs,b,rfl,⟨hq,hl⟩,hQ⟩
 refine ax ?_
 have sz:=FG
 simp_arith only[ag,ae,ca,cb,bf,cc,bg,aE,ET,aU.eq]
 (with_reducible (first|refine aI fun w hw=>?_|refine bc fun w hw=>?_))
 have s0:F_ (.list [])=true:=rfl
 have sf:=lv qs
 have ev:FV (.list (qs.map fr)) (.list [])=qs.isEmpty:=by rw[uu];cases qs<;>rfl
 have eqi:∀i j:Int,FV (.int i) (.int j)=(i==j):=fun i j=>by simp[FV]
 have g0:Gd 0:=⟨⟨by decide,by decide⟩,Lz,by decide⟩
 simp_arith only[ag,ae,ca,cb,bf,cc,bg,aE,ET,aU.eq,s0,sf,ev,eqi]
 refine cz (fun _=>av (hQ 0 g0)) fun _=>?_
 refine cz (fun hc=>?_) fun _=>?_
 · have hn:qs≠[]:=by rintro rfl;simp at hc
   have hz:(0:Int)<(qs.length:Int):=by have:=KM.mpr hn;omega
   have hb:(qs.length:Int)<2^60:=by omega
   simp_arith only[ag,ae,ca,cb,bf,cc,bg,aE,ET,aU.eq]
   (with_reducible (first|refine aI fun j hj=>?_|refine bc fun j hj=>?_))
   obtain⟨r,er,mr⟩:=qD (xs:=qs) hj.1 hj.2
   rw[ck,er]
   exact av (hQ r (hq r mr))
 · have c12:rL 10 12:=⟨by decide,by decide,by decide⟩
   have c6:rL 10 6:=⟨by decide,by decide,by decide⟩
   refine cz (fun _=>?_) fun _=>?_
   · refine bU c12 ?_
     (with_reducible (first|refine aI fun t ht=>?_|refine bc fun t ht=>?_))
     refine Cz (cr (xs:=[2,3,5,12,97,1000,1000,10^Hu 12-11,10^Hu 12-11,10^Hu 12-11]) (enc:=Fm) (fun y:Int=>2<=y/\y<2^41) rfl ht.1 (by simpa using ht.2) (by decide) fun y hy=>?_)
     have y0:y≠0:=by omega
     have h6a:(0:Int)<10^Hu 6:=by decide
     have h6b:(10:Int)^Hu 6<2^60:=by decide
     have cm:∀z:Int,aX z (10^Hu 6):=fun z=>.rt (by decide)
     simp_arith only[ag,ae,ca,cb,bf,cc,bg,aE,ET,aU.eq,c6,cm]
     (with_reducible (first|refine aI fun u hu=>?_|refine bc fun u hu=>?_))
     try simp_arith only[ag,ae,ca,cb,bf,cc,bg,aE,ET,aU.eq]
     (with_reducible (first|refine aI fun v hv=>?_|refine bc fun v hv=>?_))
     have hx0:=GT (u*10^Hu 6+v) (show 0<y by omega)
     have hx1:=Hz (u*10^Hu 6+v) (show 0<y by omega)
     generalize (u*10^Hu 6+v).fmod y=x at hx0 hx1 ⊢
     try simp_arith only[ag,ae,ca,cb,bf,cc,bg,aE,ET,aU.eq]
     (with_reducible (first|refine aI fun e he=>?_|refine bc fun e he=>?_))
     have hb:0<y:=by omega
     have hz:y.natAbs<2^8000:=E8 (show y.natAbs<2^41 by omega) (Ft (by decide) (by decide))
     refine cr (xs:=[x,x,y-1,1]) (enc:=Fm) (fun z:Int=>0<=z/\z<y) rfl he.1 (by simpa using he.2) (by intro z hz;simp at hz;omega) fun z hz1=>?_
     simp_arith only[ag,ae,bq.eq]
     exact av (hQ _ ⟨sQ hb (by omega) (by omega),pK hb hz1.1,qS hb hz1.2⟩)
   · (with_reducible (first|refine aI fun t ht=>?_|refine bc fun t ht=>?_))
     refine Cz (cr (xs:=[2,3,4,5,6,8,12,97,7,11]) (enc:=Fm) (fun y:Int=>2<=y/\y<2^41) rfl ht.1 (by simpa using ht.2) (by decide) fun y hy=>?_)
     have y0:y≠0:=by omega
     have h6a:(0:Int)<10^Hu 6:=by decide
     have h6b:(10:Int)^Hu 6<2^60:=by decide
     have cm:∀z:Int,aX z (10^Hu 6):=fun z=>.rt (by decide)
     simp_arith only[ag,ae,ca,cb,bf,cc,bg,aE,ET,aU.eq,c6,cm]
     (with_reducible (first|refine aI fun u hu=>?_|refine bc fun u hu=>?_))
     try simp_arith only[ag,ae,ca,cb,bf,cc,bg,aE,ET,aU.eq]
     (with_reducible (first|refine aI fun v hv=>?_|refine bc fun v hv=>?_))
     have hx0:=GT (u*10^Hu 6+v) (show 0<y by omega)
     have hx1:=Hz (u*10^Hu 6+v) (show 0<y by omega)
     generalize (u*10^Hu 6+v).fmod y=x at hx0 hx1 ⊢
     try simp_arith only[ag,ae,ca,cb,bf,cc,bg,aE,ET,aU.eq]
     (with_reducible (first|refine aI fun e he=>?_|refine bc fun e he=>?_))
     have hb:0<y:=by omega
     have hz:y.natAbs<2^8000:=E8 (show y.natAbs<2^41 by omega) (Ft (by decide) (by decide))
     refine cr (xs:=[x,x,y-1,1]) (enc:=Fm) (fun z:Int=>0<=z/\z<y) rfl he.1 (by simpa using he.2) (by intro z hz;simp at hz;omega) fun z hz1=>?_
     simp_arith only[ag,ae,bq.eq]
     exact av (hQ _ ⟨sQ hb (by omega) (by omega),pK hb hz1.1,qS hb hz1.2⟩)
noncomputable def Pg(s:Nat)(ps:List (List Rat)):Prop:=∀p∈ps,p.length=s/\∀q∈p,Gd q
noncomputable def xL(s m:Nat)(ps:List (List Rat)):Prop:=1<=ps.length/\ps.length<=m+2/\Pg s ps/\∃bs:List (List Rat),bs.length<=m/\∀p∈ps,p∈bs
noncomputable def rC(cols:List (List Rat)):List (List EW):=cols.map fun c=>c.map fr
theorem rB{cols:List (List Rat)}(h:n<cols.length):(rC cols)[n]?=some (cols[n].map fr):=by unfold rC;rw[F0,FA h];rfl
theorem uC{cols:List (List Rat)}(h:n<cols.length):(rC cols).set n (cols[n].map fr++[fr q])=rC (cols.set n (cols[n]++[q])):=by unfold rC;rw[List.map_set,FY];rfl
noncomputable def A2(s i n:Nat)(cols:List (List Rat)):Prop:=cols.length=s/\(∀j (h:j<cols.length),cols[j].length<=i+(if j<n then 1 else 0))/\∀c∈cols,∀q∈c,Gd q
theorem wY{m:(W->Prop)->Prop}{Q:W->Prop}(h:∀Q':W->Prop,(∀b,Q' (.d (.bool b)))->m Q')(fin:∀b,Q (.d (.bool b))):m Q:=h Q fin
theorem jj{y:EW}(h:(aZ 0 n)[i]?=some y):i<n/\y = .int (i:Int):=by
 have e:aZ 0 n=(Gh n).map fun j:Nat=>Fm (0+(j:Int)):=rfl
 rw[e,F0]at h
 cases q:(Gh n)[i]? with
 | none=>rw[q]at h;cases h
 | some z =>
   rw[q]at h
   obtain⟨hl,hz⟩:=FK.mp q
   rw[Io]at hl
   rw[List.getElem_range]at hz
   subst hz
   cases h
   exact⟨hl,by show Fm (0+(i:Int))=_;rw[Int.zero_add]⟩
noncomputable def a_:List W->(EW->Prop)->Prop:=fun ws Q=>∃(s m:Int),ws=[.reel,.d (.int s),.d (.int m)]/\((1<=s)/\(s<=4)/\(1<=m)/\(m<=6))/\∀ps:List (List Rat),(xL s.toNat m.toNat ps)->Q (ptsQ ps)
theorem a_.mono:∀ws (Q Q':EW->Prop),(∀d,Q d->Q' d)->a_ ws Q->a_ ws Q':=fun _ _ _ h_=>Fi fun _=>Fi fun _=>E6 (E6 fun q_ o_ ho_=>h_ _ (q_ o_ ho_))
theorem a_.len:∀ws (Q:EW->Prop),a_ ws Q->ws.length=3:=fun _ _ h_=>by obtain⟨_,_,e_,_⟩:=h_;subst e_;rfl
theorem a_.eq(s m:Int)(s1:1<=s)(s4:s<=4)(m1:1<=m)(m6:m<=6):a_ [.reel,.d (.int s),.d (.int m)]=DO (anyM fun ps:List (List Rat)=>xL s.toNat m.toNat ps) fun ps=>VL.ret (ptsQ ps:EW):=by
 refine ah fun Q=>⟨?_,fun q_=>⟨s,m,rfl,⟨s1,s4,m1,m6⟩,q_⟩⟩
 rintro⟨s',m',e_,_,q_⟩
 simp_arith only[and_true]at e_
 obtain⟨rfl,rfl⟩:=e_
 exact q_
theorem gr:FnScope ["_law_feed_here", "_law_s", "_law_most", "_law_columns", "_law_found", "_law_j", "_law_point", "_law_k", "_law_x", "_law_again"] ["_law_feed_here", "_law_s", "_law_most"] (defScope (Ch 43)):=⟨rfl,rfl,rfl,by decide +kernel,rfl,by decide +kernel,by decide +kernel⟩
theorem d__law_points(Fn:FnIn K mg "_law_points" (Ch 43) ["_law_feed_here", "_law_s", "_law_most"])(Z:Bz mg)(d__law_draw:∀rl,Dfn P w K mg base rl "_law_draw" ["_law_feed_here", "_law_many"] 1 aU)(d__law_number:∀rl,Dfn P w K mg base rl "_law_number" ["_law_feed_here", "_law_seen", "_law_is_first"] 2 bo)   : Dfn P w K mg base rl "_law_points" ["_law_feed_here", "_law_s", "_law_most"] 3 a_:=by
 have sc:=gr
 refine Dfn.of Fn sc (a_.mono) (a_.len) (fun cdv A outer s H E hr=>(y9 3 sc.nd ["_law_k"] [none] rfl (bR Z.range_ (aa (vn 1) ab)) (fun _=>ai 0 (show Gk (["_law_k"]:List Str) by decide +kernel)) (dj (uK (eG 4 sc.nd (ce ab))) (dj (xh FU rfl (bR Z.range_ (aa (v_add ac (al (d__law_draw _) (hr.mono (by decide)) (aa (vn 0) (aa (vn 2) ab)))) ab)) (ai 5 sc.nd) (dj (uK (am 6 sc.nd (bu ab))) (dj (xh FU rfl (bR Z.range_ (aa (vn 1) ab)) (ai 7 sc.nd) (dj (zc 8 0 3 7 sc.nd (d__law_number _) (hr.mono (by decide)) (v_and (fA (di hr.units) cq (aw _) (vn 4) (ce ab)) (lZ (fA (di hr.units) cq (aw _) (vn 7) ac)))) (dj (ze 3 7 8) (dj (uK (am 6 sc.nd (mh (vn 6) (bu (aa (vn 8) ab))))) tW)))) (dj (uK (eI 4 (aa (vn 6) ab))) tW)))) (dj (uK (bF [5,9] FU rfl (bR Z.range_ (aa (al (d__law_draw _) (hr.mono (by decide)) (aa (vn 0) (aa ac ab))) ab)) (ai 5 sc.nd) (af (am 9 sc.nd (aV (vn 4) (al (d__law_draw _) (hr.mono (by decide)) (aa (vn 0) (aa (cB Z.len_ (aa (vn 4) ab)) ab)))))
  (aj (qF 4 (aa (al (d__law_draw _) (hr.mono (by decide)) (aa (vn 0) (aa (v_add (cB Z.len_ (aa (vn 4) ab)) ac) ab))) (aa (vn 9) ab))))))) (dj (uK (au (lW Z.tuple_ (aa (vn 4) ab)))) tW)))))) ?_
 rintro ws Q ⟨s,m,rfl,⟨s1,s4,m1,m6⟩,hQ⟩
 have sz:=FG
 have gs : -(2^62)<=s/\s<2^62:=by omega
 unfold Dg
 have e0:Dz (dF (qL 1) mo) [some .reel,some (.d (.int s)),some (.d (.int m)),none,none,none,none,none,none,none]=VL.ret (aZ 0 s.toNat):=by
  simp_arith only[ag,ae]
 refine(show Dz (dF (qL 1) mo) [some .reel,some (.d (.int s)),some (.d (.int m)),none,none,none,none,none,none,none] _ from ?_)
 rw[e0]
 refine⟨tQ rfl,fun x=>by show Le [none] [some (.d x)];rw[le_cn,le_nil];trivial,by rw[b9];omega,fun a=>gT ?_⟩
 rw[b9]
 simp_arith only[ag,ae]
 refine nJ ?_
 dsimp only
 refine cN ?_
 have e1:Dz (dF (B_ (DK fun i j=>Fm (i+j)) (vC (Fm 1)) (yh aU (dF (qL 0) (dF (qL 2) mo)))) mo) [some .reel,some (.d (.int s)),some (.d (.int m)),some (.vv (.ref a)),some (.ml []),none,none,none,none,none]=DO (anyM fun k:Int=>0<=k/\k<m) fun k=>DC (-(2^62)<=1+k/\1+k<2^62) (VL.ret (aZ 0 (1+k).toNat)):=by
  have g1:0<m:=by omega
  have g2:m<2^60:=by omega
  simp_arith only[ag,ae,aU.eq]
 refine nL ?_
 rw[e1]
 intro k hk
 refine⟨by omega,fun i xss ρ=>∃(cols bs:List (List Rat))(o5 o6 o7 o8:Option W),xss=rC cols/\A2 s.toNat i 0 cols/\bs.length=i/\Pg s.toNat bs/\ρ=[some .reel,some (.d (.int s)),some (.d (.int m)),some (.vv (.ref a)),some (.ml (bs.map CV)),o5,o6,o7,o8,none],?_,?_,?_⟩
 · exact⟨FQ s.toNat [],[],none,none,none,none,by simp[rC],⟨by simp,by simp,by simp⟩,rfl,by simp[Pg],rfl⟩
 · rintro i y xss ρ ey ⟨cols,bs,o5,o6,o7,o8,rfl,hc,hb,hp,rfl⟩
   obtain⟨hi,rfl⟩:=jj ey
   refine xw ?_
   dsimp only
   refine cN (gT ?_)
   simp_arith only[ag,ae]
   refine nJ ?_
   dsimp only
   refine cN ?_
   refine nL ?_
   have e2:Dz (dF (qL 1) mo) [some .reel,some (.d (.int s)),some (.d (.int m)),some (.vv (.ref a)),some (.ml (bs.map CV)),some (.d (.int (i:Int))),some (.d (.tuple [])),o7,o8,none]=VL.ret (aZ 0 s.toNat):=by
    simp_arith only[ag,ae]
   rw[e2]
   refine⟨fun n xss ρ=>∃(cols:List (List Rat))(pt:List Rat)(o7 o8:Option W),xss=rC cols/\A2 s.toNat i n cols/\pt.length=n/\(∀q∈pt,Gd q)/\ρ=[some .reel,some (.d (.int s)),some (.d (.int m)),some (.vv (.ref a)),some (.ml (bs.map CV)),some (.d (.int (i:Int))),some (.d (CV pt)),o7,o8,none],⟨cols,[],o7,o8,rfl,hc,rfl,by simp,rfl⟩,?_,?_⟩
   · rintro n y xss ρ ey ⟨cols,pt,o7,o8,rfl,⟨cl,c1,c2⟩,pl,hpt,rfl⟩
     obtain⟨hn,rfl⟩:=jj ey
     have hnl:n<cols.length:=by omega
     refine xw ?_
     dsimp only
     refine cN ⟨rfl,rfl,n,_,rfl,rB hnl,?_⟩
     refine wY (fun Q' hQ'=>?_) fun bb=>⟨bb,rfl,?_⟩
     · have s0:F_ (.list [])=true:=rfl
       have sp:=lq bs
       have eqi:∀i j:Int,FV (.int i) (.int j)=(i==j):=fun i j=>by simp[FV]
       simp_arith only[ag,ae,s0,sp,eqi]
       first|exact hQ' _|(split<;>exact hQ' _)|(refine cz (fun _=>?_) (fun _=>?_)<;>exact hQ' _)
     · have hq:∀q∈cols[n],Gd q:=c2 _ (Ge hnl)
       have hl:cols[n].length<1000:=by have:=c1 n hnl;rw[if_neg (by omega)]at this;omega
       rw[bo.eq _ _ hq hl]
       intro q hqq
       refine⟨⟨q.num,q.den,rfl⟩,?_⟩
       dsimp only
       refine cN ⟨rfl,n,_,_,rfl,rB hnl,rfl,by rw[Fd];omega,?_⟩
       rw[uC hnl]
       dsimp only
       refine cN (gT ?_)
       have pl4:pt.length+1<=sizeLine:=by omega
       simp_arith only[ag,ae,ET]
       refine nJ ?_
       dsimp only
       refine kN ?_
       dsimp only
       refine⟨cols.set n (cols[n]++[q]),pt++[q],some (.d (.int (n:Int))),some (.d (fr q)),rfl,⟨by simp[cl],fun j hj=>?_,fun c mc r mr=>?_⟩,by simp[pl],fun r mr=>?_,by simp[CV,FY]⟩
       · by_cases e:n=j
         · subst e
           rw[List.getElem_set_self,Fj,if_pos (by omega)]
           have:=c1 n hnl
           rw[if_neg (by omega)]at this
           simp;omega
         · rw[List.getElem_set_ne e]
           have:=c1 j (by simpa using hj)
           by_cases l:j<n
           · rw[if_pos l]at this;rw[if_pos (by omega)];exact this
           · rw[if_neg l]at this;rw[if_neg (by omega)];exact this
       · rcases List.mem_or_eq_of_mem_set mc with h|h
         · exact c2 c h r mr
         · subst h
           rcases Ga.mp mr with h|h
           · exact hq r h
           · cases Gb.mp h;exact hqq
       · rcases Ga.mp mr with h|h
         · exact hpt r h
         · cases Gb.mp h;exact hqq
   · rintro xss ρ ⟨cols,pt,o7,o8,rfl,hc,pl,hpt,rfl⟩
     rw[b9]at pl hc
     dsimp only
     refine cN (gT ?_)
     have bl:bs.length<sizeLine:=by omega
     simp_arith only[ag,ae,ET]
     refine nJ ?_
     dsimp only
     refine kN ?_
     dsimp only
     refine⟨cols,bs++[pt],some (.d (.int (i:Int))),some (.d (CV pt)),o7,o8,rfl,⟨hc.1,fun j hj=>?_,hc.2.2⟩,by simp[hb],fun p mp=>?_,by simp[FY]⟩
     · have:=hc.2.1 j hj
       split at this<;>simp<;>omega
     · rcases Ga.mp mp with h|h
       · exact hp p h
       · cases Gb.mp h;exact⟨pl,hpt⟩
 · rintro xss ρ ⟨cols,bs,o5,o6,o7,o8,rfl,hc,hb,hp,rfl⟩
   rw[b9]at hb
   dsimp only
   refine cN (gT ?_)
   simp_arith only[ag,ae,aU.eq]
   intro c hc3
   refine⟨by omega,AZ ?_⟩
   refine iI (fun i ρ=>∃ps:List (List Rat),1<=ps.length/\ps.length<=bs.length+i/\(∀p∈ps,p∈bs)/\ρ=[some .reel,some (.d (.int s)),some (.d (.int m)),some (.vv (.ref a)),some (.ml (ps.map CV)),none,o6,o7,o8,none]) ⟨bs,by omega,by omega,fun p h=>h,rfl⟩ ?_ ?_
   · rintro i hi ρ ⟨ps,p1,p2,pm,rfl⟩ K hK
     have g1:0<(ps.length:Int):=by omega
     have g2:(ps.length:Int)<2^60:=by omega
     have g3:0<(ps.length:Int)+1:=by omega
     have g4:(ps.length:Int)+1<2^60:=by omega
     simp_arith only[ag,ae,ET,aU.eq]
     (with_reducible (first|refine aI fun e he=>?_|refine bc fun e he=>?_))
     obtain⟨r,er,mr⟩:=qD (xs:=ps) he.1 he.2
     have er2:atI (ps.map CV) e=some (CV r):=by rw[ck,er];rfl
     simp_arith only[ag,ae,ET,aU.eq,er2]
     intro u hu
     have ls:ps.length<sizeLine:=by omega
     simp_arith only[ag,ae,ER]
     have ei:insAt (ps.map CV) u.toNat (CV r)=(insAt ps u.toNat r).map CV:=by unfold insAt;simp[FY,Jh,K7]
     rw[ei]
     have ml:(insAt ps u.toNat r).length=ps.length+1:=by unfold insAt;simp;omega
     have mm:∀p∈insAt ps u.toNat r,p∈bs:=fun p mp=>by
      have:p=r\/p∈ps:=by
       unfold insAt at mp
       simp only[Ga,FN,List.not_mem_nil,or_false]at mp
       rcases mp with h|h
       · first|exact .inr (Iu h)|(rcases h with h|h;exact .inr (Iu h);exact .inl h)
       · first|exact .inr (Kw h)|(rcases h with h|h;exact .inl h;exact .inr (Kw h))
      rcases this with rfl|h
      · exact pm _ mr
      · exact pm p h
     exact hK _ (b_ ⟨insAt ps u.toNat r,by omega,by omega,mm,rfl⟩)
   · rintro ρ ⟨ps,p1,p2,pm,rfl⟩
     refine nJ ?_
     dsimp only
     refine cN (gT ?_)
     have ls:ps.length<=sizeLine:=by omega
     simp_arith only[ag,ae,ET,vz]
     exact y_ ⟨_,rfl,hQ ps ⟨p1,by omega,fun p mp=>hp p (pm p mp),bs,by omega,pm⟩⟩
theorem aK.eq6(q r:Rat)(h1:CT 60 q)(h2:CT 60 r):aK [.d (fr q),.d (fr r)]=VL.ret (.int (DM q r):EW):=aK.eqQ q r h1.up h2.up
noncomputable def qt(f:Nat):Str:=if f=0 then "corner" else if f=1 then "inner" else "round"
noncomputable def mst(f s:Nat):Nat:=((if f=0 then [6,6,4,2]else if f=1 then [6,4,2,1]else [6,2,1,1]):List Nat).getD (s-1) 1
noncomputable def Wd(f s:Nat)(ps:List (List Rat)):Prop:=f<3/\1<=s/\s<=4/\¬(f=2/\s=4)/\xL s (mst f s) ps
noncomputable def bL:List W->(EW->Prop)->Prop:=fun ws Q=>ws=[.reel]/\(True)/\∀z:Nat×Nat×List (List Rat),(Wd z.1 z.2.1 z.2.2)->Q (.tuple [.str (qt z.1),ptsQ z.2.2])
theorem bL.mono:∀ws (Q Q':EW->Prop),(∀d,Q d->Q' d)->bL ws Q->bL ws Q':=fun _ _ _ h_=>E6 (E6 fun q_ o_ ho_=>h_ _ (q_ o_ ho_))
theorem bL.len:∀ws (Q:EW->Prop),bL ws Q->ws.length=1:=fun _ _ h_=>by obtain⟨e_,_⟩:=h_;subst e_;rfl
theorem bL.eq   : bL [.reel]=DO (anyM fun z:Nat×Nat×List (List Rat)=>Wd z.1 z.2.1 z.2.2) fun z=>VL.ret (.tuple [.str (qt z.1),ptsQ z.2.2]:EW):=by
 refine ah fun Q=>⟨?_,fun q_=>⟨rfl,trivial,q_⟩⟩
 rintro⟨e_,_,q_⟩
 simp_arith only[and_true]at e_
 exact q_
theorem iz:FnScope ["_law_feed_here", "_law_s", "_law_family", "_law_most"] ["_law_feed_here"] (defScope (Ch 44)):=⟨rfl,rfl,rfl,by decide +kernel,rfl,by decide +kernel,by decide +kernel⟩
theorem d__law_world(Fn:FnIn K mg "_law_world" (Ch 44) ["_law_feed_here"])(Z:Bz mg)(d__law_draw:∀rl,Dfn P w K mg base rl "_law_draw" ["_law_feed_here", "_law_many"] 1 aU)(d__law_points:∀rl,Dfn P w K mg base rl "_law_points" ["_law_feed_here", "_law_s", "_law_most"] 3 a_)   : Dfn P w K mg base rl "_law_world" ["_law_feed_here"] 4 bL:=by
 have sc:=iz
 refine Dfn.of Fn sc (bL.mono) (bL.len) (fun cdv A outer s H E hr=>(af (am 1 sc.nd (aV (ce (aa ac (aa ac (aa ac (aa ac (aa ac (aa ac ab))))))) (al (d__law_draw _) (hr.mono (by decide)) (aa (vn 0) (aa ac ab)))))
  (af (am 2 sc.nd (aV (ce (aa aB (aa aB (aa aB ab)))) (al (d__law_draw _) (hr.mono (by decide)) (aa (vn 0) (aa ac ab)))))
  (af (b8 (Eu.pb (kf (az (di hr.units) cq (aw _) (vn 1) ac) (ia (az cZ cn (aw _) (vn 2) aB)))) (aj (am 2 sc.nd aB)) aY)
  (af (am 3 sc.nd (aV (mf (hr.mono (FI _)) (by decide +kernel) (bu (aa ac (aa ac (aa ac (aa ac ab))))) (bu (aa ac (aa ac (aa ac (aa ac ab))))) (bu (aa ac (aa ac (aa ac (aa ac ab))))) (vn 2)) (v_sub (vn 1) ac)))
  (aj (au (bu (aa (vn 2) (aa (al (d__law_points _) (hr.mono (by decide)) (aa (vn 0) (aa (vn 1) (aa (vn 3) ab)))) ab)))))))))) ?_
 rintro ws Q ⟨rfl,_,hQ⟩
 refine ax ?_
 have sz:=FG
 simp_arith only[ag,ae,ca,cb,bf,cc,bg,aE,ET,aU.eq]
 (with_reducible (first|refine aI fun a ha=>?_|refine bc fun a ha=>?_))
 refine Cz (cr (xs:=[1,2,2,3,1,4]) (enc:=Fm) (fun y:Int=>1<=y/\y<=4) rfl ha.1 (by simpa using ha.2) (by decide) fun s hs=>?_)
 simp_arith only[ag,ae,ca,cb,bf,cc,bg,aE,ET,aU.eq]
 (with_reducible (first|refine aI fun b hb=>?_|refine bc fun b hb=>?_))
 refine Cz (cr (xs:=[0,1,2]) (enc:=fun f:Nat=>Gv (qt f)) (fun f:Nat=>f<3) rfl hb.1 (by simpa using hb.2) (by decide) fun f hf=>?_)
 have q1:(EX "inner" == EX "corner")=false:=by decide +kernel
 have q2:(EX "round" == EX "corner")=false:=by decide +kernel
 have q3:(EX "round" == EX "inner")=false:=by decide +kernel
 have n1:decide (EX "corner" = EX "round")=false:=by decide +kernel
 have n2:decide (EX "inner" = EX "round")=false:=by decide +kernel
 have n3:decide (EX "round" = EX "round")=true:=by decide +kernel
 have f0:qt 0=EX "corner" := rfl
 have f1:qt 1=EX "inner" := rfl
 have f2:qt 2=EX "round" := rfl
 have lk0:∀a b c:EW,Hl (EX "corner") [(EX "corner", a),(EX "inner", b),(EX "round", c)]=some a:=fun a b c=>by simp[Hl]
 have lk1:∀a b c:EW,Hl (EX "inner") [(EX "corner", a),(EX "inner", b),(EX "round", c)]=some b:=fun a b c=>by simp[Hl,q1]
 have lk2:∀a b c:EW,Hl (EX "round") [(EX "corner", a),(EX "inner", b),(EX "round", c)]=some c:=fun a b c=>by simp[Hl,q2,q3]
 have eqi:∀i j:Int,FV (.int i) (.int j)=(i==j):=fun i j=>by simp[FV]
 have it:∀a b c d:Int,VL.itemAt (.tuple [.int a,.int b,.int c,.int d]) 0=some (.int a)/\VL.itemAt (.tuple [.int a,.int b,.int c,.int d]) 1=some (.int b)/\VL.itemAt (.tuple [.int a,.int b,.int c,.int d]) 2=some (.int c)/\VL.itemAt (.tuple [.int a,.int b,.int c,.int d]) 3=some (.int d):=fun a b c d=>⟨rfl,rfl,rfl,rfl⟩
 have fin:∀(f s:Nat)(x:Str),qt f=x->f<3->1<=s->s<=4->¬(f=2/\s=4)->∀ps,xL s (mst f s) ps->VL.ret (Fl.rt (W.d (Gf [.str x,ptsQ ps]))) (uv Q):=fun f s x e h1 h2 h3 h4 ps hp=>by subst e;exact av (hQ (f,s,ps) ⟨h1,h2,h3,h4,hp⟩)
 obtain rfl|rfl|rfl:f=0\/f=1\/f=2:=by omega
 all_goals obtain rfl|rfl|rfl|rfl:s=1\/s=2\/s=3\/s=4:=by omega
 all_goals simp_arith only[ag,ae,ca,cb,bf,cc,bg,aE,ET,aU.eq,a_.eq,kO,f0,f1,f2,lk0,lk1,lk2,n1,n2,n3,eqi,it]
 all_goals intro ps hp
 · exact fin 0 1 _ f0 (by decide) (by decide) (by decide) (by decide) ps hp
 · exact fin 0 2 _ f0 (by decide) (by decide) (by decide) (by decide) ps hp
 · exact fin 0 3 _ f0 (by decide) (by decide) (by decide) (by decide) ps hp
 · exact fin 0 4 _ f0 (by decide) (by decide) (by decide) (by decide) ps hp
 · exact fin 1 1 _ f1 (by decide) (by decide) (by decide) (by decide) ps hp
 · exact fin 1 2 _ f1 (by decide) (by decide) (by decide) (by decide) ps hp
 · exact fin 1 3 _ f1 (by decide) (by decide) (by decide) (by decide) ps hp
 · exact fin 1 4 _ f1 (by decide) (by decide) (by decide) (by decide) ps hp
 · exact fin 2 1 _ f2 (by decide) (by decide) (by decide) (by decide) ps hp
 · exact fin 2 2 _ f2 (by decide) (by decide) (by decide) (by decide) ps hp
 · exact fin 2 3 _ f2 (by decide) (by decide) (by decide) (by decide) ps hp
 · exact fin 0 4 _ f0 (by decide) (by decide) (by decide) (by decide) ps hp
noncomputable def aL:List W->(EW->Prop)->Prop:=fun ws Q=>∃(i j:Int),ws=[.d (.int i),.d (.int j)]/\(True)/\Q (.int (G6 i j:Nat))
theorem aL.mono:∀ws (Q Q':EW->Prop),(∀d,Q d->Q' d)->aL ws Q->aL ws Q':=fun _ _ _ h_=>Fi fun _=>Fi fun _=>E6 (E6 (h_ _))
theorem aL.len:∀ws (Q:EW->Prop),aL ws Q->ws.length=2:=fun _ _ h_=>by obtain⟨_,_,e_,_⟩:=h_;subst e_;rfl
theorem aL.eq(i j:Int)  : aL [.d (.int i),.d (.int j)]=VL.ret (.int (G6 i j:Nat):EW):=by
 refine ah fun Q=>⟨?_,fun q_=>⟨i,j,rfl,trivial,q_⟩⟩
 rintro⟨i',j',e_,_,q_⟩
 simp_arith only[and_true]at e_
 obtain⟨rfl,rfl⟩:=e_
 exact q_
theorem eA:FnScope ["one", "other"] ["one", "other"] (defScope (Ch 7)):=⟨rfl,rfl,rfl,by decide +kernel,rfl,by decide +kernel,by decide +kernel⟩
theorem d_common_divisor(Fn:FnIn K mg "common_divisor" (Ch 7) ["one", "other"])(Z:Bz mg)    : Dfn P w K mg base rl "common_divisor" ["one", "other"] 1 aL:=by
 have sc:=eA
 refine Dfn.of Fn sc (aL.mono) (aL.len) (fun cdv A outer s H E hr=>(af (fq [] FU (az (gR hr.units) cq (aw _) (vn 1) ac) (aj (lR 0 1 rfl sc.nd (aa (vn 1) (aa (v_mod (vn 0) (vn 1)) ab)))))
  (aj (au (vg Z.abs_ (aa (vn 0) ab)))))) ?_
 rintro ws Q ⟨i,j,rfl,_,hQ⟩
 refine ax ?_
 simp_arith only[ae]
 refine hU (σ:=Int×Int) (fun s=>[some (.d (.int s.1)),some (.d (.int s.2))]) (fun s=>!(s.2==0)) (fun s=>(s.2,s.1.fmod s.2)) (fun s=>s.2.natAbs) (fun s=>G6 s.1 s.2=G6 i j) (i,j) rfl rfl ?_ ?_ ?_
 · intro s _
   simp_arith only[ae]
 · intro s e c
   have hc:s.2≠0:=by simpa using c
   refine⟨by rw[kY];exact e,fV hc,_,?_,rfl⟩
   simp_arith only[ag,ae]
 · intro s e c
   have hc:s.2=0:=by simpa using c
   simp_arith only[ae]
   rw[hc,Int.gcd_zero_right]at e
   refine av ?_
   have:(if s.1<0 then -s.1 else s.1)=((G6 i j:Nat):Int):=by rw[<- e];split<;>omega
   rw[this]
   exact hQ
noncomputable def bw:List W->(EW->Prop)->Prop:=fun ws Q=>∃(a b:Int),ws=[.d (.int a),.d (.int b)]/\((0<b)/\(b.natAbs<2^8000))/\Q (fr (qd a b))
theorem bw.mono:∀ws (Q Q':EW->Prop),(∀d,Q d->Q' d)->bw ws Q->bw ws Q':=fun _ _ _ h_=>Fi fun _=>Fi fun _=>E6 (E6 (h_ _))
theorem bw.len:∀ws (Q:EW->Prop),bw ws Q->ws.length=2:=fun _ _ h_=>by obtain⟨_,_,e_,_⟩:=h_;subst e_;rfl
theorem bw.eq(a b:Int)(hb:0<b)(hz:b.natAbs<2^8000):bw [.d (.int a),.d (.int b)]=VL.ret (fr (qd a b):EW):=by
 refine ah fun Q=>⟨?_,fun q_=>⟨a,b,rfl,⟨hb,hz⟩,q_⟩⟩
 rintro⟨a',b',e_,_,q_⟩
 simp_arith only[and_true]at e_
 obtain⟨rfl,rfl⟩:=e_
 exact q_
theorem jH:FnScope ["top", "bottom", "divisor"] ["top", "bottom"] (defScope (Ch 8)):=⟨rfl,rfl,rfl,by decide +kernel,rfl,by decide +kernel,by decide +kernel⟩
theorem d_fraction(Fn:FnIn K mg "fraction" (Ch 8) ["top", "bottom"])(Z:Bz mg)(d_common_divisor:∀rl,Dfn P w K mg base rl "common_divisor" ["one", "other"] 1 aL)   : Dfn P w K mg base rl "fraction" ["top", "bottom"] 2 bw:=by
 have sc:=jH
 refine Dfn.of Fn sc (bw.mono) (bw.len) (fun cdv A outer s H E hr=>(af (b8 (az (di hr.units) cq (aw _) (vn 1) ac) (aj ka) aY)
  (af (am 2 sc.nd (al (d_common_divisor _) (hr.mono (by decide)) (aa (vn 0) (aa (vn 1) ab))))
  (af (b8 (az iF hX (aw _) (vn 1) ac) (aj (am 2 sc.nd (pj (vn 2)))) aY)
  (aj (au (bu (aa (v_div (vn 0) (vn 2)) (aa (v_div (vn 1) (vn 2)) ab))))))))) ?_
 rintro ws Q ⟨a,b,rfl,⟨hb,hz⟩,hQ⟩
 refine ax ?_
 have c1:eX a (G6 a b:Int):=iO hb hz _
 have c2:eX b (G6 a b:Int):=iO hb hz _
 have h0:(b==0)=false:=by simp;omega
 have h1:decide (b<0)=false:=by simp;omega
 simp_arith only[ag,ae,aL.eq,h0,h1]
 rw[rf hb]
 exact av hQ
noncomputable def fN:List W->(EW->Prop)->Prop:=fun ws Q=>∃(q r:Rat),ws=[.d (fr q),.d (fr r)]/\((CT 2000 q)/\(CT 2000 r))/\Q (fr (q+r))
theorem fN.mono:∀ws (Q Q':EW->Prop),(∀d,Q d->Q' d)->fN ws Q->fN ws Q':=fun _ _ _ h_=>Fi fun _=>Fi fun _=>E6 (E6 (h_ _))
theorem fN.len:∀ws (Q:EW->Prop),fN ws Q->ws.length=2:=fun _ _ h_=>by obtain⟨_,_,e_,_⟩:=h_;subst e_;rfl
theorem fN.eq(q r:Rat)(h1:CT 2000 q)(h2:CT 2000 r):fN [.d (fr q),.d (fr r)]=VL.ret (fr (q+r):EW):=by
 refine ah fun Q=>⟨?_,fun q_=>⟨q,r,rfl,⟨h1,h2⟩,q_⟩⟩
 rintro⟨q',r',e_,_,q_⟩
 simp_arith only[cF,bE,bG,aH,aJ,bM]at e_
 obtain⟨rfl,rfl⟩:=e_
 exact q_
theorem sK:FnScope ["one", "other"] ["one", "other"] (defScope (Ch 9)):=⟨rfl,rfl,rfl,by decide +kernel,rfl,by decide +kernel,by decide +kernel⟩
theorem d_plus(Fn:FnIn K mg "plus" (Ch 9) ["one", "other"])(Z:Bz mg)(d_fraction:∀rl,Dfn P w K mg base rl "fraction" ["top", "bottom"] 2 bw)   : Dfn P w K mg base rl "plus" ["one", "other"] 3 fN:=by
 have sc:=sK
 refine Dfn.of Fn sc (fN.mono) (fN.len) (fun cdv A outer s H E hr=>(aj (au (al (d_fraction _) (hr.mono (by decide)) (aa (v_add (v_mul (aV (vn 0) ac) (aV (vn 1) ac)) (v_mul (aV (vn 1) ac) (aV (vn 0) ac))) (aa (v_mul (aV (vn 0) ac) (aV (vn 1) ac)) ab)))))) ?_
 rintro ws Q ⟨q,r,rfl,⟨h1,h2⟩,hQ⟩
 refine ax ?_
 have m1:aX q.num r.den:=.bb h1.bn h2.bd
 have m2:aX r.num q.den:=.bb h2.bn h1.bd
 have m3:aX q.den r.den:=.bb h1.bd h2.bd
 have m4:aX q.num r.num:=.bb h1.bn h2.bn
 have d1:=den_pos q r
 have d2:=fW h1 h2
 simp_arith only[ag,ae,bw.eq,ET,wm]
 exact av hQ
noncomputable def eN:List W->(EW->Prop)->Prop:=fun ws Q=>∃(q r:Rat),ws=[.d (fr q),.d (fr r)]/\((CT 2000 q)/\(CT 2000 r))/\Q (fr (q-r))
theorem eN.mono:∀ws (Q Q':EW->Prop),(∀d,Q d->Q' d)->eN ws Q->eN ws Q':=fun _ _ _ h_=>Fi fun _=>Fi fun _=>E6 (E6 (h_ _))
theorem eN.len:∀ws (Q:EW->Prop),eN ws Q->ws.length=2:=fun _ _ h_=>by obtain⟨_,_,e_,_⟩:=h_;subst e_;rfl
theorem eN.eq(q r:Rat)(h1:CT 2000 q)(h2:CT 2000 r):eN [.d (fr q),.d (fr r)]=VL.ret (fr (q-r):EW):=by
 refine ah fun Q=>⟨?_,fun q_=>⟨q,r,rfl,⟨h1,h2⟩,q_⟩⟩
 rintro⟨q',r',e_,_,q_⟩
 simp_arith only[cF,bE,bG,aH,aJ,bM]at e_
 obtain⟨rfl,rfl⟩:=e_
 exact q_
theorem sM:FnScope ["one", "other"] ["one", "other"] (defScope (Ch 10)):=⟨rfl,rfl,rfl,by decide +kernel,rfl,by decide +kernel,by decide +kernel⟩
theorem d_less(Fn:FnIn K mg "less" (Ch 10) ["one", "other"])(Z:Bz mg)(d_fraction:∀rl,Dfn P w K mg base rl "fraction" ["top", "bottom"] 2 bw)   : Dfn P w K mg base rl "less" ["one", "other"] 3 eN:=by
 have sc:=sM
 refine Dfn.of Fn sc (eN.mono) (eN.len) (fun cdv A outer s H E hr=>(aj (au (al (d_fraction _) (hr.mono (by decide)) (aa (v_sub (v_mul (aV (vn 0) ac) (aV (vn 1) ac)) (v_mul (aV (vn 1) ac) (aV (vn 0) ac))) (aa (v_mul (aV (vn 0) ac) (aV (vn 1) ac)) ab)))))) ?_
 rintro ws Q ⟨q,r,rfl,⟨h1,h2⟩,hQ⟩
 refine ax ?_
 have m1:aX q.num r.den:=.bb h1.bn h2.bd
 have m2:aX r.num q.den:=.bb h2.bn h1.bd
 have m3:aX q.den r.den:=.bb h1.bd h2.bd
 have m4:aX q.num r.num:=.bb h1.bn h2.bn
 have d1:=den_pos q r
 have d2:=fW h1 h2
 simp_arith only[ag,ae,bw.eq,ET,m7]
 exact av hQ
noncomputable def dw:List W->(EW->Prop)->Prop:=fun ws Q=>∃(q r:Rat),ws=[.d (fr q),.d (fr r)]/\((CT 2000 q)/\(CT 2000 r))/\Q (fr (q*r))
theorem dw.mono:∀ws (Q Q':EW->Prop),(∀d,Q d->Q' d)->dw ws Q->dw ws Q':=fun _ _ _ h_=>Fi fun _=>Fi fun _=>E6 (E6 (h_ _))
theorem dw.len:∀ws (Q:EW->Prop),dw ws Q->ws.length=2:=fun _ _ h_=>by obtain⟨_,_,e_,_⟩:=h_;subst e_;rfl
theorem dw.eq(q r:Rat)(h1:CT 2000 q)(h2:CT 2000 r):dw [.d (fr q),.d (fr r)]=VL.ret (fr (q*r):EW):=by
 refine ah fun Q=>⟨?_,fun q_=>⟨q,r,rfl,⟨h1,h2⟩,q_⟩⟩
 rintro⟨q',r',e_,_,q_⟩
 simp_arith only[cF,bE,bG,aH,aJ,bM]at e_
 obtain⟨rfl,rfl⟩:=e_
 exact q_
theorem pH:FnScope ["one", "other"] ["one", "other"] (defScope (Ch 11)):=⟨rfl,rfl,rfl,by decide +kernel,rfl,by decide +kernel,by decide +kernel⟩
theorem d_times(Fn:FnIn K mg "times" (Ch 11) ["one", "other"])(Z:Bz mg)(d_fraction:∀rl,Dfn P w K mg base rl "fraction" ["top", "bottom"] 2 bw)   : Dfn P w K mg base rl "times" ["one", "other"] 3 dw:=by
 have sc:=pH
 refine Dfn.of Fn sc (dw.mono) (dw.len) (fun cdv A outer s H E hr=>(aj (au (al (d_fraction _) (hr.mono (by decide)) (aa (v_mul (aV (vn 0) ac) (aV (vn 1) ac)) (aa (v_mul (aV (vn 0) ac) (aV (vn 1) ac)) ab)))))) ?_
 rintro ws Q ⟨q,r,rfl,⟨h1,h2⟩,hQ⟩
 refine ax ?_
 have m1:aX q.num r.den:=.bb h1.bn h2.bd
 have m2:aX r.num q.den:=.bb h2.bn h1.bd
 have m3:aX q.den r.den:=.bb h1.bd h2.bd
 have m4:aX q.num r.num:=.bb h1.bn h2.bn
 have d1:=den_pos q r
 have d2:=fW h1 h2
 simp_arith only[ag,ae,bw.eq,ET,wg]
 exact av hQ
noncomputable def bh:List W->(EW->Prop)->Prop:=fun ws Q=>∃(q r:Rat),ws=[.d (fr q),.d (fr r)]/\((CT 2000 q)/\(CT 2000 r))/\Q (.bool (decide (q<r)))
theorem bh.mono:∀ws (Q Q':EW->Prop),(∀d,Q d->Q' d)->bh ws Q->bh ws Q':=fun _ _ _ h_=>Fi fun _=>Fi fun _=>E6 (E6 (h_ _))
theorem bh.len:∀ws (Q:EW->Prop),bh ws Q->ws.length=2:=fun _ _ h_=>by obtain⟨_,_,e_,_⟩:=h_;subst e_;rfl
theorem bh.eq(q r:Rat)(h1:CT 2000 q)(h2:CT 2000 r):bh [.d (fr q),.d (fr r)]=VL.ret (.bool (decide (q<r)):EW):=by
 refine ah fun Q=>⟨?_,fun q_=>⟨q,r,rfl,⟨h1,h2⟩,q_⟩⟩
 rintro⟨q',r',e_,_,q_⟩
 simp_arith only[cF,bE,bG,aH,aJ,bM]at e_
 obtain⟨rfl,rfl⟩:=e_
 exact q_
theorem jG:FnScope ["one", "other"] ["one", "other"] (defScope (Ch 12)):=⟨rfl,rfl,rfl,by decide +kernel,rfl,by decide +kernel,by decide +kernel⟩
theorem d_is_below(Fn:FnIn K mg "is_below" (Ch 12) ["one", "other"])(Z:Bz mg)    : Dfn P w K mg base rl "is_below" ["one", "other"] 1 bh:=by
 have sc:=jG
 refine Dfn.of Fn sc (bh.mono) (bh.len) (fun cdv A outer s H E hr=>(aj (au (fA iF hX (aw _) (v_mul (aV (vn 0) ac) (aV (vn 1) ac)) (v_mul (aV (vn 1) ac) (aV (vn 0) ac)))))) ?_
 rintro ws Q ⟨q,r,rfl,⟨h1,h2⟩,hQ⟩
 refine ax ?_
 have m1:aX q.num r.den:=.bb h1.bn h2.bd
 have m2:aX r.num q.den:=.bb h2.bn h1.bd
 simp_arith only[ag,ae,ET,uk]
 exact av hQ
noncomputable def cM:List W->(EW->Prop)->Prop:=fun ws Q=>∃(q r:Rat),ws=[.d (fr q),.d (fr r)]/\((CT 2000 q)/\(CT 2000 r))/\Q (fr (mn q r))
theorem cM.mono:∀ws (Q Q':EW->Prop),(∀d,Q d->Q' d)->cM ws Q->cM ws Q':=fun _ _ _ h_=>Fi fun _=>Fi fun _=>E6 (E6 (h_ _))
theorem cM.len:∀ws (Q:EW->Prop),cM ws Q->ws.length=2:=fun _ _ h_=>by obtain⟨_,_,e_,_⟩:=h_;subst e_;rfl
theorem cM.eq(q r:Rat)(h1:CT 2000 q)(h2:CT 2000 r):cM [.d (fr q),.d (fr r)]=VL.ret (fr (mn q r):EW):=by
 refine ah fun Q=>⟨?_,fun q_=>⟨q,r,rfl,⟨h1,h2⟩,q_⟩⟩
 rintro⟨q',r',e_,_,q_⟩
 simp_arith only[cF,bE,bG,aH,aJ,bM]at e_
 obtain⟨rfl,rfl⟩:=e_
 exact q_
theorem mR:FnScope ["one", "other"] ["one", "other"] (defScope (Ch 13)):=⟨rfl,rfl,rfl,by decide +kernel,rfl,by decide +kernel,by decide +kernel⟩
theorem d_lesser(Fn:FnIn K mg "lesser" (Ch 13) ["one", "other"])(Z:Bz mg)(d_is_below:∀rl,Dfn P w K mg base rl "is_below" ["one", "other"] 1 bh)   : Dfn P w K mg base rl "lesser" ["one", "other"] 2 cM:=by
 have sc:=mR
 refine Dfn.of Fn sc (cM.mono) (cM.len) (fun cdv A outer s H E hr=>(aj (au (fy (df (al (d_is_below _) (hr.mono (by decide)) (aa (vn 0) (aa (vn 1) ab)))) (vn 0) (vn 1))))) ?_
 rintro ws Q ⟨q,r,rfl,⟨h1,h2⟩,hQ⟩
 refine ax ?_
 simp_arith only[ag,ae,bh.eq,ET]
 unfold mn at hQ
 refine av ?_
 by_cases h:q<r<;>simp[h]at hQ ⊢ <;> exact hQ
noncomputable def cx:List W->(EW->Prop)->Prop:=fun ws Q=>∃(q r:Rat),ws=[.d (fr q),.d (fr r)]/\((CT 2000 q)/\(CT 2000 r))/\Q (fr (mx q r))
theorem cx.mono:∀ws (Q Q':EW->Prop),(∀d,Q d->Q' d)->cx ws Q->cx ws Q':=fun _ _ _ h_=>Fi fun _=>Fi fun _=>E6 (E6 (h_ _))
theorem cx.len:∀ws (Q:EW->Prop),cx ws Q->ws.length=2:=fun _ _ h_=>by obtain⟨_,_,e_,_⟩:=h_;subst e_;rfl
theorem cx.eq(q r:Rat)(h1:CT 2000 q)(h2:CT 2000 r):cx [.d (fr q),.d (fr r)]=VL.ret (fr (mx q r):EW):=by
 refine ah fun Q=>⟨?_,fun q_=>⟨q,r,rfl,⟨h1,h2⟩,q_⟩⟩
 rintro⟨q',r',e_,_,q_⟩
 simp_arith only[cF,bE,bG,aH,aJ,bM]at e_
 obtain⟨rfl,rfl⟩:=e_
 exact q_
theorem ly:FnScope ["one", "other"] ["one", "other"] (defScope (Ch 14)):=⟨rfl,rfl,rfl,by decide +kernel,rfl,by decide +kernel,by decide +kernel⟩
theorem d_greater(Fn:FnIn K mg "greater" (Ch 14) ["one", "other"])(Z:Bz mg)(d_is_below:∀rl,Dfn P w K mg base rl "is_below" ["one", "other"] 1 bh)   : Dfn P w K mg base rl "greater" ["one", "other"] 2 cx:=by
 have sc:=ly
 refine Dfn.of Fn sc (cx.mono) (cx.len) (fun cdv A outer s H E hr=>(aj (au (fy (df (al (d_is_below _) (hr.mono (by decide)) (aa (vn 0) (aa (vn 1) ab)))) (vn 1) (vn 0))))) ?_
 rintro ws Q ⟨q,r,rfl,⟨h1,h2⟩,hQ⟩
 refine ax ?_
 simp_arith only[ag,ae,bh.eq,ET]
 unfold mx at hQ
 refine av ?_
 by_cases h:q<r<;>simp[h]at hQ ⊢ <;> exact hQ
theorem yM(h:CT 2000 q):(q.den:Int).natAbs<2^2000:=by rw[Gj];exact h.2
noncomputable def ci:List W->(EW->Prop)->Prop:=fun ws Q=>∃(b:Bool)(qs:List Rat),ws=[.d (CB b qs)]/\((qs.length<60)/\(∀q∈qs,CT 2000 q))/\∀rs:List Rat,(eP qs rs)->Q (.tuple (rs.map fr))
theorem ci.mono:∀ws (Q Q':EW->Prop),(∀d,Q d->Q' d)->ci ws Q->ci ws Q':=fun _ _ _ h_=>Fi fun _=>Fi fun _=>E6 (E6 fun q_ o_ ho_=>h_ _ (q_ o_ ho_))
theorem ci.len:∀ws (Q:EW->Prop),ci ws Q->ws.length=1:=fun _ _ h_=>by obtain⟨_,_,e_,_⟩:=h_;subst e_;rfl
theorem ci.eq(b:Bool)(qs:List Rat)(hl:qs.length<60)(hq:∀q∈qs,CT 2000 q):ci [.d (CB b qs)]=DO (anyM fun rs:List Rat=>eP qs rs) fun rs=>VL.ret (.tuple (rs.map fr):EW):=by
 refine ah fun Q=>⟨?_,fun q_=>⟨b,qs,rfl,⟨hl,hq⟩,q_⟩⟩
 rintro⟨b',qs',e_,_,q_⟩
 simp_arith only[cF,bE,bG,aH,aJ,bM,yG]at e_
 obtain⟨rfl,rfl⟩:=e_
 exact q_
theorem lx:FnScope ["some", "bottom", "scale", "by_size"] ["some"] (defScope (Ch 15)):=⟨rfl,rfl,rfl,by decide +kernel,rfl,by decide +kernel,by decide +kernel⟩
theorem d_in_size(Fn:FnIn K mg "in_size" (Ch 15) ["some"])(Z:Bz mg)    : Dfn P w K mg base rl "in_size" ["some"] 1 ci:=by
 have sc:=lx
 refine Dfn.of Fn sc (ci.mono) (ci.len) (fun cdv A outer s H E hr=>(af (am 1 sc.nd (ve rfl Z.max_ (aa (bD ["one"] [none] rfl (qI (vn 0)) (fun _=>(ai 0 (show Gk (["one"]:List Str) by decide +kernel))) (fun _=>bQ) (fun _=>(aV (vn 0) ac))) ab) ac))
  (af (am 2 sc.nd (v_mul (vn 1) (vn 1)))
  (af (jC 3 sc.nd ["one", "scale"] [none,some 2] rfl (qI (vn 0)) (fun _=>(ai 0 (show Gk (["one", "scale"]:List Str) by decide +kernel))) (fun _=>bQ) (fun _=>(v_div (v_mul (aV (vn 0) ac) (vn 1)) (aV (vn 0) ac))) (fun _=>(vn 0)))
  (aj (au (lW Z.tuple_ (aa (bD ["size", "by_size"] [none,some 3] rfl (aA (lX rfl Z.sorted_ (aa (vn 3) ab))) (fun _=>(ai 0 (show Gk (["size", "by_size"]:List Str) by decide +kernel))) (fun _=>bQ) (fun _=>(rZ hr.un1 (vn 1) (vn 0)))) ab)))))))) ?_
 rintro ws Q ⟨b,qs,rfl,⟨hl,hq⟩,hQ⟩
 refine ax ?_
 have sz:=FG
 simp_arith only[ag,ae,EU,EQ,ER,dt,ET]
 refine CA (bP (xs:=qs) (enc:=fr) (fun q=>.int q.den) rfl ?_ (by omega) ?_)
 · intro q mq
   simp_arith only[ag,ae,Du,ET]
 have e1:qs.map (fun q=>Fm q.den)=(qs.map fun q=>(q.den:Int)).map .int:=by rw[GM];rfl
 rw[e1]
 obtain⟨mx1,mx2⟩:=wW (qs.map fun q=>(q.den:Int))
 have hB:∀q∈qs,(q.den:Int)<=C7 1 (qs.map fun q=>(q.den:Int)):=fun q mq=>mx1 _ (Gn.mpr ⟨q,mq,rfl⟩)
 have bB:EO (C7 1 (qs.map fun q=>(q.den:Int))):=by
  rcases mx2 with z|z
  · rw[z];exact iY (by decide)
  · obtain⟨q,mq,e⟩:=Gn.mp z
    rw[<- e];exact iY (yM (hq q mq))
 have b2:(C7 1 (qs.map fun q=>(q.den:Int))).natAbs<2^2000:=by
  rcases mx2 with z|z
  · rw[z];decide
  · obtain⟨q,mq,e⟩:=Gn.mp z
    rw[<- e];exact yM (hq q mq)
 simp_arith only[ag,ae,EU,EQ,ER,dt,ET]
 generalize C7 1 (qs.map fun q=>(q.den:Int))=B at *
 have cm:aX B B:=.bb bB bB
 have bS:EO (B*B):=by
  unfold EO
  rw[Hb]
  exact E8 (J6 b2 b2) (by rw[<- Lw];exact Ft (by decide) (by decide))
 simp_arith only[ag,ae,EU,EQ,ER,dt,ET]
 refine CA (uy (xs:=qs) (enc:=fr) (fun q=>((Hn (Cu (B*B) q):EA),fr q)) rfl ?_ (by omega) ?_)
 · intro q mq
   have c1:aX q.num (B*B):=.bb (hq q mq).bn bS
   have c2:eX (q.num*(B*B)) q.den:=⟨by have:=ou q;omega,E8 (yM (hq q mq)) (Ft (by decide) (by decide))⟩
   simp_arith only[ag,ae,Dw,EU,EQ,ER,dt,ET]
   rfl
 obtain⟨ms,f1,f2,f3,f4,f5⟩:=uq (Cu (B*B)) qs fun q r mq mr e=>mH (hB q mq) (hB r mr) e
 have ef:((qs.map fun q=>((Hn (Cu (B*B) q):EA),fr q)).foldl (fun a p=>VL.putF a p.1 p.2) [])=ut (Cu (B*B)) qs:=rfl
 rw[ef]
 simp_arith only[ag,ae,EU,EQ,ER,dt,ET]
 refine sA ms f1 (by omega) ?_
 intro ns pm pw
 obtain⟨rs,er,hr,so⟩:=mI hB f2 f3 pm pw
 subst er
 have lr:=gJ so
 simp_arith only[ag,ae,EU,EQ,ER,dt,ET]
 refine bP (xs:=rs) (enc:=fun r=>Fm (Cu (B*B) r)) fr (by rw[GM];rfl) ?_ (by omega) ?_
 · intro r mr
   have v:=f4 r (hr r mr)
   simp_arith only[ag,ae,Du,EU,EQ,ER,dt,ET,v]
 exact av (hQ rs so)
theorem ci.eqL(qs:List Rat)(hl:qs.length<60)(hq:∀q∈qs,CT 2000 q):ci [.d (.list (qs.map fr))]=DO (anyM fun rs:List Rat=>eP qs rs) fun rs=>VL.ret (.tuple (rs.map fr):EW):=ci.eq false qs hl hq
noncomputable def colQ(ps:List (List Rat))(j:Nat):List Rat:=ps.map fun p=>p.getD j 0
theorem iW{k s:Nat}(hp:∀p∈ps,p.length=s/\∀q∈p,CT k q)(hj:j<s):∀p∈ps,atI p (j:Int)=some (p.getD j 0):=fun p mp=>cW (by
 have:=(hp p mp).1
 rw[FW,FA (by omega)];rfl)
theorem rA{k s:Nat}(hp:∀p∈ps,p.length=s/\∀q∈p,CT k q)(hj:j<s):∀q∈colQ ps j,CT k q:=fun q mq=>by
 obtain⟨p,mp,rfl⟩:=Gn.mp mq
 have:=(hp p mp).1
 have e:p.getD j 0=p[j]'(by omega):=by rw[FW,FA (by omega)];rfl
 show CT k (p.getD j 0)
 rw[e]
 exact(hp p mp).2 _ (Ge _)
noncomputable def stQ(xs:List Rat)(x:Rat):List Rat:=if xs[(xs.filter (· < x)).length]?=some x then xs else insAt xs (xs.filter (· < x)).length x
noncomputable def Cw(qs:List Rat):List Rat:=qs.foldl stQ []
theorem rq{x:Rat}:∀{xs:List Rat},xs.Pairwise (· < ·)->xs.take (xs.filter (· < x)).length=xs.filter (· < x)/\∀y∈xs.drop (xs.filter (· < x)).length,x<=y
 | [],_=>by simp
 | y::ys,h=>by
   obtain⟨h1,h2⟩:=Ia.mp h
   by_cases c:y<x
   · obtain⟨a,b⟩:=rq (x:=x) h2
     rw[List.filter_cons_of_pos (by simpa using c),FJ,List.take_succ_cons,List.drop_succ_cons,a]
     exact⟨rfl,b⟩
   · have e:(y::ys).filter (· < x)=[]:=by
       rw[List.filter_eq_nil_iff]
       intro z mz
       rcases FN.mp mz with rfl|mz
       · simpa using c
       · have:=h1 z mz
         simp
         exact Hh.mpr (JH (Hh.mp c) (GZ this))
     rw[e]
     refine⟨rfl,fun z mz=>?_⟩
     rcases FN.mp mz with rfl|mz
     · exact Hh.mp c
     · exact JH (Hh.mp c) (GZ (h1 z mz))
theorem vK{xs:List Rat}{x:Rat}(h:xs.Pairwise (· < ·)):(stQ xs x).Pairwise (· < ·)/\∀q,q∈stQ xs x↔q∈xs\/q=x:=by
 unfold stQ
 obtain⟨a,b⟩:=rq (x:=x) h
 split
 · rename_i e
   exact⟨h,fun q=>⟨.inl,fun z=>z.elim id fun z=>z▸Hm e⟩⟩
 · rename_i e
   unfold insAt
   have hp:=Kx.mp (show(xs.take (xs.filter (· < x)).length++xs.drop (xs.filter (· < x)).length).Pairwise (· < ·) by rw[Jb];exact h)
   have hd:∀y∈xs.drop (xs.filter (· < x)).length,x<y:=fun y my=>by
    refine JI (b y my) fun z=>e ?_
    subst z
    obtain⟨i,hi,ei⟩:=List.getElem_of_mem my
    rw[List.getElem_drop]at ei
    rw[HU]at hi
    cases i with
    | zero=>rw[FA (by omega)];simpa using ei
    | succ i =>
      exfalso
      have hl:(xs.filter (· < x)).length<xs.length:=by omega
      have m0:xs[(xs.filter (· < x)).length]∈xs.drop (xs.filter (· < x)).length:=List.mem_drop_iff_getElem.mpr ⟨0,by omega,by simp⟩
      have l0:=b _ m0
      have:=List.pairwise_iff_getElem.mp h (xs.filter (· < x)).length ((xs.filter (· < x)).length+(i+1)) hl (by omega) (by omega)
      rw[ei]at this
      exact absurd this (Hh.mpr l0)
   refine⟨Kx.mpr ⟨hp.1,Ia.mpr ⟨hd,hp.2.1⟩,fun y my z mz=>?_⟩,fun q=>?_⟩
   · rw[a]at my
     have yx:y<x:=by simpa using(Jl.mp my).2
     rcases FN.mp mz with rfl|mz
     · exact yx
     · have xz:=hd z mz
       exact JI (JH (GZ yx) (GZ xz)) fun e=>by subst e;exact Hh.mpr (GZ xz) yx
   · have:q∈xs↔q∈xs.take (xs.filter (· < x)).length\/q∈xs.drop (xs.filter (· < x)).length:=by rw[<- Ga,Jb]
     rw[Ga,FN,this]
     constructor
     · rintro(z|z|z)
       · exact .inl (.inl z)
       · exact .inr z
       · exact .inl (.inr z)
     · rintro((z|z)|z)
       · exact .inl z
       · exact .inr (.inr z)
       · exact .inr (.inl z)
theorem qP:∀(qs xs:List Rat),xs.Pairwise (· < ·)->(qs.foldl stQ xs).Pairwise (· < ·)/\∀q,q∈qs.foldl stQ xs↔q∈xs\/q∈qs
 | [],xs,h=>⟨h,by simp⟩
 | x::qs,xs,h=>by
   obtain⟨a,b⟩:=vK (x:=x) h
   obtain⟨c,d⟩:=qP qs (stQ xs x) a
   refine⟨c,fun q=>?_⟩
   rw[HK,d,b,FN]
   constructor
   · rintro((z|z)|z)
     · exact .inl z
     · exact .inr (.inl z)
     · exact .inr (.inr z)
   · rintro(z|z|z)
     · exact .inl (.inl z)
     · exact .inl (.inr z)
     · exact .inr z
theorem qr{α β:Type}(p:α->Prop)[DecidablePred p](g:α->β):∀xs:List α,(xs.filterMap fun y=>if p y then some (g y)else none)=(xs.filter fun y=>decide (p y)).map g
 | []=>rfl
 | x::xs=>by
   have ih:=qr p g xs
   by_cases c:p x
   · simp[c,ih]
   · simp[c,ih]
theorem fD(qs:List Rat):eP qs (Cw qs):=by
 obtain⟨a,b⟩:=qP qs [] JN
 exact⟨a,fun q=>by rw[Cw,b];simp⟩
theorem vL{qs:List Rat}(h:eP qs rs):rs=Cw qs:=gH h.1 (fD qs).1 fun q=>by rw[h.2,(fD qs).2]
theorem og{s:Nat}(h:Pg s ps):∀p∈ps,p.length=s/\∀q∈p,CT 45 q:=fun p mp=>⟨(h p mp).1,fun q mq=>((h p mp).2 q mq).1⟩
noncomputable def dimP(ps:List (List Rat)):Nat:=(ps.headD []).length
theorem ro{s:Nat}(h:Pg s ps)(h1:1<=ps.length):dimP ps=s:=by
 cases ps with
 | nil=>simp at h1
 | cons p ps=>exact(h p Ff).1
noncomputable def nuQ(ps:List (List Rat))(j:Nat):List Rat:=Cw (colQ ps j)
noncomputable def Pw(ps:List (List Rat)):Prop:=1<=ps.length/\ps.length<=40/\Pg (dimP ps) ps/\1<=dimP ps/\dimP ps<=4
noncomputable def bZ:List W->(EW->Prop)->Prop:=fun ws Q=>∃(ps:List (List Rat)),ws=[.d (ptsQ ps)]/\((1<=ps.length))/\Q (.int ((dimP ps:Nat):Int))
theorem bZ.mono:∀ws (Q Q':EW->Prop),(∀d,Q d->Q' d)->bZ ws Q->bZ ws Q':=fun _ _ _ h_=>Fi fun _=>E6 (E6 (h_ _))
theorem bZ.len:∀ws (Q:EW->Prop),bZ ws Q->ws.length=1:=fun _ _ h_=>by obtain⟨_,e_,_⟩:=h_;subst e_;rfl
theorem bZ.eq(ps:List (List Rat))(h:1<=ps.length):bZ [.d (ptsQ ps)]=VL.ret (.int ((dimP ps:Nat):Int):EW):=by
 refine ah fun Q=>⟨?_,fun q_=>⟨ps,rfl,h,q_⟩⟩
 rintro⟨ps',e_,_,q_⟩
 simp_arith only[cF,bE,bG,aH,aJ,bM]at e_
 obtain rfl:=e_
 exact q_
theorem jF:FnScope ["points"] ["points"] (defScope (Ch 21)):=⟨rfl,rfl,rfl,by decide +kernel,rfl,by decide +kernel,by decide +kernel⟩
theorem d_sides_of(Fn:FnIn K mg "sides_of" (Ch 21) ["points"])(Z:Bz mg)    : Dfn P w K mg base rl "sides_of" ["points"] 1 bZ:=by
 have sc:=jF
 refine Dfn.of Fn sc (bZ.mono) (bZ.len) (fun cdv A outer s H E hr=>(aj (au (cB Z.len_ (aa (aV (vn 0) ac) ab))))) ?_
 rintro ws Q ⟨ps,rfl,h,hQ⟩
 refine ax ?_
 cases ps with
 | nil=>simp at h
 | cons p ps =>
   have e:atI (p::ps) 0=some p:=cW rfl
   simp_arith only[ag,ae,ET,e]
   exact av hQ
noncomputable def bi:List W->(EW->Prop)->Prop:=fun ws Q=>∃(ps:List (List Rat))(j:Int),ws=[.d (ptsQ ps),.d (.int j)]/\((Pw ps)/\(0<=j)/\(j<dimP ps))/\Q (CV (nuQ ps j.toNat))
theorem bi.mono:∀ws (Q Q':EW->Prop),(∀d,Q d->Q' d)->bi ws Q->bi ws Q':=fun _ _ _ h_=>Fi fun _=>Fi fun _=>E6 (E6 (h_ _))
theorem bi.len:∀ws (Q:EW->Prop),bi ws Q->ws.length=2:=fun _ _ h_=>by obtain⟨_,_,e_,_⟩:=h_;subst e_;rfl
theorem bi.eq(ps:List (List Rat))(j:Int)(h:Pw ps)(j0:0<=j)(jl:j<dimP ps):bi [.d (ptsQ ps),.d (.int j)]=VL.ret (CV (nuQ ps j.toNat):EW):=by
 refine ah fun Q=>⟨?_,fun q_=>⟨ps,j,rfl,⟨h,j0,jl⟩,q_⟩⟩
 rintro⟨ps',j',e_,_,q_⟩
 simp_arith only[cF,bE,bG,aH,aJ,bM]at e_
 obtain⟨rfl,rfl⟩:=e_
 exact q_
theorem iu:FnScope ["points", "side"] ["points", "side"] (defScope (Ch 22)):=⟨rfl,rfl,rfl,by decide +kernel,rfl,by decide +kernel,by decide +kernel⟩
theorem d_numbers_at(Fn:FnIn K mg "numbers_at" (Ch 22) ["points", "side"])(Z:Bz mg)(d_in_size:∀rl,Dfn P w K mg base rl "in_size" ["some"] 1 ci)   : Dfn P w K mg base rl "numbers_at" ["points", "side"] 2 bi:=by
 have sc:=iu
 refine Dfn.of Fn sc (bi.mono) (bi.len) (fun cdv A outer s H E hr=>(aj (au (al (d_in_size _) (hr.mono (by decide)) (aa (bD ["point", "side"] [none,some 1] rfl (i4 (vn 0)) (fun _=>(ai 0 (show Gk (["point", "side"]:List Str) by decide +kernel))) (fun _=>bQ) (fun _=>(aV (vn 0) (vn 1)))) ab))))) ?_
 rintro ws Q ⟨ps,j,rfl,⟨h,j0,jl⟩,hQ⟩
 refine ax ?_
 have sz:=FG
 obtain⟨h1,h40,hp,d1,d4⟩:=h
 have ej:((j.toNat:Nat):Int)=j:=by omega
 have hj:j.toNat<dimP ps:=by omega
 have hc:(colQ ps j.toNat).length<60:=by unfold colQ;rw[Fd];omega
 have hq:∀q∈colQ ps j.toNat,CT 2000 q:=fun q mq=>(rA (og hp) hj q mq).mono (by decide)
 simp_arith only[ag,ae,ET]
 refine bP (xs:=ps) (enc:=CV) (fun p=>fr (p.getD j.toNat 0)) rfl ?_ (by omega) ?_
 · intro p mp
   have e:=iW (og hp) hj p mp
   rw[ej]at e
   simp_arith only[ag,ae,Du,ET,e]
 have e1:ps.map (fun p=>fr (p.getD j.toNat 0))=(colQ ps j.toNat).map fr:=by unfold colQ;rw[GM];rfl
 rw[e1]
 simp_arith only[ag,ae,ci.eqL]
 (with_reducible (first|refine aI fun rs hrs=>?_|refine bc fun rs hrs=>?_))
 rw[vL hrs]
 exact av hQ
noncomputable def bj:List W->(EW->Prop)->Prop:=fun ws Q=>∃(qs:List Rat),ws=[.d (.list (qs.map fr))]/\((qs.length<=40)/\(∀q∈qs,Gd q))/\Q (.list ((Cw qs).map fr))
theorem bj.mono:∀ws (Q Q':EW->Prop),(∀d,Q d->Q' d)->bj ws Q->bj ws Q':=fun _ _ _ h_=>Fi fun _=>E6 (E6 (h_ _))
theorem bj.len:∀ws (Q:EW->Prop),bj ws Q->ws.length=1:=fun _ _ h_=>by obtain⟨_,e_,_⟩:=h_;subst e_;rfl
theorem bj.eq(qs:List Rat)(hl:qs.length<=40)(hq:∀q∈qs,Gd q):bj [.d (.list (qs.map fr))]=VL.ret (.list ((Cw qs).map fr):EW):=by
 refine ah fun Q=>⟨?_,fun q_=>⟨qs,rfl,⟨hl,hq⟩,q_⟩⟩
 rintro⟨qs',e_,_,q_⟩
 simp_arith only[cF,bE,bG,aH,aJ,bM,oi]at e_
 obtain rfl:=e_
 exact q_
theorem gm:FnScope ["_law_some", "_law_found", "_law_x", "_law_spot"] ["_law_some"] (defScope (Ch 45)):=⟨rfl,rfl,rfl,by decide +kernel,rfl,by decide +kernel,by decide +kernel⟩
theorem d__law_sorted(Fn:FnIn K mg "_law_sorted" (Ch 45) ["_law_some"])(Z:Bz mg)(d__law_cmp:∀rl,Dfn P w K mg base rl "_law_cmp" ["_law_one", "_law_other"] 1 aK)   : Dfn P w K mg base rl "_law_sorted" ["_law_some"] 2 bj:=by
 have sc:=gm
 refine Dfn.of Fn sc (bj.mono) (bj.len) (fun cdv A outer s H E hr=>(af (eG 1 sc.nd (ce ab))
  (af (bF [2,3] FU rfl (aA (vn 0)) (ai 2 sc.nd) (af (am 3 sc.nd (cB Z.len_ (aa (po ["_law_one", "_law_x"] [none,some 2] rfl (uY 1) (fun _=>(ai 0 (show Gk (["_law_one", "_law_x"]:List Str) by decide +kernel))) (fun _=>dB (az iF hX (aw _) (al (d__law_cmp _) (hr.mono (by decide)) (aa (vn 0) (aa (vn 1) ab))) ac)) (fun _=>(vn 0))) ab)))
  (aj (b8 (Eu.pb (yg (az (di hr.units) cq (aw _) (vn 3) (cB Z.len_ (aa (vn 1) ab))) (u_ (az (gR hr.units) cq (aw _) (aV (vn 1) (vn 3)) (vn 2))))) (aj (qF 1 (aa (vn 3) (aa (vn 2) ab)))) aY))))
  (aj (gA 1 (au (vn 1))))))) ?_
 rintro ws Q ⟨qs,rfl,⟨hl,hq⟩,hQ⟩
 refine ax ?_
 have sz:=FG
 simp_arith only[ag,ae,ET]
 refine cD (xs:=qs) (enc:=fr) (fun i ρ=>ρ=[some (.d (.list (qs.map fr))),some (.ml (((qs.take i).foldl stQ []).map fr)),none,none]) rfl rfl ?_ ?_
 · rintro i hi ρ rfl K hK
   have hs:eP (qs.take i) ((qs.take i).foldl stQ []):=fD _
   have hlen:=gJ hs
   rw[Gc]at hlen
   have hx:=hq _ (Ge hi)
   have fin:∀ρ,fo [2,3] ρ=[some (.d (.list (qs.map fr))),some (.ml ((stQ ((qs.take i).foldl stQ []) qs[i]).map fr)),none,none]->K (.nx ρ):=fun ρ e=>hK _ (b_ (by rw[e,Fz hi,G9];rfl))
   have hg:∀q∈(qs.take i).foldl stQ [],Gd q:=fun q mq=>hq q (Iu ((hs.2 q).mp mq))
   generalize (qs.take i).foldl stQ []=xs at hs hlen fin hg ⊢
   generalize qs[i]=x at hx fin ⊢
   simp_arith only[ag,ae,ET,zd]
   refine CA (gc (xs:=xs) (enc:=fr) (fun y=>if y<x then some (fr y)else none) rfl ?_ (by omega) ?_)
   · intro y my
     have y60:CT 60 y:=(hg y my).1.mono (by decide)
     have x60:CT 60 x:=hx.1.mono (by decide)
     simp_arith only[ag,ae,Du,aK.eq6,f_]
     by_cases c:y<x<;>simp[c]
   have ek:(xs.filterMap fun y=>if y<x then some (fr y)else none).length=(xs.filter (· < x)).length:=by rw[qr,Fd]
   rw[ek]
   have kl:(xs.filter (· < x)).length<=xs.length:=HA ..
   have est:stQ xs x=if xs[(xs.filter (· < x)).length]?=some x then xs else insAt xs (xs.filter (· < x)).length x:=rfl
   generalize (xs.filter (· < x)).length=k at kl est ⊢
   have eqi:∀i j:Int,FV (.int i) (.int j)=(i==j):=fun i j=>by simp[FV]
   have xl:xs.length<sizeLine:=by omega
   have k0:(0:Int)<=(k:Int):=by omega
   have k1:(k:Int)<=(xs.length:Int):=by omega
   have ei:insAt (xs.map fr) k (fr x)=(insAt xs k x).map fr:=by unfold insAt;simp[FY,Jh,K7]
   have sx:=i_ x
   by_cases hk:k=xs.length
   · have e1:((k:Int)==(xs.length:Int))=true:=by simp[hk]
     rw[if_neg (by rw[hk];simp)]at est
     simp_arith only[ag,ae,ET,ER,eqi,e1,GO]
     try rw[ei]
     exact fin _ (by rw[est];rfl)
   · have e1:((k:Int)==(xs.length:Int))=false:=by simp;omega
     have kk:k<xs.length:=by omega
     have e2:atI (xs.map fr) (k:Int)=some (fr xs[k]):=cW (by rw[F0,FA kk];rfl)
     have sk:=i_ xs[k]
     have ev:=xF xs[k] x
     rw[FA kk]at est
     by_cases c:xs[k]=x
     · rw[if_pos (by rw[c])]at est
       have ev1:FV (fr xs[k]) (fr x)=true:=by rw[ev];simp[c]
       simp_arith only[ag,ae,ET,ER,eqi,e1,e2,ev1,GO]
       exact fin _ (by rw[est];rfl)
     · rw[if_neg (by intro z;exact c (Gr z))]at est
       have ev1:FV (fr xs[k]) (fr x)=false:=by rw[ev];simp[c]
       simp_arith only[ag,ae,ET,ER,eqi,e1,e2,ev1,GO]
       try rw[ei]
       exact fin _ (by rw[est];rfl)
 · rintro ρ rfl
   rw[Fv (Fa _)]
   simp_arith only[ag,ae]
   exact av hQ
noncomputable def Dn(t:Rat):EW:=.tuple [.str "to", fr t]
noncomputable def Dp(a b:Rat):EW:=.tuple [.str "from", fr a,fr b]
noncomputable def Do(a b:Rat):EW:=.tuple [.str "round", fr a,fr b]
noncomputable def CI(rs:List Rat):List EW:=((-1)::rs).flatMap fun a=>(rs++[1]).filterMap fun b=>if a<=b then some (Dp a b)else none
noncomputable def CF(rs:List Rat):List EW:=(rs++[1]).flatMap fun a=>((-1)::rs).filterMap fun b=>if b<=a then some (Do a b)else none
noncomputable def sl(f:Nat)(rs:List Rat):List EW:=if f=0 then(rs++[1]).map Dn else if f=1 then CI rs else CI rs++CF rs
noncomputable def Rs(rs:List Rat):Prop:=rs.length<=8/\∀q∈rs,Gd q
theorem cV{α:Type}{b:EW->Mo (Option EW)}{enc:α->EW}(f:α->Option EW):∀(xs:List α)(acc:List EW),(∀x∈xs,b (enc x)=VL.ret (f x))->acc.length+(xs.filterMap f).length<=sizeLine->cj b (xs.map enc) acc=VL.ret (acc++xs.filterMap f)
 | [],acc,_,_=>by simp[cj]
 | x::xs,acc,h,hl=>by
   show DO (b (enc x)) _=_
   rw[h x Ff,bnd_ret]
   cases e:f x with
   | none =>
     have e2:(x::xs).filterMap f=xs.filterMap f:=by rw[GX,e]
     rw[e2]at hl ⊢
     exact cV f xs acc (fun y my=>h y (E9 _ my)) hl
   | some d =>
     have e2:(x::xs).filterMap f=d::xs.filterMap f:=by rw[GX,e]
     rw[e2,FJ]at hl
     show DC (acc.length<sizeLine) (cj b (xs.map enc) (acc++[d]))=_
     rw[cV f xs (acc++[d]) (fun y my=>h y (E9 _ my)) (by rw[Fj,I_];omega),e2,Il]
     exact ag (by omega) _
theorem rm(rs:List Rat):rs.map fr++[fr 1]=(rs++[1]).map fr:=by rw[FY];rfl
theorem dn(h:Rs rs):∀q∈rs++[1],CT 60 q:=fun q mq=>by
 rcases Ga.mp mq with h'|h'
 · exact(h.2 q h').1.mono (by decide)
 · cases Gb.mp h';exact⟨by decide,by decide⟩
theorem eO(h:Rs rs):∀q∈(-1)::rs,CT 60 q:=fun q mq=>by
 rcases FN.mp mq with rfl|h'
 · exact⟨by decide,by decide⟩
 · exact(h.2 q h').1.mono (by decide)
theorem gU{α β:Type}{n:Nat}{f:α->List β}:∀{l:List α},(∀x∈l,(f x).length<=n)->(l.flatMap f).length<=l.length*n
 | [],_=>by simp
 | x::l,h=>by
   have h1:=h x Ff
   have h2:=gU (l:=l) fun y my=>h y (E9 _ my)
   rw[Gp,Fj,FJ,Nat.succ_mul];omega
theorem gL(h:rs.length<=8):(CI rs).length<=81:=FP (gU (n:=9) fun a _=>FP (Gz ..) (by simp;omega)) (by simp;omega)
theorem kD(h:rs.length<=8):(CF rs).length<=81:=FP (gU (n:=9) fun a _=>FP (Gz ..) (by simp;omega)) (by simp;omega)
noncomputable def b4(f:Fin 3):Str:=qt f.val
theorem db{a b:Fin 3}:b4 a=b4 b↔a=b:=by revert a b;decide +kernel
theorem x9:∀f:Fin 3,f=0\/f=1\/f=2:=by decide
noncomputable def bI:List W->(EW->Prop)->Prop:=fun ws Q=>∃(rs:List Rat)(f:Fin 3),ws=[.d (CV rs),.d (.str (b4 f))]/\((Rs rs))/\Q (.list (sl f.val rs))
theorem bI.mono:∀ws (Q Q':EW->Prop),(∀d,Q d->Q' d)->bI ws Q->bI ws Q':=fun _ _ _ h_=>Fi fun _=>Fi fun _=>E6 (E6 (h_ _))
theorem bI.len:∀ws (Q:EW->Prop),bI ws Q->ws.length=2:=fun _ _ h_=>by obtain⟨_,_,e_,_⟩:=h_;subst e_;rfl
theorem bI.eq(rs:List Rat)(f:Fin 3)(hr:Rs rs):bI [.d (CV rs),.d (.str (b4 f))]=VL.ret (.list (sl f.val rs):EW):=by
 refine ah fun Q=>⟨?_,fun q_=>⟨rs,f,rfl,hr,q_⟩⟩
 rintro⟨rs',f',e_,_,q_⟩
 simp_arith only[cF,bE,bG,aH,aJ,bM,db]at e_
 obtain⟨rfl,rfl⟩:=e_
 exact q_
theorem iq:FnScope ["numbers", "family", "ends", "begins", "inner"] ["numbers", "family"] (defScope (Ch 26)):=⟨rfl,rfl,rfl,by decide +kernel,rfl,by decide +kernel,by decide +kernel⟩
theorem d_side_looks(Fn:FnIn K mg "side_looks" (Ch 26) ["numbers", "family"])(Z:Bz mg)(d_is_below:∀rl,Dfn P w K mg base rl "is_below" ["one", "other"] 1 bh)(gl_ONE:GlD K mg "ONE" (pr 1 1))(gl_BELOW_ALL:GlD K mg "BELOW_ALL" (.tuple [.int (-1),.int 1]))  : Dfn P w K mg base rl "side_looks" ["numbers", "family"] 2 bI:=by
 have sc:=iq
 refine Dfn.of Fn sc (bI.mono) (bI.len) (fun cdv A outer s H E hr=>(af (am 2 sc.nd (gC (ig Z.list_ (aa (vn 0) ab)) (ce (aa (dE gl_ONE) ab))))
  (af (b8 (az cZ cn (aw _) (vn 1) aB) (aj (au (bD ["end"] [none] rfl (aA (vn 2)) (fun _=>(ai 0 (show Gk (["end"]:List Str) by decide +kernel))) (fun _=>bQ) (fun _=>(bu (aa aB (aa (vn 0) ab))))))) aY)
  (af (am 3 sc.nd (gC (ce (aa (dE gl_BELOW_ALL) ab)) (ig Z.list_ (aa (vn 0) ab))))
  (af (fu 4 sc.nd ["a", "b", "ends"] [none,none,some 2] rfl (aA (vn 3)) (fun _=>(ai 0 (show Gk (["a", "b", "ends"]:List Str) by decide +kernel))) (fun _=>bQ) (fun _=>(aA (vn 2))) (fun _=>(ai 1 (show Gk (["a", "b", "ends"]:List Str) by decide +kernel))) (fun _=>dB (qJ (df (al (d_is_below _) (hr.mono (by decide)) (aa (vn 1) (aa (vn 0) ab)))))) (fun _=>(bu (aa aB (aa (vn 0) (aa (vn 1) ab))))))
  (af (b8 (az cZ cn (aw _) (vn 1) aB) (aj (au (vn 4))) aY)
  (aj (au (gC (vn 4) (pq ["a", "b", "begins"] [none,none,some 3] rfl (aA (vn 2)) (fun _=>(ai 0 (show Gk (["a", "b", "begins"]:List Str) by decide +kernel))) (fun _=>bQ) (fun _=>(aA (vn 2))) (fun _=>(ai 1 (show Gk (["a", "b", "begins"]:List Str) by decide +kernel))) (fun _=>dB (qJ (df (al (d_is_below _) (hr.mono (by decide)) (aa (vn 0) (aa (vn 1) ab)))))) (fun _=>(bu (aa aB (aa (vn 0) (aa (vn 1) ab))))))))))))))) ?_
 rintro ws Q ⟨rs,f,rfl,hr,hQ⟩
 refine ax ?_
 have sz:=FG
 have q1:decide (EX "inner" = EX "corner")=false:=by decide +kernel
 have q2:decide (EX "round" = EX "corner")=false:=by decide +kernel
 have q3:decide (EX "round" = EX "inner")=false:=by decide +kernel
 have q4:decide (EX "corner" = EX "corner")=true:=by decide +kernel
 have q5:decide (EX "inner" = EX "inner")=true:=by decide +kernel
 have q6:decide (EX "corner" = EX "round")=false:=by decide +kernel
 have q7:decide (EX "inner" = EX "round")=false:=by decide +kernel
 have q8:decide (EX "round" = EX "round")=true:=by decide +kernel
 have f0:b4 0=EX "corner" := rfl
 have f1:b4 1=EX "inner" := rfl
 have f2:b4 2=EX "round" := rfl
 have l8:=hr.1
 have g1:rs.length+1<=sizeLine:=by omega
 have em:rs.map fr++[fr 1]=(rs++[1]).map fr:=rm rs
 have eb:Gf [Fm (-1),Fm 1]::rs.map fr=((-1)::rs).map fr:=rfl
 have nlt:∀a b:Rat,(!decide (b<a))=decide (a<=b):=fun a b=>by
  by_cases c:a<=b
  · have:=Hh.mpr c;simp[c,this]
  · have:=Lb.mp c;simp[c,this]
 obtain rfl|rfl|rfl:=x9 f
 · simp_arith only[ag,ae,ET,q1,q2,q3,q4,q5,q6,q7,q8,f0,f1,f2]
   refine CA (bP (xs:=rs++[1]) (enc:=fr) Dn em ?_ (by simp;omega) ?_)
   · intro e me
     simp_arith only[ag,ae,Du]
     rfl
   · simp_arith only[ag,ae]
     exact iB hQ
 · simp_arith only[ag,ae,ET,q1,q2,q3,q4,q5,q6,q7,q8,f0,f1,f2,m_comp2]
   refine CA ?_
   rw[eb]
   refine qC (xs:=(-1)::rs) (enc:=fr) (fun a=>(rs++[1]).filterMap fun b=>if a<=b then some (Dp a b)else none) rfl ?_ ?_ ?_
   · intro a ma acc hl
     simp_arith only[ag,ae,nZ]
     rw[em]
     refine(cV (enc:=fr) (fun b=>if a<=b then some (Dp a b)else none) (rs++[1]) acc ?_ hl).trans rfl
     intro b mb
     have h1:CT 2000 a:=(eO hr a ma).mono (by decide)
     have h2:CT 2000 b:=(dn hr b mb).mono (by decide)
     simp_arith only[ag,ae,Du,bh.eq,nlt]
     by_cases c:a<=b<;>simp[c,Dp]
   · exact FP (gL l8) (by omega)
   · simp_arith only[ag,ae,ET,q1,q2,q3,q4,q5,q6,q7,q8,f0,f1,f2]
     exact av hQ
 · simp_arith only[ag,ae,ET,q1,q2,q3,q4,q5,q6,q7,q8,f0,f1,f2,m_comp2]
   refine CA ?_
   rw[eb]
   refine qC (xs:=(-1)::rs) (enc:=fr) (fun a=>(rs++[1]).filterMap fun b=>if a<=b then some (Dp a b)else none) rfl ?_ ?_ ?_
   · intro a ma acc hl
     simp_arith only[ag,ae,nZ]
     rw[em]
     refine(cV (enc:=fr) (fun b=>if a<=b then some (Dp a b)else none) (rs++[1]) acc ?_ hl).trans rfl
     intro b mb
     have h1:CT 2000 a:=(eO hr a ma).mono (by decide)
     have h2:CT 2000 b:=(dn hr b mb).mono (by decide)
     simp_arith only[ag,ae,Du,bh.eq,nlt]
     by_cases c:a<=b<;>simp[c,Dp]
   · exact FP (gL l8) (by omega)
   · simp_arith only[ag,ae,ET,q1,q2,q3,q4,q5,q6,q7,q8,f0,f1,f2,m_comp2]
     rw[em]
     refine qC (xs:=rs++[1]) (enc:=fr) (fun a=>((-1)::rs).filterMap fun b=>if b<=a then some (Do a b)else none) rfl ?_ ?_ ?_
     · intro a ma acc hl
       simp_arith only[ag,ae,nZ]
       try rw[eb]
       refine(cV (enc:=fr) (fun b=>if b<=a then some (Do a b)else none) ((-1)::rs) acc ?_ hl).trans rfl
       intro b mb
       have h1:CT 2000 a:=(dn hr a ma).mono (by decide)
       have h2:CT 2000 b:=(eO hr b mb).mono (by decide)
       simp_arith only[ag,ae,Du,bh.eq,nlt]
       by_cases c:b<=a<;>simp[c,Do]
     · exact FP (kD l8) (by omega)
     · have hF:=gL l8
       have hR:=kD l8
       unfold CI at hF
       unfold CF at hR
       exact bU (by omega) (iB hQ)
noncomputable def inr(n:Int):Int:=((n+1)*(n+2)).fdiv 2+n
noncomputable def C8(f:Nat)(n:Int):Int:=if f=0 then n+1 else if f=1 then inr n else 2*inr n
noncomputable def Db(f:Nat)(ps:List (List Rat))(d:Nat):Int:=(Gh d).foldl (fun m j=>m*C8 f ((nuQ ps j).length:Nat)) 1
theorem dR(f:Nat)(ps:List (List Rat))(d:Nat):Db f ps (d+1)=Db f ps d*C8 f ((nuQ ps d).length:Nat):=by unfold Db;rw[List.range_succ,G9];rfl
theorem xu{n:Int}(h0:0<=n)(h8:n<=8):0<=inr n/\inr n<=100:=by
 unfold inr
 have:n=0\/n=1\/n=2\/n=3\/n=4\/n=5\/n=6\/n=7\/n=8:=by omega
 rcases this with rfl|rfl|rfl|rfl|rfl|rfl|rfl|rfl|rfl<;>decide
theorem nG{n:Int}(h0:0<=n)(h8:n<=8):0<=C8 f n/\C8 f n<=200:=by
 have:=xu h0 h8
 unfold C8
 split
 · omega
 · split<;>omega
noncomputable def Ee(ps:List (List Rat)):Prop:=Pw ps/\∀j,j<dimP ps->Rs (nuQ ps j)
noncomputable def aF:List W->(EW->Prop)->Prop:=fun ws Q=>∃(n:Int)(f:Fin 3),ws=[.d (.int n),.d (.str (b4 f))]/\((0<=n)/\(n<=8))/\Q (.int (C8 f.val n))
theorem aF.mono:∀ws (Q Q':EW->Prop),(∀d,Q d->Q' d)->aF ws Q->aF ws Q':=fun _ _ _ h_=>Fi fun _=>Fi fun _=>E6 (E6 (h_ _))
theorem aF.len:∀ws (Q:EW->Prop),aF ws Q->ws.length=2:=fun _ _ h_=>by obtain⟨_,_,e_,_⟩:=h_;subst e_;rfl
theorem aF.eq(n:Int)(f:Fin 3)(n0:0<=n)(n8:n<=8):aF [.d (.int n),.d (.str (b4 f))]=VL.ret (.int (C8 f.val n):EW):=by
 refine ah fun Q=>⟨?_,fun q_=>⟨n,f,rfl,⟨n0,n8⟩,q_⟩⟩
 rintro⟨n',f',e_,_,q_⟩
 simp_arith only[cF,bE,bG,aH,aJ,bM,db]at e_
 obtain⟨rfl,rfl⟩:=e_
 exact q_
theorem dL:FnScope ["many", "family", "inner"] ["many", "family"] (defScope (Ch 27)):=⟨rfl,rfl,rfl,by decide +kernel,rfl,by decide +kernel,by decide +kernel⟩
theorem d_many_side_looks(Fn:FnIn K mg "many_side_looks" (Ch 27) ["many", "family"])(Z:Bz mg)    : Dfn P w K mg base rl "many_side_looks" ["many", "family"] 1 aF:=by
 have sc:=dL
 refine Dfn.of Fn sc (aF.mono) (aF.len) (fun cdv A outer s H E hr=>(af (b8 (az cZ cn (aw _) (vn 1) aB) (aj (au (v_add (vn 0) ac))) aY)
  (af (am 2 sc.nd (v_add (v_div (v_mul (v_add (vn 0) ac) (v_add (vn 0) ac)) ac) (vn 0)))
  (aj (au (fy (az cZ cn (aw _) (vn 1) aB) (vn 2) (v_mul ac (vn 2)))))))) ?_
 rintro ws Q ⟨n,f,rfl,⟨n0,n8⟩,hQ⟩
 refine ax ?_
 have q1:decide (EX "inner" = EX "corner")=false:=by decide +kernel
 have q2:decide (EX "round" = EX "corner")=false:=by decide +kernel
 have q3:decide (EX "round" = EX "inner")=false:=by decide +kernel
 have q4:decide (EX "corner" = EX "corner")=true:=by decide +kernel
 have q5:decide (EX "inner" = EX "inner")=true:=by decide +kernel
 have q6:decide (EX "corner" = EX "round")=false:=by decide +kernel
 have q7:decide (EX "inner" = EX "round")=false:=by decide +kernel
 have q8:decide (EX "round" = EX "round")=true:=by decide +kernel
 have f0:b4 0=EX "corner" := rfl
 have f1:b4 1=EX "inner" := rfl
 have f2:b4 2=EX "round" := rfl
 have c1:aX (n+1) (n+2):=.lt (by omega)
 have c2:aX 2 (inr n):=.lt (by decide)
 have d2:eX ((n+1)*(n+2)) 2:=eX.of (by decide) (by decide)
 have ei:((n+1)*(n+2)).fdiv 2+n=inr n:=rfl
 obtain rfl|rfl|rfl:=x9 f
 · simp_arith only[ag,ae,q1,q2,q3,q4,q5,q6,q7,q8,f0,f1,f2]
   exact av hQ
 · simp_arith only[ag,ae,q1,q2,q3,q4,q5,q6,q7,q8,f0,f1,f2,ei]
   exact av hQ
 · simp_arith only[ag,ae,q1,q2,q3,q4,q5,q6,q7,q8,f0,f1,f2,ei]
   exact av hQ
noncomputable def bJ:List W->(EW->Prop)->Prop:=fun ws Q=>∃(ps:List (List Rat))(f:Fin 3),ws=[.d (ptsQ ps),.d (.str (b4 f))]/\((Ee ps))/\Q (.int (Db f.val ps (dimP ps)))
theorem bJ.mono:∀ws (Q Q':EW->Prop),(∀d,Q d->Q' d)->bJ ws Q->bJ ws Q':=fun _ _ _ h_=>Fi fun _=>Fi fun _=>E6 (E6 (h_ _))
theorem bJ.len:∀ws (Q:EW->Prop),bJ ws Q->ws.length=2:=fun _ _ h_=>by obtain⟨_,_,e_,_⟩:=h_;subst e_;rfl
theorem bJ.eq(ps:List (List Rat))(f:Fin 3)(hw:Ee ps):bJ [.d (ptsQ ps),.d (.str (b4 f))]=VL.ret (.int (Db f.val ps (dimP ps)):EW):=by
 refine ah fun Q=>⟨?_,fun q_=>⟨ps,f,rfl,hw,q_⟩⟩
 rintro⟨ps',f',e_,_,q_⟩
 simp_arith only[cF,bE,bG,aH,aJ,bM,db]at e_
 obtain⟨rfl,rfl⟩:=e_
 exact q_
theorem iw:FnScope ["points", "family", "many", "side"] ["points", "family"] (defScope (Ch 28)):=⟨rfl,rfl,rfl,by decide +kernel,rfl,by decide +kernel,by decide +kernel⟩
theorem d_many_looks(Fn:FnIn K mg "many_looks" (Ch 28) ["points", "family"])(Z:Bz mg)(d_sides_of:∀rl,Dfn P w K mg base rl "sides_of" ["points"] 1 bZ)(d_many_side_looks:∀rl,Dfn P w K mg base rl "many_side_looks" ["many", "family"] 1 aF)(d_numbers_at:∀rl,Dfn P w K mg base rl "numbers_at" ["points", "side"] 2 bi)   : Dfn P w K mg base rl "many_looks" ["points", "family"] 3 bJ:=by
 have sc:=iw
 refine Dfn.of Fn sc (bJ.mono) (bJ.len) (fun cdv A outer s H E hr=>(af (am 2 sc.nd ac)
  (af (bF [3] FU rfl (bR Z.range_ (aa (al (d_sides_of _) (hr.mono (by decide)) (aa (vn 0) ab)) ab)) (ai 3 sc.nd) (aj (uT 2 sc.nd ub (al (d_many_side_looks _) (hr.mono (by decide)) (aa (cB Z.len_ (aa (al (d_numbers_at _) (hr.mono (by decide)) (aa (vn 0) (aa (vn 3) ab))) ab)) (aa (vn 1) ab))))))
  (aj (au (vn 2)))))) ?_
 rintro ws Q ⟨ps,f,rfl,hw,hQ⟩
 refine ax ?_
 have sz:=FG
 obtain⟨h,hN⟩:=hw
 have h1:=h.1
 have d4:=h.2.2.2.2
 have gn : -(2^62)<=((dimP ps:Nat):Int)/\((dimP ps:Nat):Int)<2^62:=by omega
 simp_arith only[ag,ae,bZ.eq]
 refine iI (fun i ρ=>ρ=[some (.d (ptsQ ps)),some (.d (.str (b4 f))),some (.d (.int (Db f.val ps i))),none]) rfl ?_ ?_
 · rintro i hi ρ rfl K hK
   have j0:0<=0+(i:Int):=by omega
   have jl:0+(i:Int)<dimP ps:=by omega
   have hr:=hN i hi
   have et:(0+(i:Int)).toNat=i:=by omega
   have n0:(0:Int)<=((nuQ ps i).length:Nat):=by omega
   have n8:((nuQ ps i).length:Int)<=8:=by have:=hr.1;omega
   have cm:∀x:Int,aX x (C8 f.val ((nuQ ps i).length:Nat)):=fun x=>.rt (by have:=nG (f:=f.val) n0 n8;omega)
   simp_arith only[ag,ae,ET,bi.eq,aF.eq,et,cm]
   exact hK _ (b_ (by rw[dR];rfl))
 · rintro ρ rfl
   simp_arith only[ag,ae]
   exact av hQ
noncomputable def aR:List W->(EW->Prop)->Prop:=fun ws Q=>∃(ps:List (List Rat))(f:Fin 3),ws=[.d (ptsQ ps),.d (.str (b4 f))]/\((Ee ps)/\(Db f.val ps (dimP ps)<=3000))/\Q (.list ((Gh (dimP ps)).map fun j=>Ih (sl f.val (nuQ ps j))))
theorem aR.mono:∀ws (Q Q':EW->Prop),(∀d,Q d->Q' d)->aR ws Q->aR ws Q':=fun _ _ _ h_=>Fi fun _=>Fi fun _=>E6 (E6 (h_ _))
theorem aR.len:∀ws (Q:EW->Prop),aR ws Q->ws.length=2:=fun _ _ h_=>by obtain⟨_,_,e_,_⟩:=h_;subst e_;rfl
theorem aR.eq(ps:List (List Rat))(f:Fin 3)(hw:Ee ps)(hm:Db f.val ps (dimP ps)<=3000):aR [.d (ptsQ ps),.d (.str (b4 f))]=VL.ret (.list ((Gh (dimP ps)).map fun j=>Ih (sl f.val (nuQ ps j))):EW):=by
 refine ah fun Q=>⟨?_,fun q_=>⟨ps,f,rfl,⟨hw,hm⟩,q_⟩⟩
 rintro⟨ps',f',e_,_,q_⟩
 simp_arith only[cF,bE,bG,aH,aJ,bM,db]at e_
 obtain⟨rfl,rfl⟩:=e_
 exact q_
theorem eS:FnScope ["points", "family"] ["points", "family"] (defScope (Ch 29)):=⟨rfl,rfl,rfl,by decide +kernel,rfl,by decide +kernel,by decide +kernel⟩
theorem d_looks_by_side(Fn:FnIn K mg "looks_by_side" (Ch 29) ["points", "family"])(Z:Bz mg)(d_many_looks:∀rl,Dfn P w K mg base rl "many_looks" ["points", "family"] 3 bJ)(d_side_looks:∀rl,Dfn P w K mg base rl "side_looks" ["numbers", "family"] 2 bI)(d_numbers_at:∀rl,Dfn P w K mg base rl "numbers_at" ["points", "side"] 2 bi)(d_sides_of:∀rl,Dfn P w K mg base rl "sides_of" ["points"] 1 bZ)(gl_MOST_LOOKS:GlD K mg "MOST_LOOKS" (.int 3000))  : Dfn P w K mg base rl "looks_by_side" ["points", "family"] 4 aR:=by
 have sc:=eS
 refine Dfn.of Fn sc (aR.mono) (aR.len) (fun cdv A outer s H E hr=>(af (b8 (az lD ll (aw _) (al (d_many_looks _) (hr.mono (by decide)) (aa (vn 0) (aa (vn 1) ab))) (dE gl_MOST_LOOKS)) (aj ka) aY)
  (aj (au (bD ["side", "points", "family"] [none,some 0,some 1] rfl (bR Z.range_ (aa (al (d_sides_of _) (hr.mono (by decide)) (aa (vn 0) ab)) ab)) (fun _=>(ai 0 (show Gk (["side", "points", "family"]:List Str) by decide +kernel))) (fun _=>bQ) (fun _=>(al (d_side_looks _) (hr.mono (by decide)) (aa (al (d_numbers_at _) (hr.mono (by decide)) (aa (vn 1) (aa (vn 0) ab))) (aa (vn 2) ab))))))))) ?_
 rintro ws Q ⟨ps,f,rfl,⟨hw,hm⟩,hQ⟩
 refine ax ?_
 have sz:=FG
 obtain⟨h,hN⟩:=id hw
 have h1:=h.1
 have d4:=h.2.2.2.2
 have gn : -(2^62)<=((dimP ps:Nat):Int)/\((dimP ps:Nat):Int)<2^62:=by omega
 have dm:decide (3000<Db f.val ps (dimP ps))=false:=by simp;omega
 simp_arith only[ag,ae,bJ.eq,bZ.eq,dm]
 refine qA (fun j=>Ih (sl f.val (nuQ ps j))) ?_ (by omega) ?_
 · intro j hj
   have j0:0<=0+(j:Int):=by omega
   have jl:0+(j:Int)<dimP ps:=by omega
   have et:(0+(j:Int)).toNat=j:=by omega
   have hr:=hN j hj
   simp_arith only[ag,ae,Du,bi.eq,bI.eq,et]
 · exact iB hQ
theorem oM{rows:List (List α)}(h:i<rows.length):chP (rows.take (i+1))=(chP (rows.take i)).flatMap fun b=>rows[i].map fun t=>b++[t]:=by rw[Fz h,lb]
noncomputable def jJ(f:Nat)(ps:List (List Rat)):List (List EW):=(Gh (dimP ps)).map fun j=>sl f (nuQ ps j)
noncomputable def aG:List W->(EW->Prop)->Prop:=fun ws Q=>∃(rs:List Rat)(f:Fin 3),ws=[.d (.list (rs.map fr)),.d (.str (b4 f))]/\((Rs rs))/\Q (.list (sl f.val rs))
theorem aG.mono:∀ws (Q Q':EW->Prop),(∀d,Q d->Q' d)->aG ws Q->aG ws Q':=fun _ _ _ h_=>Fi fun _=>Fi fun _=>E6 (E6 (h_ _))
theorem aG.len:∀ws (Q:EW->Prop),aG ws Q->ws.length=2:=fun _ _ h_=>by obtain⟨_,_,e_,_⟩:=h_;subst e_;rfl
theorem aG.eq(rs:List Rat)(f:Fin 3)(hr:Rs rs):aG [.d (.list (rs.map fr)),.d (.str (b4 f))]=VL.ret (.list (sl f.val rs):EW):=by
 refine ah fun Q=>⟨?_,fun q_=>⟨rs,f,rfl,hr,q_⟩⟩
 rintro⟨rs',f',e_,_,q_⟩
 simp_arith only[cF,bE,bG,aH,aJ,bM,oi,db]at e_
 obtain⟨rfl,rfl⟩:=e_
 exact q_
theorem dM:FnScope ["_law_numbers", "_law_family", "_law_lasts", "_law_firsts", "_law_found", "_law_a"] ["_law_numbers", "_law_family"] (defScope (Ch 46)):=⟨rfl,rfl,rfl,by decide +kernel,rfl,by decide +kernel,by decide +kernel⟩
theorem d__law_side_looks(Fn:FnIn K mg "_law_side_looks" (Ch 46) ["_law_numbers", "_law_family"])(Z:Bz mg)(d__law_cmp:∀rl,Dfn P w K mg base rl "_law_cmp" ["_law_one", "_law_other"] 1 aK)   : Dfn P w K mg base rl "_law_side_looks" ["_law_numbers", "_law_family"] 2 aG:=by
 have sc:=dM
 refine Dfn.of Fn sc (aG.mono) (aG.len) (fun cdv A outer s H E hr=>(af (am 2 sc.nd (gC (vn 0) (ce (aa (bu (aa ac (aa ac ab))) ab))))
  (af (b8 (az cZ cn (aw _) (vn 1) aB) (aj (au (bD ["_law_t"] [none] rfl (aA (vn 2)) (fun _=>(ai 0 (show Gk (["_law_t"]:List Str) by decide +kernel))) (fun _=>bQ) (fun _=>(bu (aa aB (aa (vn 0) ab))))))) aY)
  (af (am 3 sc.nd (gC (ce (aa (bu (aa (pj ac) (aa ac ab))) ab)) (vn 0)))
  (af (eG 4 sc.nd (ce ab))
  (af (bF [5] FU rfl (aA (vn 3)) (ai 5 sc.nd) (aj (qG 4 (aa (bD ["_law_b", "_law_a"] [none,some 5] rfl (aA (vn 2)) (fun _=>(ai 0 (show Gk (["_law_b", "_law_a"]:List Str) by decide +kernel))) (fun _=>dB (az wP uU (aw _) (al (d__law_cmp _) (hr.mono (by decide)) (aa (vn 1) (aa (vn 0) ab))) ac)) (fun _=>(bu (aa aB (aa (vn 1) (aa (vn 0) ab)))))) ab))))
  (af (b8 (az cZ cn (aw _) (vn 1) aB) (aj (bF [5] FU rfl (aA (vn 2)) (ai 5 sc.nd) (aj (qG 4 (aa (bD ["_law_b", "_law_a"] [none,some 5] rfl (aA (vn 3)) (fun _=>(ai 0 (show Gk (["_law_b", "_law_a"]:List Str) by decide +kernel))) (fun _=>dB (az wP uU (aw _) (al (d__law_cmp _) (hr.mono (by decide)) (aa (vn 0) (aa (vn 1) ab))) ac)) (fun _=>(bu (aa aB (aa (vn 1) (aa (vn 0) ab)))))) ab))))) aY)
  (aj (gA 4 (au (vn 4))))))))))) ?_
 rintro ws Q ⟨rs,f,rfl,hr,hQ⟩
 refine ax ?_
 have sz:=FG
 have q1:decide (EX "inner" = EX "corner")=false:=by decide +kernel
 have q2:decide (EX "round" = EX "corner")=false:=by decide +kernel
 have q3:decide (EX "round" = EX "inner")=false:=by decide +kernel
 have q4:decide (EX "corner" = EX "corner")=true:=by decide +kernel
 have q5:decide (EX "inner" = EX "inner")=true:=by decide +kernel
 have q6:decide (EX "corner" = EX "round")=false:=by decide +kernel
 have q7:decide (EX "inner" = EX "round")=false:=by decide +kernel
 have q8:decide (EX "round" = EX "round")=true:=by decide +kernel
 have f0:b4 0=EX "corner" := rfl
 have f1:b4 1=EX "inner" := rfl
 have f2:b4 2=EX "round" := rfl
 have l8:=hr.1
 have g1:rs.length+1<=sizeLine:=by omega
 have em:rs.map fr++[Gf [Fm 1,Fm 1]]=(rs++[1]).map fr:=rm rs
 have eb:Gf [Fm (-1),Fm 1]::rs.map fr=((-1)::rs).map fr:=rfl
 have e9:(((-1)::rs).flatMap fun a=>(rs++[1]).filterMap fun b=>if a<=b then some (Dp a b)else none)=CI rs:=rfl
 have e8:((rs++[1]).flatMap fun a=>((-1)::rs).filterMap fun b=>if b<=a then some (Do a b)else none)=CF rs:=rfl
 obtain rfl|rfl|rfl:=x9 f
 · simp_arith only[ag,ae,ET,q1,q2,q3,q4,q5,q6,q7,q8,f0,f1,f2]
   refine CA (bP (xs:=rs++[1]) (enc:=fr) Dn em ?_ (by simp;omega) ?_)
   · intro e me
     simp_arith only[ag,ae,Du]
     rfl
   · simp_arith only[ag,ae]
     exact iB hQ
 · simp_arith only[ag,ae,ET,q1,q2,q3,q4,q5,q6,q7,q8,f0,f1,f2]
   refine cD (xs:=(-1)::rs) (enc:=fr) (fun i ρ=>ρ=[some (.d (.list (rs.map fr))),some (.d (.str (EX "inner"))),some (.d (.list (rs.map fr++[Gf [Fm 1,Fm 1]]))),some (.d (.list (Gf [Fm (-1),Fm 1]::rs.map fr))),some (.ml ((((-1)::rs).take i).flatMap fun a=>(rs++[1]).filterMap fun b=>if a<=b then some (Dp a b)else none)),none]) rfl rfl ?_ ?_
   · rintro i hi ρ rfl K hK
     have ma:((-1)::rs)[i]∈(-1)::rs:=Ge hi
     have tl:((((-1)::rs).take i).flatMap fun a=>(rs++[1]).filterMap fun b=>if a<=b then some (Dp a b)else none).length<=81:=FP (gU (n:=9) fun a _=>FP (Gz ..) (by simp;omega)) (by rw[Gc];simp;omega)
     have fl:(((rs++[1]).filterMap fun b=>if((-1)::rs)[i]<=b then some (Dp ((-1)::rs)[i] b)else none)).length<=9:=FP (Gz ..) (by simp;omega)
     have fin:K (.nx [some (.d (.list (rs.map fr))),some (.d (.str (EX "inner"))),some (.d (.list (rs.map fr++[Gf [Fm 1,Fm 1]]))),some (.d (.list (Gf [Fm (-1),Fm 1]::rs.map fr))),some (.ml (((((-1)::rs).take i).flatMap fun a=>(rs++[1]).filterMap fun b=>if a<=b then some (Dp a b)else none)++((rs++[1]).filterMap fun b=>if((-1)::rs)[i]<=b then some (Dp ((-1)::rs)[i] b)else none))),some (.d (fr ((-1)::rs)[i]))]):=hK _ (b_ (by rw[Fz hi,G_,Hv];simp[fo]))
     generalize ((-1)::rs)[i]=a at ma fl fin ⊢
     simp_arith only[ag,ae]
     refine gc (xs:=rs++[1]) (enc:=fr) (fun b=>if a<=b then some (Dp a b)else none) em ?_ (by simp;omega) ?_
     · intro b mb
       have h1:=eO hr a ma
       have h2:=dn hr b mb
       simp_arith only[ag,ae,Du,aK.eq6,oJ]
       by_cases c:a<=b<;>simp[c,Dp]
     · exact bU (by(try simp only[Fj]);omega) fin
   · rintro ρ rfl
     rw[Fv (Fa _)]
     rw[e9]
     simp_arith only[ag,ae,q1,q2,q3,q4,q5,q6,q7,q8,f0,f1,f2]
     exact av hQ
 · simp_arith only[ag,ae,ET,q1,q2,q3,q4,q5,q6,q7,q8,f0,f1,f2]
   refine cD (xs:=(-1)::rs) (enc:=fr) (fun i ρ=>ρ=[some (.d (.list (rs.map fr))),some (.d (.str (EX "round"))),some (.d (.list (rs.map fr++[Gf [Fm 1,Fm 1]]))),some (.d (.list (Gf [Fm (-1),Fm 1]::rs.map fr))),some (.ml ((((-1)::rs).take i).flatMap fun a=>(rs++[1]).filterMap fun b=>if a<=b then some (Dp a b)else none)),none]) rfl rfl ?_ ?_
   · rintro i hi ρ rfl K hK
     have ma:((-1)::rs)[i]∈(-1)::rs:=Ge hi
     have tl:((((-1)::rs).take i).flatMap fun a=>(rs++[1]).filterMap fun b=>if a<=b then some (Dp a b)else none).length<=81:=FP (gU (n:=9) fun a _=>FP (Gz ..) (by simp;omega)) (by rw[Gc];simp;omega)
     have fl:(((rs++[1]).filterMap fun b=>if((-1)::rs)[i]<=b then some (Dp ((-1)::rs)[i] b)else none)).length<=9:=FP (Gz ..) (by simp;omega)
     have fin:K (.nx [some (.d (.list (rs.map fr))),some (.d (.str (EX "round"))),some (.d (.list (rs.map fr++[Gf [Fm 1,Fm 1]]))),some (.d (.list (Gf [Fm (-1),Fm 1]::rs.map fr))),some (.ml (((((-1)::rs).take i).flatMap fun a=>(rs++[1]).filterMap fun b=>if a<=b then some (Dp a b)else none)++((rs++[1]).filterMap fun b=>if((-1)::rs)[i]<=b then some (Dp ((-1)::rs)[i] b)else none))),some (.d (fr ((-1)::rs)[i]))]):=hK _ (b_ (by rw[Fz hi,G_,Hv];simp[fo]))
     generalize ((-1)::rs)[i]=a at ma fl fin ⊢
     simp_arith only[ag,ae]
     refine gc (xs:=rs++[1]) (enc:=fr) (fun b=>if a<=b then some (Dp a b)else none) em ?_ (by simp;omega) ?_
     · intro b mb
       have h1:=eO hr a ma
       have h2:=dn hr b mb
       simp_arith only[ag,ae,Du,aK.eq6,oJ]
       by_cases c:a<=b<;>simp[c,Dp]
     · exact bU (by(try simp only[Fj]);omega) fin
   · rintro ρ rfl
     rw[Fv (Fa _)]
     rw[e9]
     simp_arith only[ag,ae,q1,q2,q3,q4,q5,q6,q7,q8,f0,f1,f2]
     refine cD (xs:=rs++[1]) (enc:=fr) (fun i ρ=>ρ=[some (.d (.list (rs.map fr))),some (.d (.str (EX "round"))),some (.d (.list (rs.map fr++[Gf [Fm 1,Fm 1]]))),some (.d (.list (Gf [Fm (-1),Fm 1]::rs.map fr))),some (.ml (CI rs++((rs++[1]).take i).flatMap fun a=>((-1)::rs).filterMap fun b=>if b<=a then some (Do a b)else none)),none]) em (by simp) ?_ ?_
     · rintro i hi ρ rfl K hK
       have ma:(rs++[1])[i]∈rs++[1]:=Ge hi
       have pl:=gL l8
       have tl:(((rs++[1]).take i).flatMap fun a=>((-1)::rs).filterMap fun b=>if b<=a then some (Do a b)else none).length<=81:=FP (gU (n:=9) fun a _=>FP (Gz ..) (by simp;omega)) (by rw[Gc];simp;omega)
       have fl:((((-1)::rs).filterMap fun b=>if b<=(rs++[1])[i]then some (Do (rs++[1])[i] b)else none)).length<=9:=FP (Gz ..) (by simp;omega)
       have fin:K (.nx [some (.d (.list (rs.map fr))),some (.d (.str (EX "round"))),some (.d (.list (rs.map fr++[Gf [Fm 1,Fm 1]]))),some (.d (.list (Gf [Fm (-1),Fm 1]::rs.map fr))),some (.ml ((CI rs++((rs++[1]).take i).flatMap fun a=>((-1)::rs).filterMap fun b=>if b<=a then some (Do a b)else none)++(((-1)::rs).filterMap fun b=>if b<=(rs++[1])[i]then some (Do (rs++[1])[i] b)else none))),some (.d (fr (rs++[1])[i]))]):=hK _ (b_ (by rw[Fz hi,G_,Hv];simp[fo]))
       generalize (rs++[1])[i]=a at ma fl fin ⊢
       simp_arith only[ag,ae]
       refine gc (xs:=(-1)::rs) (enc:=fr) (fun b=>if b<=a then some (Do a b)else none) eb ?_ (by simp;omega) ?_
       · intro b mb
         have h1:=dn hr a ma
         have h2:=eO hr b mb
         simp_arith only[ag,ae,Du,aK.eq6,oJ]
         by_cases c:b<=a<;>simp[c,Do]
       · exact bU (by(try simp only[Fj]);omega) fin
     · rintro ρ rfl
       rw[Fv (Fa _)]
       rw[e8]
       simp_arith only[ag,ae,q1,q2,q3,q4,q5,q6,q7,q8,f0,f1,f2]
       exact av hQ
theorem CC(n:Nat):(n+1)*(n+2)=n*(n+1)+2*(n+1):=by rw[JF,Jw]
theorem oI{x:Rat}{g:Rat->EW}:∀{xs:List Rat},(∀b∈xs,x<=b)->(xs.filterMap fun b=>if x<=b then some (g b)else none).length=xs.length
 | [],_=>rfl
 | y::ys,h=>by rw[GX,if_pos (h y Ff)];simp[oI (g:=g) fun b mb=>h b (E9 _ mb)]
theorem vW(E:List Rat)(g:Rat->Rat->EW):∀{rs:List Rat},rs.Pairwise (· < ·)->(∀a∈rs,∀b∈E,a<=b)->2*(rs.flatMap fun a=>(rs++E).filterMap fun b=>if a<=b then some (g a b)else none).length=rs.length*(rs.length+1)+2*rs.length*E.length
 | [],_,_=>by simp
 | x::xs,h,hE=>by
   obtain⟨h1,h2⟩:=Ia.mp h
   have ih:=vW E g h2 fun a ma=>hE a (E9 _ ma)
   have e1:((x::xs++E).filterMap fun b=>if x<=b then some (g x b)else none).length=xs.length+1+E.length:=by
    rw[oI]
    · simp;omega
    · intro b mb
      rcases Ga.mp mb with mb|mb
      · rcases FN.mp mb with rfl|mb
        · exact Lz
        · exact GZ (h1 b mb)
      · exact hE x Ff b mb
   have e2:(xs.flatMap fun a=>(x::xs++E).filterMap fun b=>if a<=b then some (g a b)else none)=xs.flatMap fun a=>(xs++E).filterMap fun b=>if a<=b then some (g a b)else none:=by
    rw[List.flatMap_def,List.flatMap_def]
    congr 1
    refine Ht fun a ma=>?_
    rw[Jd,GX,if_neg (Lb.mpr (h1 a ma))]
   rw[Gp,Fj,e1,e2,IW,ih,FJ]
   have:(xs.length+1)*(xs.length+1+1)=xs.length*(xs.length+1)+2*(xs.length+1):=CC _
   have:2*(xs.length+1)*E.length=2*xs.length*E.length+2*E.length:=by rw[IW,Jw]
   omega
theorem sF(h:rs.Pairwise (· < ·))(hg:∀q∈rs,Gd q):2*(CI rs).length=(rs.length+1)*(rs.length+2)+2*rs.length:=by
 unfold CI
 have e1:((rs++[1]).filterMap fun b=>if(-1:Rat)<=b then some (Dp (-1) b)else none).length=rs.length+1:=by
  rw[oI]
  · simp
  · intro b mb
    rcases Ga.mp mb with mb|mb
    · exact JH (by decide) (hg b mb).2.1
    · cases Gb.mp mb;decide
 have e2:=vW [1] Dp h fun a ma b mb=>by cases Gb.mp mb;exact GZ (hg a ma).2.2
 rw[Gp,Fj,e1,IW,e2]
 have:(rs.length+1)*(rs.length+2)=rs.length*(rs.length+1)+2*(rs.length+1):=CC _
 simp
 omega
theorem oH{x:Rat}{g:Rat->EW}:∀{xs:List Rat},(∀b∈xs,b<=x)->(xs.filterMap fun b=>if b<=x then some (g b)else none).length=xs.length
 | [],_=>rfl
 | y::ys,h=>by rw[GX,if_pos (h y Ff)];simp[oH (g:=g) fun b mb=>h b (E9 _ mb)]
theorem vU(E:List Rat)(g:Rat->Rat->EW):∀{rs:List Rat},rs.Pairwise (· < ·)->(∀a∈rs,∀b∈E,b<=a)->2*(rs.flatMap fun a=>(E++rs).filterMap fun b=>if b<=a then some (g a b)else none).length=rs.length*(rs.length+1)+2*rs.length*E.length
 | [],_,_=>by simp
 | x::xs,h,hE=>by
   obtain⟨h1,h2⟩:=Ia.mp h
   have ih:=vU (E++[x]) g h2 fun a ma b mb=>by
    rcases Ga.mp mb with mb|mb
    · exact hE a (E9 _ ma) b mb
    · cases Gb.mp mb;exact GZ (h1 a ma)
   have e1:((E++x::xs).filterMap fun b=>if b<=x then some (g x b)else none).length=E.length+1:=by
    rw[show E++x::xs=(E++[x])++xs by simp,Ko,Fj,oH]
    · have:(xs.filterMap fun b=>if b<=x then some (g x b)else none)=[]:=by
        rw[List.filterMap_eq_nil_iff]
        intro b mb
        rw[if_neg (Lb.mpr (h1 b mb))]
      rw[this];simp
    · intro b mb
      rcases Ga.mp mb with mb|mb
      · exact hE x Ff b mb
      · cases Gb.mp mb;exact Lz
   have e2:(fun a=>(E++x::xs).filterMap fun b=>if b<=a then some (g a b)else none)=fun a=>((E++[x])++xs).filterMap fun b=>if b<=a then some (g a b)else none:=by
    funext a;rw[show E++x::xs=(E++[x])++xs by simp]
   rw[Gp,Fj,e1,e2,IW,ih,FJ,Fj,I_]
   have:(xs.length+1)*(xs.length+1+1)=xs.length*(xs.length+1)+2*(xs.length+1):=CC _
   have:2*(xs.length+1)*E.length=2*xs.length*E.length+2*E.length:=by rw[IW,Jw]
   have:2*xs.length*(E.length+1)=2*xs.length*E.length+2*xs.length:=by rw[IW];omega
   omega
theorem sE(h:rs.Pairwise (· < ·))(hg:∀q∈rs,Gd q):2*(CF rs).length=(rs.length+1)*(rs.length+2)+2*rs.length:=by
 unfold CF
 have e1:(((-1)::rs).filterMap fun b=>if b<=(1:Rat)then some (Do 1 b)else none).length=rs.length+1:=by
  rw[oH]
  · simp
  · intro b mb
    rcases FN.mp mb with rfl|mb
    · decide
    · exact GZ (hg b mb).2.2
 have e2:=vU [-1] Do h fun a ma b mb=>by cases Gb.mp mb;exact JH (by decide) (hg a ma).2.1
 rw[G_,Fj,Hv,e1,IW]
 have e3:(rs.flatMap fun a=>((-1)::rs).filterMap fun b=>if b<=a then some (Do a b)else none)=rs.flatMap fun a=>([-1]++rs).filterMap fun b=>if b<=a then some (Do a b)else none:=rfl
 rw[e3,e2]
 have:(rs.length+1)*(rs.length+2)=rs.length*(rs.length+1)+2*(rs.length+1):=CC _
 simp
 omega
theorem rh{l:Nat}(h:2*l=(n+1)*(n+2)+2*n):inr (n:Int)=(l:Int):=by
 unfold inr
 have e:((n:Int)+1)*((n:Int)+2)=((2*(l-n):Nat):Int):=by
  have:2*(l-n)=(n+1)*(n+2):=by omega
  rw[this];push_cast;rfl
 rw[e,Hw _ (by decide)]
 have:n<=l:=by have:0<=(n+1)*(n+2):=FI _;omega
 omega
theorem vP(h:rs.Pairwise (· < ·))(hg:∀q∈rs,Gd q):((sl f rs).length:Int)=C8 f (rs.length:Nat):=by
 have h1:=rh (sF h hg)
 have h2:=rh (sE h hg)
 unfold sl C8
 split
 · simp
 · split
   · exact h1.symm
   · rw[Fj];push_cast;omega
theorem rG(f:Nat)(ps:List (List Rat))(hs:∀j,j<dimP ps->(nuQ ps j).Pairwise (· < ·)/\∀q∈nuQ ps j,Gd q):∀i,i<=dimP ps->((chP ((jJ f ps).take i)).length:Int)=Db f ps i
 | 0,_=>by simp[chP,Db]
 | i+1,h=>by
   have hl:i<(jJ f ps).length:=by unfold jJ;rw[Fd,Io];omega
   have e:(jJ f ps)[i]=sl f (nuQ ps i):=by simp[jJ]
   have ih:=rG f ps hs i (by omega)
   rw[oM hl,dR,<- ih,<- vP (hs i (by omega)).1 (hs i (by omega)).2,e]
   have:∀(l:List (List EW))(r:List EW),(l.flatMap fun b=>r.map fun t=>b++[t]).length=l.length*r.length:=fun l r=>by
    induction l with
    | nil=>simp
    | cons x l ih=>rw[Gp,Fj,Fd,ih,FJ,Jw];omega
   rw[this];push_cast;rfl
theorem rH{α:Type}:∀(n:Nat)(rows:List (List α)),rows.length=n->∀b∈chP rows,b.length=n/\∀t∈b,∃r∈rows,t∈r
 | 0,rows,h,b,mb=>by
   cases Jf h
   simp[chP]at mb
   subst mb
   exact⟨rfl,by simp⟩
 | n+1,rows,h,b,mb=>by
   rcases List.eq_nil_or_concat rows with rfl|⟨init,l,rfl⟩
   · simp at h
   · rw[List.concat_eq_append]at mb h ⊢
     have hl:init.length=n:=by simpa using h
     rw[lb]at mb
     obtain⟨b',mb',z⟩:=Iy.mp mb
     obtain⟨t,mt,rfl⟩:=Gn.mp z
     obtain⟨h1,h2⟩:=rH n init hl b' mb'
     refine⟨by simp[h1],fun u mu=>?_⟩
     rcases Ga.mp mu with m|m
     · obtain⟨r,mr,ur⟩:=h2 u m
       exact⟨r,HC _ mr,ur⟩
     · cases Gb.mp m
       exact⟨l,Fu _ (Gb.mpr rfl),mt⟩
theorem pZ{n m:Int}(h0:0<=n)(h:n<=m)(h8:m<=8):C8 f n<=C8 f m:=by
 have hi:inr n<=inr m:=by
  have hn:n=0\/n=1\/n=2\/n=3\/n=4\/n=5\/n=6\/n=7\/n=8:=by omega
  have hm:m=0\/m=1\/m=2\/m=3\/m=4\/m=5\/m=6\/m=7\/m=8:=by omega
  have:∀a:Fin 9,∀b:Fin 9,a.val<=b.val->inr (a.val:Int)<=inr (b.val:Int):=by decide +kernel
  have z:=this ⟨n.toNat,by omega⟩ ⟨m.toNat,by omega⟩ (by show n.toNat<=m.toNat;omega)
  have e1:((n.toNat:Nat):Int)=n:=by omega
  have e2:((m.toNat:Nat):Int)=m:=by omega
  simp only[e1,e2]at z
  exact z
 unfold C8
 split
 · omega
 · split<;>omega
theorem nK{f:Nat}{ps:List (List Rat)}{M:Int}(M8:M<=8)(h:∀j,j<dimP ps->((nuQ ps j).length:Int)<=M):∀i,i<=dimP ps->0<=Db f ps i/\Db f ps i<=(C8 f M)^i
 | 0,_=>by simp[Db]
 | i+1,hi=>by
   obtain⟨a,b⟩:=nK (f:=f) M8 h i (by omega)
   have hj:=h i (by omega)
   have m1:=pZ (f:=f) (n:=((nuQ ps i).length:Nat)) (by omega) hj M8
   have m0:=(nG (f:=f) (n:=((nuQ ps i).length:Nat)) (by omega) (by omega)).1
   rw[dR,Int.pow_succ]
   exact⟨KC a m0,KB b m1 m0 (Jc a b)⟩
theorem qN:∀f:Fin 3,∀s:Fin 5,1<=s.val->¬(f.val=2/\s.val=4)->∀i:Fin 5,i.val<=s.val->(C8 f.val (mst f.val s.val:Nat))^i.val<=512/\mst f.val s.val<=6/\1<=mst f.val s.val:=by decide +kernel
theorem pY(h:rs.Pairwise (· < ·)):rs.Nodup:=h.imp fun{a b} l e=>by subst e;exact Jg l
theorem wV{s m:Nat}{bs:List (List Rat)}(hb:∀p∈ps,p∈bs)(j:Nat):(nuQ ps j).length<=bs.length:=by
 have hs:=fD (colQ ps j)
 have h1:nuQ ps j ⊆ bs.map fun p=>p.getD j 0:=fun q mq=>by
  obtain⟨p,mp,rfl⟩:=Gn.mp ((hs.2 q).mp mq)
  exact Gn.mpr ⟨p,hb p mp,rfl⟩
 have:=(pY hs.1).length_le_of_subset h1
 rwa [Fd]at this
theorem pd{s:Nat}(h:Wd f s ps):dimP ps=s/\Ee ps/\(∀i,i<=s->Db f ps i<=512)/\∀j,j<dimP ps->(nuQ ps j).Pairwise (· < ·)/\∀q∈nuQ ps j,Gd q:=by
 obtain⟨hf,s1,s4,hn,h1,h2,hp,bs,hb,hm⟩:=h
 have tb:=fun i (hi:i<=s)=>qN ⟨f,hf⟩ ⟨s,by omega⟩ s1 hn ⟨i,by omega⟩ hi
 have hd:=ro hp h1
 have hM:=(tb 0 (by omega)).2.1
 simp only at hM
 have hN:∀j,(nuQ ps j).length<=mst f s:=fun j=>FP (wV (s:=s) (m:=s) hm j) hb
 have gd:∀j,j<dimP ps->(nuQ ps j).Pairwise (· < ·)/\∀q∈nuQ ps j,Gd q:=fun j hj=>by
  have hs:=fD (colQ ps j)
  refine⟨hs.1,fun q mq=>?_⟩
  obtain⟨p,mp,rfl⟩:=Gn.mp ((hs.2 q).mp mq)
  obtain⟨pl,pg⟩:=hp p mp
  have hj':j<p.length:=by omega
  have e:p.getD j 0=p[j]:=by rw[FW,FA hj'];rfl
  show Gd (p.getD j 0)
  rw[e]
  exact pg _ (Ge _)
 refine⟨hd,⟨⟨h1,by omega,by rw[hd];exact hp,by omega,by omega⟩,fun j hj=>⟨by have:=hN j;omega,(gd j hj).2⟩⟩,fun i hi=>?_,gd⟩
 have:=(nK (f:=f) (ps:=ps) (M:=(mst f s:Nat)) (by omega) (fun j _=>by have:=hN j;omega) i (by omega)).2
 exact Jc this (tb i hi).1
noncomputable def bW:List W->(EW->Prop)->Prop:=fun ws Q=>∃(s:Sd),ws=[.d (CL s)]/\((s.Sm))/\Q (fr (Ct s))
theorem bW.mono:∀ws (Q Q':EW->Prop),(∀d,Q d->Q' d)->bW ws Q->bW ws Q':=fun _ _ _ h_=>Fi fun _=>E6 (E6 (h_ _))
theorem bW.len:∀ws (Q:EW->Prop),bW ws Q->ws.length=1:=fun _ _ h_=>by obtain⟨_,e_,_⟩:=h_;subst e_;rfl
theorem bW.eq(s:Sd)(sm:s.Sm):bW [.d (CL s)]=VL.ret (fr (Ct s):EW):=by
 refine ah fun Q=>⟨?_,fun q_=>⟨s,rfl,sm,q_⟩⟩
 rintro⟨s',e_,_,q_⟩
 simp_arith only[cF,bE,bG,aH,aJ,bM]at e_
 obtain rfl:=e_
 exact q_
theorem ja:FnScope ["side", "end", "width"] ["side"] (defScope (Ch 17)):=⟨rfl,rfl,rfl,by decide +kernel,rfl,by decide +kernel,by decide +kernel⟩
theorem d_side_size(Fn:FnIn K mg "side_size" (Ch 17) ["side"])(Z:Bz mg)(d_greater:∀rl,Dfn P w K mg base rl "greater" ["one", "other"] 2 cx)(d_less:∀rl,Dfn P w K mg base rl "less" ["one", "other"] 3 eN)(d_lesser:∀rl,Dfn P w K mg base rl "lesser" ["one", "other"] 2 cM)(d_plus:∀rl,Dfn P w K mg base rl "plus" ["one", "other"] 3 fN)(gl_ZERO:GlD K mg "ZERO" (pr 0 1))(gl_ONE:GlD K mg "ONE" (pr 1 1))  : Dfn P w K mg base rl "side_size" ["side"] 4 bW:=by
 have sc:=ja
 refine Dfn.of Fn sc (bW.mono) (bW.len) (fun cdv A outer s H E hr=>(af (am 1 sc.nd (al (d_greater _) (hr.mono (by decide)) (aa (aV (vn 0) (pj ac)) (aa (dE gl_ZERO) ab))))
  (af (b8 (az cZ cn (aw _) (aV (vn 0) ac) aB) (aj (au (vn 1))) aY)
  (af (am 2 sc.nd (al (d_less _) (hr.mono (by decide)) (aa (vn 1) (aa (al (d_greater _) (hr.mono (by decide)) (aa (aV (vn 0) ac) (aa (dE gl_ZERO) ab))) ab))))
  (af (b8 (az cZ cn (aw _) (aV (vn 0) ac) aB) (aj (au (al (d_greater _) (hr.mono (by decide)) (aa (vn 2) (aa (dE gl_ZERO) ab))))) aY)
  (aj (au (al (d_lesser _) (hr.mono (by decide)) (aa (al (d_plus _) (hr.mono (by decide)) (aa (dE gl_ONE) (aa (vn 2) ab))) (aa (dE gl_ONE) ab)))))))))) ?_
 rintro ws Q ⟨s,rfl,sm,hQ⟩
 have w1:decide (EX "from" = EX "to")=false:=by decide +kernel
 have w2:decide (EX "round" = EX "to")=false:=by decide +kernel
 have w3:decide (EX "round" = EX "from")=false:=by decide +kernel
 have w4:decide (EX "to" = EX "to")=true:=by decide +kernel
 have w5:decide (EX "from" = EX "from")=true:=by decide +kernel
 refine ax ?_
 have z0:CT 2000 0:=pM.up
 have z1:CT 2000 1:=AV.up
 cases s with
 | to t =>
   have a1:CT 2000 t:=sm.2.up
   simp_arith only[ag,ae,cx.eq,eN.eq,cM.eq,fN.eq,ET,w1,w2,w3,w4,w5,CL]
   exact av hQ
 | «from» a b =>
   have a1:CT 2000 b:=sm.2.up
   have a2:CT 2000 a:=sm.1.up
   have m1:CT 60 (mx b 0):=dP sm.2 pM
   have m2:CT 60 (mx a 0):=dP sm.1 pM
   have m3:=m1.up
   have m4:=m2.up
   have m5:CT 2000 (mx b 0-mx a 0):=(fC m1 m2).mono (by decide)
   simp_arith only[ag,ae,cx.eq,eN.eq,cM.eq,fN.eq,ET,w1,w2,w3,w4,w5,CL]
   exact av hQ
 | round a b =>
   have a1:CT 2000 b:=sm.2.up
   have a2:CT 2000 a:=sm.1.up
   have m1:CT 60 (mx b 0):=dP sm.2 pM
   have m2:CT 60 (mx a 0):=dP sm.1 pM
   have m3:=m1.up
   have m4:=m2.up
   have m5:CT 2000 (mx b 0-mx a 0):=(fC m1 m2).mono (by decide)
   have m6:CT 2000 (1+(mx b 0-mx a 0)):=(oW AV (fC m1 m2)).mono (by decide)
   simp_arith only[ag,ae,cx.eq,eN.eq,cM.eq,fN.eq,ET,w1,w2,w3,w4,w5,CL]
   exact av hQ
noncomputable def bK:List W->(EW->Prop)->Prop:=fun ws Q=>∃(x y:Rat)(b:Bool),ws=[.d (fr x),.d (fr y),.d (.bool b)]/\((CT 2000 x)/\(CT 2000 y))/\Q (.bool (DH x y b))
theorem bK.mono:∀ws (Q Q':EW->Prop),(∀d,Q d->Q' d)->bK ws Q->bK ws Q':=fun _ _ _ h_=>Fi fun _=>Fi fun _=>Fi fun _=>E6 (E6 (h_ _))
theorem bK.len:∀ws (Q:EW->Prop),bK ws Q->ws.length=3:=fun _ _ h_=>by obtain⟨_,_,_,e_,_⟩:=h_;subst e_;rfl
theorem bK.eq(x y:Rat)(b:Bool)(h1:CT 2000 x)(h2:CT 2000 y):bK [.d (fr x),.d (fr y),.d (.bool b)]=VL.ret (.bool (DH x y b):EW):=by
 refine ah fun Q=>⟨?_,fun q_=>⟨x,y,b,rfl,⟨h1,h2⟩,q_⟩⟩
 rintro⟨x',y',b',e_,_,q_⟩
 simp_arith only[cF,bE,bG,aH,aJ,bM]at e_
 obtain⟨rfl,rfl,rfl⟩:=e_
 exact q_
theorem iy:FnScope ["one", "other", "may_meet"] ["one", "other", "may_meet"] (defScope (Ch 18)):=⟨rfl,rfl,rfl,by decide +kernel,rfl,by decide +kernel,by decide +kernel⟩
theorem d_goes_ahead(Fn:FnIn K mg "goes_ahead" (Ch 18) ["one", "other", "may_meet"])(Z:Bz mg)(d_is_below:∀rl,Dfn P w K mg base rl "is_below" ["one", "other"] 1 bh)   : Dfn P w K mg base rl "goes_ahead" ["one", "other", "may_meet"] 2 bK:=by
 have sc:=iy
 refine Dfn.of Fn sc (bK.mono) (bK.len) (fun cdv A outer s H E hr=>(af (b8 (df (vn 2)) (aj (au (v_not (al (d_is_below _) (hr.mono (by decide)) (aa (vn 1) (aa (vn 0) ab)))))) aY)
  (aj (au (al (d_is_below _) (hr.mono (by decide)) (aa (vn 0) (aa (vn 1) ab))))))) ?_
 rintro ws Q ⟨x,y,b,rfl,⟨h1,h2⟩,hQ⟩
 refine ax ?_
 simp_arith only[ag,ae,bh.eq,ET]
 cases b<;>simp only[DH,GB,↓reduceIte]at hQ ⊢ <;> exact av hQ
noncomputable def fO:List W->(EW->Prop)->Prop:=fun ws Q=>∃(x:Rat)(s:Sd)(w:Str),ws=[.d (fr x),.d (CL s),.d (.str w)]/\((CT 60 x)/\(s.Sm)/\(Dx w))/\Q (.bool (Di s w x))
theorem fO.mono:∀ws (Q Q':EW->Prop),(∀d,Q d->Q' d)->fO ws Q->fO ws Q':=fun _ _ _ h_=>Fi fun _=>Fi fun _=>Fi fun _=>E6 (E6 (h_ _))
theorem fO.len:∀ws (Q:EW->Prop),fO ws Q->ws.length=3:=fun _ _ h_=>by obtain⟨_,_,_,e_,_⟩:=h_;subst e_;rfl
theorem fO.eq(x:Rat)(s:Sd)(w:Str)(sx:CT 60 x)(sm:s.Sm)(hw:Dx w):fO [.d (fr x),.d (CL s),.d (.str w)]=VL.ret (.bool (Di s w x):EW):=by
 refine ah fun Q=>⟨?_,fun q_=>⟨x,s,w,rfl,⟨sx,sm,hw⟩,q_⟩⟩
 rintro⟨x',s',w',e_,_,q_⟩
 simp_arith only[cF,bE,bG,aH,aJ,bM]at e_
 obtain⟨rfl,rfl,rfl⟩:=e_
 exact q_
theorem sL:FnScope ["x", "side", "way", "ahead", "behind"] ["x", "side", "way"] (defScope (Ch 19)):=⟨rfl,rfl,rfl,by decide +kernel,rfl,by decide +kernel,by decide +kernel⟩
theorem d_lies(Fn:FnIn K mg "lies" (Ch 19) ["x", "side", "way"])(Z:Bz mg)(d_goes_ahead:∀rl,Dfn P w K mg base rl "goes_ahead" ["one", "other", "may_meet"] 2 bK)   : Dfn P w K mg base rl "lies" ["x", "side", "way"] 3 fO:=by
 have sc:=sL
 refine Dfn.of Fn sc (fO.mono) (fO.len) (fun cdv A outer s H E hr=>(af (am 3 sc.nd (al (d_goes_ahead _) (hr.mono (by decide)) (aa (vn 0) (aa (aV (vn 1) (pj ac)) (aa (fA cZ cn (aw _) (vn 2) aB) ab)))))
  (af (b8 (az cZ cn (aw _) (aV (vn 1) ac) aB) (aj (au (vn 3))) aY)
  (af (am 4 sc.nd (al (d_goes_ahead _) (hr.mono (by decide)) (aa (aV (vn 1) ac) (aa (vn 0) (aa (fA wO qH (aw _) (vn 2) aB) ab)))))
  (af (b8 (az cZ cn (aw _) (aV (vn 1) ac) aB) (aj (au (v_and (vn 4) (lZ (vn 3))))) aY)
  (aj (au (v_or (vn 4) (lZ (vn 3)))))))))) ?_
 rintro ws Q ⟨x,s,w,rfl,⟨sx,sm,hw⟩,hQ⟩
 have w1:decide (EX "from" = EX "to")=false:=by decide +kernel
 have w2:decide (EX "round" = EX "to")=false:=by decide +kernel
 have w3:decide (EX "round" = EX "from")=false:=by decide +kernel
 have w4:decide (EX "to" = EX "to")=true:=by decide +kernel
 have w5:decide (EX "from" = EX "from")=true:=by decide +kernel
 refine ax ?_
 have sx':=sx.up
 have a1:CT 2000 s.last:=sm.2.up
 have a2:CT 2000 s.first:=sm.1.up
 cases s with
 | to t =>
   have a1:CT 2000 t:=a1
   simp_arith only[ag,ae,bK.eq,ET,w1,w2,w3,w4,w5,CL]
   exact av hQ
 | «from» a b =>
   have a1:CT 2000 b:=a1
   have a2:CT 2000 a:=a2
   simp_arith only[ag,ae,bK.eq,ET,w1,w2,w3,w4,w5,CL]
   exact av hQ
 | round a b =>
   have a1:CT 2000 b:=a1
   have a2:CT 2000 a:=a2
   simp_arith only[ag,ae,bK.eq,ET,w1,w2,w3,w4,w5,CL]
   exact av hQ
noncomputable def slFS(rs:List Rat):List Sd:=((-1)::rs).flatMap fun a=>(rs++[1]).filterMap fun b=>if a<=b then some (.from a b)else none
noncomputable def slRS(rs:List Rat):List Sd:=(rs++[1]).flatMap fun a=>((-1)::rs).filterMap fun b=>if b<=a then some (.round a b)else none
noncomputable def slS(f:Nat)(rs:List Rat):List Sd:=if f=0 then(rs++[1]).map Sd.to else if f=1 then slFS rs else slFS rs++slRS rs
theorem jW{γ:Type}(p:α->Prop)[DecidablePred p](g:α->β)(h:β->γ)(xs:List α):(xs.filterMap fun b=>if p b then some (h (g b))else none)=(xs.filterMap fun b=>if p b then some (g b)else none).map h:=by
 rw[List.map_filterMap]
 congr 1
 funext b
 by_cases c:p b<;>simp[c]
theorem kE(rs:List Rat):CI rs=(slFS rs).map CL:=by
 unfold CI slFS
 rw[Je]
 congr 1
 funext a
 exact jW (fun b=>a<=b) (fun b=>Sd.from a b) CL _
theorem mL(rs:List Rat):CF rs=(slRS rs).map CL:=by
 unfold CF slRS
 rw[Je]
 congr 1
 funext a
 exact jW (fun b=>b<=a) (fun b=>Sd.round a b) CL _
theorem sD(f:Nat)(rs:List Rat):sl f rs=(slS f rs).map CL:=by
 unfold sl slS
 split
 · rw[GM];rfl
 · split
   · exact kE rs
   · rw[FY,kE,mL]
theorem kB(h:Rs rs):∀s∈slS f rs,s.Sm:=by
 have hF:∀s∈slFS rs,s.Sm:=fun s ms=>by
  obtain⟨a,ma,h1⟩:=Iy.mp ms
  obtain⟨b,mb,h2⟩:=HZ.mp h1
  split at h2
  · cases h2;exact⟨eO h a ma,dn h b mb⟩
  · cases h2
 have hR:∀s∈slRS rs,s.Sm:=fun s ms=>by
  obtain⟨a,ma,h1⟩:=Iy.mp ms
  obtain⟨b,mb,h2⟩:=HZ.mp h1
  split at h2
  · cases h2;exact⟨dn h a ma,eO h b mb⟩
  · cases h2
 intro s ms
 unfold slS at ms
 split at ms
 · obtain⟨t,mt,rfl⟩:=Gn.mp ms
   exact⟨dn h t mt,dn h t mt⟩
 · split at ms
   · exact hF s ms
   · rcases Ga.mp ms with m|m
     · exact hF s m
     · exact hR s m
noncomputable def rowsS(f:Nat)(ps:List (List Rat)):List (List Sd):=(Gh (dimP ps)).map fun j=>slS f (nuQ ps j)
theorem sN(f:Nat)(ps:List (List Rat)):jJ f ps=(rowsS f ps).map (Ks CL):=by
 unfold jJ rowsS
 rw[GM]
 exact Ht fun j _=>sD f (nuQ ps j)
theorem sO(f:Nat)(ps:List (List Rat)):((Gh (dimP ps)).map fun j=>Ih (sl f (nuQ ps j)))=(rowsS f ps).map fun r=>Ih (r.map CL):=by
 unfold rowsS
 rw[GM]
 exact Ht fun j _=>by rw[sD];rfl
theorem du(f:Nat)(ps:List (List Rat)):(rowsS f ps).length=dimP ps:=by unfold rowsS;rw[Fd,Io]
theorem iC(h:i<(rowsS f ps).length):(rowsS f ps)[i]=slS f (nuQ ps i):=by simp[rowsS]
noncomputable def DV(f:Nat)(ps:List (List Rat)):Prop:=Ee ps/\ps.length<=8/\(∀j,j<dimP ps->(nuQ ps j).Pairwise (· < ·))/\∀i,i<=dimP ps->Db f ps i<=3000
theorem DV.gd(h:DV f ps):∀j,j<dimP ps->(nuQ ps j).Pairwise (· < ·)/\∀q∈nuQ ps j,Gd q:=fun j hj=>⟨h.2.2.1 j hj,(h.1.2 j hj).2⟩
theorem DV.len(h:DV f ps)(hi:i<=dimP ps):(chP ((rowsS f ps).take i)).length<=3000:=by
 have e:=rG f ps h.gd i hi
 have m:=h.2.2.2 i hi
 rw[sN,<- Jh,uD,Fd]at e
 omega
theorem DV.sm(h:DV f ps)(hi:i<=dimP ps):∀ss∈chP ((rowsS f ps).take i),ss.length=i/\∀s∈ss,s.Sm:=fun ss ms=>by
 obtain⟨h1,h2⟩:=rH i _ (by rw[Gc,du];omega) ss ms
 refine⟨h1,fun s mt=>?_⟩
 obtain⟨r,mr,hr⟩:=h2 s mt
 obtain⟨j,hj,rfl⟩:=Gn.mp (Iu mr)
 exact kB (h.1.2 j (HV.mp hj)) s hr
theorem yI(ps:List (List Rat)):Gf [Gf [],Ih (aZ 0 ps.length),Ih (aZ 0 ps.length),fr 1]=CM (rvO ps []):=by
 have h:∀f:List Rat->Bool,(∀p,f p=true)->C3 (plc f ps)=Ih (aZ 0 ps.length):=fun f hf=>by
  unfold plc C3
  rw[List.filter_eq_self.mpr fun k _=>hf _]
  congr 1
  exact Ht fun k _=>by show Fm _=Fm (0+(k:Int));rw[Int.zero_add]
 unfold CM rvO
 dsimp only
 rw[h _ fun p=>by simp[Dq],h _ fun p=>by simp[Dq]];rfl
noncomputable def cL:List W->(EW->Prop)->Prop:=fun ws Q=>∃(xs:List Rat)(s:Sd),ws=[.d (.list (xs.map fr)),.d (CL s)]/\((xs.length<=60)/\(∀x∈xs,CT 60 x)/\(s.Sm))/\Q (Dc s (Dh "shut" xs s) (Dh "open" xs s))
theorem cL.mono:∀ws (Q Q':EW->Prop),(∀d,Q d->Q' d)->cL ws Q->cL ws Q':=fun _ _ _ h_=>Fi fun _=>Fi fun _=>E6 (E6 (h_ _))
theorem cL.len:∀ws (Q:EW->Prop),cL ws Q->ws.length=2:=fun _ _ h_=>by obtain⟨_,_,e_,_⟩:=h_;subst e_;rfl
theorem cL.eq(xs:List Rat)(s:Sd)(hl:xs.length<=60)(hx:∀x∈xs,CT 60 x)(hs:s.Sm):cL [.d (.list (xs.map fr)),.d (CL s)]=VL.ret (Dc s (Dh "shut" xs s) (Dh "open" xs s):EW):=by
 refine ah fun Q=>⟨?_,fun q_=>⟨xs,s,rfl,⟨hl,hx,hs⟩,q_⟩⟩
 rintro⟨xs',s',e_,_,q_⟩
 simp_arith only[cF,bE,bG,aH,aJ,bM,db,eW,fP,eV,fE,eR,fB,and_assoc]at e_
 obtain⟨rfl,rfl⟩:=e_
 exact q_
theorem mP:FnScope ["numbers", "look", "shut", "free"] ["numbers", "look"] (defScope (Ch 30)):=⟨rfl,rfl,rfl,by decide +kernel,rfl,by decide +kernel,by decide +kernel⟩
theorem d_marked(Fn:FnIn K mg "marked" (Ch 30) ["numbers", "look"])(Z:Bz mg)(d_lies:∀rl,Dfn P w K mg base rl "lies" ["x", "side", "way"] 3 fO)(d_side_size:∀rl,Dfn P w K mg base rl "side_size" ["side"] 4 bW)   : Dfn P w K mg base rl "marked" ["numbers", "look"] 5 cL:=by
 have sc:=mP
 refine Dfn.of Fn sc (cL.mono) (cL.len) (fun cdv A outer s H E hr=>(af (bV 2 sc.nd ["x", "look"] [none,some 1] rfl (aA (vn 0)) (fun _=>(ai 0 (show Gk (["x", "look"]:List Str) by decide +kernel))) (fun _=>bQ) (fun _=>(al (d_lies _) (hr.mono (by decide)) (aa (vn 0) (aa (vn 1) (aa aB ab))))))
  (af (bV 3 sc.nd ["x", "look"] [none,some 1] rfl (aA (vn 0)) (fun _=>(ai 0 (show Gk (["x", "look"]:List Str) by decide +kernel))) (fun _=>bQ) (fun _=>(al (d_lies _) (hr.mono (by decide)) (aa (vn 0) (aa (vn 1) (aa aB ab))))))
  (aj (au (bu (aa (vn 1) (aa (vn 2) (aa (vn 3) (aa (al (d_side_size _) (hr.mono (by decide)) (aa (vn 1) ab)) ab)))))))))) ?_
 rintro ws Q ⟨xs,s,rfl,⟨hl,hx,hs⟩,hQ⟩
 refine ax ?_
 have sz:=FG
 have ws:Dx "shut" := .inr (.inl rfl)
 have wo:Dx "open" := .inr (.inr rfl)
 simp_arith only[ag,ae]
 refine CA (bP (xs:=xs) (enc:=fr) (fun x=>.bool (Di s "shut" x)) rfl ?_ (by omega) ?_)
 · intro x mx
   have h:=hx x mx
   simp_arith only[ag,ae,Du,fO.eq]
 simp_arith only[ag,ae]
 refine CA (bP (xs:=xs) (enc:=fr) (fun x=>.bool (Di s "open" x)) rfl ?_ (by omega) ?_)
 · intro x mx
   have h:=hx x mx
   simp_arith only[ag,ae,Du,fO.eq]
 simp_arith only[ag,ae,bW.eq]
 refine av ?_
 unfold Dc DP Dh at hQ
 rw[GM,GM]at hQ
 exact hQ
noncomputable def cw:List W->(EW->Prop)->Prop:=fun ws Q=>∃(r:Rv)(e:Sd)(s f:List Bool),ws=[.d (CM r),.d (Dc e s f)]/\((∀k∈r.sh,k<s.length)/\(∀k∈r.op,k<f.length)/\(r.es.length<=60)/\(r.sh.length<=60)/\(r.op.length<=60)/\(CT 2000 r.sz)/\(CT 2000 (Ct e)))/\Q (CM (r.wid e s f))
theorem cw.mono:∀ws (Q Q':EW->Prop),(∀d,Q d->Q' d)->cw ws Q->cw ws Q':=fun _ _ _ h_=>Fi fun _=>Fi fun _=>Fi fun _=>Fi fun _=>E6 (E6 (h_ _))
theorem cw.len:∀ws (Q:EW->Prop),cw ws Q->ws.length=2:=fun _ _ h_=>by obtain⟨_,_,_,_,e_,_⟩:=h_;subst e_;rfl
theorem cw.eq(r:Rv)(e:Sd)(s f:List Bool)(hs:∀k∈r.sh,k<s.length)(ho:∀k∈r.op,k<f.length)(hl:r.es.length<=60)(sl:r.sh.length<=60)(ol:r.op.length<=60)(q1:CT 2000 r.sz)(q2:CT 2000 (Ct e)):cw [.d (CM r),.d (Dc e s f)]=VL.ret (CM (r.wid e s f):EW):=by
 refine ah fun Q=>⟨?_,fun q_=>⟨r,e,s,f,rfl,⟨hs,ho,hl,sl,ol,q1,q2⟩,q_⟩⟩
 rintro⟨r',e',s',f',e_,_,q_⟩
 simp_arith only[cF,bE,bG,aH,aJ,bM,db,eW,fP,eV,fE,eR,fB,and_assoc]at e_
 obtain⟨rfl,rfl,rfl,rfl⟩:=e_
 exact q_
theorem lw:FnScope ["row", "mark", "box", "shut", "free", "size", "look", "shut_there", "free_there", "size_there"] ["row", "mark"] (defScope (Ch 31)):=⟨rfl,rfl,rfl,by decide +kernel,rfl,by decide +kernel,by decide +kernel⟩
theorem d_widened(Fn:FnIn K mg "widened" (Ch 31) ["row", "mark"])(Z:Bz mg)(d_times:∀rl,Dfn P w K mg base rl "times" ["one", "other"] 3 dw)   : Dfn P w K mg base rl "widened" ["row", "mark"] 4 cw:=by
 have sc:=lw
 refine Dfn.of Fn sc (cw.mono) (cw.len) (fun cdv A outer s H E hr=>(af (kd (vn 0) (dD (n:=4) rfl (ay (ai 2 sc.nd) (ay (ai 3 sc.nd) (ay (ai 4 sc.nd) (ay (ai 5 sc.nd) cH))))))
  (af (kd (vn 1) (dD (n:=4) rfl (ay (ai 6 sc.nd) (ay (ai 7 sc.nd) (ay (ai 8 sc.nd) (ay (ai 9 sc.nd) cH))))))
  (aj (au (bu (aa (mh (vn 2) (bu (aa (vn 6) ab))) (aa (bD ["place", "shut_there"] [none,some 7] rfl (aA (vn 3)) (fun _=>(ai 0 (show Gk (["place", "shut_there"]:List Str) by decide +kernel))) (fun _=>dB (df (aV (vn 1) (vn 0)))) (fun _=>(vn 0))) (aa (bD ["place", "free_there"] [none,some 8] rfl (aA (vn 4)) (fun _=>(ai 0 (show Gk (["place", "free_there"]:List Str) by decide +kernel))) (fun _=>dB (df (aV (vn 1) (vn 0)))) (fun _=>(vn 0))) (aa (al (d_times _) (hr.mono (by decide)) (aa (vn 5) (aa (vn 9) ab))) ab)))))))))) ?_
 rintro ws Q ⟨r,e,s,f,rfl,⟨hs,ho,hl,sl,ol,q1,q2⟩,hQ⟩
 refine ax ?_
 have sz:=FG
 have g1:(r.es.map CL).length+1<=sizeLine:=by rw[Fd];omega
 have tb:tupD (gl r.es)=some (r.es.map CL):=rfl
 simp_arith only[ag,ae,CM,Dc,C3,DP,tb]
 refine gc (xs:=r.sh) (enc:=fun k:Nat=>Fm (k:Int)) (fun k=>if s.getD k false=true then some (Fm (k:Int))else none) rfl ?_ (by omega) ?_
 · intro k mk
   have e1:=iZ (xs:=s) false (show(0:Int)<=(k:Int) by omega) (by have:=hs k mk;omega)
   rw[GO]at e1
   have e2:atI (s.map IT) (k:Int)=some (.bool (s.getD k false)):=by rw[ck,e1];rfl
   simp_arith only[ag,ae,Du,e2]
   try rfl
   try (split<;>rfl)
 refine gc (xs:=r.op) (enc:=fun k:Nat=>Fm (k:Int)) (fun k=>if f.getD k false=true then some (Fm (k:Int))else none) rfl ?_ (by omega) ?_
 · intro k mk
   have e1:=iZ (xs:=f) false (show(0:Int)<=(k:Int) by omega) (by have:=ho k mk;omega)
   rw[GO]at e1
   have e2:atI (f.map IT) (k:Int)=some (.bool (f.getD k false)):=by rw[ck,e1];rfl
   simp_arith only[ag,ae,Du,e2]
   try rfl
   try (split<;>rfl)
 rw[qr (fun k=>s.getD k false=true) (fun k:Nat=>Fm (k:Int)),qr (fun k=>f.getD k false=true) (fun k:Nat=>Fm (k:Int))]
 simp_arith only[ag,ae,dw.eq]
 refine av ?_
 have eq:CM (r.wid e s f) = .tuple [.tuple (r.es.map CL++[CL e]),.list ((r.sh.filter fun k=>decide (s.getD k false=true)).map fun k:Nat=>.int (k:Int)),.list ((r.op.filter fun k=>decide (f.getD k false=true)).map fun k:Nat=>.int (k:Int)),fr (r.sz*Ct e)]:=by
  unfold CM Rv.wid gl C3
  rw[FY]
  simp
 rw[eq]at hQ
 exact hQ
noncomputable def aS:List W->(EW->Prop)->Prop:=fun ws Q=>∃(ps:List (List Rat))(f:Fin 3),ws=[.d (ptsQ ps),.d (.str (b4 f))]/\((DV f.val ps))/\Q (.list ((chP (rowsS f.val ps)).map fun ss=>CM (rvO ps ss)))
theorem aS.mono:∀ws (Q Q':EW->Prop),(∀d,Q d->Q' d)->aS ws Q->aS ws Q':=fun _ _ _ h_=>Fi fun _=>Fi fun _=>E6 (E6 (h_ _))
theorem aS.len:∀ws (Q:EW->Prop),aS ws Q->ws.length=2:=fun _ _ h_=>by obtain⟨_,_,e_,_⟩:=h_;subst e_;rfl
theorem aS.eq(ps:List (List Rat))(f:Fin 3)(hw:DV f.val ps):aS [.d (ptsQ ps),.d (.str (b4 f))]=VL.ret (.list ((chP (rowsS f.val ps)).map fun ss=>CM (rvO ps ss)):EW):=by
 refine ah fun Q=>⟨?_,fun q_=>⟨ps,f,rfl,hw,q_⟩⟩
 rintro⟨ps',f',e_,_,q_⟩
 simp_arith only[cF,bE,bG,aH,aJ,bM,db,eW,fP,eV,fE,eR,fB,and_assoc]at e_
 obtain⟨rfl,rfl⟩:=e_
 exact q_
theorem eT:FnScope ["points", "family", "places", "rows", "side", "side_rows", "numbers", "marks"] ["points", "family"] (defScope (Ch 32)):=⟨rfl,rfl,rfl,by decide +kernel,rfl,by decide +kernel,by decide +kernel⟩
theorem d_counted_looks(Fn:FnIn K mg "counted_looks" (Ch 32) ["points", "family"])(Z:Bz mg)(d_looks_by_side:∀rl,Dfn P w K mg base rl "looks_by_side" ["points", "family"] 4 aR)(d_marked:∀rl,Dfn P w K mg base rl "marked" ["numbers", "look"] 5 cL)(d_widened:∀rl,Dfn P w K mg base rl "widened" ["row", "mark"] 4 cw)(gl_ONE:GlD K mg "ONE" (pr 1 1))  : Dfn P w K mg base rl "counted_looks" ["points", "family"] 6 aS:=by
 have sc:=eT
 refine Dfn.of Fn sc (aS.mono) (aS.len) (fun cdv A outer s H E hr=>(af (am 2 sc.nd (l_ Z.list_ Z.range_ (aa (cB Z.len_ (aa (vn 0) ab)) ab)))
  (af (am 3 sc.nd (ce (aa (bu (aa (bu ab) (aa (vn 2) (aa (vn 2) (aa (dE gl_ONE) ab))))) ab)))
  (af (bF [4,5,6,7] FU rfl (hZ Z.enumerate_ (aa (al (d_looks_by_side _) (hr.mono (by decide)) (aa (vn 0) (aa (vn 1) ab))) ab)) (dD (n:=2) rfl (ay (ai 4 sc.nd) (ay (ai 5 sc.nd) cH))) (af (bV 6 sc.nd ["point", "side"] [none,some 4] rfl (i4 (vn 0)) (fun _=>(ai 0 (show Gk (["point", "side"]:List Str) by decide +kernel))) (fun _=>bQ) (fun _=>(aV (vn 0) (vn 1))))
  (af (bV 7 sc.nd ["look", "numbers"] [none,some 6] rfl (aA (vn 5)) (fun _=>(ai 0 (show Gk (["look", "numbers"]:List Str) by decide +kernel))) (fun _=>bQ) (fun _=>(al (d_marked _) (hr.mono (by decide)) (aa (vn 1) (aa (vn 0) ab)))))
  (aj (fu 3 sc.nd ["row", "mark", "marks"] [none,none,some 7] rfl (aA (vn 3)) (fun _=>(ai 0 (show Gk (["row", "mark", "marks"]:List Str) by decide +kernel))) (fun _=>bQ) (fun _=>(aA (vn 2))) (fun _=>(ai 1 (show Gk (["row", "mark", "marks"]:List Str) by decide +kernel))) (fun _=>bQ) (fun _=>(al (d_widened _) (hr.mono (by decide)) (aa (vn 0) (aa (vn 1) ab)))))))))
  (aj (au (vn 3))))))) ?_
 rintro ws Q ⟨ps,f,rfl,hw,hQ⟩
 refine ax ?_
 have sz:=FG
 have hN:=hw.1
 have hP:=hN.1
 have h8:=hw.2.1
 have hpl:∀p∈ps,p.length=dimP ps:=fun p mp=>(hP.2.2.1 p mp).1
 have hm:=hw.2.2.2 (dimP ps) (Fa _)
 have gn : -(2^62)<=((ps.length:Nat):Int)/\((ps.length:Nat):Int)<2^62:=by omega
 have er:=sO f.val ps
 have rl:=du f.val ps
 have d4:=hP.2.2.2.2
 have r0:=yI ps
 simp_arith only[ag,ae,ET,aR.eq,xb,er,xG,oq,r0]
 refine cD (xs:=(rowsS f.val ps).zipIdx) (enc:=fun z=>Gf [Fm ((z.2:Nat):Int),Ih (z.1.map CL)]) (fun i ρ=>ρ=[some (.d (ptsQ ps)),some (.d (.str (b4 f))),some (.d (.list (aZ 0 ps.length))),some (.d (.list ((chP ((rowsS f.val ps).take i)).map fun ss=>CM (rvO ps ss)))),none,none,none,none]) rfl rfl ?_ ?_
 · rintro i hi ρ rfl K hK
   have hi1:i<(rowsS f.val ps).length:=by rw[JG]at hi;exact hi
   have hin:i<dimP ps:=by rw[<- rl];exact hi1
   have ez:(rowsS f.val ps).zipIdx[i]=((rowsS f.val ps)[i],i):=by rw[List.getElem_zipIdx];simp
   rw[ez]
   have tk:=oM hi1
   have rl1:=hw.len (show i<=dimP ps by omega)
   have rl2:=hw.len (show i+1<=dimP ps by omega)
   have hsm:=hw.sm (show i<=dimP ps by omega)
   have hEs:∀s∈(rowsS f.val ps)[i],s.Sm:=by rw[iC hi1];exact kB (hN.2 i hin)
   have El:(rowsS f.val ps)[i].length<=200:=by
    have h1:=gL (hN.2 i hin).1
    have h2:=kD (hN.2 i hin).1
    have h3:=(hN.2 i hin).1
    rw[kE,Fd]at h1
    rw[mL,Fd]at h2
    rw[iC hi1]
    unfold slS
    split
    · simp;omega
    · split
      · omega
      · rw[Fj];omega
   generalize (rowsS f.val ps)[i]=E at tk hEs El ⊢
   generalize chP ((rowsS f.val ps).take i)=C at tk rl1 hsm ⊢
   simp_arith only[ag,ae,ET]
   refine CA (bP (xs:=ps) (enc:=CV) (fun p=>fr (p.getD i 0)) rfl ?_ (by omega) ?_)
   · intro p mp
     have e:=iW (og hP.2.2.1) hin p mp
     simp_arith only[ag,ae,Du,ET,e]
   have em:ps.map (fun p=>fr (p.getD i 0))=(ps.map fun p=>p.getD i 0).map fr:=by rw[GM];rfl
   rw[em]
   have cl:(ps.map fun p=>p.getD i 0).length<=60:=by rw[Fd];omega
   have c60:∀x∈ps.map (fun p=>p.getD i 0),CT 60 x:=fun x mx=>(rA (og hP.2.2.1) hin x mx).mono (by decide)
   have we:∀ss∈C,∀s:Sd,(rvO ps ss).wid s (Dh "shut" (ps.map fun p=>p.getD i 0) s) (Dh "open" (ps.map fun p=>p.getD i 0) s)=rvO ps (ss++[s]):=fun ss ms s=>rN hpl (hsm ss ms).1 hin s
   have cll:(ps.map fun p=>p.getD i 0).length=ps.length:=Fd ..
   generalize (ps.map fun p=>p.getD i 0)=col at cl c60 we cll ⊢
   simp_arith only[ag,ae]
   refine CA (bP (xs:=E) (enc:=CL) (fun s=>Dc s (Dh "shut" col s) (Dh "open" col s)) rfl ?_ (by omega) ?_)
   · intro s ms
     have h60:=hEs s ms
     simp_arith only[ag,ae,Du,cL.eq]
   simp_arith only[ag,ae,EV]
   have lens:(C.flatMap fun ss=>E.map fun s=>CM (rvO ps (ss++[s]))).length<=3000:=by
    rw[tk]at rl2
    refine FP (Nat.le_of_eq ?_) rl2
    rw[KN,KN]
    simp
   refine qC (xs:=C) (enc:=fun ss=>CM (rvO ps ss)) (fun ss=>E.map fun s=>CM (rvO ps (ss++[s]))) rfl ?_ (by omega) ?_
   · intro ss ms acc ha
     obtain⟨el,hes⟩:=hsm ss ms
     rw[Fd]at ha
     simp_arith only[ag,ae,nZ]
     rw[dZ (enc:=fun s=>Dc s (Dh "shut" col s) (Dh "open" col s)) (fun s=>some (CM (rvO ps (ss++[s])))) E acc ?_ ha,J9]
     intro s mE
     have pl:∀w:Str,∀k∈plc (fun p=>Dq p ss w) ps,k<(Dh w col s).length:=fun w k mk=>by
      have:=qW (f:=fun p=>Dq p ss w) (ps:=ps) k mk
      unfold Dh;rw[Fd,cll];exact this
     have k1:∀k∈(rvO ps ss).sh,k<(Dh "shut" col s).length:=pl "shut"
     have k2:∀k∈(rvO ps ss).op,k<(Dh "open" col s).length:=pl "open"
     have k3:(rvO ps ss).es.length<=60:=by show ss.length<=60;omega
     have kl:∀w:Str,(plc (fun p=>Dq p ss w) ps).length<=60:=fun w=>by rw[jM];have:=HA (fun p=>Dq p ss w) ps;omega
     have k4:(rvO ps ss).sh.length<=60:=kl "shut"
     have k5:(rvO ps ss).op.length<=60:=kl "open"
     have k6:CT 2000 (rvO ps ss).sz:=(sG (by omega) hes).mono (by decide)
     have k7:CT 2000 (Ct s):=(kz (hEs s mE)).mono (by decide)
     have we:=we ss ms s
     simp_arith only[ag,ae,Du,cw.eq,we]
   · try simp_arith only[ag,ae]
     refine hK _ (b_ ?_)
     rw[tk]
     simp[fo,Je]
     rfl
 · rintro ρ rfl
   have le:(rowsS f.val ps).zipIdx.length=(rowsS f.val ps).length:=JG ..
   rw[le,Fv (Fa _)]
   simp_arith only[ag,ae]
   exact av hQ
noncomputable def cK:List W->(EW->Prop)->Prop:=fun ws Q=>∃(ps:List (List Rat))(f:Fin 3),ws=[.d (ptsQ ps),.d (.str (b4 f))]/\((DV f.val ps))/\Q (.list (((chP (rowsS f.val ps)).flatMap (C_ ps)).map teD))
theorem cK.mono:∀ws (Q Q':EW->Prop),(∀d,Q d->Q' d)->cK ws Q->cK ws Q':=fun _ _ _ h_=>Fi fun _=>Fi fun _=>E6 (E6 (h_ _))
theorem cK.len:∀ws (Q:EW->Prop),cK ws Q->ws.length=2:=fun _ _ h_=>by obtain⟨_,_,e_,_⟩:=h_;subst e_;rfl
theorem cK.eq(ps:List (List Rat))(f:Fin 3)(hw:DV f.val ps):cK [.d (ptsQ ps),.d (.str (b4 f))]=VL.ret (.list (((chP (rowsS f.val ps)).flatMap (C_ ps)).map teD):EW):=by
 refine ah fun Q=>⟨?_,fun q_=>⟨ps,f,rfl,hw,q_⟩⟩
 rintro⟨ps',f',e_,_,q_⟩
 simp_arith only[cF,bE,bG,aH,aJ,bM,db,eW,fP,eV,fE,eR,fB,and_assoc]at e_
 obtain⟨rfl,rfl⟩:=e_
 exact q_
theorem mO:FnScope ["points", "family", "many", "told", "box", "shut", "free", "size"] ["points", "family"] (defScope (Ch 33)):=⟨rfl,rfl,rfl,by decide +kernel,rfl,by decide +kernel,by decide +kernel⟩
theorem d_misses(Fn:FnIn K mg "misses" (Ch 33) ["points", "family"])(Z:Bz mg)(d_counted_looks:∀rl,Dfn P w K mg base rl "counted_looks" ["points", "family"] 6 aS)(d_less:∀rl,Dfn P w K mg base rl "less" ["one", "other"] 3 eN)(d_fraction:∀rl,Dfn P w K mg base rl "fraction" ["top", "bottom"] 2 bw)   : Dfn P w K mg base rl "misses" ["points", "family"] 7 cK:=by
 have sc:=mO
 refine Dfn.of Fn sc (cK.mono) (cK.len) (fun cdv A outer s H E hr=>(af (am 2 sc.nd (cB Z.len_ (aa (vn 0) ab)))
  (af (eG 3 sc.nd (ce ab))
  (af (bF [4,5,6,7] FU rfl (aA (al (d_counted_looks _) (hr.mono (by decide)) (aa (vn 0) (aa (vn 1) ab)))) (dD (n:=4) rfl (ay (ai 4 sc.nd) (ay (ai 5 sc.nd) (ay (ai 6 sc.nd) (ay (ai 7 sc.nd) cH))))) (af (eI 3 (aa (bu (aa (al (d_less _) (hr.mono (by decide)) (aa (al (d_fraction _) (hr.mono (by decide)) (aa (cB Z.len_ (aa (vn 5) ab)) (aa (vn 2) ab))) (aa (vn 7) ab))) (aa aB (aa (vn 4) ab)))) ab))
  (aj (eI 3 (aa (bu (aa (al (d_less _) (hr.mono (by decide)) (aa (vn 7) (aa (al (d_fraction _) (hr.mono (by decide)) (aa (cB Z.len_ (aa (vn 6) ab)) (aa (vn 2) ab))) ab))) (aa aB (aa (vn 4) ab)))) ab)))))
  (aj (gA 3 (au (vn 3)))))))) ?_
 rintro ws Q ⟨ps,f,rfl,hw,hQ⟩
 refine ax ?_
 have sz:=FG
 have hN:=hw.1
 have hP:=hN.1
 have h1:=hP.1
 have h8:=hw.2.1
 have d4:=hP.2.2.2.2
 have b0:(ps.length:Int)≠0:=by omega
 have bz:(ps.length:Int).natAbs<2^8000:=E8 (show(ps.length:Int).natAbs<2^60 by omega) (Ft (by decide) (by decide))
 have rl:=hw.len (Fa _)
 have hsm:=hw.sm (Fa _)
 have el:=du f.val ps
 rw[Fv (by omega)]at rl hsm
 simp_arith only[ag,ae,ET,aS.eq]
 generalize chP (rowsS f.val ps)=C at rl hsm hQ ⊢
 refine cD (xs:=C) (enc:=fun ss=>CM (rvO ps ss)) (fun i ρ=>ρ=[some (.d (ptsQ ps)),some (.d (.str (b4 f))),some (.d (.int ps.length)),some (.ml (((C.take i).flatMap (C_ ps)).map teD)),none,none,none,none]) rfl rfl ?_ ?_
 · rintro i hi ρ rfl K hK
   obtain⟨sl,ss⟩:=hsm _ (Ge hi)
   have tl:∀l:List (List Sd),(l.flatMap (C_ ps)).length=2*l.length:=fun l=>by
    induction l with
    | nil=>rfl
    | cons x l ih=>rw[Gp,Fj,ih,FJ];show 2+_=_;omega
   have tz:((C.take i).flatMap (C_ ps)).length+1<sizeLine:=by rw[tl,Gc];omega
   have tz0:((C.take i).flatMap (C_ ps)).length<sizeLine:=by omega
   have tz1:((C.take i).flatMap (C_ ps)).length+1<=sizeLine:=by omega
   have tk:(C.take (i+1)).flatMap (C_ ps)=(C.take i).flatMap (C_ ps)++C_ ps C[i]:=by rw[Fz hi,G_];simp
   generalize C[i]=es at sl ss tk ⊢
   generalize (C.take i).flatMap (C_ ps)=T at tz tz0 tz1 tk ⊢
   have s1:CT 2000 (im es):=(sG (by omega) ss).mono (by decide)
   have s2:CT 2000 (qd (cntN ps es "shut") ps.length):=(qz h1 (by omega) fun p=>Dq p es "shut").mono (by decide)
   have s3:CT 2000 (qd (cntN ps es "open") ps.length):=(qz h1 (by omega) fun p=>Dq p es "open").mono (by decide)
   have c1:(plc (fun p=>Dq p es "shut") ps).length=cntN ps es "shut" := jM _ _
   have c2:(plc (fun p=>Dq p es "open") ps).length=cntN ps es "open" := jM _ _
   simp_arith only[ag,ae,CM,rvO,C3,c1,c2,bw.eq,eN.eq]
   refine bU (by rw[Fj,Fd];exact tz) (hK _ (b_ ?_))
   rw[tk]
   simp[fo,FY,C_,teD,CY,Ds]
 · rintro ρ rfl
   rw[Fv (Fa _)]
   simp_arith only[ag,ae]
   exact av hQ
abbrev DZ:=Rat×Str×List Sd
theorem om{α:Type}:∀(ts:List (Rat×α))(t0:Rat×α),DL ts t0=t0\/DL ts t0∈ts
 | [],t0=>.inl rfl
 | t::ts,t0=>by
   have e:DL (t::ts) t0=DL ts (if t0.1<t.1 then t else t0):=rfl
   rw[e]
   by_cases c:t0.1<t.1
   · rw[if_pos c]
     rcases om ts t with h|h
     · exact .inr (FN.mpr (.inl h))
     · exact .inr (E9 _ h)
   · rw[if_neg c]
     rcases om ts t0 with h|h
     · exact .inl h
     · exact .inr (E9 _ h)
noncomputable def aD:List W->(EW->Prop)->Prop:=fun ws Q=>∃(t0:DZ)(ts:List DZ),ws=[.d (.list ((t0::ts).map teD))]/\((∀t∈t0::ts,CT 2000 t.1))/\Q (teD (DL (t0::ts) t0))
theorem aD.mono:∀ws (Q Q':EW->Prop),(∀d,Q d->Q' d)->aD ws Q->aD ws Q':=fun _ _ _ h_=>Fi fun _=>Fi fun _=>E6 (E6 (h_ _))
theorem aD.len:∀ws (Q:EW->Prop),aD ws Q->ws.length=1:=fun _ _ h_=>by obtain⟨_,_,e_,_⟩:=h_;subst e_;rfl
theorem aD.eq(t0:DZ)(ts:List DZ)(hq:∀t∈t0::ts,CT 2000 t.1):aD [.d (.list ((t0::ts).map teD))]=VL.ret (teD (DL (t0::ts) t0):EW):=by
 refine ah fun Q=>⟨?_,fun q_=>⟨t0,ts,rfl,hq,q_⟩⟩
 rintro⟨t0',ts',e_,_,q_⟩
 simp_arith only[cF,bE,bG,aH,aJ,bM,db,eW,fP,eV,fE,eR,fB,and_assoc]at e_
 obtain⟨rfl,rfl⟩:=e_
 exact q_
theorem ee:FnScope ["rows", "best", "row"] ["rows"] (defScope (Ch 34)):=⟨rfl,rfl,rfl,by decide +kernel,rfl,by decide +kernel,by decide +kernel⟩
theorem d_first_greatest(Fn:FnIn K mg "first_greatest" (Ch 34) ["rows"])(Z:Bz mg)(d_is_below:∀rl,Dfn P w K mg base rl "is_below" ["one", "other"] 1 bh)   : Dfn P w K mg base rl "first_greatest" ["rows"] 2 aD:=by
 have sc:=ee
 refine Dfn.of Fn sc (aD.mono) (aD.len) (fun cdv A outer s H E hr=>(af (am 1 sc.nd (aV (vn 0) ac))
  (af (bF [2] FU rfl (aA (vn 0)) (ai 2 sc.nd) (aj (b8 (df (al (d_is_below _) (hr.mono (by decide)) (aa (aV (vn 1) ac) (aa (aV (vn 2) ac) ab)))) (aj (am 1 sc.nd (vn 2))) aY)))
  (aj (au (vn 1)))))) ?_
 rintro ws Q ⟨t0,ts,rfl,hq,hQ⟩
 refine ax ?_
 have e0:atI ((t0::ts).map teD) 0=some (teD t0):=by rw[ck,show(0:Int)=((0:Nat):Int)from rfl,cW (by rfl)];rfl
 simp_arith only[ag,ae,e0]
 refine cD (xs:=t0::ts) (enc:=teD) (fun i ρ=>DL ((t0::ts).take i) t0∈t0::ts/\ρ=[some (.d (.list ((t0::ts).map teD))),some (.d (teD (DL ((t0::ts).take i) t0))),none]) rfl ⟨Ff,rfl⟩ ?_ ?_
 · rintro i hi ρ ⟨mt,rfl⟩ K hK
   have mi:=Ge hi
   have tk:DL ((t0::ts).take (i+1)) t0=if(DL ((t0::ts).take i) t0).1<((t0::ts)[i]).1 then(t0::ts)[i]else DL ((t0::ts).take i) t0:=by
    unfold DL;rw[Fz hi,G9];rfl
   generalize (t0::ts)[i]=r at mi tk ⊢
   generalize DL ((t0::ts).take i) t0=t at mt tk ⊢
   have q1:=hq t mt
   have q2:=hq r mi
   have i1:∀t:DZ,itemAt (teD t) 0=some (fr t.1):=fun t=>rfl
   by_cases hlt:t.1<r.1
   · have d:decide (t.1<r.1)=true:=decide_eq_true hlt
     rw[if_pos hlt]at tk
     simp_arith only[ag,ae,i1,bh.eq,d]
     exact hK _ (b_ ⟨by rw[tk];exact mi,by rw[tk];rfl⟩)
   · have d:decide (t.1<r.1)=false:=decide_eq_false hlt
     rw[if_neg hlt]at tk
     simp_arith only[ag,ae,i1,bh.eq,d]
     exact hK _ (b_ ⟨by rw[tk];exact mt,by rw[tk];rfl⟩)
 · rintro ρ ⟨mt,rfl⟩
   rw[Fv (Fa _)]
   simp_arith only[ag,ae]
   exact av hQ
theorem rF{α:Type}:∀(rows:List (List α))(ch:List (List α)),ch≠[]->(∀r∈rows,r≠[])->rows.foldl (fun ch r=>ch.flatMap fun b=>r.map fun t=>b++[t]) ch≠[]
 | [],ch,h,_=>h
 | r::rows,ch,h,hr=>by
   refine rF rows _ ?_ fun x mx=>hr x (E9 _ mx)
   obtain⟨b,bs,rfl⟩:=Is h
   obtain⟨t,ts,e⟩:=Is (hr r Ff)
   rw[e]
   simp
theorem vQ(f:Nat)(rs:List Rat):slS f rs≠[]:=by
 have h:Sd.from (-1) 1∈slFS rs:=Iy.mpr ⟨-1,Ff,HZ.mpr ⟨1,Fu _ Ff,by rw[if_pos (by decide)]⟩⟩
 unfold slS
 split
 · simp
 · split
   · exact List.ne_nil_of_mem h
   · exact List.ne_nil_of_mem (HC _ h)
noncomputable def msL(f:Nat)(ps:List (List Rat)):List DZ:=(chP (rowsS f ps)).flatMap (C_ ps)
theorem nI(f:Nat)(ps:List (List Rat)):∃t ts,msL f ps=t::ts:=by
 have h:chP (rowsS f ps)≠[]:=rF (rowsS f ps) [[]] (by simp) fun r mr=>by
  obtain⟨j,_,rfl⟩:=Gn.mp mr
  exact vQ f _
 obtain⟨b,bs,e⟩:=Is h
 refine⟨(CY ps b, "over", b),(Ds ps b, "lack", b)::bs.flatMap (C_ ps),?_⟩
 unfold msL
 rw[e,Gp]
 rfl
noncomputable def B3(f:Nat)(ps:List (List Rat)):DZ:=DL (msL f ps) ((msL f ps).headD (0, "", []))
theorem re(hw:DV f ps):∀t∈msL f ps,CT 900 t.1:=fun t mt=>by
 have hsm:=hw.sm (Fa _)
 have el:=du f ps
 rw[Fv (by omega)]at hsm
 obtain⟨ss,ms,h⟩:=Iy.mp mt
 obtain⟨sl,sm⟩:=hsm ss ms
 have o:=wJ hw.1.1.1 (by have:=hw.2.1;omega) (show ss.length<=4 by have:=hw.1.1.2.2.2.2;omega) sm
 rcases FN.mp h with rfl|h
 · exact o.1
 · rw[Gb.mp h];exact o.2
theorem qE(hw:DV f ps):CT 900 (B3 f ps).1:=by
 obtain⟨t,ts,e⟩:=nI f ps
 have h:=re hw
 unfold B3
 rw[e]at h ⊢
 rcases om (t::ts) ((t::ts).headD (0, "", []))with z|z
 · rw[z];exact h t Ff
 · exact h _ z
noncomputable def dv:List W->(EW->Prop)->Prop:=fun ws Q=>∃(ps:List (List Rat))(f:Fin 3),ws=[.d (ptsQ ps),.d (.str (b4 f))]/\((DV f.val ps))/\Q (teD (B3 f.val ps))
theorem dv.mono:∀ws (Q Q':EW->Prop),(∀d,Q d->Q' d)->dv ws Q->dv ws Q':=fun _ _ _ h_=>Fi fun _=>Fi fun _=>E6 (E6 (h_ _))
theorem dv.len:∀ws (Q:EW->Prop),dv ws Q->ws.length=2:=fun _ _ h_=>by obtain⟨_,_,e_,_⟩:=h_;subst e_;rfl
theorem dv.eq(ps:List (List Rat))(f:Fin 3)(hw:DV f.val ps):dv [.d (ptsQ ps),.d (.str (b4 f))]=VL.ret (teD (B3 f.val ps):EW):=by
 refine ah fun Q=>⟨?_,fun q_=>⟨ps,f,rfl,hw,q_⟩⟩
 rintro⟨ps',f',e_,_,q_⟩
 simp_arith only[cF,bE,bG,aH,aJ,bM,db,eW,fP,eV,fE,eR,fB,and_assoc]at e_
 obtain⟨rfl,rfl⟩:=e_
 exact q_
theorem pG:FnScope ["points", "family"] ["points", "family"] (defScope (Ch 35)):=⟨rfl,rfl,rfl,by decide +kernel,rfl,by decide +kernel,by decide +kernel⟩
theorem d_worst(Fn:FnIn K mg "worst" (Ch 35) ["points", "family"])(Z:Bz mg)(d_first_greatest:∀rl,Dfn P w K mg base rl "first_greatest" ["rows"] 2 aD)(d_misses:∀rl,Dfn P w K mg base rl "misses" ["points", "family"] 7 cK)   : Dfn P w K mg base rl "worst" ["points", "family"] 8 dv:=by
 have sc:=pG
 refine Dfn.of Fn sc (dv.mono) (dv.len) (fun cdv A outer s H E hr=>(aj (au (al (d_first_greatest _) (hr.mono (by decide)) (aa (al (d_misses _) (hr.mono (by decide)) (aa (vn 0) (aa (vn 1) ab))) ab))))) ?_
 rintro ws Q ⟨ps,f,rfl,hw,hQ⟩
 refine ax ?_
 have em:((chP (rowsS f.val ps)).flatMap (C_ ps)).map teD=(msL f.val ps).map teD:=rfl
 have hq:=fun t mt=>(re hw t mt).mono (show 900<=2000 by decide)
 have ew:B3 f.val ps=DL (msL f.val ps) ((msL f.val ps).headD (0, "", [])):=rfl
 simp_arith only[ag,ae,cK.eq,em]
 obtain⟨t,ts,e⟩:=nI f.val ps
 rw[e]at hq ew ⊢
 rw[ew]at hQ
 have pf:aD [.d (.list (teD t::ts.map teD))]=VL.ret (teD (DL (t::ts) t):EW):=aD.eq t ts hq
 simp_arith only[ag,ae,pf]
 exact av hQ
noncomputable def bH:List W->(EW->Prop)->Prop:=fun ws Q=>∃(ps:List (List Rat))(f:Fin 3),ws=[.d (ptsQ ps),.d (.str (b4 f))]/\((DV f.val ps))/\Q (fr (B3 f.val ps).1)
theorem bH.mono:∀ws (Q Q':EW->Prop),(∀d,Q d->Q' d)->bH ws Q->bH ws Q':=fun _ _ _ h_=>Fi fun _=>Fi fun _=>E6 (E6 (h_ _))
theorem bH.len:∀ws (Q:EW->Prop),bH ws Q->ws.length=2:=fun _ _ h_=>by obtain⟨_,_,e_,_⟩:=h_;subst e_;rfl
theorem bH.eq(ps:List (List Rat))(f:Fin 3)(hw:DV f.val ps):bH [.d (ptsQ ps),.d (.str (b4 f))]=VL.ret (fr (B3 f.val ps).1:EW):=by
 refine ah fun Q=>⟨?_,fun q_=>⟨ps,f,rfl,hw,q_⟩⟩
 rintro⟨ps',f',e_,_,q_⟩
 simp_arith only[cF,bE,bG,aH,aJ,bM,db,eW,fP,eV,fE,eR,fB,and_assoc]at e_
 obtain⟨rfl,rfl⟩:=e_
 exact q_
theorem ip:FnScope ["points", "family"] ["points", "family"] (defScope (Ch 36)):=⟨rfl,rfl,rfl,by decide +kernel,rfl,by decide +kernel,by decide +kernel⟩
theorem d_unevenness(Fn:FnIn K mg "unevenness" (Ch 36) ["points", "family"])(Z:Bz mg)(d_worst:∀rl,Dfn P w K mg base rl "worst" ["points", "family"] 8 dv)   : Dfn P w K mg base rl "unevenness" ["points", "family"] 9 bH:=by
 have sc:=ip
 refine Dfn.of Fn sc (bH.mono) (bH.len) (fun cdv A outer s H E hr=>(aj (au (aV (al (d_worst _) (hr.mono (by decide)) (aa (vn 0) (aa (vn 1) ab))) ac)))) ?_
 rintro ws Q ⟨ps,f,rfl,hw,hQ⟩
 refine ax ?_
 have i1:∀t:DZ,itemAt (teD t) 0=some (fr t.1):=fun t=>rfl
 simp_arith only[ag,ae,dv.eq,i1]
 exact av hQ
theorem BC:CT 1 0:=⟨by decide,by decide⟩
noncomputable def Ea(s:Sd):Prop:=CT 2000 s.first/\CT 2000 s.last
theorem vN{s:Sd}(h:s.Sm):Ea s:=⟨h.1.up,h.2.up⟩
noncomputable def B0(b:Bool):Int:=if b then 1 else 2
noncomputable def BZ(b:Bool):Str:=if b then "shut" else "open"
theorem yd{a b:Bool}:B0 a=B0 b↔a=b:=by revert a b;decide
theorem iV(xs:List α)(f:α->EW){k:Int}(h:0<=k):VL.cutD (xs.map f) (some k) none=(xs.drop k.toNat).map f:=by
 unfold VL.cutD
 rw[HT.sIx_none,mT h,Fd,<- K7,<- Jh]
 congr 1
 by_cases z:k.toNat<=xs.length
 · rw[Jt z,Fv (by rw[HU];omega)]
 · rw[J3 (by omega),IP (by omega),IP (by omega)];simp
theorem gZ(q r:Rat):decide (DM q r<1) = !decide (r<q):=by
 unfold DM
 by_cases h:r<q
 · rw[if_pos h];simp[h]
 · rw[if_neg h];split<;>simp[h]
theorem uB(x:EW)(xs:List EW):VL.cutD (x::xs) (some 1) none=xs:=by
 have h:VL.cutD ((x::xs).map id) (some 1) none=((x::xs).drop (1:Int).toNat).map id:=iV (x::xs) id (by decide)
 rw[KO,KO]at h
 exact h
theorem m9{x d:Int}(hd:0<d)(h:0<x):0<qd x d:=by
 refine JI (pK hd (by omega)) fun e=>?_
 have:=pL (a:=x) hd
 rw[<- e]at this
 simp at this
 omega
theorem wf(x:Int){d:Int}:qd (-x) d = -(qd x d):=by
 unfold qd
 rw[Rat.intCast_neg,Ig,Ig,Rat.neg_mul]
theorem yK{x d:Int}(hd:0<d):qd (max 0 x) d=mx (qd x d) 0:=by
 unfold mx
 rcases Int.lt_trichotomy x 0 with h|h|h
 · have e:max 0 x=0:=by omega
   have p:=m9 hd (show 0 < -x by omega)
   rw[wf]at p
   have:qd x d<0:=by grind
   rw[if_pos this,e]
   unfold qd;rw[Ig];show(0:Rat)*_=0;rw[Rat.zero_mul]
 · subst h
   have e:qd 0 d=0:=by unfold qd;rw[Ig];show(0:Rat)*_=0;rw[Rat.zero_mul]
   rw[show max 0 (0:Int)=0 from rfl,e,if_neg (by decide)]
 · have e:max 0 x=x:=by omega
   rw[e,if_neg (Hh.mpr (GZ (m9 hd h)))]
theorem qR{d:Int}(hd:0<d):qd d d=1:=by
 unfold qd
 rw[Ig]
 exact Rat.mul_inv_cancel _ (by intro z;have e:d=0:=by exact_mod_cast z
                                omega)
theorem wl(a b:Int){d:Int}(h:0<d):qd (a+b) d=qd a d+qd b d:=by
 unfold qd
 rw[Rat.intCast_add,Ig,Ig,Ig,Rat.add_mul]
theorem yL{x d:Int}(hd:0<d):qd (min d (d+x)) d=mn (1+qd x d) 1:=by
 unfold mn
 by_cases h:x<0
 · have p:=m9 hd (show 0 < -x by omega)
   rw[wf]at p
   rw[show min d (d+x)=d+x by omega,wl _ _ hd,qR hd,if_pos (by grind)]
 · have p:=pK hd (show 0<=x by omega)
   rw[show min d (d+x)=d by omega,qR hd,if_neg (by grind)]
theorem lI(x y z:EW):atI [x,y,z] 2=some z:=rfl
theorem lJ(x y z:EW):atI [x,y,z] 1=some y:=rfl
noncomputable def aM:List W->(EW->Prop)->Prop:=fun ws Q=>∃(s:Sd),ws=[.d (CL s)]/\((Ea s))/\Q (fr (Ct s))
theorem aM.mono:∀ws (Q Q':EW->Prop),(∀d,Q d->Q' d)->aM ws Q->aM ws Q':=fun _ _ _ h_=>Fi fun _=>E6 (E6 (h_ _))
theorem aM.len:∀ws (Q:EW->Prop),aM ws Q->ws.length=1:=fun _ _ h_=>by obtain⟨_,e_,_⟩:=h_;subst e_;rfl
theorem aM.eq(s:Sd)(hs:Ea s):aM [.d (CL s)]=VL.ret (fr (Ct s):EW):=by
 refine ah fun Q=>⟨?_,fun q_=>⟨s,rfl,hs,q_⟩⟩
 rintro⟨s',e_,_,q_⟩
 simp_arith only[cF,bE,bG,aH,aJ,bM]at e_
 obtain rfl:=e_
 exact q_
theorem eB:FnScope ["_law_side", "_law_ends", "_law_bottom", "_law_more"] ["_law_side"] (defScope (Ch 48)):=⟨rfl,rfl,rfl,by decide +kernel,rfl,by decide +kernel,by decide +kernel⟩
theorem d__law_side_size(Fn:FnIn K mg "_law_side_size" (Ch 48) ["_law_side"])(Z:Bz mg)(d__law_frac:∀rl,Dfn P w K mg base rl "_law_frac" ["_law_top", "_law_bottom"] 1 bq)   : Dfn P w K mg base rl "_law_side_size" ["_law_side"] 2 aM:=by
 have sc:=eB
 refine Dfn.of Fn sc (aM.mono) (aM.len) (fun cdv A outer s H E hr=>(af (bV 1 sc.nd ["_law_one"] [none] rfl (i4 (lY (vn 0) (d9 ac) d_)) (fun _=>(ai 0 (show Gk (["_law_one"]:List Str) by decide +kernel))) (fun _=>bQ) (fun _=>(fy (az lD ll (aw _) (aV (vn 0) ac) ac) (vn 0) (bu (aa ac (aa ac ab))))))
  (af (b8 (az cZ cn (aw _) (aV (vn 0) ac) aB) (aj (au (aV (vn 1) ac))) aY)
  (af (am 2 sc.nd (v_mul (aV (aV (vn 1) ac) ac) (aV (aV (vn 1) ac) ac)))
  (af (am 3 sc.nd (v_sub (v_mul (aV (aV (vn 1) ac) ac) (aV (aV (vn 1) ac) ac)) (v_mul (aV (aV (vn 1) ac) ac) (aV (aV (vn 1) ac) ac))))
  (af (b8 (az cZ cn (aw _) (aV (vn 0) ac) aB) (aj (au (al (d__law_frac _) (hr.mono (by decide)) (aa (vf Z.max_ (aa ac (aa (vn 3) ab))) (aa (vn 2) ab))))) aY)
  (aj (au (al (d__law_frac _) (hr.mono (by decide)) (aa (vd Z.min_ (aa (vn 2) (aa (v_add (vn 2) (vn 3)) ab))) (aa (vn 2) ab))))))))))) ?_
 rintro ws Q ⟨s,rfl,hs,hQ⟩
 have w1:decide (EX "from" = EX "to")=false:=by decide +kernel
 have w2:decide (EX "round" = EX "to")=false:=by decide +kernel
 have w3:decide (EX "round" = EX "from")=false:=by decide +kernel
 have w4:decide (EX "to" = EX "to")=true:=by decide +kernel
 have w5:decide (EX "from" = EX "from")=true:=by decide +kernel
 have s1:F_ (Gv "to")=true:=by decide +kernel
 have s2:F_ (Gv "from")=true:=by decide +kernel
 have s3:F_ (Gv "round")=true:=by decide +kernel
 have hw1:decide (EX "half" = EX "shut")=false:=by decide +kernel
 have hw2:decide (EX "half" = EX "open")=false:=by decide +kernel
 have eqi:∀i j:Int,FV (.int i) (.int j)=(i==j):=fun i j=>by simp[FV]
 refine ax ?_
 have sz:=FG
 have mxe:∀q:Rat,(if decide (0<q.num)=true then fr q else Gf [.int 0,.int 1])=fr (mx q 0):=fun q=>by
  unfold mx
  by_cases h:0<q.num
  · rw[if_pos (by simpa using h),if_neg];exact Hh.mpr (Rat.num_nonneg.mp (by omega))
  · rw[if_neg (by simpa using h)]
    by_cases h2:q<0
    · rw[if_pos h2];rfl
    · rw[if_neg h2]
      have h3:=Rat.num_nonneg.mpr (Hh.mp h2)
      have e:q=0:=Rat.num_eq_zero.mp (by omega)
      rw[e];rfl
 obtain⟨a1,a2⟩:=hs
 cases s with
 | to t =>
   simp_arith only[ag,ae,ET,w1,w2,w3,w4,w5,CL,uB]
   refine CA (bP (xs:=[t]) (enc:=fr) (fun q=>fr (mx q 0)) rfl ?_ (by simp;omega) ?_)
   · intro q mq
     simp_arith only[ag,ae,Du,ET]
     rw[mxe q]
   · simp_arith only[ag,ae,ET,w1,w2,w3,w4,w5,dY]
     exact av hQ
 | «from» a b =>
   have a1:CT 2000 a:=a1
   have a2:CT 2000 b:=a2
   simp_arith only[ag,ae,ET,w1,w2,w3,w4,w5,CL,uB]
   refine CA (bP (xs:=[a,b]) (enc:=fr) (fun q=>fr (mx q 0)) rfl ?_ (by simp;omega) ?_)
   · intro q mq
     simp_arith only[ag,ae,Du,ET]
     rw[mxe q]
   have x1:CT 2000 (mx a 0):=dP a1 (BC.mono (by decide))
   have x2:CT 2000 (mx b 0):=dP a2 (BC.mono (by decide))
   have n1:aX ((mx a 0).den:Int) ((mx b 0).den:Int):=.bb x1.bd x2.bd
   have n2:aX (mx b 0).num ((mx a 0).den:Int):=.bb x2.bn x1.bd
   have n3:aX (mx a 0).num ((mx b 0).den:Int):=.bb x1.bn x2.bd
   have hb:0<((mx a 0).den:Int)*((mx b 0).den:Int):=den_pos _ _
   have hz:(((mx a 0).den:Int)*((mx b 0).den:Int)).natAbs<2^8000:=by
    rw[Hb,Gj,Gj]
    exact E8 (bN x1.2 x2.2) (Ft (by decide) (by decide))
   have ed:qd ((mx b 0).num*((mx a 0).den:Int)-(mx a 0).num*((mx b 0).den:Int)) (((mx a 0).den:Int)*((mx b 0).den:Int))=mx b 0-mx a 0:=by rw[Lh ((mx a 0).den:Int)];exact m7 (mx b 0) (mx a 0)
   simp_arith only[ag,ae,ET,w1,w2,w3,w4,w5,dY,bq.eq]
   rw[yK hb,ed]
   exact av hQ
 | round a b =>
   have a1:CT 2000 a:=a1
   have a2:CT 2000 b:=a2
   simp_arith only[ag,ae,ET,w1,w2,w3,w4,w5,CL,uB]
   refine CA (bP (xs:=[a,b]) (enc:=fr) (fun q=>fr (mx q 0)) rfl ?_ (by simp;omega) ?_)
   · intro q mq
     simp_arith only[ag,ae,Du,ET]
     rw[mxe q]
   have x1:CT 2000 (mx a 0):=dP a1 (BC.mono (by decide))
   have x2:CT 2000 (mx b 0):=dP a2 (BC.mono (by decide))
   have n1:aX ((mx a 0).den:Int) ((mx b 0).den:Int):=.bb x1.bd x2.bd
   have n2:aX (mx b 0).num ((mx a 0).den:Int):=.bb x2.bn x1.bd
   have n3:aX (mx a 0).num ((mx b 0).den:Int):=.bb x1.bn x2.bd
   have hb:0<((mx a 0).den:Int)*((mx b 0).den:Int):=den_pos _ _
   have hz:(((mx a 0).den:Int)*((mx b 0).den:Int)).natAbs<2^8000:=by
    rw[Hb,Gj,Gj]
    exact E8 (bN x1.2 x2.2) (Ft (by decide) (by decide))
   have ed:qd ((mx b 0).num*((mx a 0).den:Int)-(mx a 0).num*((mx b 0).den:Int)) (((mx a 0).den:Int)*((mx b 0).den:Int))=mx b 0-mx a 0:=by rw[Lh ((mx a 0).den:Int)];exact m7 (mx b 0) (mx a 0)
   simp_arith only[ag,ae,ET,w1,w2,w3,w4,w5,dY,bq.eq]
   rw[yL hb,ed]
   exact av hQ
noncomputable def bX:List W->(EW->Prop)->Prop:=fun ws Q=>∃(x:Rat)(s:Sd)(b:Bool),ws=[.d (fr x),.d (CL s),.d (.int (B0 b))]/\((CT 2000 x)/\(Ea s))/\Q (.bool (Di s (BZ b) x))
theorem bX.mono:∀ws (Q Q':EW->Prop),(∀d,Q d->Q' d)->bX ws Q->bX ws Q':=fun _ _ _ h_=>Fi fun _=>Fi fun _=>Fi fun _=>E6 (E6 (h_ _))
theorem bX.len:∀ws (Q:EW->Prop),bX ws Q->ws.length=3:=fun _ _ h_=>by obtain⟨_,_,_,e_,_⟩:=h_;subst e_;rfl
theorem bX.eq(x:Rat)(s:Sd)(b:Bool)(h1:CT 2000 x)(hs:Ea s):bX [.d (fr x),.d (CL s),.d (.int (B0 b))]=VL.ret (.bool (Di s (BZ b) x):EW):=by
 refine ah fun Q=>⟨?_,fun q_=>⟨x,s,b,rfl,⟨h1,hs⟩,q_⟩⟩
 rintro⟨x',s',b',e_,_,q_⟩
 simp_arith only[cF,bE,bG,aH,aJ,bM,yd]at e_
 obtain⟨rfl,rfl,rfl⟩:=e_
 exact q_
theorem jc:FnScope ["_law_x", "_law_side", "_law_way", "_law_ahead", "_law_behind"] ["_law_x", "_law_side", "_law_way"] (defScope (Ch 47)):=⟨rfl,rfl,rfl,by decide +kernel,rfl,by decide +kernel,by decide +kernel⟩
theorem d__law_lies(Fn:FnIn K mg "_law_lies" (Ch 47) ["_law_x", "_law_side", "_law_way"])(Z:Bz mg)(d__law_cmp:∀rl,Dfn P w K mg base rl "_law_cmp" ["_law_one", "_law_other"] 1 aK)   : Dfn P w K mg base rl "_law_lies" ["_law_x", "_law_side", "_law_way"] 2 bX:=by
 have sc:=jc
 refine Dfn.of Fn sc (bX.mono) (bX.len) (fun cdv A outer s H E hr=>(af (am 3 sc.nd (fA iF hX (aw _) (al (d__law_cmp _) (hr.mono (by decide)) (aa (vn 0) (aa (aV (vn 1) (v_sub (cB Z.len_ (aa (vn 1) ab)) ac)) ab))) (km Z.int_ (aa (fA (di hr.units) cq (aw _) (vn 2) ac) ab))))
  (af (b8 (az cZ cn (aw _) (aV (vn 1) ac) aB) (aj (au (vn 3))) aY)
  (af (am 4 sc.nd (fA iF hX (aw _) (al (d__law_cmp _) (hr.mono (by decide)) (aa (aV (vn 1) ac) (aa (vn 0) ab))) (km Z.int_ (aa (fA (gR hr.units) cq (aw _) (vn 2) ac) ab))))
  (aj (au (fy (az cZ cn (aw _) (aV (vn 1) ac) aB) (v_and (vn 4) (lZ (vn 3))) (v_or (vn 4) (lZ (vn 3)))))))))) ?_
 rintro ws Q ⟨x,s,b,rfl,⟨h1,hs⟩,hQ⟩
 have w1:decide (EX "from" = EX "to")=false:=by decide +kernel
 have w2:decide (EX "round" = EX "to")=false:=by decide +kernel
 have w3:decide (EX "round" = EX "from")=false:=by decide +kernel
 have w4:decide (EX "to" = EX "to")=true:=by decide +kernel
 have w5:decide (EX "from" = EX "from")=true:=by decide +kernel
 have s1:F_ (Gv "to")=true:=by decide +kernel
 have s2:F_ (Gv "from")=true:=by decide +kernel
 have s3:F_ (Gv "round")=true:=by decide +kernel
 have eqi:∀i j:Int,FV (.int i) (.int j)=(i==j):=fun i j=>by simp[FV]
 have hw1:decide (EX "shut" = EX "shut")=true:=by decide +kernel
 have hw2:decide (EX "shut" = EX "open")=false:=by decide +kernel
 have hw3:decide (EX "open" = EX "shut")=false:=by decide +kernel
 have hw4:decide (EX "open" = EX "open")=true:=by decide +kernel
 have y1:B0 true=1:=rfl
 have y2:B0 false=2:=rfl
 have z1:BZ true=EX "shut" := rfl
 have z2:BZ false=EX "open" := rfl
 refine ax ?_
 obtain⟨a1,a2⟩:=hs
 cases s with
 | to t =>
   have a2:CT 2000 t:=a2
   cases b
   · rw[y2]
     rw[z2]at hQ
     simp_arith only[ag,ae,ET,w1,w2,w3,w4,w5,CL,eqi,dY,lI,lJ,aK.eqQ,f_,gZ]
     simp only[Di,DH,Sd.last,Sd.first,hw1,hw2,hw3,hw4,GB,↓reduceIte,HY,Ip,if_true,if_false]at hQ
     exact av hQ
   · rw[y1]
     rw[z1]at hQ
     simp_arith only[ag,ae,ET,w1,w2,w3,w4,w5,CL,eqi,dY,lI,lJ,aK.eqQ,f_,gZ]
     simp only[Di,DH,Sd.last,Sd.first,hw1,hw2,hw3,hw4,GB,↓reduceIte,HY,Ip,if_true,if_false]at hQ
     exact av hQ
 | «from» a c =>
   have a1:CT 2000 a:=a1
   have a2:CT 2000 c:=a2
   cases b
   · rw[y2]
     rw[z2]at hQ
     simp_arith only[ag,ae,ET,w1,w2,w3,w4,w5,CL,eqi,dY,lI,lJ,aK.eqQ,f_,gZ]
     simp only[Di,DH,Sd.last,Sd.first,hw1,hw2,hw3,hw4,GB,↓reduceIte,HY,Ip,if_true,if_false]at hQ
     exact av hQ
   · rw[y1]
     rw[z1]at hQ
     simp_arith only[ag,ae,ET,w1,w2,w3,w4,w5,CL,eqi,dY,lI,lJ,aK.eqQ,f_,gZ]
     simp only[Di,DH,Sd.last,Sd.first,hw1,hw2,hw3,hw4,GB,↓reduceIte,HY,Ip,if_true,if_false]at hQ
     exact av hQ
 | round a c =>
   have a1:CT 2000 a:=a1
   have a2:CT 2000 c:=a2
   cases b
   · rw[y2]
     rw[z2]at hQ
     simp_arith only[ag,ae,ET,w1,w2,w3,w4,w5,CL,eqi,dY,lI,lJ,aK.eqQ,f_,gZ]
     simp only[Di,DH,Sd.last,Sd.first,hw1,hw2,hw3,hw4,GB,↓reduceIte,HY,Ip,if_true,if_false]at hQ
     exact av hQ
   · rw[y1]
     rw[z1]at hQ
     simp_arith only[ag,ae,ET,w1,w2,w3,w4,w5,CL,eqi,dY,lI,lJ,aK.eqQ,f_,gZ]
     simp only[Di,DH,Sd.last,Sd.first,hw1,hw2,hw3,hw4,GB,↓reduceIte,HY,Ip,if_true,if_false]at hQ
     exact av hQ
noncomputable def Cy(col:List Rat)(s:Sd):EW:=.tuple [CL s,fr (Ct s),.int (C9 (Dh "shut" col s):Nat),.int (C9 (Dh "open" col s):Nat)]
theorem uc(b:Nat->Bool)(n:Nat):((Gh n).filterMap fun j=>if b j=true then some (Fm ((1:Int)*2^j))else none)=((Gh n).filterMap fun j=>if b j=true then some ((1:Int)*2^j)else none).map Fm:=jW (fun j=>b j=true) (fun j=>(1:Int)*2^j) Fm _
noncomputable def aN:List W->(EW->Prop)->Prop:=fun ws Q=>∃(ps:List (List Rat))(j:Int)(f:Fin 3),ws=[.d (ptsQ ps),.d (.int j),.d (.str (b4 f))]/\((DV f.val ps)/\(0<=j)/\(j<dimP ps))/\Q (.list ((slS f.val (nuQ ps j.toNat)).map (Cy (colQ ps j.toNat))))
theorem aN.mono:∀ws (Q Q':EW->Prop),(∀d,Q d->Q' d)->aN ws Q->aN ws Q':=fun _ _ _ h_=>Fi fun _=>Fi fun _=>Fi fun _=>E6 (E6 (h_ _))
theorem aN.len:∀ws (Q:EW->Prop),aN ws Q->ws.length=3:=fun _ _ h_=>by obtain⟨_,_,_,e_,_⟩:=h_;subst e_;rfl
theorem aN.eq(ps:List (List Rat))(j:Int)(f:Fin 3)(hw:DV f.val ps)(j0:0<=j)(jl:j<dimP ps):aN [.d (ptsQ ps),.d (.int j),.d (.str (b4 f))]=VL.ret (.list ((slS f.val (nuQ ps j.toNat)).map (Cy (colQ ps j.toNat))):EW):=by
 refine ah fun Q=>⟨?_,fun q_=>⟨ps,j,f,rfl,⟨hw,j0,jl⟩,q_⟩⟩
 rintro⟨ps',j',f',e_,_,q_⟩
 simp_arith only[cF,bE,bG,aH,aJ,bM,db,eW,fP,eV,fE,eR,fB,and_assoc]at e_
 obtain⟨rfl,rfl,rfl⟩:=e_
 exact q_
theorem eC:FnScope ["_law_points_here", "_law_side", "_law_family", "_law_column", "_law_found", "_law_one", "_law_bits", "_law_way"] ["_law_points_here", "_law_side", "_law_family"] (defScope (Ch 49)):=⟨rfl,rfl,rfl,by decide +kernel,rfl,by decide +kernel,by decide +kernel⟩
theorem d__law_side_rows(Fn:FnIn K mg "_law_side_rows" (Ch 49) ["_law_points_here", "_law_side", "_law_family"])(Z:Bz mg)(d__law_side_looks:∀rl,Dfn P w K mg base rl "_law_side_looks" ["_law_numbers", "_law_family"] 2 aG)(d__law_sorted:∀rl,Dfn P w K mg base rl "_law_sorted" ["_law_some"] 2 bj)(d__law_side_size:∀rl,Dfn P w K mg base rl "_law_side_size" ["_law_side"] 2 aM)(d__law_lies:∀rl,Dfn P w K mg base rl "_law_lies" ["_law_x", "_law_side", "_law_way"] 2 bX)   : Dfn P w K mg base rl "_law_side_rows" ["_law_points_here", "_law_side", "_law_family"] 3 aN:=by
 have sc:=eC
 refine Dfn.of Fn sc (aN.mono) (aN.len) (fun cdv A outer s H E hr=>(af (bV 3 sc.nd ["_law_point", "_law_side"] [none,some 1] rfl (i4 (vn 0)) (fun _=>(ai 0 (show Gk (["_law_point", "_law_side"]:List Str) by decide +kernel))) (fun _=>bQ) (fun _=>(aV (vn 0) (vn 1))))
  (af (eG 4 sc.nd (ce ab))
  (af (bF [5,6,7] FU rfl (aA (al (d__law_side_looks _) (hr.mono (by decide)) (aa (al (d__law_sorted _) (hr.mono (by decide)) (aa (vn 3) ab)) (aa (vn 2) ab)))) (ai 5 sc.nd) (af (eG 6 sc.nd (ce ab))
  (af (bF [7] FU rfl (i4 (bu (aa ac (aa ac ab)))) (ai 7 sc.nd) (aj (eI 6 (aa (v_sum Z.sum_ (aa (bD ["_law_k", "_law_column", "_law_one", "_law_way"] [none,some 3,some 5,some 7] rfl (bR Z.range_ (aa (cB Z.len_ (aa (vn 3) ab)) ab)) (fun _=>(ai 0 (show Gk (["_law_k", "_law_column", "_law_one", "_law_way"]:List Str) by decide +kernel))) (fun _=>dB (df (al (d__law_lies _) (hr.mono (by decide)) (aa (aV (vn 1) (vn 0)) (aa (vn 2) (aa (vn 3) ab)))))) (fun _=>(v_shl ac (vn 0)))) ab)) ab))))
  (aj (eI 4 (aa (bu (aa (vn 5) (aa (al (d__law_side_size _) (hr.mono (by decide)) (aa (vn 5) ab)) (aa (aV (vn 6) ac) (aa (aV (vn 6) ac) ab))))) ab))))))
  (aj (gA 4 (au (vn 4)))))))) ?_
 rintro ws Q ⟨ps,j,f,rfl,⟨hw,j0,jl⟩,hQ⟩
 refine ax ?_
 have sz:=FG
 have hN:=hw.1
 have hP:=hN.1
 have h8:=hw.2.1
 have hj:j.toNat<dimP ps:=by omega
 have ej:((j.toNat:Nat):Int)=j:=by omega
 have hr:=hN.2 j.toNat hj
 have c40:(colQ ps j.toNat).length<=40:=by unfold colQ;rw[Fd];omega
 have c8:(colQ ps j.toNat).length<=8:=by unfold colQ;rw[Fd];omega
 have cg:∀q∈colQ ps j.toNat,Gd q:=fun q mq=>hr.2 q (((fD (colQ ps j.toNat)).2 q).mpr mq)
 have en:Cw (colQ ps j.toNat)=nuQ ps j.toNat:=rfl
 have esl:=sD f.val (nuQ ps j.toNat)
 have hEs:=kB (f:=f.val) hr
 have El:(slS f.val (nuQ ps j.toNat)).length<=200:=by
  have h1:=gL hr.1
  have h2:=kD hr.1
  have h3:=hr.1
  rw[kE,Fd]at h1
  rw[mL,Fd]at h2
  unfold slS
  split
  · simp;omega
  · split
    · omega
    · rw[Fj];omega
 simp_arith only[ag,ae,ET]
 refine CA (bP (xs:=ps) (enc:=CV) (fun p=>fr (p.getD j.toNat 0)) rfl ?_ (by omega) ?_)
 · intro p mp
   have e:=iW (og hP.2.2.1) hj p mp
   rw[ej]at e
   simp_arith only[ag,ae,Du,ET,e]
 have e1:ps.map (fun p=>fr (p.getD j.toNat 0))=(colQ ps j.toNat).map fr:=by unfold colQ;rw[GM];rfl
 rw[e1]
 simp_arith only[ag,ae,bj.eq,en,aG.eq,esl]
 generalize slS f.val (nuQ ps j.toNat)=E at hEs El hQ ⊢
 generalize colQ ps j.toNat=col at c40 c8 cg hQ ⊢
 refine cD (xs:=E) (enc:=CL) (fun i ρ=>ρ=[some (.d (ptsQ ps)),some (.d (.int j)),some (.d (.str (b4 f))),some (.d (.list (col.map fr))),some (.ml ((E.take i).map (Cy col))),none,none,none]) rfl rfl ?_ ?_
 · rintro i hi ρ rfl K hK
   have hs:=vN (hEs _ (Ge hi))
   have fin:∀ρ,fo [5,6,7] ρ=[some (.d (ptsQ ps)),some (.d (.int j)),some (.d (.str (b4 f))),some (.d (.list (col.map fr))),some (.ml ((E.take i).map (Cy col)++[Cy col E[i]])),none,none,none]->K (.nx ρ):=fun ρ e=>hK _ (b_ (by rw[e,Fz hi,FY];rfl))
   generalize E[i]=s at hs fin ⊢
   have tz:(E.take i).length<sizeLine:=by rw[Gc];omega
   generalize E.take i=T at tz fin ⊢
   simp_arith only[ag,ae]
   refine cD (xs:=[true,false]) (enc:=fun b=>Fm (B0 b)) (fun m ρ=>ρ=[some (.d (ptsQ ps)),some (.d (.int j)),some (.d (.str (b4 f))),some (.d (.list (col.map fr))),some (.ml (T.map (Cy col))),some (.d (CL s)),some (.ml (([true,false].take m).map fun b=>Fm (C9 (Dh (BZ b) col s):Nat))),none]) rfl rfl ?_ ?_
   · rintro m hm ρ rfl K2 hK2
     have hm2:m<2:=hm
     have fin2:∀ρ,fo [7] ρ=[some (.d (ptsQ ps)),some (.d (.int j)),some (.d (.str (b4 f))),some (.d (.list (col.map fr))),some (.ml (T.map (Cy col))),some (.d (CL s)),some (.ml (([true,false].take m).map (fun b=>Fm (C9 (Dh (BZ b) col s):Nat))++[Fm (C9 (Dh (BZ [true,false][m]) col s):Nat)])),none]->K2 (.nx ρ):=fun ρ e=>hK2 _ (b_ (by rw[e,Fz hm,FY];rfl))
     have ul:([true,false].take m).length<sizeLine:=by rw[Gc];show min m 2<_;omega
     generalize [true,false][m]=b at fin2 ⊢
     generalize [true,false].take m=U at ul fin2 ⊢
     have gn : -(2^62)<=((col.length:Nat):Int)/\((col.length:Nat):Int)<2^62:=by omega
     simp_arith only[ag,ae]
     refine uE (fun k=>if Di s (BZ b) (col.getD k 0)=true then some (Fm ((1:Int)*2^k))else none) ?_ (by omega) ?_
     · intro k hk
       have e:=iZ (xs:=col) 0 (show(0:Int)<=0+(k:Int) by omega) (by omega)
       rw[show(0+(k:Int)).toNat=k by omega]at e
       have x1:CT 2000 (col.getD k 0):=((cg _ (getD_mem hk)).1).mono (by decide)
       have cp:rL 1 (0+(k:Int)):=⟨by omega,by omega,by decide⟩
       have tk:(0+(k:Int)).toNat=k:=by omega
       have e2:atI (col.map fr) (0+(k:Int))=some (fr (col.getD k 0)):=by rw[ck,e];rfl
       simp_arith only[ag,ae,Du,ET,e2,bX.eq,cp,tk]
       split<;>rfl
     · have io:∀ns:List Int,ue (.list (ns.map .int))=some ns:=fun ns=>xV.mpr rfl
       rw[uc (fun k=>Di s (BZ b) (col.getD k 0))]
       have ms:=tR (fun k=>Di s (BZ b) (col.getD k 0)) col.length
       rw[nH 0 col (fun x=>Di s (BZ b) x)]at ms
       simp_arith only[ag,ae,xg,io]
       rw[ms]
       exact fin2 _ rfl
   · rintro ρ rfl
     simp_arith only[ag,ae,aM.eq]
     exact fin _ rfl
 · rintro ρ rfl
   rw[Fv (Fa _)]
   simp_arith only[ag,ae]
   exact av hQ
noncomputable def bm:List W->(EW->Prop)->Prop:=fun ws Q=>∃(m:Nat),ws=[.d (.int (m:Int))]/\((m<256))/\Q (.int (pcF 8 m:Nat))
theorem bm.mono:∀ws (Q Q':EW->Prop),(∀d,Q d->Q' d)->bm ws Q->bm ws Q':=fun _ _ _ h_=>Fi fun _=>E6 (E6 (h_ _))
theorem bm.len:∀ws (Q:EW->Prop),bm ws Q->ws.length=1:=fun _ _ h_=>by obtain⟨_,e_,_⟩:=h_;subst e_;rfl
theorem bm.eq(m:Nat)(hm:m<256):bm [.d (.int (m:Int))]=VL.ret (.int (pcF 8 m:Nat):EW):=by
 refine ah fun Q=>⟨?_,fun q_=>⟨m,rfl,hm,q_⟩⟩
 rintro⟨m',e_,_,q_⟩
 simp_arith only[cF,bE,bG,aH,aJ,bM,db,eW,fP,eV,fE,eR,fB,and_assoc,Int.ofNat_inj]at e_
 obtain rfl:=e_
 exact q_
theorem jb:FnScope ["_law_bits", "_law_many"] ["_law_bits"] (defScope (Ch 50)):=⟨rfl,rfl,rfl,by decide +kernel,rfl,by decide +kernel,by decide +kernel⟩
theorem d__law_ones(Fn:FnIn K mg "_law_ones" (Ch 50) ["_law_bits"])(Z:Bz mg)    : Dfn P w K mg base rl "_law_ones" ["_law_bits"] 1 bm:=by
 have sc:=jb
 refine Dfn.of Fn sc (bm.mono) (bm.len) (fun cdv A outer s H E hr=>(af (am 1 sc.nd ac)
  (af (fq [] FU (az lD ll (aw _) (vn 0) ac) (af (am 0 sc.nd (v_band (vn 0) (v_sub (vn 0) ac)))
  (aj (am 1 sc.nd (v_add (vn 1) ac)))))
  (aj (au (vn 1)))))) ?_
 rintro ws Q ⟨m,rfl,hm,hQ⟩
 refine ax ?_
 simp_arith only[ag,ae]
 refine hU (σ:=Nat×Nat) (fun s=>[some (.d (.int (s.1:Int))),some (.d (.int (s.2:Int)))]) (fun s=>decide (0<(s.1:Int))) (fun s=>(s.1 &&& (s.1-1),s.2+1)) (fun s=>s.1) (fun s=>s.1<256/\s.2+pcF 8 s.1=pcF 8 m) (m,0) rfl ⟨hm,by simp⟩ ?_ ?_ ?_
 · intro s _
   simp_arith only[ae]
 · rintro s ⟨h1,h2⟩ c
   have hc:0<(s.1:Int):=by simpa using c
   obtain⟨p1,p2⟩:=tH ⟨s.1,h1⟩ (by show s.1≠0;omega)
   have p1:s.1 &&& (s.1-1)<s.1:=p1
   have p2:pcF 8 (s.1 &&& (s.1-1))+1=pcF 8 s.1:=p2
   have e:IZ (s.1:Int) ((s.1:Int)-1)=((s.1 &&& (s.1-1):Nat):Int):=by rw[show((s.1:Int)-1)=((s.1-1:Nat):Int) by omega];exact lg _ _
   refine⟨⟨by dsimp only;omega,by dsimp only;omega⟩,p1,_,?_,rfl⟩
   simp_arith only[ag,ae,e]
   rfl
 · rintro s ⟨h1,h2⟩ c
   have hc:¬0<(s.1:Int):=by simpa using c
   have hc:s.1=0:=by omega
   have:pcF 8 0=0:=by decide
   have e:s.2=pcF 8 m:=by rw[hc]at h2;omega
   simp_arith only[ag,ae,e]
   exact av hQ
noncomputable def tpS(ss:List Sd):Int:=ss.foldl (fun t s=>t*(Ct s).num) 1
noncomputable def btS(ss:List Sd):Int:=ss.foldl (fun t s=>t*((Ct s).den:Int)) 1
theorem vB(ss:List Sd)(s:Sd):tpS (ss++[s])=tpS ss*(Ct s).num:=by unfold tpS;rw[G9];rfl
theorem xJ(ss:List Sd)(s:Sd):btS (ss++[s])=btS ss*((Ct s).den:Int):=by unfold btS;rw[G9];rfl
theorem xH(q:Rat):((q.den:Int):Rat)≠0:=fun e=>by
 have z:(q.den:Int)=0:=by exact_mod_cast e
 have:=q.den_pos
 omega
theorem wU(q:Rat):(q.num:Rat)=q*((q.den:Int):Rat):=by have:=m8 q;have:=xH q;unfold qd at *;grind
noncomputable def zD(k:Nat)(ss:List Sd):Prop:=0<btS ss/\(tpS ss:Rat)=im ss*(btS ss:Rat)/\(tpS ss).natAbs<2^k/\(btS ss).natAbs<2^k
theorem pD:∀(n:Nat)(ss:List Sd),ss.length=n->(∀s∈ss,s.Sm)->zD (1+190*n) ss
 | 0,ss,h,_=>by
   cases J0.mp h
   exact⟨by decide,show((1:Int):Rat)=1*((1:Int):Rat) by decide +kernel,by decide,by decide⟩
 | n+1,ss,h,hs=>by
   obtain⟨b,s,rfl⟩:=mJ h
   obtain⟨h1,h2,h3,h4⟩:=pD n b (by simpa using h) fun s ms=>hs s (HC _ ms)
   have z:=kz (hs s (Fu _ Ff))
   unfold zD
   rw[vB,xJ,i9]
   refine⟨Lv h1 (by have:=(Ct s).den_pos;omega),?_,?_,?_⟩
   · rw[G4,G4,h2,wU (Ct s)]
     grind
   · rw[Hb]
     exact E8 (bN h3 z.1) (Ft (by decide) (by omega))
   · rw[Hb,Gj]
     exact E8 (bN h4 z.2) (Ft (by decide) (by omega))
theorem zD.big(h:zD (1+190*n) ss)(h4:n<=4):EO (tpS ss)/\EO (btS ss)/\(tpS ss).natAbs<2^761/\(btS ss).natAbs<2^761:=by
 have a:=E8 h.2.2.1 (Ft (by decide) (show 1+190*n<=761 by omega):2^(1+190*n)<=2^761)
 have b:=E8 h.2.2.2 (Ft (by decide) (show 1+190*n<=761 by omega):2^(1+190*n)<=2^761)
 exact⟨E8 a (Ft (by decide) (by decide)),E8 b (Ft (by decide) (by decide)),a,b⟩
noncomputable def mkS(w:Str)(ps:List (List Rat))(ss:List Sd):Nat:=C9 (ps.map fun p=>Dq p ss w)
theorem w6{w:Str}{s:Sd}(hp:∀p∈ps,i<p.length)(hl:ss.length=i):mkS w ps ss &&& C9 (Dh w (colQ ps i) s)=mkS w ps (ss++[s]):=by
 unfold mkS Dh colQ
 rw[GM,tS ps (fun p=>Dq p ss w)]
 congr 1
 exact Ht fun p mp=>(nQ hl (hp p mp)).symm
theorem xa{w:Str}(h:ps.length<=8):mkS w ps ss<256:=by
 have:=q0 (ps.map fun p=>Dq p ss w)
 rw[Fd]at this
 exact E8 this (Ft (by decide) h:2^ps.length<=2^8)
theorem w_{w:Str}(h:ps.length<=8):pcF 8 (mkS w ps ss)=cntN ps ss w:=by
 unfold mkS
 rw[qX 8 _ (by rw[Fd];exact h),List.filter_map,Fd]
 rfl
theorem zb(w:Str)(ps:List (List Rat)):((mkS w ps []:Nat):Int)=1*2^ps.length-1:=by
 have e:ps.map (fun p=>Dq p [] w)=FQ ps.length true:=by
  refine List.eq_replicate_iff.mpr ⟨by simp,fun b mb=>?_⟩
  obtain⟨p,_,rfl⟩:=Gn.mp mb
  simp[Dq]
 have:=tT ps.length
 unfold mkS
 rw[e]
 have h:((C9 (FQ ps.length true)+1:Nat):Int)=((2^ps.length:Nat):Int):=by rw[this]
 push_cast at h
 omega
noncomputable def CN(ps:List (List Rat))(ss:List Sd):EW:=.tuple [gl ss,.tuple [.int (tpS ss),.int (btS ss)],.int (mkS "shut" ps ss:Nat),.int (mkS "open" ps ss:Nat)]
abbrev Ez:=Str×List Sd×Int×Int
noncomputable def De(t:Ez):EW:=.tuple [.str t.1,gl t.2.1,.int t.2.2.1,.int t.2.2.2]
noncomputable def Da(ps:List (List Rat))(ss:List Sd):List Ez:=[("over", ss,(cntN ps ss "shut" : Int)*btS ss-(ps.length:Int)*tpS ss,(ps.length:Int)*btS ss),("lack", ss,(ps.length:Int)*tpS ss-(cntN ps ss "open" : Int)*btS ss,(ps.length:Int)*btS ss)]
noncomputable def bp:List W->(EW->Prop)->Prop:=fun ws Q=>∃(ps:List (List Rat))(f:Fin 3),ws=[.d (ptsQ ps),.d (.str (b4 f))]/\((DV f.val ps))/\Q (.list (((chP (rowsS f.val ps)).flatMap (Da ps)).map De))
theorem bp.mono:∀ws (Q Q':EW->Prop),(∀d,Q d->Q' d)->bp ws Q->bp ws Q':=fun _ _ _ h_=>Fi fun _=>Fi fun _=>E6 (E6 (h_ _))
theorem bp.len:∀ws (Q:EW->Prop),bp ws Q->ws.length=2:=fun _ _ h_=>by obtain⟨_,_,e_,_⟩:=h_;subst e_;rfl
theorem bp.eq(ps:List (List Rat))(f:Fin 3)(hw:DV f.val ps):bp [.d (ptsQ ps),.d (.str (b4 f))]=VL.ret (.list (((chP (rowsS f.val ps)).flatMap (Da ps)).map De):EW):=by
 refine ah fun Q=>⟨?_,fun q_=>⟨ps,f,rfl,hw,q_⟩⟩
 rintro⟨ps',f',e_,_,q_⟩
 simp_arith only[cF,bE,bG,aH,aJ,bM,db,eW,fP,eV,fE,eR,fB,and_assoc]at e_
 obtain⟨rfl,rfl⟩:=e_
 exact q_
theorem gu:FnScope ["_law_points_here", "_law_family", "_law_every", "_law_rows", "_law_side", "_law_some", "_law_longer", "_law_box", "_law_size", "_law_shut", "_law_bare", "_law_one", "_law_more", "_law_a", "_law_b", "_law_found", "_law_bottom"] ["_law_points_here", "_law_family"] (defScope (Ch 51)):=⟨rfl,rfl,rfl,by decide +kernel,rfl,by decide +kernel,by decide +kernel⟩
theorem d__law_misses(Fn:FnIn K mg "_law_misses" (Ch 51) ["_law_points_here", "_law_family"])(Z:Bz mg)(d__law_side_rows:∀rl,Dfn P w K mg base rl "_law_side_rows" ["_law_points_here", "_law_side", "_law_family"] 3 aN)(d__law_ones:∀rl,Dfn P w K mg base rl "_law_ones" ["_law_bits"] 1 bm)   : Dfn P w K mg base rl "_law_misses" ["_law_points_here", "_law_family"] 4 bp:=by
 have sc:=gu
 refine Dfn.of Fn sc (bp.mono) (bp.len) (fun cdv A outer s H E hr=>(af (am 2 sc.nd (v_sub (v_shl ac (cB Z.len_ (aa (vn 0) ab))) ac))
  (af (am 3 sc.nd (ce (aa (bu (aa (bu ab) (aa (bu (aa ac (aa ac ab))) (aa (vn 2) (aa (vn 2) ab))))) ab)))
  (af (bF [4,5,6,7,8,9,10,11,12,13,14] FU rfl (bR Z.range_ (aa (cB Z.len_ (aa (aV (vn 0) ac) ab)) ab)) (ai 4 sc.nd) (af (am 5 sc.nd (al (d__law_side_rows _) (hr.mono (by decide)) (aa (vn 0) (aa (vn 4) (aa (vn 1) ab)))))
  (af (eG 6 sc.nd (ce ab))
  (af (bF [7,8,9,10,11,12,13,14] FU rfl (aA (vn 3)) (dD (n:=4) rfl (ay (ai 7 sc.nd) (ay (ai 8 sc.nd) (ay (ai 9 sc.nd) (ay (ai 10 sc.nd) cH))))) (aj (bF [11,12,13,14] FU rfl (aA (vn 5)) (dD (n:=4) rfl (ay (ai 11 sc.nd) (ay (ai 12 sc.nd) (ay (ai 13 sc.nd) (ay (ai 14 sc.nd) cH))))) (aj (eI 6 (aa (bu (aa (mh (vn 7) (bu (aa (vn 11) ab))) (aa (bu (aa (v_mul (aV (vn 8) ac) (aV (vn 12) ac)) (aa (v_mul (aV (vn 8) ac) (aV (vn 12) ac)) ab))) (aa (v_band (vn 9) (vn 13)) (aa (v_band (vn 10) (vn 14)) ab))))) ab))))))
  (aj (gA 6 (am 3 sc.nd (vn 6))))))))
  (af (eG 15 sc.nd (ce ab))
  (af (bF [7,8,9,10,16] FU rfl (aA (vn 3)) (dD (n:=4) rfl (ay (ai 7 sc.nd) (ay (ai 8 sc.nd) (ay (ai 9 sc.nd) (ay (ai 10 sc.nd) cH))))) (af (am 16 sc.nd (v_mul (cB Z.len_ (aa (vn 0) ab)) (aV (vn 8) ac)))
  (af (eI 15 (aa (bu (aa aB (aa (vn 7) (aa (v_sub (v_mul (al (d__law_ones _) (hr.mono (by decide)) (aa (vn 9) ab)) (aV (vn 8) ac)) (v_mul (cB Z.len_ (aa (vn 0) ab)) (aV (vn 8) ac))) (aa (vn 16) ab))))) ab))
  (aj (eI 15 (aa (bu (aa aB (aa (vn 7) (aa (v_sub (v_mul (cB Z.len_ (aa (vn 0) ab)) (aV (vn 8) ac)) (v_mul (al (d__law_ones _) (hr.mono (by decide)) (aa (vn 10) ab)) (aV (vn 8) ac))) (aa (vn 16) ab))))) ab))))))
  (aj (gA 15 (au (vn 15)))))))))) ?_
 rintro ws Q ⟨ps,f,rfl,hw,hQ⟩
 refine ax ?_
 have sz:=FG
 have hN:=hw.1
 have hP:=hN.1
 have h1:=hP.1
 have h8:=hw.2.1
 have hpl:∀p∈ps,p.length=dimP ps:=fun p mp=>(hP.2.2.1 p mp).1
 have d4:=hP.2.2.2.2
 have rl:=du f.val ps
 have et0:atI ps 0=some (ps.headD []):=by
  cases ps with
  | nil=>simp at h1
  | cons p l=>exact cW (j:=0) rfl
 have ed:(ps.headD []).length=dimP ps:=rfl
 have gd : -(2^62)<=((dimP ps:Nat):Int)/\((dimP ps:Nat):Int)<2^62:=by omega
 have cp:rL 1 ((ps.length:Nat):Int):=⟨by omega,by omega,by decide⟩
 have ev:∀w:Str,(1:Int)*2^ps.length-1=((mkS w ps []:Nat):Int):=fun w=>(zb w ps).symm
 have tn:((ps.length:Nat):Int).toNat=ps.length:=GO _
 simp_arith only[ag,ae,ET,et0,ed,cp,tn]
 refine iI (fun i ρ=>ρ=[some (.d (ptsQ ps)),some (.d (.str (b4 f))),some (.d (.int ((1:Int)*2^ps.length-1))),some (.d (.list ((chP ((rowsS f.val ps).take i)).map (CN ps)))),none,none,none,none,none,none,none,none,none,none,none,none,none]) ?_ ?_ ?_
 · have r0:CN ps [] = .tuple [.tuple [],.tuple [.int 1,.int 1],.int ((1:Int)*2^ps.length-1),.int ((1:Int)*2^ps.length-1)]:=by unfold CN;rw[<- ev,<- ev];rfl
   have c0:chP ((rowsS f.val ps).take 0)=[[]]:=rfl
   rw[c0,List.map_singleton,r0]
 · rintro i hi ρ rfl K hK
   have hi1:i<(rowsS f.val ps).length:=by omega
   have i0:0<=0+(i:Int):=by omega
   have il:0+(i:Int)<dimP ps:=by omega
   have et:(0+(i:Int)).toNat=i:=by omega
   have tk:=oM hi1
   rw[iC hi1]at tk
   have rl1:=hw.len (show i<=dimP ps by omega)
   have rl2:=hw.len (show i+1<=dimP ps by omega)
   rw[tk]at rl2
   have hsm:=hw.sm (show i<=dimP ps by omega)
   have hEs:=kB (f:=f.val) (hN.2 i hi)
   have hpi:∀p∈ps,i<p.length:=fun p mp=>by rw[hpl p mp];exact hi
   simp_arith only[ag,ae,ET,aN.eq,et]
   generalize slS f.val (nuQ ps i)=E at tk rl2 hEs ⊢
   generalize chP ((rowsS f.val ps).take i)=C at tk rl1 rl2 hsm ⊢
   refine cD (xs:=C) (enc:=CN ps) (fun k ρ=>ρ=[some (.d (ptsQ ps)),some (.d (.str (b4 f))),some (.d (.int ((1:Int)*2^ps.length-1))),some (.d (.list (C.map (CN ps)))),some (.d (.int (0+(i:Int)))),some (.d (.list (E.map (Cy (colQ ps i))))),some (.ml (((C.take k).flatMap fun ss=>E.map fun s=>ss++[s]).map (CN ps))),none,none,none,none,none,none,none,none,none,none]) rfl rfl ?_ ?_
   · rintro k hk ρ rfl K2 hK2
     obtain⟨sl,ssm⟩:=hsm _ (Ge hk)
     have fin:∀ρ,fo [7,8,9,10,11,12,13,14] ρ=[some (.d (ptsQ ps)),some (.d (.str (b4 f))),some (.d (.int ((1:Int)*2^ps.length-1))),some (.d (.list (C.map (CN ps)))),some (.d (.int (0+(i:Int)))),some (.d (.list (E.map (Cy (colQ ps i))))),some (.ml (((C.take k).flatMap fun ss=>E.map fun s=>ss++[s]).map (CN ps)++(E.map fun s=>C[k]++[s]).map (CN ps))),none,none,none,none,none,none,none,none,none,none]->K2 (.nx ρ):=fun ρ e=>hK2 _ (b_ (by rw[e,Fz hk,G_,Hv,FY]))
     have hfl:∀l:List (List Sd),(l.flatMap fun b=>E.map fun t=>b++[t]).length=l.length*E.length:=fun l=>by
      induction l with
      | nil=>simp
      | cons x l ih=>rw[Gp,Fj,Fd,ih,FJ,Jw];omega
     have t4:((C.take k).flatMap fun b=>E.map fun t=>b++[t]).length+E.length<=3000:=by
      rw[hfl]at rl2
      rw[hfl,Gc,Jt (by omega)]
      have:(k+1)*E.length<=C.length*E.length:=Ky _ hk
      rw[Jw]at this
      omega
     generalize C[k]=ss at sl ssm fin ⊢
     generalize (C.take k).flatMap (fun ss=>E.map fun s=>ss++[s])=T at t4 fin ⊢
     have tb:=pD i ss sl ssm
     obtain⟨b1,b2,_,_⟩:=tb.big (by omega)
     have sl1:(ss.map CL).length+1<=sizeLine:=by rw[Fd];omega
     have tbx:tupD (gl ss)=some (ss.map CL):=rfl
     simp_arith only[ag,ae,CN]
     refine AZ ?_
     refine cD (xs:=E) (enc:=Cy (colQ ps i)) (fun m ρ=>ρ=[some (.d (ptsQ ps)),some (.d (.str (b4 f))),some (.d (.int ((1:Int)*2^ps.length-1))),some (.d (.list (C.map (CN ps)))),some (.d (.int (0+(i:Int)))),some (.d (.list (E.map (Cy (colQ ps i))))),some (.ml (T.map (CN ps)++((E.take m).map fun s=>ss++[s]).map (CN ps))),some (.d (gl ss)),some (.d (.tuple [.int (tpS ss),.int (btS ss)])),some (.d (.int (mkS "shut" ps ss:Nat))),some (.d (.int (mkS "open" ps ss:Nat))),none,none,none,none,none,none]) rfl (by simp) ?_ ?_
     · rintro m hm ρ rfl K3 hK3
       have es:=hEs _ (Ge hm)
       have fin2:∀ρ,fo [11,12,13,14] ρ=[some (.d (ptsQ ps)),some (.d (.str (b4 f))),some (.d (.int ((1:Int)*2^ps.length-1))),some (.d (.list (C.map (CN ps)))),some (.d (.int (0+(i:Int)))),some (.d (.list (E.map (Cy (colQ ps i))))),some (.ml (T.map (CN ps)++((E.take m).map fun s=>ss++[s]).map (CN ps)++[CN ps (ss++[E[m]])])),some (.d (gl ss)),some (.d (.tuple [.int (tpS ss),.int (btS ss)])),some (.d (.int (mkS "shut" ps ss:Nat))),some (.d (.int (mkS "open" ps ss:Nat))),none,none,none,none,none,none]->K3 (.nx ρ):=fun ρ e=>hK3 _ (b_ (by rw[e,Fz hm,FY,FY,<- Il];rfl))
       have m1:(T.map (CN ps)++((E.take m).map fun s=>ss++[s]).map (CN ps)).length<sizeLine:=by simp;omega
       generalize E[m]=s at es fin2 ⊢
       generalize T.map (CN ps)++((E.take m).map fun s=>ss++[s]).map (CN ps)=U at m1 fin2 ⊢
       have z:=(kz es).mono (show 190<=2000 by decide)
       have c1:aX (tpS ss) (Ct s).num:=.bb b1 z.bn
       have c2:aX (btS ss) ((Ct s).den:Int):=.bb b2 z.bd
       have n1:∀w:Str,IZ ((mkS w ps ss:Nat):Int) ((C9 (Dh w (colQ ps i) s):Nat):Int)=((mkS w ps (ss++[s]):Nat):Int):=fun w=>by rw[lg,w6 hpi sl]
       have eD:Gf [.tuple (ss.map CL++[CL s]),.tuple [.int (tpS ss*(Ct s).num),.int (btS ss*((Ct s).den:Int))],.int (mkS "shut" ps (ss++[s]):Nat),.int (mkS "open" ps (ss++[s]):Nat)]=CN ps (ss++[s]):=by unfold CN gl;rw[vB,xJ,FY];rfl
       simp_arith only[ag,ae,ET,Cy,tbx,n1,eD]
       exact fin2 _ rfl
     · rintro ρ rfl
       rw[Fv (Fa _)]
       exact fin _ rfl
   · rintro ρ rfl
     rw[Fv (Fa _)]
     simp_arith only[ag,ae]
     exact hK _ (b_ (by rw[tk];rfl))
 · rintro ρ rfl
   have len:=hw.len (Fa _)
   have hsm:=hw.sm (Fa _)
   rw[Fv (by omega)]at len hsm ⊢
   generalize chP (rowsS f.val ps)=C at len hsm hQ ⊢
   simp_arith only[ag,ae]
   refine cD (xs:=C) (enc:=CN ps) (fun i ρ=>ρ=[some (.d (ptsQ ps)),some (.d (.str (b4 f))),some (.d (.int ((1:Int)*2^ps.length-1))),some (.d (.list (C.map (CN ps)))),none,none,none,none,none,none,none,none,none,none,none,some (.ml (((C.take i).flatMap (Da ps)).map De)),none]) rfl rfl ?_ ?_
   · rintro i hi ρ rfl K hK
     obtain⟨sl,ssm⟩:=hsm _ (Ge hi)
     have tl:∀l:List (List Sd),(l.flatMap (Da ps)).length=2*l.length:=fun l=>by
      induction l with
      | nil=>rfl
      | cons x l ih=>rw[Gp,Fj,ih,FJ];show 2+_=_;omega
     have tz:((C.take i).flatMap (Da ps)).length+1<sizeLine:=by rw[tl,Gc];omega
     have tz0:((C.take i).flatMap (Da ps)).length<sizeLine:=by omega
     have tz1:((C.take i).flatMap (Da ps)).length+1<=sizeLine:=by omega
     have tk:(C.take (i+1)).flatMap (Da ps)=(C.take i).flatMap (Da ps)++Da ps C[i]:=by rw[Fz hi,G_];simp
     generalize C[i]=ss at sl ssm tk ⊢
     generalize (C.take i).flatMap (Da ps)=T at tz tz0 tz1 tk ⊢
     have tb:=pD _ ss sl ssm
     obtain⟨b1,b2,_,_⟩:=tb.big (by omega)
     have p1:=fun w:Str=>xa (w:=w) (ps:=ps) (ss:=ss) h8
     have p2:=fun w:Str=>w_ (w:=w) (ps:=ps) (ss:=ss) h8
     have n8:∀w:Str,cntN ps ss w<=8:=fun w=>FP (HA ..) h8
     have o1:bm [.d (.int ((mkS "shut" ps ss:Nat):Int))]=VL.ret (.int (cntN ps ss "shut" : Nat):EW):=by rw[bm.eq _ (p1 _),p2]
     have o2:bm [.d (.int ((mkS "open" ps ss:Nat):Int))]=VL.ret (.int (cntN ps ss "open" : Nat):EW):=by rw[bm.eq _ (p1 _),p2]
     have c1:∀x:Int,aX ((cntN ps ss "shut" : Nat):Int) x:=fun x=>.lt (by have:=n8 "shut"; omega)
     have c2:∀x:Int,aX ((cntN ps ss "open" : Nat):Int) x:=fun x=>.lt (by have:=n8 "open"; omega)
     have c3:∀x:Int,aX ((ps.length:Nat):Int) x:=fun x=>.lt (by omega)
     simp_arith only[ag,ae,ET,CN,o1,o2,c1,c2,c3]
     refine bU (by rw[Fj,Fd];exact tz) (hK _ (b_ ?_))
     rw[tk]
     simp[fo,FY,Da,De]
   · rintro ρ rfl
     rw[Fv (Fa _)]
     simp_arith only[ag,ae]
     exact av hQ
theorem eL{d:Int}(h:0<d):(d:Rat)≠0:=fun e=>by
 have z:d=0:=by exact_mod_cast e
 omega
theorem m_{x b:Int}(hb:0<b)(h:(x:Rat)=q*(b:Rat)):qd x b=q:=by
 have:=eL hb
 unfold qd
 grind
theorem ng{a b c d:Int}(hb:0<b)(hd:0<d):a*d<c*b↔qd a b<qd c d:=by
 have e1:(a:Rat)=qd a b*(b:Rat):=by have:=eL hb;unfold qd;grind
 have e2:(c:Rat)=qd c d*(d:Rat):=by have:=eL hd;unfold qd;grind
 have z1:(0:Rat)<(b:Rat):=by exact_mod_cast hb
 have z2:(0:Rat)<(d:Rat):=by exact_mod_cast hd
 have z3:(0:Rat)<(b:Rat)*(d:Rat):=Rat.mul_pos z1 z2
 rw[<- Rat.intCast_lt_intCast,G4,G4,e1,e2]
 generalize qd a b=x
 generalize qd c d=y
 generalize (b:Rat)=u at *
 generalize (d:Rat)=v at *
 constructor
 · intro h
   by_cases c:x<y
   · exact c
   · have:=Rat.mul_nonneg (show 0<=x-y by grind) (GZ z3)
     grind
 · intro h
   have:=Rat.mul_pos (show 0<y-x by grind) z3
   grind
noncomputable def Ex(t:Ez)(u:DZ):Prop:=0<t.2.2.2/\qd t.2.2.1 t.2.2.2=u.1/\t.1=u.2.1/\t.2.1=u.2.2/\t.2.2.1.natAbs<2^800/\t.2.2.2.natAbs<2^800
noncomputable def DF(ts:List Ez)(p:Int×Int):Int×Int:=ts.foldl (fun b t=>if b.1*t.2.2.2<t.2.2.1*b.2 then t.2.2 else b) p
theorem ui:∀(ts:List Ez)(us:List DZ),Gy Ex ts us->∀(p:Int×Int)(t0:DZ),0<p.2->qd p.1 p.2=t0.1->0<(DF ts p).2/\qd (DF ts p).1 (DF ts p).2=(DL us t0).1
 | [],[],_,p,t0,h,e=>⟨h,e⟩
 | t::ts,u::us,h,p,t0,hp,e=>by
   cases h with
   | cons r h =>
     obtain⟨r1,r2,_⟩:=r
     have i1:=ng (a:=p.1) (c:=t.2.2.1) hp r1
     have eg:DF (t::ts) p=DF ts (if p.1*t.2.2.2<t.2.2.1*p.2 then t.2.2 else p):=rfl
     have eu:DL (u::us) t0=DL us (if t0.1<u.1 then u else t0):=rfl
     rw[eg,eu]
     rw[e,r2]at i1
     by_cases c:t0.1<u.1
     · rw[if_pos (i1.mpr c),if_pos c]
       exact ui ts us h t.2.2 u r1 r2
     · rw[if_neg fun z=>c (i1.mp z),if_neg c]
       exact ui ts us h p t0 hp e
 | [],_::_,h,_,_,_,_=>by cases h
 | _::_,[],h,_,_,_,_=>by cases h
theorem tU(h1:1<=ps.length)(h8:ps.length<=8)(sl:ss.length=n)(n4:n<=4)(ssm:∀s∈ss,s.Sm):Gy Ex (Da ps ss) (C_ ps ss):=by
 have tb:=pD n ss sl ssm
 obtain⟨_,_,B1,B2⟩:=tb.big n4
 obtain⟨b0,et,_,_⟩:=tb
 have n8:∀w:Str,cntN ps ss w<=8:=fun w=>FP (HA ..) h8
 have hN:(0:Int)<(ps.length:Int):=by omega
 have p0:0<(ps.length:Int)*btS ss:=Lv hN b0
 have rn:=eL hN
 have rb:=eL b0
 have m1:∀(c:Nat)(x:Int),c<=8->x.natAbs<2^761->((c:Int)*x).natAbs<2^770:=fun c x hc hx=>by
  rw[Hb,Gj]
  have:c*x.natAbs<=8*x.natAbs:=Ky _ hc
  omega
 have u1:=m1 ps.length (btS ss) h8 B2
 have u2:=m1 ps.length (tpS ss) h8 B1
 have u3:=m1 (cntN ps ss "shut") (btS ss) (n8 _) B2
 have u4:=m1 (cntN ps ss "open") (btS ss) (n8 _) B2
 have q:∀c:Nat,qd (c:Nat) ps.length*(((ps.length:Nat):Int):Rat)=((c:Int):Rat):=fun c=>by unfold qd;grind
 have q1:=q (cntN ps ss "shut")
 have q2:=q (cntN ps ss "open")
 refine .cons ⟨p0,?_,rfl,rfl,?_,?_⟩ (.cons ⟨p0,?_,rfl,rfl,?_,?_⟩ .nil)
 · refine m_ p0 ?_
   show(((cntN ps ss "shut" : Int)*btS ss-(ps.length:Int)*tpS ss:Int):Rat)=CY ps ss*(((ps.length:Int)*btS ss:Int):Rat)
   unfold CY
   rw[Rat.intCast_sub,G4,G4,G4,et,<- q1]
   grind
 · show((cntN ps ss "shut" : Int)*btS ss-(ps.length:Int)*tpS ss).natAbs<2^800
   omega
 · show((ps.length:Int)*btS ss).natAbs<2^800
   omega
 · refine m_ p0 ?_
   show(((ps.length:Int)*tpS ss-(cntN ps ss "open" : Int)*btS ss:Int):Rat)=Ds ps ss*(((ps.length:Int)*btS ss:Int):Rat)
   unfold Ds
   rw[Rat.intCast_sub,G4,G4,G4,et,<- q2]
   grind
 · show((ps.length:Int)*tpS ss-(cntN ps ss "open" : Int)*btS ss).natAbs<2^800
   omega
 · show((ps.length:Int)*btS ss).natAbs<2^800
   omega
theorem kI{α β:Type}{R:α->β->Prop}:∀{a:List α}{b:List β}{c:List α}{d:List β},Gy R a b->Gy R c d->Gy R (a++c) (b++d)
 | [],[],_,_,.nil,h=>h
 | _::_,_::_,_,_,.cons r h,g=>.cons r (kI h g)
theorem tV(hw:DV f ps):Gy Ex ((chP (rowsS f ps)).flatMap (Da ps)) (msL f ps):=by
 have hsm:=hw.sm (Fa _)
 have el:=du f ps
 rw[Fv (by omega)]at hsm
 unfold msL
 generalize chP (rowsS f ps)=C at hsm
 induction C with
 | nil=>exact .nil
 | cons ss C ih =>
   rw[Gp,Gp]
   obtain⟨sl,sm⟩:=hsm ss Ff
   exact kI (tU hw.1.1.1 hw.2.1 sl hw.1.1.2.2.2.2 sm) (ih fun x mx=>hsm x (E9 _ mx))
theorem rE(x y:Int):decide (DN x y<0)=decide (x<y):=by
 unfold DN
 by_cases h:y<x
 · have:¬x<y:=by omega
   simp[h,this]
 · by_cases h2:x<y<;>simp[h,h2]
theorem xI(x y:Int):(DN x y==0)=decide (x=y):=by
 unfold DN
 rcases Int.lt_trichotomy x y with h|h|h
 · have h1:¬y<x:=by omega
   have h2:¬x=y:=by omega
   simp[h,h1,h2]
 · subst h;simp
 · have h1:¬x<y:=by omega
   have h2:¬x=y:=by omega
   simp[h,h1,h2]
theorem aK.eqI(a b c d:Int)(h1:EO a)(h2:EO b)(h3:EO c)(h4:EO d):aK [.d (.tuple [.int a,.int b]),.d (.tuple [.int c,.int d])]=VL.ret (.int (DN (a*d) (c*b)):EW):=aK.eq (a,b) (c,d) h1 h2 h3 h4
theorem qx(a b c d:EW):VL.cutD [a,b,c,d] (some 2) none=[c,d]:=by
 have h:VL.cutD ([a,b,c,d].map id) (some 2) none=([a,b,c,d].drop (2:Int).toNat).map id:=iV [a,b,c,d] id (by decide)
 rw[KO,KO]at h
 exact h
noncomputable def miL(f:Nat)(ps:List (List Rat)):List Ez:=(chP (rowsS f ps)).flatMap (Da ps)
noncomputable def eqL(ts:List Ez)(g:Int×Int):List EW:=ts.filterMap fun t=>if decide (t.2.2.1*g.2=g.1*t.2.2.2)=true then some (.tuple [.str t.1,gl t.2.1])else none
noncomputable def DG(f:Nat)(ps:List (List Rat)):Int×Int:=DF (miL f ps) ((miL f ps).headD ("", [],0,1)).2.2
theorem zp(hw:DV f ps):∃t ts,miL f ps=t::ts/\(∀t∈miL f ps,EO t.2.2.1/\EO t.2.2.2/\0<t.2.2.2/\t.2.2.2.natAbs<2^8000)/\0<(DG f ps).2/\qd (DG f ps).1 (DG f ps).2=(B3 f ps).1:=by
 have hp:=tV hw
 obtain⟨u,us,e⟩:=nI f ps
 have hb:∀t∈miL f ps,EO t.2.2.1/\EO t.2.2.2/\0<t.2.2.2/\t.2.2.2.natAbs<2^8000:=fun t mt=>by
  have key:∀{ts:List Ez}{us:List DZ},Gy Ex ts us->∀t∈ts,∃u,Ex t u:=fun{ts us} h=>by
   induction ts generalizing us with
   | nil=>intro t mt;cases mt
   | cons x ts ih =>
     cases h with
     | cons r h =>
       intro t mt
       rcases FN.mp mt with rfl|m
       · exact⟨_,r⟩
       · exact ih h t m
  obtain⟨u,h1,_,_,_,h5,h6⟩:=key hp t mt
  exact⟨E8 h5 (Ft (by decide) (by decide)),E8 h6 (Ft (by decide) (by decide)),h1,E8 h6 (Ft (by decide) (by decide))⟩
 have hp':Gy Ex (miL f ps) (msL f ps):=hp
 unfold DG B3
 rw[e]at hp' ⊢
 cases et:miL f ps with
 | nil=>rw[et]at hp';cases hp'
 | cons t ts =>
   rw[et]at hp' hb
   have h0:Ex t u:=by cases hp' with
    | cons r _=>exact r
   have g:=ui (t::ts) (u::us) hp' t.2.2 u h0.1 h0.2.1
   exact⟨t,ts,rfl,hb,g.1,g.2⟩
noncomputable def aT:List W->(EW->Prop)->Prop:=fun ws Q=>∃(ps:List (List Rat))(f:Fin 3),ws=[.d (ptsQ ps),.d (.str (b4 f))]/\((DV f.val ps))/\Q (.tuple [fr (B3 f.val ps).1,.list (eqL (miL f.val ps) (DG f.val ps))])
theorem aT.mono:∀ws (Q Q':EW->Prop),(∀d,Q d->Q' d)->aT ws Q->aT ws Q':=fun _ _ _ h_=>Fi fun _=>Fi fun _=>E6 (E6 (h_ _))
theorem aT.len:∀ws (Q:EW->Prop),aT ws Q->ws.length=2:=fun _ _ h_=>by obtain⟨_,_,e_,_⟩:=h_;subst e_;rfl
theorem aT.eq(ps:List (List Rat))(f:Fin 3)(hw:DV f.val ps):aT [.d (ptsQ ps),.d (.str (b4 f))]=VL.ret (.tuple [fr (B3 f.val ps).1,.list (eqL (miL f.val ps) (DG f.val ps))]:EW):=by
 refine ah fun Q=>⟨?_,fun q_=>⟨ps,f,rfl,hw,q_⟩⟩
 rintro⟨ps',f',e_,_,q_⟩
 simp_arith only[cF,bE,bG,aH,aJ,bM,db,eW,fP,eV,fE,eR,fB,and_assoc]at e_
 obtain⟨rfl,rfl⟩:=e_
 exact q_
theorem eU:FnScope ["_law_points_here", "_law_family", "_law_rows", "_law_most", "_law_row"] ["_law_points_here", "_law_family"] (defScope (Ch 52)):=⟨rfl,rfl,rfl,by decide +kernel,rfl,by decide +kernel,by decide +kernel⟩
theorem d__law_greatest(Fn:FnIn K mg "_law_greatest" (Ch 52) ["_law_points_here", "_law_family"])(Z:Bz mg)(d__law_misses:∀rl,Dfn P w K mg base rl "_law_misses" ["_law_points_here", "_law_family"] 4 bp)(d__law_frac:∀rl,Dfn P w K mg base rl "_law_frac" ["_law_top", "_law_bottom"] 1 bq)(d__law_cmp:∀rl,Dfn P w K mg base rl "_law_cmp" ["_law_one", "_law_other"] 1 aK)   : Dfn P w K mg base rl "_law_greatest" ["_law_points_here", "_law_family"] 5 aT:=by
 have sc:=eU
 refine Dfn.of Fn sc (aT.mono) (aT.len) (fun cdv A outer s H E hr=>(af (am 2 sc.nd (al (d__law_misses _) (hr.mono (by decide)) (aa (vn 0) (aa (vn 1) ab))))
  (af (am 3 sc.nd (lY (aV (vn 2) ac) (d9 ac) d_))
  (af (bF [4] FU rfl (aA (vn 2)) (ai 4 sc.nd) (aj (b8 (az iF hX (aw _) (al (d__law_cmp _) (hr.mono (by decide)) (aa (vn 3) (aa (lY (vn 4) (d9 ac) d_) ab))) ac) (aj (am 3 sc.nd (lY (vn 4) (d9 ac) d_))) aY)))
  (aj (au (bu (aa (al (d__law_frac _) (hr.mono (by decide)) (aa (aV (vn 3) ac) (aa (aV (vn 3) ac) ab))) (aa (bD ["_law_row", "_law_most"] [none,some 3] rfl (aA (vn 2)) (fun _=>(ai 0 (show Gk (["_law_row", "_law_most"]:List Str) by decide +kernel))) (fun _=>dB (az (di hr.units) cq (aw _) (al (d__law_cmp _) (hr.mono (by decide)) (aa (lY (vn 0) (d9 ac) d_) (aa (vn 1) ab))) ac)) (fun _=>(bu (aa (aV (vn 0) ac) (aa (aV (vn 0) ac) ab))))) ab))))))))) ?_
 rintro ws Q ⟨ps,f,rfl,hw,hQ⟩
 refine ax ?_
 have sz:=FG
 have eqi:∀i j:Int,FV (.int i) (.int j)=(i==j):=fun i j=>by simp[FV]
 have em:((chP (rowsS f.val ps)).flatMap (Da ps)).map De=(miL f.val ps).map De:=rfl
 obtain⟨t,ts,e,hb,g0,gq⟩:=zp hw
 have eg:DG f.val ps=DF (miL f.val ps) ((miL f.val ps).headD ("", [],0,1)).2.2:=rfl
 have len:(miL f.val ps).length<=6000:=by
  have:=hw.len (Fa _)
  have el:=du f.val ps
  rw[Fv (by omega)]at this
  have tl:∀l:List (List Sd),(l.flatMap (Da ps)).length=2*l.length:=fun l=>by
   induction l with
   | nil=>rfl
   | cons x l ih=>rw[Gp,Fj,ih,FJ];show 2+_=_;omega
  unfold miL
  rw[tl];omega
 have e0:atI ((miL f.val ps).map De) 0=some (De t):=by rw[e,ck,show(0:Int)=((0:Nat):Int)from rfl,cW (by rfl)];rfl
 rw[<- gq]at hQ
 have td:∀t:Ez,tupD (De t)=some [.str t.1,gl t.2.1,.int t.2.2.1,.int t.2.2.2]:=fun t=>rfl
 have i0:∀t:Ez,itemAt (De t) 0=some (.str t.1):=fun t=>rfl
 have i1:∀t:Ez,itemAt (De t) 1=some (gl t.2.1):=fun t=>rfl
 rw[e,show((t::ts).headD ("", [],0,1)).2.2=t.2.2 from rfl]at eg
 simp_arith only[ag,ae,bp.eq,em,e0,td,qx]
 rw[e]at hb hQ len ⊢
 refine cD (xs:=t::ts) (enc:=De) (fun i ρ=>(∃u∈t::ts,DF ((t::ts).take i) t.2.2=u.2.2)/\ρ=[some (.d (ptsQ ps)),some (.d (.str (b4 f))),some (.d (.list ((t::ts).map De))),some (.d (.tuple [.int (DF ((t::ts).take i) t.2.2).1,.int (DF ((t::ts).take i) t.2.2).2])),none]) rfl ⟨⟨t,Ff,rfl⟩,rfl⟩ ?_ ?_
 · rintro i hi ρ ⟨⟨u,mu,eu⟩,rfl⟩ K hK
   have mi:=Ge hi
   have tk:DF ((t::ts).take (i+1)) t.2.2=if(DF ((t::ts).take i) t.2.2).1*((t::ts)[i]).2.2.2<((t::ts)[i]).2.2.1*(DF ((t::ts).take i) t.2.2).2 then((t::ts)[i]).2.2 else DF ((t::ts).take i) t.2.2:=by
    unfold DF;rw[Fz hi,G9];rfl
   have fin:∀ρ,fo [4] ρ=[some (.d (ptsQ ps)),some (.d (.str (b4 f))),some (.d (.list ((t::ts).map De))),some (.d (.tuple [.int (DF ((t::ts).take (i+1)) t.2.2).1,.int (DF ((t::ts).take (i+1)) t.2.2).2])),none]->(∃u∈t::ts,DF ((t::ts).take (i+1)) t.2.2=u.2.2)->K (.nx ρ):=fun ρ e h=>hK _ (b_ ⟨h,e⟩)
   rw[tk]at fin
   generalize (t::ts)[i]=r at mi fin ⊢
   rw[eu]at fin ⊢
   obtain⟨x1,x2,_⟩:=hb u mu
   obtain⟨y1,y2,_⟩:=hb r mi
   by_cases c:u.2.2.1*r.2.2.2<r.2.2.1*u.2.2.2
   · have d:=decide_eq_true c
     rw[if_pos c]at fin
     simp_arith only[ag,ae,td,qx,aK.eqI,rE,d]
     exact fin _ rfl ⟨r,mi,rfl⟩
   · have d:=decide_eq_false c
     rw[if_neg c]at fin
     simp_arith only[ag,ae,td,qx,aK.eqI,rE,d]
     exact fin _ rfl ⟨u,mu,rfl⟩
 · rintro ρ ⟨⟨u,mu,eu⟩,rfl⟩
   rw[Fv (Fa _)]at eu ⊢
   rw[<- eg]at eu ⊢
   obtain⟨x1,x2,x3,x4⟩:=hb u mu
   rw[eu]at hQ ⊢
   simp_arith only[ag,ae,bq.eq]
   refine gc (xs:=t::ts) (enc:=De) (fun t=>if decide (t.2.2.1*u.2.2.2=u.2.2.1*t.2.2.2)=true then some (.tuple [.str t.1,gl t.2.1])else none) rfl ?_ (by omega) ?_
   · intro r mr
     obtain⟨y1,y2,_⟩:=hb r mr
     simp_arith only[ag,ae,Du,td,i0,i1,qx,aK.eqI,eqi,xI]
     split<;>rfl
   · try simp_arith only[ag,ae]
     exact av hQ
theorem y8{g:Nat}(h:f<=g){n:Int}(h0:0<=n)(h8:n<=8):C8 f n<=C8 g n:=by
 have hn:n=0\/n=1\/n=2\/n=3\/n=4\/n=5\/n=6\/n=7\/n=8:=by omega
 have hi:n+1<=inr n/\0<=inr n:=by rcases hn with rfl|rfl|rfl|rfl|rfl|rfl|rfl|rfl|rfl<;>decide
 unfold C8
 by_cases f0:f=0
 · rw[if_pos f0]
   by_cases g0:g=0
   · rw[if_pos g0];exact Lx _
   · rw[if_neg g0];split<;>omega
 · rw[if_neg f0,if_neg (show ¬g=0 by omega)]
   by_cases f1:f=1
   · rw[if_pos f1];split<;>omega
   · rw[if_neg f1,if_neg (show ¬g=1 by omega)];exact Lx _
theorem wZ{f g:Nat}(h:f<=g){ps:List (List Rat)}(hN:∀j,j<dimP ps->(nuQ ps j).length<=8):∀i,i<=dimP ps->0<=Db f ps i/\Db f ps i<=Db g ps i
 | 0,_=>by simp[Db]
 | i+1,hi=>by
   obtain⟨a,b⟩:=wZ h hN i (by omega)
   have h8:=hN i (by omega)
   have m0:=(nG (f:=f) (n:=((nuQ ps i).length:Nat)) (by omega) (by omega)).1
   have m1:=y8 h (n:=((nuQ ps i).length:Nat)) (by omega) (by omega)
   rw[dR,dR]
   exact⟨KC a m0,KB b m1 m0 (Jc a b)⟩
theorem DV.less{g:Nat}(hw:DV g ps)(h:f<=g):DV f ps:=⟨hw.1,hw.2.1,hw.2.2.1,fun i hi=>Jc (wZ h (fun j hj=>(hw.1.2 j hj).1) i hi).2 (hw.2.2.2 i hi)⟩
theorem pe{s:Nat}(h:Wd f s ps):DV f ps:=by
 obtain⟨hd,hN,hm,hg⟩:=pd h
 obtain⟨hf,s1,s4,hn,_,h2,_⟩:=h
 have t:=(qN ⟨f,hf⟩ ⟨s,by omega⟩ s1 hn ⟨0,by omega⟩ (FI _)).2.1
 simp only at t
 exact⟨hN,by omega,fun j hj=>(hg j hj).1,fun i hi=>by have:=hm i (by omega);omega⟩
theorem rM(h:xL 2 3 ps):DV 2 ps:=by
 obtain⟨h1,h2,hp,bs,hb,hm⟩:=h
 have hd:=ro hp h1
 have hN:∀j,(nuQ ps j).length<=3:=fun j=>FP (wV (s:=2) (m:=2) hm j) hb
 have gd:∀j,j<dimP ps->(nuQ ps j).Pairwise (· < ·)/\∀q∈nuQ ps j,Gd q:=fun j hj=>by
  have hs:=fD (colQ ps j)
  refine⟨hs.1,fun q mq=>?_⟩
  obtain⟨p,mp,rfl⟩:=Gn.mp ((hs.2 q).mp mq)
  obtain⟨pl,pg⟩:=hp p mp
  have hj':j<p.length:=by omega
  have e:p.getD j 0=p[j]:=by rw[FW,FA hj'];rfl
  show Gd (p.getD j 0)
  rw[e]
  exact pg _ (Ge _)
 refine⟨⟨⟨h1,by omega,by rw[hd];exact hp,by omega,by omega⟩,fun j hj=>⟨by have:=hN j;omega,(gd j hj).2⟩⟩,by omega,fun j hj=>(gd j hj).1,fun i hi=>?_⟩
 have:=(nK (f:=2) (ps:=ps) (M:=3) (by omega) (fun j _=>by have:=hN j;omega) i hi).2
 have t:∀i:Fin 3,(C8 2 3)^i.val<=3000:=by decide
 exact Jc this (t ⟨i,by omega⟩)
theorem sI{t u:D1}{K:Fl->Prop}(P:α->Prop)(g:α->En)(h:∀Q':Fl->Prop,(∀a,P a->Q' (.nx (g a)))->mS t ρ Q')(fin:∀a,P a->mS u (g a) K):sq (VL.ret (Fl.nx ρ)) (mS (xP t u)) K:=by
 show mS (xP t u) ρ K
 rw[s_seq]
 exact qQ P (fun a=>.nx (g a)) h fun a ha=>fin a ha
theorem yR(h:DV f ps):Ec (ptsQ ps):=(Sm.seq (dp:=4) (bk:=12) (n:=8) (xs:=ps.map CV) (fun d md=>by
 obtain⟨p,mp,rfl⟩:=Gn.mp md
 have hp:=h.1.1.2.2.1 p mp
 exact(Sm.seq (dp:=2) (bk:=2) (n:=4) (xs:=p.map fr) (fun d md=>by
  obtain⟨q,mq,rfl⟩:=Gn.mp md
  exact um (hp.2 q mq).1 (by decide)) (by rw[Fd,hp.1];exact h.1.1.2.2.2.2)).1) (by rw[Fd];exact h.2.1)).1.shw (by decide) (by decide)
noncomputable def fms(f:Fin 3):List (Fin 3):=if f=0 then [0]else if f=1 then [1,0]else [2,1,0]
theorem dH(a b:Str):ID (a++b)=(ID a&&ID b):=Array.all_append ..
theorem zw(q:Rat):ID (fr q).shown=true:=by
 have e:(fr q).shown=(EX "(" ++ (EX (K6 q.num)++EX ", " ++ EX (K6 (q.den:Int))))++EX ")" := rfl
 rw[e,dH,dH,dH,dH,bT,bT,bT,bT,bT]
 rfl
theorem xA(qs:List Rat):F_ (.list (qs.map fun q=>Gv (fr q).shown))=true/\FV (.list (qs.map fun q=>Gv (fr q).shown)) (.list (qs.map fun q=>Gv (fr q).shown))=true:=by
 have h:GI (qs.map fun q=>Gv (fr q).shown)=true:=by
  induction qs with
  | nil=>rfl
  | cons q qs ih=>rw[Gi,GI,ih,GN,zw];rfl
 have hd:GF (qs.map fun q=>Gv (fr q).shown)<=2:=dA fun d md=>by
  obtain⟨q,_,rfl⟩:=Gn.mp md
  simp[Hf]
 refine⟨?_,PySem.SeqAt.eqv_refl _ h⟩
 unfold F_
 rw[GN,h,Hf]
 simp
 omega
theorem uo:∀f:Fin 3,(fms f).length<=3:=by decide
theorem oj:∀f:Fin 3,∀g∈fms f,g.val<=f.val:=by decide
theorem vT:FnScope ["_law_script", "_law_feed_here", "_law_k", "_law_family", "_law_pts", "_law_kept", "_law_families", "_law_due", "_law_turn"] ["_law_script"] (defScope (Ch 53)):=⟨rfl,rfl,rfl,by decide +kernel,rfl,by decide +kernel,by decide +kernel⟩
theorem p8(Z:Bz mg)(d__law_feed:DfnR P w K mg base "_law_feed" ["_law_script"] 2 xQ)(d__law_world:∀rl,Dfn P w K mg base rl "_law_world" ["_law_feed_here"] 4 bL)(d__law_draw:∀rl,Dfn P w K mg base rl "_law_draw" ["_law_feed_here", "_law_many"] 1 aU)(d__law_points:∀rl,Dfn P w K mg base rl "_law_points" ["_law_feed_here", "_law_s", "_law_most"] 3 a_)(d__law_greatest:∀rl,Dfn P w K mg base rl "_law_greatest" ["_law_points_here", "_law_family"] 5 aT)(d_unevenness:∀rl,Dfn P w K mg base rl "unevenness" ["points", "family"] 9 bH){f:Addr}(F:Fun K "law" "law" (Ch 53) f fd):FnOk P w K mg base EN 11 f fd ["_law_script"] (gG K):=by
 have sc:=vT
 refine tO F sc (fun cdv A outer s H E hr=>(rQ 1 d__law_feed (hr.mono (by decide)) sc.nd (aa (vn 0) ab) (fun r _=>(af (bF [2,3,4,5,6,7,8] FU rfl (bR Z.range_ (aa ac ab)) (ai 2 sc.nd) (af (kd (al (d__law_world _) (hr.mono (by decide)) (aa (vn 1) ab)) (dD (n:=2) rfl (ay (ai 3 sc.nd) (ay (ai 4 sc.nd) cH))))
  (af (b8 (Eu.pb (kf (az (di hr.units) cq (aw _) (vn 2) ac) (ia (az (di hr.units) cq (aw _) (al (d__law_draw _) (hr.mono (by decide)) (aa (vn 1) (aa ac ab))) ac)))) (aj (kd (bu (aa aB (aa (al (d__law_points _) (hr.mono (by decide)) (aa (vn 1) (aa ac (aa ac ab)))) ab))) (dD (n:=2) rfl (ay (ai 3 sc.nd) (ay (ai 4 sc.nd) cH))))) aY)
  (af (am 5 sc.nd (kj (hr.mono (FI _)) Z.repr_ (aa (vn 4) ab)))
  (af (am 6 sc.nd (mf (hr.mono (FI _)) (by decide +kernel) (ce (aa aB ab)) (ce (aa aB (aa aB ab))) (ce (aa aB (aa aB (aa aB ab)))) (vn 3)))
  (af (bV 7 sc.nd ["_law_one", "_law_pts"] [none,some 4] rfl (aA (vn 6)) (fun _=>(ai 0 (show Gk (["_law_one", "_law_pts"]:List Str) by decide +kernel))) (fun _=>bQ) (fun _=>(aV (al (d__law_greatest _) (hr.mono (by decide)) (aa (vn 1) (aa (vn 0) ab))) ac)))
  (af (bF [8] FU rfl (bR Z.range_ (aa ac ab)) (ai 8 sc.nd) (aj (b8 (az (gR hr.units) cq (aw _) (bD ["_law_one", "_law_pts"] [none,some 4] rfl (aA (vn 6)) (fun _=>(ai 0 (show Gk (["_law_one", "_law_pts"]:List Str) by decide +kernel))) (fun _=>bQ) (fun _=>(kj (hr.mono (FI _)) Z.repr_ (aa (al (d_unevenness _) (hr.mono (by decide)) (aa (vn 1) (aa (vn 0) ab))) ab)))) (bD ["_law_number_here"] [none] rfl (aA (vn 7)) (fun _=>(ai 0 (show Gk (["_law_number_here"]:List Str) by decide +kernel))) (fun _=>bQ) (fun _=>(kj (hr.mono (FI _)) Z.repr_ (aa (vn 0) ab))))) (aj (au sT)) aY)))
  (aj (b8 (az wO qH (aw _) (kj (hr.mono (FI _)) Z.repr_ (aa (vn 4) ab)) (vn 5)) (aj (au sT)) aY)))))))))
  (aj (au sT)))))) ?_
 intro ns hn
 have sz:=FG
 have pf:=xQ.eq hn
 simp_arith only[ag,ae,ca,cb,bf,cc,bg,aE,pf]
 refine kZ ?_ ?_
 · intro i hi K hK
   simp_arith only[ag,ae,ca,cb,bf,cc,bg,aE,bL.eq]
   (with_reducible (first|refine aI fun z hz=>?_|refine bc fun z hz=>?_))
   obtain⟨f,s,ps⟩:=z
   have hz:Wd f s ps:=hz
   have hw:=pe hz
   obtain⟨F,rfl⟩:∃F:Fin 3,F.val=f:=⟨⟨f,hz.1⟩,rfl⟩
   have ef:qt F.val=b4 F:=rfl
   have eqi:∀i j:Int,FV (.int i) (.int j)=(i==j):=fun i j=>by simp[FV]
   have q1:(EX "inner" == EX "corner")=false:=by decide +kernel
   have q2:(EX "round" == EX "corner")=false:=by decide +kernel
   have q3:(EX "round" == EX "inner")=false:=by decide +kernel
   have f0:b4 0=EX "corner" := rfl
   have f1:b4 1=EX "inner" := rfl
   have f2:b4 2=EX "round" := rfl
   have lk0:∀a b c:EW,Hl (EX "corner") [(EX "corner", a),(EX "inner", b),(EX "round", c)]=some a:=fun a b c=>by simp[Hl]
   have lk1:∀a b c:EW,Hl (EX "inner") [(EX "corner", a),(EX "inner", b),(EX "round", c)]=some b:=fun a b c=>by simp[Hl,q1]
   have lk2:∀a b c:EW,Hl (EX "round") [(EX "corner", a),(EX "inner", b),(EX "round", c)]=some c:=fun a b c=>by simp[Hl,q2,q3]
   have hlaw:∀ρ,fo [2,3,4,5,6,7,8] ρ=[some (.sc ns),some .reel,none,none,none,none,none,none,none]->K (.nx ρ):=fun ρ e=>hK _ (b_ e)
   dsimp only
   rw[ef]
   refine sI (fun z:Fin 3×List (List Rat)=>DV z.1.val z.2) (fun z=>[some (.sc ns),some .reel,some (.d (.int (0+(i:Int)))),some (.d (.str (b4 z.1))),some (.d (ptsQ z.2)),none,none,none,none]) ?_ ?_
   · intro Q' hQ'
     simp_arith only[ag,ae,ca,cb,bf,cc,bg,aE,ET,eqi,aU.eq,a_.eq]
     have hid:=hQ' (F,ps) hw
     refine cz (fun _=>?_) fun _=>hid
     intro a _
     refine cz (fun _=>?_) fun _=>hid
     intro qs hq
     exact hQ' (2,qs) (rM hq)
   rintro⟨G,qs⟩ hw
   have hw:DV G.val qs:=hw
   have sw:=yR hw
   have em:b4 G=b4 G:=rfl
   have dm:ko (EX "corner") (EX "inner") (EX "round") (sa (dF (vC (Gv (EX "corner"))) mo)) (sa (dF (vC (Gv (EX "inner"))) (dF (vC (Gv (EX "corner"))) mo))) (sa (dF (vC (Gv (EX "round"))) (dF (vC (Gv (EX "inner"))) (dF (vC (Gv (EX "corner"))) mo)))) (qL 3) [some (.sc ns),some .reel,some (.d (.int (0+(i:Int)))),some (.d (.str (b4 G))),some (.d (ptsQ qs)),some (.d (.str (ptsQ qs).shown)),none,none,none]=VL.ret (.d (.list ((fms G).map fun g=>Gv (b4 g)))):=by
    obtain rfl|rfl|rfl:=x9 G
    all_goals simp_arith only[ag,ae,kO,f0,f1,f2,lk0,lk1,lk2]
    all_goals rfl
   simp_arith only[ag,ae,ca,cb,bf,cc,bg,aE,ET,dm]
   have fl:=uo G
   refine CA (bP (xs:=fms G) (enc:=fun g=>Gv (b4 g)) (fun g=>fr (B3 g.val qs).1) rfl ?_ (by omega) ?_)
   · intro g mg
     have hg:=hw.less (oj G g mg)
     simp_arith only[ag,ae,Du,aT.eq]
   obtain⟨s1,s2⟩:=xA ((fms G).map fun g=>(B3 g.val qs).1)
   rw[GM]at s1 s2
   simp_arith only[ag,ae,ca,cb,bf,cc,bg,aE,ET]
   refine kZ ?_ ?_
   · intro u hu K2 hK2
     simp_arith only[ag,ae,ca,cb,bf,cc,bg,aE]
     refine bP (xs:=fms G) (enc:=fun g=>Gv (b4 g)) ((fun q=>Gv (fr q).shown) ∘ fun g=>(B3 g.val qs).1) rfl ?_ (by omega) ?_
     · intro g mg
       have hg:=hw.less (oj G g mg)
       have sg:Ec (fr (B3 g.val qs).1):=(um (qE hg) (by decide)).shw (by decide) (by decide)
       simp_arith only[ag,ae,Du,bH.eq]
       rfl
     simp_arith only[ag,ae,ca,cb,bf,cc,bg,aE]
     refine bP (xs:=fms G) (enc:=fun g=>fr (B3 g.val qs).1) ((fun q=>Gv (fr q).shown) ∘ fun g=>(B3 g.val qs).1) rfl ?_ (by omega) ?_
     · intro g mg
       have hg:=hw.less (oj G g mg)
       have sg:Ec (fr (B3 g.val qs).1):=(um (qE hg) (by decide)).shw (by decide) (by decide)
       simp_arith only[ag,ae,Du]
       rfl
     rw[s2]
     refine bU s1 ?_
     exact hK2 _ (b_ rfl)
   · simp_arith only[ag,ae,ca,cb,bf,cc,bg,aE,ET]
     exact hlaw _ rfl
 · simp_arith only[ag,ae]
   exact t_
structure Txt (K:HN) (mg:Str->Option E7):Prop where
 bz:Bz mg
 f__law_feed:FnIn K mg "_law_feed" (Ch 38) ["_law_script"]
 f__law_draw:FnIn K mg "_law_draw" (Ch 39) ["_law_feed_here", "_law_many"]
 f__law_frac:FnIn K mg "_law_frac" (Ch 40) ["_law_top", "_law_bottom"]
 f__law_cmp:FnIn K mg "_law_cmp" (Ch 41) ["_law_one", "_law_other"]
 f__law_number:FnIn K mg "_law_number" (Ch 42) ["_law_feed_here", "_law_seen", "_law_is_first"]
 f__law_points:FnIn K mg "_law_points" (Ch 43) ["_law_feed_here", "_law_s", "_law_most"]
 f__law_world:FnIn K mg "_law_world" (Ch 44) ["_law_feed_here"]
 f_common_divisor:FnIn K mg "common_divisor" (Ch 7) ["one", "other"]
 f_fraction:FnIn K mg "fraction" (Ch 8) ["top", "bottom"]
 f_plus:FnIn K mg "plus" (Ch 9) ["one", "other"]
 f_less:FnIn K mg "less" (Ch 10) ["one", "other"]
 f_times:FnIn K mg "times" (Ch 11) ["one", "other"]
 f_is_below:FnIn K mg "is_below" (Ch 12) ["one", "other"]
 f_lesser:FnIn K mg "lesser" (Ch 13) ["one", "other"]
 f_greater:FnIn K mg "greater" (Ch 14) ["one", "other"]
 f_in_size:FnIn K mg "in_size" (Ch 15) ["some"]
 f_sides_of:FnIn K mg "sides_of" (Ch 21) ["points"]
 f_numbers_at:FnIn K mg "numbers_at" (Ch 22) ["points", "side"]
 f__law_sorted:FnIn K mg "_law_sorted" (Ch 45) ["_law_some"]
 f_side_looks:FnIn K mg "side_looks" (Ch 26) ["numbers", "family"]
 f_many_side_looks:FnIn K mg "many_side_looks" (Ch 27) ["many", "family"]
 f_many_looks:FnIn K mg "many_looks" (Ch 28) ["points", "family"]
 f_looks_by_side:FnIn K mg "looks_by_side" (Ch 29) ["points", "family"]
 f__law_side_looks:FnIn K mg "_law_side_looks" (Ch 46) ["_law_numbers", "_law_family"]
 f_side_size:FnIn K mg "side_size" (Ch 17) ["side"]
 f_goes_ahead:FnIn K mg "goes_ahead" (Ch 18) ["one", "other", "may_meet"]
 f_lies:FnIn K mg "lies" (Ch 19) ["x", "side", "way"]
 f_marked:FnIn K mg "marked" (Ch 30) ["numbers", "look"]
 f_widened:FnIn K mg "widened" (Ch 31) ["row", "mark"]
 f_counted_looks:FnIn K mg "counted_looks" (Ch 32) ["points", "family"]
 f_misses:FnIn K mg "misses" (Ch 33) ["points", "family"]
 f_first_greatest:FnIn K mg "first_greatest" (Ch 34) ["rows"]
 f_worst:FnIn K mg "worst" (Ch 35) ["points", "family"]
 f_unevenness:FnIn K mg "unevenness" (Ch 36) ["points", "family"]
 f__law_side_size:FnIn K mg "_law_side_size" (Ch 48) ["_law_side"]
 f__law_lies:FnIn K mg "_law_lies" (Ch 47) ["_law_x", "_law_side", "_law_way"]
 f__law_side_rows:FnIn K mg "_law_side_rows" (Ch 49) ["_law_points_here", "_law_side", "_law_family"]
 f__law_ones:FnIn K mg "_law_ones" (Ch 50) ["_law_bits"]
 f__law_misses:FnIn K mg "_law_misses" (Ch 51) ["_law_points_here", "_law_family"]
 f__law_greatest:FnIn K mg "_law_greatest" (Ch 52) ["_law_points_here", "_law_family"]
 g_ONE:GlD K mg "ONE" (pr 1 1)
 g_ZERO:GlD K mg "ZERO" (pr 0 1)
 g_BELOW_ALL:GlD K mg "BELOW_ALL" (.tuple [.int (-1),.int 1])
 g_MOST_LOOKS:GlD K mg "MOST_LOOKS" (.int 3000)
theorem wT{f:Addr}(F:Fun K "law" "law" (Ch 53) f fd)(T:Txt K mg)  : FnOk P w K mg base EN 11 f fd ["_law_script"] (gG K):=by
 have d__law_feed:DfnR P w K mg base "_law_feed" ["_law_script"] 2 xQ:=K20.d__law_feed T.f__law_feed T.bz   
 have d__law_draw:∀rl,Dfn P w K mg base rl "_law_draw" ["_law_feed_here", "_law_many"] 1 aU:=fun rl=>K20.d__law_draw T.f__law_draw T.bz   
 have d__law_frac:∀rl,Dfn P w K mg base rl "_law_frac" ["_law_top", "_law_bottom"] 1 bq:=fun rl=>K20.d__law_frac T.f__law_frac T.bz   
 have d__law_cmp:∀rl,Dfn P w K mg base rl "_law_cmp" ["_law_one", "_law_other"] 1 aK:=fun rl=>K20.d__law_cmp T.f__law_cmp T.bz   
 have d__law_number:∀rl,Dfn P w K mg base rl "_law_number" ["_law_feed_here", "_law_seen", "_law_is_first"] 2 bo:=fun rl=>K20.d__law_number T.f__law_number T.bz d__law_draw d__law_frac  
 have d__law_points:∀rl,Dfn P w K mg base rl "_law_points" ["_law_feed_here", "_law_s", "_law_most"] 3 a_:=fun rl=>K20.d__law_points T.f__law_points T.bz d__law_draw d__law_number  
 have d__law_world:∀rl,Dfn P w K mg base rl "_law_world" ["_law_feed_here"] 4 bL:=fun rl=>K20.d__law_world T.f__law_world T.bz d__law_draw d__law_points  
 have d_common_divisor:∀rl,Dfn P w K mg base rl "common_divisor" ["one", "other"] 1 aL:=fun rl=>K20.d_common_divisor T.f_common_divisor T.bz   
 have d_fraction:∀rl,Dfn P w K mg base rl "fraction" ["top", "bottom"] 2 bw:=fun rl=>K20.d_fraction T.f_fraction T.bz d_common_divisor  
 have d_plus:∀rl,Dfn P w K mg base rl "plus" ["one", "other"] 3 fN:=fun rl=>K20.d_plus T.f_plus T.bz d_fraction  
 have d_less:∀rl,Dfn P w K mg base rl "less" ["one", "other"] 3 eN:=fun rl=>K20.d_less T.f_less T.bz d_fraction  
 have d_times:∀rl,Dfn P w K mg base rl "times" ["one", "other"] 3 dw:=fun rl=>K20.d_times T.f_times T.bz d_fraction  
 have d_is_below:∀rl,Dfn P w K mg base rl "is_below" ["one", "other"] 1 bh:=fun rl=>K20.d_is_below T.f_is_below T.bz   
 have d_lesser:∀rl,Dfn P w K mg base rl "lesser" ["one", "other"] 2 cM:=fun rl=>K20.d_lesser T.f_lesser T.bz d_is_below  
 have d_greater:∀rl,Dfn P w K mg base rl "greater" ["one", "other"] 2 cx:=fun rl=>K20.d_greater T.f_greater T.bz d_is_below  
 have d_in_size:∀rl,Dfn P w K mg base rl "in_size" ["some"] 1 ci:=fun rl=>K20.d_in_size T.f_in_size T.bz   
 have d_sides_of:∀rl,Dfn P w K mg base rl "sides_of" ["points"] 1 bZ:=fun rl=>K20.d_sides_of T.f_sides_of T.bz   
 have d_numbers_at:∀rl,Dfn P w K mg base rl "numbers_at" ["points", "side"] 2 bi:=fun rl=>K20.d_numbers_at T.f_numbers_at T.bz d_in_size  
 have d__law_sorted:∀rl,Dfn P w K mg base rl "_law_sorted" ["_law_some"] 2 bj:=fun rl=>K20.d__law_sorted T.f__law_sorted T.bz d__law_cmp  
 have d_side_looks:∀rl,Dfn P w K mg base rl "side_looks" ["numbers", "family"] 2 bI:=fun rl=>K20.d_side_looks T.f_side_looks T.bz d_is_below T.g_ONE T.g_BELOW_ALL 
 have d_many_side_looks:∀rl,Dfn P w K mg base rl "many_side_looks" ["many", "family"] 1 aF:=fun rl=>K20.d_many_side_looks T.f_many_side_looks T.bz   
 have d_many_looks:∀rl,Dfn P w K mg base rl "many_looks" ["points", "family"] 3 bJ:=fun rl=>K20.d_many_looks T.f_many_looks T.bz d_sides_of d_many_side_looks d_numbers_at  
 have d_looks_by_side:∀rl,Dfn P w K mg base rl "looks_by_side" ["points", "family"] 4 aR:=fun rl=>K20.d_looks_by_side T.f_looks_by_side T.bz d_many_looks d_side_looks d_numbers_at d_sides_of T.g_MOST_LOOKS 
 have d__law_side_looks:∀rl,Dfn P w K mg base rl "_law_side_looks" ["_law_numbers", "_law_family"] 2 aG:=fun rl=>K20.d__law_side_looks T.f__law_side_looks T.bz d__law_cmp  
 have d_side_size:∀rl,Dfn P w K mg base rl "side_size" ["side"] 4 bW:=fun rl=>K20.d_side_size T.f_side_size T.bz d_greater d_less d_lesser d_plus T.g_ZERO T.g_ONE 
 have d_goes_ahead:∀rl,Dfn P w K mg base rl "goes_ahead" ["one", "other", "may_meet"] 2 bK:=fun rl=>K20.d_goes_ahead T.f_goes_ahead T.bz d_is_below  
 have d_lies:∀rl,Dfn P w K mg base rl "lies" ["x", "side", "way"] 3 fO:=fun rl=>K20.d_lies T.f_lies T.bz d_goes_ahead  
 have d_marked:∀rl,Dfn P w K mg base rl "marked" ["numbers", "look"] 5 cL:=fun rl=>K20.d_marked T.f_marked T.bz d_lies d_side_size  
 have d_widened:∀rl,Dfn P w K mg base rl "widened" ["row", "mark"] 4 cw:=fun rl=>K20.d_widened T.f_widened T.bz d_times  
 have d_counted_looks:∀rl,Dfn P w K mg base rl "counted_looks" ["points", "family"] 6 aS:=fun rl=>K20.d_counted_looks T.f_counted_looks T.bz d_looks_by_side d_marked d_widened T.g_ONE 
 have d_misses:∀rl,Dfn P w K mg base rl "misses" ["points", "family"] 7 cK:=fun rl=>K20.d_misses T.f_misses T.bz d_counted_looks d_less d_fraction  
 have d_first_greatest:∀rl,Dfn P w K mg base rl "first_greatest" ["rows"] 2 aD:=fun rl=>K20.d_first_greatest T.f_first_greatest T.bz d_is_below  
 have d_worst:∀rl,Dfn P w K mg base rl "worst" ["points", "family"] 8 dv:=fun rl=>K20.d_worst T.f_worst T.bz d_first_greatest d_misses  
 have d_unevenness:∀rl,Dfn P w K mg base rl "unevenness" ["points", "family"] 9 bH:=fun rl=>K20.d_unevenness T.f_unevenness T.bz d_worst  
 have d__law_side_size:∀rl,Dfn P w K mg base rl "_law_side_size" ["_law_side"] 2 aM:=fun rl=>K20.d__law_side_size T.f__law_side_size T.bz d__law_frac  
 have d__law_lies:∀rl,Dfn P w K mg base rl "_law_lies" ["_law_x", "_law_side", "_law_way"] 2 bX:=fun rl=>K20.d__law_lies T.f__law_lies T.bz d__law_cmp  
 have d__law_side_rows:∀rl,Dfn P w K mg base rl "_law_side_rows" ["_law_points_here", "_law_side", "_law_family"] 3 aN:=fun rl=>K20.d__law_side_rows T.f__law_side_rows T.bz d__law_side_looks d__law_sorted d__law_side_size d__law_lies  
 have d__law_ones:∀rl,Dfn P w K mg base rl "_law_ones" ["_law_bits"] 1 bm:=fun rl=>K20.d__law_ones T.f__law_ones T.bz   
 have d__law_misses:∀rl,Dfn P w K mg base rl "_law_misses" ["_law_points_here", "_law_family"] 4 bp:=fun rl=>K20.d__law_misses T.f__law_misses T.bz d__law_side_rows d__law_ones  
 have d__law_greatest:∀rl,Dfn P w K mg base rl "_law_greatest" ["_law_points_here", "_law_family"] 5 aT:=fun rl=>K20.d__law_greatest T.f__law_greatest T.bz d__law_misses d__law_frac d__law_cmp  
 exact p8 T.bz d__law_feed d__law_world d__law_draw d__law_points d__law_greatest d_unevenness   F
end
theorem A9(hl:us.length=0):us=[]:=Jf hl
theorem oZ(hl:us.length=1):∃a0,us=[a0]:=by
 cases us with
 | nil=>cases hl
 | cons a0 t=>cases A9 (Li hl);exact⟨a0,rfl⟩
theorem eJ(hl:us.length=2):∃a0 a1,us=[a0,a1]:=by
 cases us with
 | nil=>cases hl
 | cons a0 t=>obtain⟨a1,rfl⟩:=oZ (Li hl);exact⟨a0,a1,rfl⟩
theorem uJ(hl:us.length=3):∃a0 a1 a2,us=[a0,a1,a2]:=by
 cases us with
 | nil=>cases hl
 | cons a0 t=>obtain⟨a1,a2,rfl⟩:=eJ (Li hl);exact⟨a0,a1,a2,rfl⟩
theorem aC{K:HN}(X:K.In h)(G:h.Ns Gq mg){st:Stmt}{ps:List Str}{f:Addr}{oc kV dc pm cd ct:E7}{od an:Option Addr}{sl:Array (Option E7)}(a:Lj K Gq x=some (some (.ref f)))(l:K.lookup f=some ⟨oc,od,.func (Lk x x (defArgs st) (defBody st) (defScope st) .none kV dc pm an cd ct),sl⟩)(c:Fo K cd x=true)(k:Fp K (.ref f)=true)(hb:∀(kV doc pm:E7)(an:Option Addr)(cdv ct:E7)(us:List E7),us.length=ps.length->bindArgs (Lk x x (defArgs st) (defBody st) (defScope st) .none kV doc pm an cdv ct) ⟨us,[]⟩=pure (ps.zip us)):FnIn K mg x st ps:=⟨⟨f,_,PySem.W.mg_of X G a,oh l c k,(oh l c k).binds hb⟩⟩
abbrev NI(K:HN)(x:Str)(f:Addr):Prop:=Lj K Gq x=some (some (.ref f))
abbrev NZ(K:HN)(x:Str):Prop:=Lj K Gq x=some none
abbrev LK(K:HN)(x:Str)(st:Stmt)(f:Addr)(oc:E7)(od:Option Addr)(kV dc pm:E7)(an:Option Addr)(cd ct:E7)(sl:Array (Option E7)):Prop:=K.lookup f=some ⟨oc,od,.func (Lk x x (defArgs st) (defBody st) (defScope st) .none kV dc pm an cd ct),sl⟩
theorem all_mk{l:Kp}{K:HN}{fa:Addr}(X:K.In h)(G:h.Ns Gq mg)(hfa:mg "law" = some (.ref fa))
 {f1 f2 f3 f4 f5 f6 f7 f8 f9 f10 f11 f12 f13 f14 f15 f16 f17 f18 f19 f20 f21 f22 f23 f24 f25 f26 f27 f28 f29 f30 f31 f32 f33 f34 f35 f36 f37 f38 f39 f40 f41:Addr}{od1 an1 od2 an2 od3 an3 od4 an4 od5 an5 od6 an6 od7 an7 od8 an8 od9 an9 od10 an10 od11 an11 od12 an12 od13 an13 od14 an14 od15 an15 od16 an16 od17 an17 od18 an18 od19 an19 od20 an20 od21 an21 od22 an22 od23 an23 od24 an24 od25 an25 od26 an26 od27 an27 od28 an28 od29 an29 od30 an30 od31 an31 od32 an32 od33 an33 od34 an34 od35 an35 od36 an36 od37 an37 od38 an38 od39 an39 od40 an40 od41 an41:Option Addr}{sl1 sl2 sl3 sl4 sl5 sl6 sl7 sl8 sl9 sl10 sl11 sl12 sl13 sl14 sl15 sl16 sl17 sl18 sl19 sl20 sl21 sl22 sl23 sl24 sl25 sl26 sl27 sl28 sl29 sl30 sl31 sl32 sl33 sl34 sl35 sl36 sl37 sl38 sl39 sl40 sl41:Array (Option E7)}{oc1 kV1 dc1 pm1 cd1 ct1 oc2 kV2 dc2 pm2 cd2 ct2 oc3 kV3 dc3 pm3 cd3 ct3 oc4 kV4 dc4 pm4 cd4 ct4 oc5 kV5 dc5 pm5 cd5 ct5 oc6 kV6 dc6 pm6 cd6 ct6 oc7 kV7 dc7 pm7 cd7 ct7 oc8 kV8 dc8 pm8 cd8 ct8 oc9 kV9 dc9 pm9 cd9 ct9 oc10 kV10 dc10 pm10 cd10 ct10 oc11 kV11 dc11 pm11 cd11 ct11 oc12 kV12 dc12 pm12 cd12 ct12 oc13 kV13 dc13 pm13 cd13 ct13 oc14 kV14 dc14 pm14 cd14 ct14 oc15 kV15 dc15 pm15 cd15 ct15 oc16 kV16 dc16 pm16 cd16 ct16 oc17 kV17 dc17 pm17 cd17 ct17 oc18 kV18 dc18 pm18 cd18 ct18 oc19 kV19 dc19 pm19 cd19 ct19 oc20 kV20 dc20 pm20 cd20 ct20 oc21 kV21 dc21 pm21 cd21 ct21 oc22 kV22 dc22 pm22 cd22 ct22 oc23 kV23 dc23 pm23 cd23 ct23 oc24 kV24 dc24 pm24 cd24 ct24 oc25 kV25 dc25 pm25 cd25 ct25 oc26 kV26 dc26 pm26 cd26 ct26 oc27 kV27 dc27 pm27 cd27 ct27 oc28 kV28 dc28 pm28 cd28 ct28 oc29 kV29 dc29 pm29 cd29 ct29 oc30 kV30 dc30 pm30 cd30 ct30 oc31 kV31 dc31 pm31 cd31 ct31 oc32 kV32 dc32 pm32 cd32 ct32 oc33 kV33 dc33 pm33 cd33 ct33 oc34 kV34 dc34 pm34 cd34 ct34 oc35 kV35 dc35 pm35 cd35 ct35 oc36 kV36 dc36 pm36 cd36 ct36 oc37 kV37 dc37 pm37 cd37 ct37 oc38 kV38 dc38 pm38 cd38 ct38 oc39 kV39 dc39 pm39 cd39 ct39 oc40 kV40 dc40 pm40 cd40 ct40 oc41 kV41 dc41 pm41 cd41 ct41:E7}
 (a1:NI K "_law_feed" f1)(l1:LK K "_law_feed" (Ch 38) f1 oc1 od1 kV1 dc1 pm1 an1 cd1 ct1 sl1)(c1:Fo K cd1 "_law_feed" = true)(k1:Fp K (.ref f1)=true)(a2:NI K "_law_draw" f2)(l2:LK K "_law_draw" (Ch 39) f2 oc2 od2 kV2 dc2 pm2 an2 cd2 ct2 sl2)(c2:Fo K cd2 "_law_draw" = true)(k2:Fp K (.ref f2)=true)(a3:NI K "_law_frac" f3)(l3:LK K "_law_frac" (Ch 40) f3 oc3 od3 kV3 dc3 pm3 an3 cd3 ct3 sl3)(c3:Fo K cd3 "_law_frac" = true)(k3:Fp K (.ref f3)=true)(a4:NI K "_law_cmp" f4)(l4:LK K "_law_cmp" (Ch 41) f4 oc4 od4 kV4 dc4 pm4 an4 cd4 ct4 sl4)(c4:Fo K cd4 "_law_cmp" = true)(k4:Fp K (.ref f4)=true)(a5:NI K "_law_number" f5)(l5:LK K "_law_number" (Ch 42) f5 oc5 od5 kV5 dc5 pm5 an5 cd5 ct5 sl5)(c5:Fo K cd5 "_law_number" = true)(k5:Fp K (.ref f5)=true)(a6:NI K "_law_points" f6)(l6:LK K "_law_points" (Ch 43) f6 oc6 od6 kV6 dc6 pm6 an6 cd6 ct6 sl6)(c6:Fo K cd6 "_law_points" = true)(k6:Fp K (.ref f6)=true)(a7:NI K "_law_world" f7)(l7:LK K "_law_world" (Ch 44) f7 oc7 od7 kV7 dc7 pm7 an7 cd7 ct7 sl7)(c7:Fo K cd7 "_law_world" = true)(k7:Fp K (.ref f7)=true)(a8:NI K "common_divisor" f8)(l8:LK K "common_divisor" (Ch 7) f8 oc8 od8 kV8 dc8 pm8 an8 cd8 ct8 sl8)(c8:Fo K cd8 "common_divisor" = true)(k8:Fp K (.ref f8)=true)(a9:NI K "fraction" f9)(l9:LK K "fraction" (Ch 8) f9 oc9 od9 kV9 dc9 pm9 an9 cd9 ct9 sl9)(c9:Fo K cd9 "fraction" = true)(k9:Fp K (.ref f9)=true)(a10:NI K "plus" f10)(l10:LK K "plus" (Ch 9) f10 oc10 od10 kV10 dc10 pm10 an10 cd10 ct10 sl10)(c10:Fo K cd10 "plus" = true)(k10:Fp K (.ref f10)=true)(a11:NI K "less" f11)(l11:LK K "less" (Ch 10) f11 oc11 od11 kV11 dc11 pm11 an11 cd11 ct11 sl11)(c11:Fo K cd11 "less" = true)(k11:Fp K (.ref f11)=true)(a12:NI K "times" f12)(l12:LK K "times" (Ch 11) f12 oc12 od12 kV12 dc12 pm12 an12 cd12 ct12 sl12)(c12:Fo K cd12 "times" = true)(k12:Fp K (.ref f12)=true)(a13:NI K "is_below" f13)(l13:LK K "is_below" (Ch 12) f13 oc13 od13 kV13 dc13 pm13 an13 cd13 ct13 sl13)(c13:Fo K cd13 "is_below" = true)(k13:Fp K (.ref f13)=true)(a14:NI K "lesser" f14)(l14:LK K "lesser" (Ch 13) f14 oc14 od14 kV14 dc14 pm14 an14 cd14 ct14 sl14)(c14:Fo K cd14 "lesser" = true)(k14:Fp K (.ref f14)=true)(a15:NI K "greater" f15)(l15:LK K "greater" (Ch 14) f15 oc15 od15 kV15 dc15 pm15 an15 cd15 ct15 sl15)(c15:Fo K cd15 "greater" = true)(k15:Fp K (.ref f15)=true)(a16:NI K "in_size" f16)(l16:LK K "in_size" (Ch 15) f16 oc16 od16 kV16 dc16 pm16 an16 cd16 ct16 sl16)(c16:Fo K cd16 "in_size" = true)(k16:Fp K (.ref f16)=true)(a17:NI K "sides_of" f17)(l17:LK K "sides_of" (Ch 21) f17 oc17 od17 kV17 dc17 pm17 an17 cd17 ct17 sl17)(c17:Fo K cd17 "sides_of" = true)(k17:Fp K (.ref f17)=true)(a18:NI K "numbers_at" f18)(l18:LK K "numbers_at" (Ch 22) f18 oc18 od18 kV18 dc18 pm18 an18 cd18 ct18 sl18)(c18:Fo K cd18 "numbers_at" = true)(k18:Fp K (.ref f18)=true)(a19:NI K "_law_sorted" f19)(l19:LK K "_law_sorted" (Ch 45) f19 oc19 od19 kV19 dc19 pm19 an19 cd19 ct19 sl19)(c19:Fo K cd19 "_law_sorted" = true)(k19:Fp K (.ref f19)=true)(a20:NI K "side_looks" f20)(l20:LK K "side_looks" (Ch 26) f20 oc20 od20 kV20 dc20 pm20 an20 cd20 ct20 sl20)(c20:Fo K cd20 "side_looks" = true)(k20:Fp K (.ref f20)=true)(a21:NI K "many_side_looks" f21)(l21:LK K "many_side_looks" (Ch 27) f21 oc21 od21 kV21 dc21 pm21 an21 cd21 ct21 sl21)(c21:Fo K cd21 "many_side_looks" = true)(k21:Fp K (.ref f21)=true)(a22:NI K "many_looks" f22)(l22:LK K "many_looks" (Ch 28) f22 oc22 od22 kV22 dc22 pm22 an22 cd22 ct22 sl22)(c22:Fo K cd22 "many_looks" = true)(k22:Fp K (.ref f22)=true)(a23:NI K "looks_by_side" f23)(l23:LK K "looks_by_side" (Ch 29) f23 oc23 od23 kV23 dc23 pm23 an23 cd23 ct23 sl23)(c23:Fo K cd23 "looks_by_side" = true)(k23:Fp K (.ref f23)=true)(a24:NI K "_law_side_looks" f24)(l24:LK K "_law_side_looks" (Ch 46) f24 oc24 od24 kV24 dc24 pm24 an24 cd24 ct24 sl24)(c24:Fo K cd24 "_law_side_looks" = true)(k24:Fp K (.ref f24)=true)(a25:NI K "side_size" f25)(l25:LK K "side_size" (Ch 17) f25 oc25 od25 kV25 dc25 pm25 an25 cd25 ct25 sl25)(c25:Fo K cd25 "side_size" = true)(k25:Fp K (.ref f25)=true)(a26:NI K "goes_ahead" f26)(l26:LK K "goes_ahead" (Ch 18) f26 oc26 od26 kV26 dc26 pm26 an26 cd26 ct26 sl26)(c26:Fo K cd26 "goes_ahead" = true)(k26:Fp K (.ref f26)=true)(a27:NI K "lies" f27)(l27:LK K "lies" (Ch 19) f27 oc27 od27 kV27 dc27 pm27 an27 cd27 ct27 sl27)(c27:Fo K cd27 "lies" = true)(k27:Fp K (.ref f27)=true)(a28:NI K "marked" f28)(l28:LK K "marked" (Ch 30) f28 oc28 od28 kV28 dc28 pm28 an28 cd28 ct28 sl28)(c28:Fo K cd28 "marked" = true)(k28:Fp K (.ref f28)=true)(a29:NI K "widened" f29)(l29:LK K "widened" (Ch 31) f29 oc29 od29 kV29 dc29 pm29 an29 cd29 ct29 sl29)(c29:Fo K cd29 "widened" = true)(k29:Fp K (.ref f29)=true)(a30:NI K "counted_looks" f30)(l30:LK K "counted_looks" (Ch 32) f30 oc30 od30 kV30 dc30 pm30 an30 cd30 ct30 sl30)(c30:Fo K cd30 "counted_looks" = true)(k30:Fp K (.ref f30)=true)(a31:NI K "misses" f31)(l31:LK K "misses" (Ch 33) f31 oc31 od31 kV31 dc31 pm31 an31 cd31 ct31 sl31)(c31:Fo K cd31 "misses" = true)(k31:Fp K (.ref f31)=true)(a32:NI K "first_greatest" f32)(l32:LK K "first_greatest" (Ch 34) f32 oc32 od32 kV32 dc32 pm32 an32 cd32 ct32 sl32)(c32:Fo K cd32 "first_greatest" = true)(k32:Fp K (.ref f32)=true)(a33:NI K "worst" f33)(l33:LK K "worst" (Ch 35) f33 oc33 od33 kV33 dc33 pm33 an33 cd33 ct33 sl33)(c33:Fo K cd33 "worst" = true)(k33:Fp K (.ref f33)=true)(a34:NI K "unevenness" f34)(l34:LK K "unevenness" (Ch 36) f34 oc34 od34 kV34 dc34 pm34 an34 cd34 ct34 sl34)(c34:Fo K cd34 "unevenness" = true)(k34:Fp K (.ref f34)=true)(a35:NI K "_law_side_size" f35)(l35:LK K "_law_side_size" (Ch 48) f35 oc35 od35 kV35 dc35 pm35 an35 cd35 ct35 sl35)(c35:Fo K cd35 "_law_side_size" = true)(k35:Fp K (.ref f35)=true)(a36:NI K "_law_lies" f36)(l36:LK K "_law_lies" (Ch 47) f36 oc36 od36 kV36 dc36 pm36 an36 cd36 ct36 sl36)(c36:Fo K cd36 "_law_lies" = true)(k36:Fp K (.ref f36)=true)(a37:NI K "_law_side_rows" f37)(l37:LK K "_law_side_rows" (Ch 49) f37 oc37 od37 kV37 dc37 pm37 an37 cd37 ct37 sl37)(c37:Fo K cd37 "_law_side_rows" = true)(k37:Fp K (.ref f37)=true)(a38:NI K "_law_ones" f38)(l38:LK K "_law_ones" (Ch 50) f38 oc38 od38 kV38 dc38 pm38 an38 cd38 ct38 sl38)(c38:Fo K cd38 "_law_ones" = true)(k38:Fp K (.ref f38)=true)(a39:NI K "_law_misses" f39)(l39:LK K "_law_misses" (Ch 51) f39 oc39 od39 kV39 dc39 pm39 an39 cd39 ct39 sl39)(c39:Fo K cd39 "_law_misses" = true)(k39:Fp K (.ref f39)=true)(a40:NI K "_law_greatest" f40)(l40:LK K "_law_greatest" (Ch 52) f40 oc40 od40 kV40 dc40 pm40 an40 cd40 ct40 sl40)(c40:Fo K cd40 "_law_greatest" = true)(k40:Fp K (.ref f40)=true)(a41:NI K "law" f41)(l41:LK K "law" (Ch 53) f41 oc41 od41 kV41 dc41 pm41 an41 cd41 ct41 sl41)(c41:Fo K cd41 "law" = true)(k41:Fp K (.ref f41)=true)
 (z_int:NZ K "int")(z_bool:NZ K "bool")(z_str:NZ K "str")(z_list:NZ K "list")(z_tuple:NZ K "tuple")(z_dict:NZ K "dict")(z_isinstance:NZ K "isinstance")(z_len:NZ K "len")(z_abs:NZ K "abs")(z_repr:NZ K "repr")(z_range:NZ K "range")(z_all:NZ K "all")(z_any:NZ K "any")(z_sum:NZ K "sum")(z_min:NZ K "min")(z_max:NZ K "max")(z_sorted:NZ K "sorted")(z_zip:NZ K "zip")(z_enumerate:NZ K "enumerate")(z_reversed:NZ K "reversed")(z_divmod:NZ K "divmod")(z_set:NZ K "set")(g_ONE:GlK K "ONE" (pr 1 1))(g_ZERO:GlK K "ZERO" (pr 0 1))(g_BELOW_ALL:GlK K "BELOW_ALL" (.tuple [.int (-1),.int 1]))(g_MOST_LOOKS:GlK K "MOST_LOOKS" (.int 3000))  :
 ∃fd:HR,(∀(s:E_)(v:E7),Lp s fd ⟨[v],[]⟩ [("_law_script", v)])/\∀base:Heap,K.In base->base.Ns Gq mg->FnOk l.prog w K mg base EN 11 fa fd ["_law_script"] (gG K):=by
 have e:=hfa.symm.trans (PySem.W.mg_of X G a41)
 cases e
 have B:Bz mg:=⟨FE X G z_int,FE X G z_bool,FE X G z_str,FE X G z_list,FE X G z_tuple,FE X G z_dict,FE X G z_isinstance,FE X G z_len,FE X G z_abs,FE X G z_repr,FE X G z_range,FE X G z_all,FE X G z_any,FE X G z_sum,FE X G z_min,FE X G z_max,FE X G z_sorted,FE X G z_zip,FE X G z_enumerate,FE X G z_reversed,FE X G z_divmod,FE X G z_set⟩
 have T:Txt K mg:=⟨B,(aC X G a1 l1 c1 k1 fun _ _ _ _ _ _ us hl=>(by obtain⟨_,rfl⟩:=oZ hl;exact rfl)),(aC X G a2 l2 c2 k2 fun _ _ _ _ _ _ us hl=>(by obtain⟨_,_,rfl⟩:=eJ hl;exact rfl)),(aC X G a3 l3 c3 k3 fun _ _ _ _ _ _ us hl=>(by obtain⟨_,_,rfl⟩:=eJ hl;exact rfl)),(aC X G a4 l4 c4 k4 fun _ _ _ _ _ _ us hl=>(by obtain⟨_,_,rfl⟩:=eJ hl;exact rfl)),(aC X G a5 l5 c5 k5 fun _ _ _ _ _ _ us hl=>(by obtain⟨_,_,_,rfl⟩:=uJ hl;exact rfl)),(aC X G a6 l6 c6 k6 fun _ _ _ _ _ _ us hl=>(by obtain⟨_,_,_,rfl⟩:=uJ hl;exact rfl)),(aC X G a7 l7 c7 k7 fun _ _ _ _ _ _ us hl=>(by obtain⟨_,rfl⟩:=oZ hl;exact rfl)),(aC X G a8 l8 c8 k8 fun _ _ _ _ _ _ us hl=>(by obtain⟨_,_,rfl⟩:=eJ hl;exact rfl)),(aC X G a9 l9 c9 k9 fun _ _ _ _ _ _ us hl=>(by obtain⟨_,_,rfl⟩:=eJ hl;exact rfl)),(aC X G a10 l10 c10 k10 fun _ _ _ _ _ _ us hl=>(by obtain⟨_,_,rfl⟩:=eJ hl;exact rfl)),(aC X G a11 l11 c11 k11 fun _ _ _ _ _ _ us hl=>(by obtain⟨_,_,rfl⟩:=eJ hl;exact rfl)),(aC X G a12 l12 c12 k12 fun _ _ _ _ _ _ us hl=>(by obtain⟨_,_,rfl⟩:=eJ hl;exact rfl)),(aC X G a13 l13 c13 k13 fun _ _ _ _ _ _ us hl=>(by obtain⟨_,_,rfl⟩:=eJ hl;exact rfl)),(aC X G a14 l14 c14 k14 fun _ _ _ _ _ _ us hl=>(by obtain⟨_,_,rfl⟩:=eJ hl;exact rfl)),(aC X G a15 l15 c15 k15 fun _ _ _ _ _ _ us hl=>(by obtain⟨_,_,rfl⟩:=eJ hl;exact rfl)),(aC X G a16 l16 c16 k16 fun _ _ _ _ _ _ us hl=>(by obtain⟨_,rfl⟩:=oZ hl;exact rfl)),(aC X G a17 l17 c17 k17 fun _ _ _ _ _ _ us hl=>(by obtain⟨_,rfl⟩:=oZ hl;exact rfl)),(aC X G a18 l18 c18 k18 fun _ _ _ _ _ _ us hl=>(by obtain⟨_,_,rfl⟩:=eJ hl;exact rfl)),(aC X G a19 l19 c19 k19 fun _ _ _ _ _ _ us hl=>(by obtain⟨_,rfl⟩:=oZ hl;exact rfl)),(aC X G a20 l20 c20 k20 fun _ _ _ _ _ _ us hl=>(by obtain⟨_,_,rfl⟩:=eJ hl;exact rfl)),(aC X G a21 l21 c21 k21 fun _ _ _ _ _ _ us hl=>(by obtain⟨_,_,rfl⟩:=eJ hl;exact rfl)),(aC X G a22 l22 c22 k22 fun _ _ _ _ _ _ us hl=>(by obtain⟨_,_,rfl⟩:=eJ hl;exact rfl)),(aC X G a23 l23 c23 k23 fun _ _ _ _ _ _ us hl=>(by obtain⟨_,_,rfl⟩:=eJ hl;exact rfl)),(aC X G a24 l24 c24 k24 fun _ _ _ _ _ _ us hl=>(by obtain⟨_,_,rfl⟩:=eJ hl;exact rfl)),(aC X G a25 l25 c25 k25 fun _ _ _ _ _ _ us hl=>(by obtain⟨_,rfl⟩:=oZ hl;exact rfl)),(aC X G a26 l26 c26 k26 fun _ _ _ _ _ _ us hl=>(by obtain⟨_,_,_,rfl⟩:=uJ hl;exact rfl)),(aC X G a27 l27 c27 k27 fun _ _ _ _ _ _ us hl=>(by obtain⟨_,_,_,rfl⟩:=uJ hl;exact rfl)),(aC X G a28 l28 c28 k28 fun _ _ _ _ _ _ us hl=>(by obtain⟨_,_,rfl⟩:=eJ hl;exact rfl)),(aC X G a29 l29 c29 k29 fun _ _ _ _ _ _ us hl=>(by obtain⟨_,_,rfl⟩:=eJ hl;exact rfl)),(aC X G a30 l30 c30 k30 fun _ _ _ _ _ _ us hl=>(by obtain⟨_,_,rfl⟩:=eJ hl;exact rfl)),(aC X G a31 l31 c31 k31 fun _ _ _ _ _ _ us hl=>(by obtain⟨_,_,rfl⟩:=eJ hl;exact rfl)),(aC X G a32 l32 c32 k32 fun _ _ _ _ _ _ us hl=>(by obtain⟨_,rfl⟩:=oZ hl;exact rfl)),(aC X G a33 l33 c33 k33 fun _ _ _ _ _ _ us hl=>(by obtain⟨_,_,rfl⟩:=eJ hl;exact rfl)),(aC X G a34 l34 c34 k34 fun _ _ _ _ _ _ us hl=>(by obtain⟨_,_,rfl⟩:=eJ hl;exact rfl)),(aC X G a35 l35 c35 k35 fun _ _ _ _ _ _ us hl=>(by obtain⟨_,rfl⟩:=oZ hl;exact rfl)),(aC X G a36 l36 c36 k36 fun _ _ _ _ _ _ us hl=>(by obtain⟨_,_,_,rfl⟩:=uJ hl;exact rfl)),(aC X G a37 l37 c37 k37 fun _ _ _ _ _ _ us hl=>(by obtain⟨_,_,_,rfl⟩:=uJ hl;exact rfl)),(aC X G a38 l38 c38 k38 fun _ _ _ _ _ _ us hl=>(by obtain⟨_,rfl⟩:=oZ hl;exact rfl)),(aC X G a39 l39 c39 k39 fun _ _ _ _ _ _ us hl=>(by obtain⟨_,_,rfl⟩:=eJ hl;exact rfl)),(aC X G a40 l40 c40 k40 fun _ _ _ _ _ _ us hl=>(by obtain⟨_,_,rfl⟩:=eJ hl;exact rfl)),g_ONE.of X G,g_ZERO.of X G,g_BELOW_ALL.of X G,g_MOST_LOOKS.of X G⟩
 have FL:=oh (st:=Ch 53) l41 c41 k41
 exact⟨_,fun s v=>.of_eq rfl,fun base _ _=>wT FL T ⟩
theorem walk{l:Kp}{q:FS}{YP:GD->Heap->Prop}{d:DefRec}{K:LB->HN}(hn:l.most=some 63)(hdf:d.params.defaults=[])
 (hY:∀(w:GD)(h:Heap),YP w h->(K w.params).In h)
 (F:∀(w:GD)(mg:Str->Option E7)(fa:Addr)(h:Heap),(K w.params).In h->h.Ns Gq mg->mg d.name=some (.ref fa) ->
  ∃fd:HR,(∀(s:E_)(u:E7),Lp s fd ⟨[u],[]⟩ [("_law_script", u)])/\∀base:Heap,(K w.params).In base->base.Ns Gq mg->FnOk l.prog w (K w.params) mg base EN 11 fa fd ["_law_script"] (gG (K w.params))) :
 PySem.W.WalkO q loose XP YP l.row.toRowW d [] (fun f vs=>PySem.call f vs) :=
 L2.walk_of (n:=63) (k:=11) (x := "_law_script") (CX:=fun _=>EN) (sp:=fun w=>gG (K w.params)) hn (by decide) hdf ⟨rfl,by decide,by decide,rfl⟩ hY F (fun _ _ a ns hl _ hS=>⟨a,ns,rfl,hS,hl,fun _=>rfl⟩) fun _ _ _ _ _ z=>z
end K20
noncomputable def PySem.W.Fast.tw18043804051360462750:PySem.Params->HN:=K20.heapK
theorem PySem.W.Fast.te18043804051360462750:K20.heapK=PySem.W.Fast.tw18043804051360462750:=rfl
open PySem PySem.W PyProof.Rows
set_option maxRecDepth 100000 in
set_option maxHeartbeats 0 in
theorem PySem.Challenge.cw_evenpoints_k20_how_uneven_holds : PySem.Challenge.rw_evenpoints_k20_how_uneven.Holds := by
 refine(congrArg Kp.Holds K20.rw_eq).mpr ?_
 w_on;o_law
 refine holds_open (loose:=[]) (XP:=XL K20.zview []) (YP:=Hook.says (kHook K20.heapK K20.heapA K20.heapE)) K20.zleft
  (Hook.of _) (Hook.keeps _) (fun s e=>xl_of s (Fb.mp e).1)
  XL.keeps (by rfl) (by rfl) (by rfl) (fun s e=>recFacts_of (Fb.mp e).2) (by rfl)
  (by first|assumption|decide +kernel) (by decide +kernel) ⟨rfl,rfl,rfl,rfl,rfl,by decide +kernel⟩ ?hw ?hc
 (case hw=>w_witness2)
 k_fill
 refine K20.walk (l:=K20.rwN) rfl rfl (fun w h Y=>PySem.W.kIn_of (as:=K20.heapA) (e:=K20.heapE) Y) ?F
 case F =>
  intro w mg fa h KX G hmg
  refine' K20.all_mk KX G hmg ?a1 ?l1 ?c1 ?k1 ?a2 ?l2 ?c2 ?k2 ?a3 ?l3 ?c3 ?k3 ?a4 ?l4 ?c4 ?k4 ?a5 ?l5 ?c5 ?k5 ?a6 ?l6 ?c6 ?k6 ?a7 ?l7 ?c7 ?k7 ?a8 ?l8 ?c8 ?k8 ?a9 ?l9 ?c9 ?k9 ?a10 ?l10 ?c10 ?k10 ?a11 ?l11 ?c11 ?k11 ?a12 ?l12 ?c12 ?k12 ?a13 ?l13 ?c13 ?k13 ?a14 ?l14 ?c14 ?k14 ?a15 ?l15 ?c15 ?k15 ?a16 ?l16 ?c16 ?k16 ?a17 ?l17 ?c17 ?k17 ?a18 ?l18 ?c18 ?k18 ?a19 ?l19 ?c19 ?k19 ?a20 ?l20 ?c20 ?k20 ?a21 ?l21 ?c21 ?k21 ?a22 ?l22 ?c22 ?k22 ?a23 ?l23 ?c23 ?k23 ?a24 ?l24 ?c24 ?k24 ?a25 ?l25 ?c25 ?k25 ?a26 ?l26 ?c26 ?k26 ?a27 ?l27 ?c27 ?k27 ?a28 ?l28 ?c28 ?k28 ?a29 ?l29 ?c29 ?k29 ?a30 ?l30 ?c30 ?k30 ?a31 ?l31 ?c31 ?k31 ?a32 ?l32 ?c32 ?k32 ?a33 ?l33 ?c33 ?k33 ?a34 ?l34 ?c34 ?k34 ?a35 ?l35 ?c35 ?k35 ?a36 ?l36 ?c36 ?k36 ?a37 ?l37 ?c37 ?k37 ?a38 ?l38 ?c38 ?k38 ?a39 ?l39 ?c39 ?k39 ?a40 ?l40 ?c40 ?k40 ?a41 ?l41 ?c41 ?k41 ?zint ?zbool ?zstr ?zlist ?ztuple ?zdict ?zisinstance ?zlen ?zabs ?zrepr ?zrange ?zall ?zany ?zsum ?zmin ?zmax ?zsorted ?zzip ?zenumerate ?zreversed ?zdivmod ?zset ?gONE ?gZERO ?gBELOW_ALL ?gMOST_LOOKS 
  all_goals (try change _=_)
  (case a1=>k_is);(case l1=>k_is);(case c1=>k_is);(case k1=>k_is)
  (case a2=>k_is);(case l2=>k_is);(case c2=>k_is);(case k2=>k_is)
  (case a3=>k_is);(case l3=>k_is);(case c3=>k_is);(case k3=>k_is)
  (case a4=>k_is);(case l4=>k_is);(case c4=>k_is);(case k4=>k_is)
  (case a5=>k_is);(case l5=>k_is);(case c5=>k_is);(case k5=>k_is)
  (case a6=>k_is);(case l6=>k_is);(case c6=>k_is);(case k6=>k_is)
  (case a7=>k_is);(case l7=>k_is);(case c7=>k_is);(case k7=>k_is)
  (case a8=>k_is);(case l8=>k_is);(case c8=>k_is);(case k8=>k_is)
  (case a9=>k_is);(case l9=>k_is);(case c9=>k_is);(case k9=>k_is)
  (case a10=>k_is);(case l10=>k_is);(case c10=>k_is);(case k10=>k_is)
  (case a11=>k_is);(case l11=>k_is);(case c11=>k_is);(case k11=>k_is)
  (case a12=>k_is);(case l12=>k_is);(case c12=>k_is);(case k12=>k_is)
  (case a13=>k_is);(case l13=>k_is);(case c13=>k_is);(case k13=>k_is)
  (case a14=>k_is);(case l14=>k_is);(case c14=>k_is);(case k14=>k_is)
  (case a15=>k_is);(case l15=>k_is);(case c15=>k_is);(case k15=>k_is)
  (case a16=>k_is);(case l16=>k_is);(case c16=>k_is);(case k16=>k_is)
  (case a17=>k_is);(case l17=>k_is);(case c17=>k_is);(case k17=>k_is)
  (case a18=>k_is);(case l18=>k_is);(case c18=>k_is);(case k18=>k_is)
  (case a19=>k_is);(case l19=>k_is);(case c19=>k_is);(case k19=>k_is)
  (case a20=>k_is);(case l20=>k_is);(case c20=>k_is);(case k20=>k_is)
  (case a21=>k_is);(case l21=>k_is);(case c21=>k_is);(case k21=>k_is)
  (case a22=>k_is);(case l22=>k_is);(case c22=>k_is);(case k22=>k_is)
  (case a23=>k_is);(case l23=>k_is);(case c23=>k_is);(case k23=>k_is)
  (case a24=>k_is);(case l24=>k_is);(case c24=>k_is);(case k24=>k_is)
  (case a25=>k_is);(case l25=>k_is);(case c25=>k_is);(case k25=>k_is)
  (case a26=>k_is);(case l26=>k_is);(case c26=>k_is);(case k26=>k_is)
  (case a27=>k_is);(case l27=>k_is);(case c27=>k_is);(case k27=>k_is)
  (case a28=>k_is);(case l28=>k_is);(case c28=>k_is);(case k28=>k_is)
  (case a29=>k_is);(case l29=>k_is);(case c29=>k_is);(case k29=>k_is)
  (case a30=>k_is);(case l30=>k_is);(case c30=>k_is);(case k30=>k_is)
  (case a31=>k_is);(case l31=>k_is);(case c31=>k_is);(case k31=>k_is)
  (case a32=>k_is);(case l32=>k_is);(case c32=>k_is);(case k32=>k_is)
  (case a33=>k_is);(case l33=>k_is);(case c33=>k_is);(case k33=>k_is)
  (case a34=>k_is);(case l34=>k_is);(case c34=>k_is);(case k34=>k_is)
  (case a35=>k_is);(case l35=>k_is);(case c35=>k_is);(case k35=>k_is)
  (case a36=>k_is);(case l36=>k_is);(case c36=>k_is);(case k36=>k_is)
  (case a37=>k_is);(case l37=>k_is);(case c37=>k_is);(case k37=>k_is)
  (case a38=>k_is);(case l38=>k_is);(case c38=>k_is);(case k38=>k_is)
  (case a39=>k_is);(case l39=>k_is);(case c39=>k_is);(case k39=>k_is)
  (case a40=>k_is);(case l40=>k_is);(case c40=>k_is);(case k40=>k_is)
  (case a41=>k_is);(case l41=>k_is);(case c41=>k_is);(case k41=>k_is)
  (case zint=>k_is)
  (case zbool=>k_is)
  (case zstr=>k_is)
  (case zlist=>k_is)
  (case ztuple=>k_is)
  (case zdict=>k_is)
  (case zisinstance=>k_is)
  (case zlen=>k_is)
  (case zabs=>k_is)
  (case zrepr=>k_is)
  (case zrange=>k_is)
  (case zall=>k_is)
  (case zany=>k_is)
  (case zsum=>k_is)
  (case zmin=>k_is)
  (case zmax=>k_is)
  (case zsorted=>k_is)
  (case zzip=>k_is)
  (case zenumerate=>k_is)
  (case zreversed=>k_is)
  (case zdivmod=>k_is)
  (case zset=>k_is)
  (case gONE=>refine' L2.VL.GlK.pair ?h1 ?h2;(case h1=>k_is);(case h2=>k_is))
  (case gZERO=>refine' L2.VL.GlK.pair ?h1 ?h2;(case h1=>k_is);(case h2=>k_is))
  (case gBELOW_ALL=>refine' L2.VL.GlK.pair ?h1 ?h2;(case h1=>k_is);(case h2=>k_is))
  (case gMOST_LOOKS=>refine' L2.VL.GlK.int ?h1;(case h1=>k_is))
