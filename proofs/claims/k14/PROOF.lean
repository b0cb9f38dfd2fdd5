import PyProof.Rows.All
import Wide.All
import OpenK.AllK
import Wide.FinOn
import Lean
import PyProof.EqAt
import PyProof.EqKinds
import PyProof.TupleCall
import KE.KDictSum
import KE.KMinKey
import PyProof.Rows.CallKwBuiltin
import PyProof.SumWalkG
import PyProof.WalksMore
import PyProof.AutoSeq1
import KE.KDictOf
import PyProof.AttrMissHeap
import PySem.Challenge.RW_evenpoints_k14_points_by_cuts
set_option compiler.extract_closed false
set_option bootstrap.genMatcherCode false
set_option Elab.async false
set_option linter.all false
set_option maxRecDepth 100000
set_option maxHeartbeats 4000000
open And renaming intro->C8, imp_right->DE
open Array renaming getElem?_eq_some_iff->Fp, length_toList->Gz, all_eq_true_iff_forall_mem->GR, getElem?_eq_getElem->HK, getElem?_toList->IM, mk->JI
open Bool renaming and_eq_true_iff->Dj, or_eq_true_iff->DH, false_ne_true->DJ, false_eq_true->Fw, eq_iff_iff->Hd, and_eq_true->Iq, or_true->IJ
open Classical renaming choose_spec->Dg, choose->DW
open Exists renaming imp->El
open False renaming elim->D9
open ForInStep renaming yield->Gm
open Iff renaming rfl->G7
open Int renaming fmod_nonneg_of_pos->EV, toNat_natCast->Fi, gcd->FJ, eq_ofNat_of_zero_le->FW, fmod_lt_of_pos->Gf, fdiv_eq_ediv_of_nonneg->Hs, natAbs_natCast->HC, fmod_add_mul_fdiv->IG
open List renaming length_map->Di, mem_cons_of_mem->Dl, getElem?_set_ne->Dp, mem_append_right->Dt, getElem?_eq_some_iff->Du, mem_cons_self->Dx, getElem?_set_self->Dz, size_toArray->DA, getElem?_eq_getElem->DF, length_append->DK, range->DO, length_cons->DP, mem_cons->DS, getElem?_set->DU, getElem?_map->DY, take_of_length_le->D1, lookup_cons->Ea, getElem_mem->Eb, mem_map->Eg, replicate->Ej, drop_eq_getElem_cons->Ek, map_cons->Ep, take_succ_eq_append_getElem->Er, length_take->Ev, mem_of_getElem?->Ew, mem_append->Ez, append_nil->EA, find?_cons->EB, getElem?_replicate->EI, map_append->EM, flatMap_cons->EX, Nodup->E8, map_map->Fg, length_range->Fj, all_eq_true->Fq, mem_singleton->FC, length_filter_le->FG, mem_range->FH, getElem?_append_left->FI, nodup_cons->FO, filterMap_cons->FT, map_congr_left->FZ, drop_length->Ga, length_nil->Gk, not_mem_nil->Gy, forIn_cons->GM, contains_cons->GP, append_assoc->GW, getElem?_eq_none->G3, length_drop->G5, mem_append_left->G9, of_mem_zip->Hf, length_zip->Ho, getElem?_append_right->Hr, nodup_iff_pairwise_ne->Hv, getD_eq_getElem?_getD->Hw, any_cons->Ic, lookup->Ik, mem_flatMap->Ir, filterMap_eq_map'->Iz, length_singleton->ID, map_nil->IE, getElem?_zipWith->IH, foldl_cons->II, mem_of_mem_take->I_, nodup_nil->Jb, length_pos_iff->Jl, flatMap_append->Jm, cons->Ka
open List.Pairwise renaming nil->HW
open List.cons renaming injEq->DI
open Nat renaming lt_of_lt_of_le->Dk, le_refl->Dm, ne_of_lt->DB, zero_le->DG, pow_le_pow_right->DQ, lt_irrefl->D_, le_trans->Ef, ne_of_gt->Em, lt_of_le_of_lt->E5, le_of_lt->Gi, le_of_succ_le->Gq, le_add_right->G6, lt_trans->HA, le_succ->Jk, add_mul->Jn
open Nat.succ renaming inj->JH
open Ne renaming symm->Fm
open Option renaming isSome_iff_exists->FP, map_eq_some_iff->Gd, bind_some->G8, some->J_
open Option.some renaming inj->DX
open Or renaming inr->D2, inl->EC
open Prod.mk renaming injEq->Ia
open PyProof.Rows renaming callWith_type1->Es, callWith_builtin1->FS, assignInOrder_cons->Hy, envOfC->Hz, AllBare->Ib, subscriptTail_builtinR->Iu, IntsAre->Jf, subscriptTail->Js
open PySem renaming wpAny_bind->C9, PyData->Da, Value->Dc, Shared->Dd, wpAny_pure->De, starEach->Dh, Program->Dq, wpAny->Dr, mainGlobals->Ds, model->Dw, wpAny_mono->DC, foldedSetIterable->DL, Around->DM, World->DN, wpAny_newObj_type->DT, sizeLine_eq->DV, Paired->D0, wpAny_setField_rec->D6, wpAny_field->D8, tupleKind->Ee, mem_of_lookup->Ei, wpAny_standAt->ED, tupleKind_room_in1->EJ, wpAny_callSpecial?_slot->EL, backTo->ES, swapsWith->ET, cellsFrom->EU, codeAny->EW, letOwnedTupleGo->E2, wpAny_typeNameOfWhole_itemiter->E3, wpAny_Call_Name_kw->E4, wpAny_comprehension_free->E6, intKind->E9, sysModules->Fh, codeAny_builtin->Fo, wpAny_call_entry->Ft, bootBuiltins->Fu, FuncData->Fv, wpAny_seqItems->FK, wpAny_typeNameOf_itemiter->FM, wpAny_passesOwn->FN, wpAny_loadPart_at->FQ, codeAny_mono->FR, attributeBase->FU, storedH->FV, wpAny_holding->FY, compareOp->F_, wpAny_isOneOf_itemiter->Ge, DictEntry->Gh, rawInt->Gj, plainId_quiet->Gr, codeAny_call_builtin->Gs, cLine->Gu, wpAny_setField->Gw, assignEach->GD, wpAny_execs_nil->GG, binaryOp->GH, behindInMarks->GI, NameKind->GJ, wpAny_getItem_heap->GL, noteFrame->GN, sizeLine_eq->GU, sliceBounds->GV, newFunctionEnv->G0, pyNext->G1, Keyword->G4, assign->G_, wpAny_updateSeq_pair->Ha, wpAny_rule->Hb, keywordEach->Hg, theTreesLotGoes->Hh, IsPair->Hj, codeAny_of_tree->Hl, wpAny_isSubtype_exc->Hm, wpAny_setItem_heap->HB, repr_of_reads'->HF, firstArgMember->HH, wpAny_loadPart->HI, wpAny_fieldsOf->HJ, wpAny_truthy_bool->HQ, wpAny_assign_Name->HR, wpAny_pyIter_list->HU, wpAny_dictEntries->HZ, wpAny_of_eq->Ie, wpAny_onRaise->Ig, wpAny_attempt->Ih, noFill_tuple_add->Io, wpAny_Assign_Subscript->Iw, codeAny_compStart_list->Iy, importedModules->IA, Result->IC, codeAny_loop->IF, exec_Assign_Name_used->IL, wpAny_dictEpoch->IN, wpAny_updateSeq->IP, isInstance->IT, wpAny_loadName_local->IV, atKey->IW, intBits_le_iff->Ja, wpAny_loadName_cell->Jd, subscripted->Je, wpAny_noted->Jg, wpAny_letGo->Jh, assignInOrder->Jp, pyIter->Jq, seq_tuple_add->Jr, backToKw->Jt, compTurn->Ju, entryOfKey->Jv, standAt->Jw, holding->Jx, wpAny_call->Jy, typeLookup->Jz, call_meets->JA, valueAt->JB, callerA->JC, IsZip->JD, concat_meets->JF, Operator->JJ, bindName->JK, compPost->JL, getAttr?->JN, PassesOwn->JP, BindsTo->JQ, getItem->JR, pushCells->JT, onTheHeap->JW, Params->JX, Model->JZ, relabel->J3
open PySem.Around renaming under_plainId->EO, under->IB
open PySem.Builtin.Dict renaming addKeywords->HY, showsAll->IQ
open PySem.Builtin.Dict_items renaming ownsTuple->Gg, ownedTupleIsFree->GB, ownedTupleFields->GC, pairFromOwner->GS
open PySem.Builtin.List renaming listExtendWith->Go, listTooLong->GF, listFitsIndex->Hu, listSameRef->H0
open PySem.Builtin.SmallTypes renaming nextOf->DR, ownedTupleIsFree->EE, ownedTupleHandOut->Gx
open PySem.Builtin.Tuple renaming tupleExact->H_
open PySem.Calls renaming Name_function_global->Hq, callWith_builtin->Iv
open PySem.Code renaming quiet_builtin->HD, isFrame->JE
open PySem.EntryCells renaming newEntry->Ji
open PySem.F renaming plain_extend_loop->EZ, slot_dict_getitem->Gv, args_tuple_add_2->GE, entry_tuple_add->GK, slot_tuple_add->GT, attrBase_ValueError->Hn, excBase_ValueError->Ht, entry_extend_loop->HL, store_ValueError->HX, plain_list_iadd->Il, slot_dict_items->Im, entry_bexc_ga->IK, args_bexc_ga->I0
open PySem.Heap renaming get?_push_of_some->Db, lt_size->Df, get?_push_size->Do, get?_update_self->Eh, get?_update_other->Eo, size_push->EG, SameBut->EQ, DictOfH->FE, get?_none_of_le->IU, get?_update_ne->Jj, ExtBut->JV
open PySem.Heap.SameBut renaming refl->GZ, update->Hi
open PySem.NameKind renaming free->D5, cell->E_
open PySem.Obj renaming data_mapFields->E7, isFreed_of_fields->FA, mapFields->FX, mapSeq->HV
open PySem.Paired renaming length->EH, snoc->JS
open PySem.PassesOwn renaming never->Eu
open PySem.PyData renaming int->DZ, canLayAll0->Ec, depthAll->Ed, eqv->EF, leavesShort->EK, tuple->ER, canLay0->EY, depth->Fz, leavesShortAll->Gn, showable->GO, noDict_hsm->GX, bulkAll->HG, bool->Ii, shown_le_bulk->IZ, strOk->JG, bulk->JU
open PySem.PyData.int renaming injEq->Ip
open PySem.PyData.list renaming injEq->GY
open PySem.PyData.tuple renaming injEq->Ex
open PySem.SeqAt renaming shaped->D4, canLay_of_shaped->Ix
open PySem.Shared renaming TypeIs->GQ
open PySem.Str renaming ofString->Et
open PySem.Value renaming ref->Dn, none->D3, builtin->Fb, int->F0, type->Gb, bool->Gp, str->HP, isInt->JO
open PySem.W renaming mg_none_of->Dy, nsIn->D7, boot_heap->Ey, mg_of->EN, Frag->Fd, fnOf->HE, codeIn->HM, keepIn->HN, OpenLaw->IR, boot_drawn->IS, boot_toks->Jo, OpenLaw->JY
open Rat renaming normalize->Ij
open Sum renaming inr->E1, inl->Jc
open ToString renaming toString->JM
open True renaming intro->Gc
open PySem PySem.Spec PyProof.Rows
variable{loose N ps N':List Str}{α:Type}{xs:List (List Int×Addr×Dc)}{us:List Dc}{a b it f C r D:Addr}{o:Obj}{P:Dq}{w:DN}{h base h':Heap}{t' i j n:Nat}{ch fp:List Addr}{x qual:Str}{A:DM}{E Q:Dc->Dd->Prop}{u:Dc}{e tg iter:Expr}{s:Dd}{pos pos' px apos cpos:Pos}{pins:List (Addr×Obj)}{es ifs:List Expr}{env:Env}{mg:Str->Option Dc}{fd:Fv}{scope:Scope}{kvs:List (List Int×Da)}{XP:(Str->Option Dc)->Heap->Prop}{ns:List Int}{d:Da}{rl:Option Addr}{cl:List (Str×Addr)}{R:IC->Dd->Prop}{tn:Nat->Heap->Prop}{Rp:Addr->IC->Dd->Prop}{xs':List Da}{cs:List (List Rat)}
theorem æa(h:True:=by rfl):True:=trivial
theorem æb(h:True:=by decide):True:=trivial
theorem æc(h:True:=by first|exact EC rfl|exact D2 (EC rfl)|exact D2 (D2 rfl)):True:=trivial
theorem æd(h:True:=by intro _;rfl):True:=trivial
theorem æe(h:True:=by first|exact EC rfl|exact D2 rfl):True:=trivial
theorem æf(h:True:=by first|exact .inl rfl|exact .inr rfl):True:=trivial
theorem æg(h:True:=by first|exact .inl rfl|exact .inr rfl|assumption):True:=trivial
theorem æh(h:True:=by exact fun _ _=>rfl):True:=trivial
theorem æi(h:True:=by intro _ _;rfl):True:=trivial
noncomputable section
namespace L2
open PySem
noncomputable def inClass(s:Stmt)(j:Nat):Stmt:=match s with
 | .ClassDef _ _ _ body _ _ _ _ _ _ _=>body.getD j (.Pass ⟨0,0,0,0⟩)
 | _=>.Pass ⟨0,0,0,0⟩
noncomputable def defArgs(s:Stmt):Arguments:=match s with
 | .FunctionDef _ a _ _ _ _ _ _ _ _=>a
 | _=>{posonlyargs:=[],args:=[],vararg:=none,kwonlyargs:=[],kw_defaults:=[],kwarg:=none,defaults:=[]}
noncomputable def defBody(s:Stmt):List Stmt:=match s with
 | .FunctionDef _ _ b _ _ _ _ _ _ _=>b
 | _=>[]
noncomputable def defScope(s:Stmt):Scope:=match s with
 | .FunctionDef _ _ _ _ _ _ sc _ _ _=>sc
 | _=>{kind:=.function,names:=[],isGenerator:=false,isCoroutine:=false}
end L2
namespace L2.TT
open PySem PySem.W
noncomputable def BS(tb:String->Option Builtin)(p:Dq)(w:DN)(m:Nat)(ann:Option Dc):Nat->SharedT->Thread->Option SharedT
 | 0,_,_=>none
 | n+1,s,t=>match through t with
   | true=>some s
   | false=>match stepOk m ann t with
     | false=>none
     | true=>match stepT (denote tb) p w s t with
       | some r=>BS tb p w m ann n r.1 r.2
       | none=>none
theorem pL{tb:String->Option Builtin}{p:Dq}{w:DN}{m:Nat}{ann:Option Dc}:∀{n:Nat}{s s':SharedT}{t:Thread},BS tb p w m ann n s t=some s'->topRun tb p w m ann n s.abs t=some s'.abs
 | 0,_,_,_,h=>by cases h
 | n+1,s,s',t,h=>by
   unfold BS at h;unfold topRun
   cases he:through t with
   | true=>rw[he]at h;cases h;rfl
   | false =>
     rw[he]at h
     cases hk:stepOk m ann t with
     | false=>rw[hk]at h;cases h
     | true =>
       rw[hk]at h
       cases hs:stepT (denote tb) p w s t with
       | none=>rw[hs]at h;cases h
       | some r=>rw[hs]at h;rw[stepT_spec hs];exact pL h
noncomputable def bt(os:List Obj):Nat->Nat->Nat->BT
 | 0,_,_=>.nil
 | f+1,a,b=>match os[b]? with
   | some o=>.node o (bt os f (2*a) (a+b)) (bt os f (2*a) (2*a+b))
   | none=>.nil
theorem boot_abs(P:JX):absHeap (bt (Ey P).objs.toList 12 1 0) (Ey P).objs.size (Ey P).life=Ey P:=by kernel_rfl
abbrev vJ(p q:Dq)(loose:List Str)(Xt:Dd->Bool){α:Type}(Yf:Dd->α)(h₀:Heap)(s:Dd) :=
 (staticsOk (IA p.main.body) h₀ s.heap&&namesBound p s.heap&&gensDone s&&laidKept h₀ s.heap,openSeen q loose (IA p.main.body) Xt true s,Yf s)
theorem left_of{p q:Dq}{Xt:Dd->Bool}{Yf:Dd->α}{Ya:DN->α}{N m M:Nat}{ann:Option Dc}
 (e:opening p=plainProg p.main.scope.names)(hN:Nat.ble 600 N=true)(f:∀s,fenceModules? p s=some s)(le:Nat.ble M N=true)
 (size:∀w:DN,((Ey w.params).isNs Ds,(Ey w.params).objs.size,(Ey w.params).nsMap Ds "__annotations__")=(true,m,ann))
 (run:∀(w:DN)(os:OsState),(BS treeTable p w m ann M ⟨bt (Ey w.params).objs.toList 12 1 0,(Ey w.params).objs.size,(Ey w.params).life,JI [],IS,Jo,os⟩ (topStub p)).map (fun s=>vJ p q loose Xt Yf (Ey w.params) s.abs)=some (true,openGood q loose,Ya w)) :
 LeftO p q loose Xt Yf Ya N:=fun w=>by
 obtain⟨⟨h,gs,d,k,os⟩,eo,e'⟩:=Gd.mp (boot_open e hN f w);obtain⟨rfl,rfl,rfl,rfl⟩:h=Ey w.params/\gs=JI []/\d=IS/\k=Jo:=by simpa using e'
 obtain⟨z1,z2,z3⟩:_/\_/\_:=by simpa only[Ia]using size w
 obtain⟨s',r,l⟩:=Gd.mp (run w os);obtain⟨l1,l2,l3⟩:_/\_/\_:=by simpa only[vJ,Ia]using l
 have r:=pL r
 have hb:SharedT.abs ⟨bt (Ey w.params).objs.toList 12 1 0,(Ey w.params).objs.size,(Ey w.params).life,JI [],IS,Jo,os⟩=⟨Ey w.params,JI [],IS,Jo,os⟩:=by
  show Dd.mk (absHeap _ _ _) _ _ _ _=_;rw[boot_abs]
 rw[hb]at r;have r:=topRun_mono (N-M) _ _ _ _ r;rw[show M+(N-M)=N by have:=Nat.le_of_ble_eq_true le;omega]at r
 have t:topFrom treeTable p w N ⟨Ey w.params,JI [],IS,Jo,os⟩=some s'.abs:=by
  unfold topFrom;dsimp only;rw[z1,z2,z3,r];show(match staticsOk (IA p.main.body) (Ey w.params) s'.abs.heap&&namesBound p s'.abs.heap&&gensDone s'.abs&&laidKept (Ey w.params) s'.abs.heap with|true=>_|false=>_)=_;rw[l1]
 unfold openEnds;rw[eo];show(topFrom treeTable p w N _).map _=_;rw[t];exact congrArg some (Prod.ext l2 l3)
end L2.TT
namespace K14
open PySem
def top(i:Nat):Stmt:=PySem.Challenge.pw_evenpoints_k14_points_by_cuts.main.body.getD i (.Pass ⟨0,0,0,0⟩)
end K14
noncomputable def PySem.W.Fast.tw5929513770401267129:PySem.Program:=PySem.Challenge.pw_evenpoints_k14_points_by_cuts
theorem PySem.W.Fast.te5929513770401267129:PySem.Challenge.pw_evenpoints_k14_points_by_cuts=PySem.W.Fast.tw5929513770401267129:=rfl
namespace K14
open PySem PySem.W L2
def AD:Stmt:=top 0
def AC:Stmt:=top 1
def AB:Stmt:=top 2
def AA:Stmt:=top 3
def Az:Stmt:=top 4
def Ay:Stmt:=top 5
def Ax:Stmt:=top 6
def Aw:Stmt:=top 7
def Av:Stmt:=top 8
def Au:Stmt:=top 9
def zh:Stmt:=top 10
def zg:Stmt:=top 11
def zf:Stmt:=top 12
def zR:Stmt:=top 13
def ze:Stmt:=top 14
def zQ:Stmt:=top 15
def zd:Stmt:=top 16
def zc:Stmt:=top 17
def zb:Stmt:=top 18
def za:Stmt:=top 19
def y_:Stmt:=top 20
def y9:Stmt:=top 21
def zP:Stmt:=top 22
def y8:Stmt:=top 23
def y7:Stmt:=top 24
def y0:Stmt:=top 25
def yZ:Stmt:=top 26
def yY:Stmt:=top 27
def yX:Stmt:=top 28
def yW:Stmt:=top 29
def yV:Stmt:=top 30
def yU:Stmt:=top 31
def yT:Stmt:=top 32
def yS:Stmt:=top 33
def yR:Stmt:=top 34
def Bu:Dq:={PySem.Challenge.pw_evenpoints_k14_points_by_cuts with main:={PySem.Challenge.pw_evenpoints_k14_points_by_cuts.main with body:=[AD,AC,AB,AA,Az,Ay,Ax,Aw,Av,Au,zh,zg,zf,zR,ze,zQ,zd,zc,zb,za,y_,y9,zP,y8,y7,y0,yZ,yY,yX,yW,yV,yU,yT,yS,yR]}}
def rwN:JY:={PySem.Challenge.rw_evenpoints_k14_points_by_cuts with prog:=Bu}
noncomputable def zview:Dq:={PySem.Challenge.pw_evenpoints_k14_points_by_cuts with main:={PySem.Challenge.pw_evenpoints_k14_points_by_cuts.main with body:=[AC,AA,Az,Ay,Ax,Aw,Av,Au,zh,zg,zf,ze,zd,zc,zb,za,y_,y9,y8,y7,y0,yZ,yY,yX,yW,yV,yU,yT,yS,yR]}}
theorem rw_eq:PySem.Challenge.rw_evenpoints_k14_points_by_cuts=rwN:=rfl
noncomputable def AL(P:JX)(x:Str)(t:Nat)(v:Dc):Gh:=⟨Da.keyHash P x,.str x t,v⟩
noncomputable def AK(n q:Str)(s:Stmt)(pm cd:Dc):Obj:=⟨.type "function", none,.func (fnOf n q (defArgs s) (defBody s) (defScope s) .none .none .none pm none cd .none),#[]⟩
noncomputable def AN(n q:Str)(a b c:Nat)(l x y:Int)(r:Nat)(z:Int)(r2:Nat)(v1 v2 v3:Dc)(r3:Nat)(u:Int)(c2:Nat):Obj:=⟨.type "code", none,.fields #[.str n a,.str q b,.str "/claim/cut.py" c,.int l 0,.int x 0,.int 0 0,.int 0 0,.int y 0,.ref r,.bool true,.int z 0,.ref r2,v1,v2,v3,.ref r3,.int u 0,.int l 0,.str "/claim/cut.py" c2],#[]⟩
noncomputable def AI:Dc:=.str "evenpoints.choices" 187
noncomputable def AH:Dc:=.str "evenpoints.errors" 195
noncomputable def AG:Dc:=.str "evenpoints.fractions" 444
noncomputable def AF:Dc:=.str "evenpoints.patches" 454
noncomputable def AE:Dc:=.str "law_evenpoints_k14_points_by_cuts" 491
abbrev AJ(n:Str):=AK n n
abbrev AM(n:Str):=AN n n
noncomputable def heapK(P:JX):Frag :=
 (nat_lit 2,(.mk .none none (.dict #[] 0) #[])) ::
 (nat_lit 3,(.mk (.type "dict") none (.dict #[AL P "__name__" 165 (.str "law_evenpoints_k14_points_by_cuts" 491),AL P "__doc__" 166 .none,AL P "__package__" 167 .none,AL P "__loader__" 168 (.builtin "__main__.__loader__#opaque"),AL P "__spec__" 169 .none,AL P "__annotations__" 170 (.ref 6),AL P "__builtins__" 171 (.ref 4),AL P "__file__" 173 (.str "/claim/cut.py" 172),AL P "__cached__" 174 .none,AL P "choices" 194 (.ref 19),AL P "EvenError" 214 (.ref 29),AL P "Nought" 239 (.ref 49),AL P "NoRoom" 264 (.ref 68),AL P "TooMany" 289 (.ref 87),AL P "NoText" 314 (.ref 106),AL P "NoPaper" 341 (.ref 125),AL P "NoNet" 368 (.ref 144),AL P "NoUpper" 393 (.ref 163),AL P "NoDeed" 418 (.ref 182),AL P "NoRow" 443 (.ref 201),AL P "is_below" 453 (.ref 210),AL P "MOST_PATCHES" 457 (.int 1000 456),AL P "stretch_of" 463 (.ref 215),AL P "patch_of" 469 (.ref 220),AL P "many_patches" 478 (.ref 227),AL P "patches_of" 484 (.ref 232),AL P "counted" 490 (.ref 237),AL P "_law_reel" 499 (.ref 244),AL P "_law_pick" 511 (.ref 251),AL P "_law_made" 522 (.ref 258),AL P "_law_number" 531 (.ref 265),AL P "_law_points" 545 (.ref 272),AL P "_law_below" 553 (.ref 279),AL P "_law_told" 564 (.ref 286),AL P "_law_some_cuts" 570 (.ref 291),AL P "_law_even_cuts" 576 (.ref 296),AL P "_law_many_cuts" 582 (.ref 301),AL P "_law_due" 588 (.ref 306),AL P "law" 594 (.ref 311)] 39) #[])) ::
 (nat_lit 6,(.mk (.type "dict") none (.dict #[] 0) #[])) ::
 (nat_lit 18,AM "choices" 189 190 191 2 1 3 15 181 16 .none .none .none 17 192 193) ::
 (nat_lit 19,AJ "choices" (top 1) AI (.ref 18)) ::
 (nat_lit 20,(.mk (.type "tuple") none (.seq #[(.type "ValueError")] 0) #[])) ::
 (nat_lit 27,(.mk (.type "tuple") none (.seq #[] 0) #[])) ::
 (nat_lit 28,(.mk (.type "dict") none (.dict #[AL P "__module__" 204 (.str "evenpoints.errors" 195),AL P "__firstlineno__" 208 (.int 8 207),AL P "__static_attributes__" 209 (.ref 27),AL P "__weakref__" 211 (.ref 30),AL P "__doc__" 212 .none] 3) #[])) ::
 (nat_lit 29,(.mk (.type "type") none (.cls (.mk "EvenError" [(.type "ValueError")] [(.ref 29),(.type "ValueError"),(.type "Exception"),(.type "BaseException"),(.type "object")] 28 "EvenError" true [] [(.ref 49),(.ref 68),(.ref 87),(.ref 106),(.ref 125),(.ref 144),(.ref 163),(.ref 182),(.ref 201)] false none false)) #[(some (.ref 20)),none,(some (.str "EvenError" 197)),(some (.str "EvenError" 205)),(some (.builtin "ValueError.__new__")),(some (.bool true))])) ::
 (nat_lit 30,(.mk (.type "getset_descriptor") none (.fields #[(.str "__weakref__" 210),(.ref 29),(.builtin "ExceptionGroup.__weakref__"),.none]) #[])) ::
 (nat_lit 33,(.mk (.type "tuple") none (.seq #[(.ref 29)] 0) #[])) ::
 (nat_lit 45,AN "__init__" "Nought.__init__" 227 228 229 12 2 3 40 181 41 .none (.ref 42) (.ref 43) 44 232 233) ::
 (nat_lit 46,AK "__init__" "Nought.__init__" (inClass (top 4) 0) AH (.ref 45)) ::
 (nat_lit 47,(.mk (.type "tuple") none (.seq #[(.str "word" 235)] 0) #[])) ::
 (nat_lit 48,(.mk (.type "dict") none (.dict #[AL P "__module__" 222 (.str "evenpoints.errors" 195),AL P "__firstlineno__" 226 (.int 10 225),AL P "__init__" 234 (.ref 46),AL P "__static_attributes__" 236 (.ref 47),AL P "__doc__" 237 .none] 2) #[])) ::
 (nat_lit 49,(.mk (.type "type") none (.cls (.mk "Nought" [(.ref 29)] [(.ref 49),(.ref 29),(.type "ValueError"),(.type "Exception"),(.type "BaseException"),(.type "object")] 48 "Nought" true [] [] false none false)) #[(some (.ref 33)),none,(some (.str "Nought" 215)),(some (.str "Nought" 223)),(some (.builtin "ValueError.__new__")),(some (.bool true))])) ::
 (nat_lit 52,(.mk (.type "tuple") none (.seq #[(.ref 29)] 0) #[])) ::
 (nat_lit 64,AN "__init__" "NoRoom.__init__" 252 253 254 16 2 3 59 181 60 .none (.ref 61) (.ref 62) 63 257 258) ::
 (nat_lit 65,AK "__init__" "NoRoom.__init__" (inClass (top 5) 0) AH (.ref 64)) ::
 (nat_lit 66,(.mk (.type "tuple") none (.seq #[(.str "word" 260)] 0) #[])) ::
 (nat_lit 67,(.mk (.type "dict") none (.dict #[AL P "__module__" 247 (.str "evenpoints.errors" 195),AL P "__firstlineno__" 251 (.int 14 250),AL P "__init__" 259 (.ref 65),AL P "__static_attributes__" 261 (.ref 66),AL P "__doc__" 262 .none] 2) #[])) ::
 (nat_lit 68,(.mk (.type "type") none (.cls (.mk "NoRoom" [(.ref 29)] [(.ref 68),(.ref 29),(.type "ValueError"),(.type "Exception"),(.type "BaseException"),(.type "object")] 67 "NoRoom" true [] [] false none false)) #[(some (.ref 52)),none,(some (.str "NoRoom" 240)),(some (.str "NoRoom" 248)),(some (.builtin "ValueError.__new__")),(some (.bool true))])) ::
 (nat_lit 71,(.mk (.type "tuple") none (.seq #[(.ref 29)] 0) #[])) ::
 (nat_lit 83,AN "__init__" "TooMany.__init__" 277 278 279 20 2 3 78 181 79 .none (.ref 80) (.ref 81) 82 282 283) ::
 (nat_lit 84,AK "__init__" "TooMany.__init__" (inClass (top 6) 0) AH (.ref 83)) ::
 (nat_lit 85,(.mk (.type "tuple") none (.seq #[(.str "word" 285)] 0) #[])) ::
 (nat_lit 86,(.mk (.type "dict") none (.dict #[AL P "__module__" 272 (.str "evenpoints.errors" 195),AL P "__firstlineno__" 276 (.int 18 275),AL P "__init__" 284 (.ref 84),AL P "__static_attributes__" 286 (.ref 85),AL P "__doc__" 287 .none] 2) #[])) ::
 (nat_lit 87,(.mk (.type "type") none (.cls (.mk "TooMany" [(.ref 29)] [(.ref 87),(.ref 29),(.type "ValueError"),(.type "Exception"),(.type "BaseException"),(.type "object")] 86 "TooMany" true [] [] false none false)) #[(some (.ref 71)),none,(some (.str "TooMany" 265)),(some (.str "TooMany" 273)),(some (.builtin "ValueError.__new__")),(some (.bool true))])) ::
 (nat_lit 90,(.mk (.type "tuple") none (.seq #[(.ref 29)] 0) #[])) ::
 (nat_lit 102,AN "__init__" "NoText.__init__" 302 303 304 24 2 3 97 181 98 .none (.ref 99) (.ref 100) 101 307 308) ::
 (nat_lit 103,AK "__init__" "NoText.__init__" (inClass (top 7) 0) AH (.ref 102)) ::
 (nat_lit 104,(.mk (.type "tuple") none (.seq #[(.str "place" 310)] 0) #[])) ::
 (nat_lit 105,(.mk (.type "dict") none (.dict #[AL P "__module__" 297 (.str "evenpoints.errors" 195),AL P "__firstlineno__" 301 (.int 22 300),AL P "__init__" 309 (.ref 103),AL P "__static_attributes__" 311 (.ref 104),AL P "__doc__" 312 .none] 2) #[])) ::
 (nat_lit 106,(.mk (.type "type") none (.cls (.mk "NoText" [(.ref 29)] [(.ref 106),(.ref 29),(.type "ValueError"),(.type "Exception"),(.type "BaseException"),(.type "object")] 105 "NoText" true [] [] false none false)) #[(some (.ref 90)),none,(some (.str "NoText" 290)),(some (.str "NoText" 298)),(some (.builtin "ValueError.__new__")),(some (.bool true))])) ::
 (nat_lit 109,(.mk (.type "tuple") none (.seq #[(.ref 29)] 0) #[])) ::
 (nat_lit 121,AN "__init__" "NoPaper.__init__" 327 328 329 28 3 3 116 181 117 .none (.ref 118) (.ref 119) 120 333 334) ::
 (nat_lit 122,AK "__init__" "NoPaper.__init__" (inClass (top 8) 0) AH (.ref 121)) ::
 (nat_lit 123,(.mk (.type "tuple") none (.seq #[(.str "path" 336),(.str "word" 337)] 0) #[])) ::
 (nat_lit 124,(.mk (.type "dict") none (.dict #[AL P "__module__" 322 (.str "evenpoints.errors" 195),AL P "__firstlineno__" 326 (.int 26 325),AL P "__init__" 335 (.ref 122),AL P "__static_attributes__" 338 (.ref 123),AL P "__doc__" 339 .none] 2) #[])) ::
 (nat_lit 125,(.mk (.type "type") none (.cls (.mk "NoPaper" [(.ref 29)] [(.ref 125),(.ref 29),(.type "ValueError"),(.type "Exception"),(.type "BaseException"),(.type "object")] 124 "NoPaper" true [] [] false none false)) #[(some (.ref 109)),none,(some (.str "NoPaper" 315)),(some (.str "NoPaper" 323)),(some (.builtin "ValueError.__new__")),(some (.bool true))])) ::
 (nat_lit 128,(.mk (.type "tuple") none (.seq #[(.ref 29)] 0) #[])) ::
 (nat_lit 140,AN "__init__" "NoNet.__init__" 354 355 356 33 3 3 135 181 136 .none (.ref 137) (.ref 138) 139 360 361) ::
 (nat_lit 141,AK "__init__" "NoNet.__init__" (inClass (top 9) 0) AH (.ref 140)) ::
 (nat_lit 142,(.mk (.type "tuple") none (.seq #[(.str "number" 363),(.str "word" 364)] 0) #[])) ::
 (nat_lit 143,(.mk (.type "dict") none (.dict #[AL P "__module__" 349 (.str "evenpoints.errors" 195),AL P "__firstlineno__" 353 (.int 31 352),AL P "__init__" 362 (.ref 141),AL P "__static_attributes__" 365 (.ref 142),AL P "__doc__" 366 .none] 2) #[])) ::
 (nat_lit 144,(.mk (.type "type") none (.cls (.mk "NoNet" [(.ref 29)] [(.ref 144),(.ref 29),(.type "ValueError"),(.type "Exception"),(.type "BaseException"),(.type "object")] 143 "NoNet" true [] [] false none false)) #[(some (.ref 128)),none,(some (.str "NoNet" 342)),(some (.str "NoNet" 350)),(some (.builtin "ValueError.__new__")),(some (.bool true))])) ::
 (nat_lit 147,(.mk (.type "tuple") none (.seq #[(.ref 29)] 0) #[])) ::
 (nat_lit 159,AN "__init__" "NoUpper.__init__" 381 382 383 38 2 3 154 181 155 .none (.ref 156) (.ref 157) 158 386 387) ::
 (nat_lit 160,AK "__init__" "NoUpper.__init__" (inClass (top 10) 0) AH (.ref 159)) ::
 (nat_lit 161,(.mk (.type "tuple") none (.seq #[(.str "number" 389)] 0) #[])) ::
 (nat_lit 162,(.mk (.type "dict") none (.dict #[AL P "__module__" 376 (.str "evenpoints.errors" 195),AL P "__firstlineno__" 380 (.int 36 379),AL P "__init__" 388 (.ref 160),AL P "__static_attributes__" 390 (.ref 161),AL P "__doc__" 391 .none] 2) #[])) ::
 (nat_lit 163,(.mk (.type "type") none (.cls (.mk "NoUpper" [(.ref 29)] [(.ref 163),(.ref 29),(.type "ValueError"),(.type "Exception"),(.type "BaseException"),(.type "object")] 162 "NoUpper" true [] [] false none false)) #[(some (.ref 147)),none,(some (.str "NoUpper" 369)),(some (.str "NoUpper" 377)),(some (.builtin "ValueError.__new__")),(some (.bool true))])) ::
 (nat_lit 166,(.mk (.type "tuple") none (.seq #[(.ref 29)] 0) #[])) ::
 (nat_lit 178,AN "__init__" "NoDeed.__init__" 406 407 408 42 2 3 173 181 174 .none (.ref 175) (.ref 176) 177 411 412) ::
 (nat_lit 179,AK "__init__" "NoDeed.__init__" (inClass (top 11) 0) AH (.ref 178)) ::
 (nat_lit 180,(.mk (.type "tuple") none (.seq #[(.str "word" 414)] 0) #[])) ::
 (nat_lit 181,(.mk (.type "dict") none (.dict #[AL P "__module__" 401 (.str "evenpoints.errors" 195),AL P "__firstlineno__" 405 (.int 40 404),AL P "__init__" 413 (.ref 179),AL P "__static_attributes__" 415 (.ref 180),AL P "__doc__" 416 .none] 2) #[])) ::
 (nat_lit 182,(.mk (.type "type") none (.cls (.mk "NoDeed" [(.ref 29)] [(.ref 182),(.ref 29),(.type "ValueError"),(.type "Exception"),(.type "BaseException"),(.type "object")] 181 "NoDeed" true [] [] false none false)) #[(some (.ref 166)),none,(some (.str "NoDeed" 394)),(some (.str "NoDeed" 402)),(some (.builtin "ValueError.__new__")),(some (.bool true))])) ::
 (nat_lit 185,(.mk (.type "tuple") none (.seq #[(.ref 29)] 0) #[])) ::
 (nat_lit 197,AN "__init__" "NoRow.__init__" 431 432 433 46 2 3 192 181 193 .none (.ref 194) (.ref 195) 196 436 437) ::
 (nat_lit 198,AK "__init__" "NoRow.__init__" (inClass (top 12) 0) AH (.ref 197)) ::
 (nat_lit 199,(.mk (.type "tuple") none (.seq #[(.str "row" 439)] 0) #[])) ::
 (nat_lit 200,(.mk (.type "dict") none (.dict #[AL P "__module__" 426 (.str "evenpoints.errors" 195),AL P "__firstlineno__" 430 (.int 44 429),AL P "__init__" 438 (.ref 198),AL P "__static_attributes__" 440 (.ref 199),AL P "__doc__" 441 .none] 2) #[])) ::
 (nat_lit 201,(.mk (.type "type") none (.cls (.mk "NoRow" [(.ref 29)] [(.ref 201),(.ref 29),(.type "ValueError"),(.type "Exception"),(.type "BaseException"),(.type "object")] 200 "NoRow" true [] [] false none false)) #[(some (.ref 185)),none,(some (.str "NoRow" 419)),(some (.str "NoRow" 427)),(some (.builtin "ValueError.__new__")),(some (.bool true))])) ::
 (nat_lit 209,AM "is_below" 446 447 448 49 2 3 204 181 205 .none (.ref 206) (.ref 207) 208 451 452) ::
 (nat_lit 210,AJ "is_below" (top 14) AG (.ref 209)) ::
 (nat_lit 214,AM "stretch_of" 458 459 460 53 2 3 211 181 212 .none .none .none 213 461 462) ::
 (nat_lit 215,AJ "stretch_of" (top 17) AF (.ref 214)) ::
 (nat_lit 219,AM "patch_of" 464 465 466 55 2 3 216 181 217 .none .none .none 218 467 468) ::
 (nat_lit 220,AJ "patch_of" (top 18) AF (.ref 219)) ::
 (nat_lit 226,AM "many_patches" 470 471 472 57 1 3 221 181 222 .none (.ref 223) (.ref 224) 225 476 477) ::
 (nat_lit 227,AJ "many_patches" (top 19) AF (.ref 226)) ::
 (nat_lit 231,AM "patches_of" 479 480 481 62 1 3 228 181 229 .none .none .none 230 482 483) ::
 (nat_lit 232,AJ "patches_of" (top 20) AF (.ref 231)) ::
 (nat_lit 236,AM "counted" 485 486 487 64 2 3 233 181 234 .none .none .none 235 488 489) ::
 (nat_lit 237,AJ "counted" (top 21) AF (.ref 236)) ::
 (nat_lit 243,AM "_law_reel" 493 494 495 72 1 3 238 181 239 .none (.ref 240) (.ref 241) 242 497 498) ::
 (nat_lit 244,AJ "_law_reel" (top 23) AE (.ref 243)) ::
 (nat_lit 250,AM "_law_pick" 500 501 502 74 2 3 245 181 246 .none (.ref 247) (.ref 248) 249 509 510) ::
 (nat_lit 251,AJ "_law_pick" (top 24) AE (.ref 250)) ::
 (nat_lit 257,AM "_law_made" 512 513 514 89 2 3 252 181 253 .none (.ref 254) (.ref 255) 256 520 521) ::
 (nat_lit 258,AJ "_law_made" (top 25) AE (.ref 257)) ::
 (nat_lit 264,AM "_law_number" 523 524 525 95 1 3 259 181 260 .none (.ref 261) (.ref 262) 263 529 530) ::
 (nat_lit 265,AJ "_law_number" (top 26) AE (.ref 264)) ::
 (nat_lit 271,AM "_law_points" 532 533 534 101 3 3 266 181 267 .none (.ref 268) (.ref 269) 270 543 544) ::
 (nat_lit 272,AJ "_law_points" (top 27) AE (.ref 271)) ::
 (nat_lit 278,AM "_law_below" 546 547 548 110 2 3 273 181 274 .none (.ref 275) (.ref 276) 277 551 552) ::
 (nat_lit 279,AJ "_law_below" (top 28) AE (.ref 278)) ::
 (nat_lit 285,AM "_law_told" 554 555 556 112 2 3 280 181 281 .none (.ref 282) (.ref 283) 284 562 563) ::
 (nat_lit 286,AJ "_law_told" (top 29) AE (.ref 285)) ::
 (nat_lit 290,AM "_law_some_cuts" 565 566 567 120 3 3 287 181 288 .none .none .none 289 568 569) ::
 (nat_lit 291,AJ "_law_some_cuts" (top 30) AE (.ref 290)) ::
 (nat_lit 295,AM "_law_even_cuts" 571 572 573 129 1 3 292 181 293 .none .none .none 294 574 575) ::
 (nat_lit 296,AJ "_law_even_cuts" (top 31) AE (.ref 295)) ::
 (nat_lit 300,AM "_law_many_cuts" 577 578 579 131 2 3 297 181 298 .none .none .none 299 580 581) ::
 (nat_lit 301,AJ "_law_many_cuts" (top 32) AE (.ref 300)) ::
 (nat_lit 305,AM "_law_due" 583 584 585 135 2 3 302 181 303 .none .none .none 304 586 587) ::
 (nat_lit 306,AJ "_law_due" (top 33) AE (.ref 305)) ::
 (nat_lit 310,AM "law" 589 590 591 151 1 3 307 181 308 .none .none .none 309 592 593) ::
 (nat_lit 311,AJ "law" (top 34) AE (.ref 310))::[]
noncomputable def heapA:List Addr:=nat_lit 2::nat_lit 3::nat_lit 6::nat_lit 18::nat_lit 19::nat_lit 20::nat_lit 27::nat_lit 28::nat_lit 29::nat_lit 30::nat_lit 33::nat_lit 45::nat_lit 46::nat_lit 47::nat_lit 48::nat_lit 49::nat_lit 52::nat_lit 64::nat_lit 65::nat_lit 66::nat_lit 67::nat_lit 68::nat_lit 71::nat_lit 83::nat_lit 84::nat_lit 85::nat_lit 86::nat_lit 87::nat_lit 90::nat_lit 102::nat_lit 103::nat_lit 104::nat_lit 105::nat_lit 106::nat_lit 109::nat_lit 121::nat_lit 122::nat_lit 123::nat_lit 124::nat_lit 125::nat_lit 128::nat_lit 140::nat_lit 141::nat_lit 142::nat_lit 143::nat_lit 144::nat_lit 147::nat_lit 159::nat_lit 160::nat_lit 161::nat_lit 162::nat_lit 163::nat_lit 166::nat_lit 178::nat_lit 179::nat_lit 180::nat_lit 181::nat_lit 182::nat_lit 185::nat_lit 197::nat_lit 198::nat_lit 199::nat_lit 200::nat_lit 201::nat_lit 209::nat_lit 210::nat_lit 214::nat_lit 215::nat_lit 219::nat_lit 220::nat_lit 226::nat_lit 227::nat_lit 231::nat_lit 232::nat_lit 236::nat_lit 237::nat_lit 243::nat_lit 244::nat_lit 250::nat_lit 251::nat_lit 257::nat_lit 258::nat_lit 264::nat_lit 265::nat_lit 271::nat_lit 272::nat_lit 278::nat_lit 279::nat_lit 285::nat_lit 286::nat_lit 290::nat_lit 291::nat_lit 295::nat_lit 296::nat_lit 300::nat_lit 301::nat_lit 305::nat_lit 306::nat_lit 310::nat_lit 311::[]
theorem heapE:∀P,heapA=(heapK P).map (·.1):=fun _=>rfl
theorem wO:∀w:DN,((Ey w.params).isNs Ds,(Ey w.params).objs.size,(Ey w.params).nsMap Ds "__annotations__")=(true,11,some (.ref 6)):=fun w=>by kernel_rfl
set_option maxHeartbeats 0 in
theorem zleft:LeftO Bu zview [] (fun s=>xlAt zview [] s&&recOk (RowW.records rwN.row.toRowW) s) (Hook.obs (kHook heapK heapA heapE)) (Hook.val (kHook heapK heapA heapE)) 6718 :=
 L2.TT.left_of (M:=6718) (by kernel_rfl) rfl (fun s=>by kernel_rfl) rfl wO fun w os=>by kernel_rfl
end K14
namespace L2
abbrev CK:=Sum Int Str
noncomputable def j8:CK->Dc->Bool
 | .inl k,v=>JO k v
 | .inr x,v=>Dc.isStrOf x v
noncomputable def Al(w:DN):CK->Int
 | .inl k=>hashInt k
 | .inr x=>hashStr w x
theorem aN:∀{k:CK}{v:Dc},j8 k v=true->(∃i t,k=Jc i/\v=F0 i t)\/(∃x t,k=E1 x/\v=HP x t)
 | .inl i,v,h=>by
   obtain⟨t,e⟩:=Dc.isInt_shape (k:=i) (v:=v) h
   exact .inl ⟨i,t,rfl,e⟩
 | .inr x,v,h=>by
   obtain⟨t,e⟩:=Dc.isStrOf_shape (x:=x) (v:=v) h;exact .inr ⟨x,t,rfl,e⟩
theorem l7(i:Int)(t:Tok):j8 (.inl i) (.int i t)=true:=by simp[j8,JO]
theorem l6(x:Str)(t:Tok):j8 (.inr x) (.str x t)=true:=by simp[j8,Dc.isStrOf]
theorem vP(a b:Int):decide ((Jc a:CK)=Jc b)=(a==b):=by
 by_cases e:a=b
 · subst e;simp
 · have h:¬(Jc a:CK)=Jc b:=fun q=>e (Jc.inj q);rw[decide_eq_false h];exact(beq_eq_false_iff_ne.mpr e).symm
theorem vM(a b:Str):decide ((E1 a:CK)=E1 b)=decide (a=b):=by
 by_cases e:a=b
 · subst e;simp
 · have h:¬(E1 a:CK)=E1 b:=fun q=>e (E1.inj q);rw[decide_eq_false h,decide_eq_false e]
theorem vO(a:Int)(b:Str):decide ((Jc a:CK)=E1 b)=false:=decide_eq_false (fun q=>nomatch q)
theorem vN(a:Str)(b:Int):decide ((E1 a:CK)=Jc b)=false:=decide_eq_false (fun q=>nomatch q)
noncomputable def be(prog:Dq)(w:DN):PySem.KeyKind prog w CK where
 is:=j8
 hash:=Al w
 inj:=fun v a b ha hb=>by
  rcases aN ha with⟨i,t,rfl,rfl⟩|⟨x,t,rfl,rfl⟩
  · rcases aN hb with⟨j,u,rfl,e⟩|⟨y,u,rfl,e⟩
    · injection e with e1 _;rw[e1]
    · exact nomatch e
  · rcases aN hb with⟨j,u,rfl,e⟩|⟨y,u,rfl,e⟩
    · exact nomatch e
    · injection e with e1 _;rw[e1]
 byValue:=fun k v h=>by
   rcases aN h with⟨i,t,rfl,rfl⟩|⟨x,t,rfl,rfl⟩<;>rfl
 pyHash:=fun hv h=>by
  rcases aN hv with⟨i,t,rfl,rfl⟩|⟨x,t,rfl,rfl⟩
  · exact wpAny_pyHash_int h
  · exact wpAny_pyHash_str h
 eqBool:=fun hu hv h=>by
  rcases aN hu with⟨i,t,rfl,rfl⟩|⟨x,t,rfl,rfl⟩
  · rcases aN hv with⟨j,u,rfl,rfl⟩|⟨y,u,rfl,rfl⟩
    · rw[vP]at h;exact wpAny_eqBool_int h
    · rw[vO]at h;exact SeqAt.EqAt.int_str i t y u _ _ _ _ h
  · rcases aN hv with⟨j,u,rfl,rfl⟩|⟨y,u,rfl,rfl⟩
    · rw[vN]at h;exact SeqAt.EqAt.str_int x t j u _ _ _ _ h
    · rw[vM]at h;exact wpAny_eqBool_str h
 «strs»:=fun k x t v h=>by
  rcases aN h with⟨i,u,rfl,e⟩|⟨y,u,rfl,e⟩
  · exact nomatch e
  · injection e with e1 _
    subst e1;cases v<;>rfl
theorem iJ(prog:Dq)(w:DN)(i:Int)(t:Tok):(be prog w).is (.inl i) (.int i t)=true:=l7 i t
theorem iI(prog:Dq)(w:DN)(x:Str)(t:Tok):(be prog w).is (.inr x) (.str x t)=true:=l6 x t
inductive V where
 | non|bl (b:Bool)|int (i:Int)|str (x:Str)|byt (b:Array UInt8)|flt (b:UInt64)|ref (a:Addr)|ty (n:String)
 deriving DecidableEq
noncomputable def RelV:V->Dc->Prop
 | .non,u=>u=D3
 | .bl b,u=>u=Gp b
 | .int i,u=>∃t,u=F0 i t
 | .str x,u=>∃t,u=HP x t
 | .byt b,u=>∃t,u=Dc.bytes b t
 | .flt b,u=>∃t,u=Dc.float b t
 | .ref a,u=>u=Dn a
 | .ty n,u=>u=Gb n
abbrev bT:List V->List Dc->Prop:=D0 RelV
theorem bT.length{xs:List V}(r:bT xs us):xs.length=us.length:=EH r
theorem bT.get:∀{xs:List V}{us:List Dc}{i:Nat}{x:V},bT xs us->xs[i]?=some x->∃u,us[i]?=some u/\RelV x u
 | _,_,_,_,.nil,e=>by simp at e
 | _,_,0,_,.cons r _,e=>by simp at e;subst e;exact⟨_,rfl,r⟩
 | _,_,i+1,x,.cons _ t,e=>by
   obtain⟨u,h1,h2⟩:=bT.get (i:=i) (x:=x) t (by simpa using e);exact⟨u,by simpa using h1,h2⟩
theorem bT.append:∀{xs ys:List V}{us ws:List Dc},bT xs us->bT ys ws->bT (xs++ys) (us++ws)
 | _,_,_,_,.nil,s=>s
 | _,_,_,_,.cons r t,s=>.cons r (bT.append t s)
theorem bT.take:∀{xs:List V}{us:List Dc}(n:Nat),bT xs us->bT (xs.take n) (us.take n)
 | _,_,0,_=>.nil
 | _,_,_+1,.nil=>.nil
 | _,_,n+1,.cons r t=>.cons r (bT.take n t)
theorem bT.drop:∀{xs:List V}{us:List Dc}(n:Nat),bT xs us->bT (xs.drop n) (us.drop n)
 | _,_,0,r=>r
 | _,_,_+1,.nil=>.nil
 | _,_,n+1,.cons _ t=>bT.drop n t
noncomputable def tm:Option V->Option Dc->Prop
 | some v,some u=>RelV v u
 | none,none=>True
 | _,_=>False
noncomputable def KV{κ:Type}:List (κ×V)->List (κ×Dc)->Prop:=D0 fun(p:κ×V)(q:κ×Dc)=>p.1=q.1/\RelV p.2 q.2
noncomputable def kV:CK->V
 | .inl i=>.int i
 | .inr x=>.str x
inductive HO where
 | lst (xs:List V)
 | tup (xs:List V)
 | dK (kvs:List (CK×V))|dT (kvs:List (List CK×V))
 | set (S:Int->Bool) (n:Nat)
 | ins (C dx:Addr) (fs:List (Str×V))
 | own (x:Addr)
 | xd (fs:List (Str×V))
 | met (f x:Addr)
 | rng (lo hi:Int)
 | frz (o:Obj) (u:HO)
 | tbl (ps:Array Dc)
 | ext (φ:Heap->Prop)
abbrev Hp:=Addr->Option HO
noncomputable def upd(H:Hp)(a:Addr)(o:HO):Hp:=fun b=>if b=a then some o else H b
theorem aj{H:Hp}{o:HO}:upd H a o a=some o:=by unfold upd;rw[if_pos rfl]
theorem ae{H:Hp}{o:HO}(h:b≠a):upd H a o b=H b:=by unfold upd;rw[if_neg h]
theorem qB{H:Hp}{o u:HO}:upd (upd H a o) a u=upd H a u:=by
 funext b;unfold upd;split<;>rfl
theorem du{H:Hp}{o u:HO}(h:H a=some o)(h':H b=some u)(d:o≠u):a≠b:=by
 intro e;subst e;rw[h]at h';exact d (DX h')
theorem aq{H:Hp}{o:HO}(h:H a=some o)(h':H b=none):a≠b:=by
 intro e;subst e;rw[h]at h';cases h'
section
variable(P:Dq)(w:DN)
noncomputable def nc(h:Heap)(a:Addr)(items:Array Dc):Prop:=∃o,h.get? a=some o/\o.cls = .type "tuple" /\ (∃n,o.data = .seq items n)/\o.dict=none
theorem nc.tup{h:Heap}{a:Addr}{items:Array Dc}(x:nc h a items):IsTup h a items:=let ⟨o,e1,e2,e3,_⟩:=x;⟨o,e1,e2,e3⟩
theorem nc.new(h:Heap)(items:Array Dc):nc (h.push {cls:=.type "tuple", data:=.seq items}) h.objs.size items:=⟨_,Do _ rfl,rfl,⟨_,rfl⟩,rfl⟩
noncomputable def aK(H:Hp)(h:Heap)(a:Addr):HO->Prop
 | .lst xs=>xs.length<=sizeLine/\∃(its:List Dc)(n:Nat),bT xs its/\h.get? a=some {cls:=.type "list", data:=.seq its.toArray n}
 | .tup xs=>xs.length<=sizeLine/\∃its:List Dc,bT xs its/\nc h a its.toArray
 | .dK kvs=>kvs.length<=sizeLine/\(a==Fh)=false/\∃vs,KV kvs vs/\h.DictOf (be P w) a vs
 | .dT kvs=>kvs.length<=sizeLine/\(a==Fh)=false/\∃xs:List (List CK×Addr×Dc),
     D0 (fun(p:List CK×V)(q:List CK×Addr×Dc)=>p.1=q.1/\H q.2.1=some (.tup (p.1.map kV))/\RelV p.2 q.2.2) kvs xs /\
     ∃o es ep,h.get? a=some o/\o.ExactDict/\o.data = .dict es ep/\es.toList=xs.map (Jv (Ee (be P w)))/\(xs.map (·.1)).Nodup
 | .set S n=>h.SetOf (E9 P w) a S n
 | .ins C dx fs=>H dx=some (.own a)/\fs.length<=1000/\dx≠a/\h.get? a=some (W.instObj C dx) /\
     ∃mA,h.Ns1 dx mA/\(∀f,tm (fs.lookup f) (mA f))/\PySem.Within mA (fs.map (·.1))
 | .own _=>∃o,h.get? a=some o
 | .xd fs=>∃mA,h.Ns1 a mA/\∀f,tm (fs.lookup f) (mA f)
 | .rng lo hi=>∃t u v,h.get? a=some {cls:=.type "range", data:=.fields #[.int lo t,.int hi u,.int 1 v]}
 | .frz o u=>h.get? a=some o/\aK H h a u
 | .tbl ps=>h.get? a=some {cls:=.none,data:=.fields ps}
 | .met f x=>h.get? a=some (W.methodObj (.ref f) (.ref x))
 | .ext φ=>φ h/\(∃o,h.get? a=some o)/\∀h1 h2:Heap,φ h1->(∀o,h1.get? a=some o->h2.get? a=some o)->φ h2
noncomputable def CW(H:Hp)(h:Heap):Prop:=∀a o,H a=some o->aK P w H h a o
end
section
variable{P:Dq}{w:DN}{H H':Hp}{h h':Heap}{a:Addr}{o:HO}
theorem aK.lt(x:aK P w H h a o):a<h.objs.size:=by
 cases o with
 | lst xs=>obtain⟨_,_,_,_,e⟩:=x;exact Df e
 | tup xs=>obtain⟨_,_,_,p⟩:=x;exact p.tup.lt
 | dK kvs=>obtain⟨_,_,_,_,o,_,_,e,_⟩:=x;exact Df e
 | dT kvs=>obtain⟨_,_,_,_,o,_,_,e,_⟩:=x;exact Df e
 | set S n=>obtain⟨o,_,_,_,e,_⟩:=x;exact Df e
 | ins C dx fs=>obtain⟨_,_,_,e,_⟩:=x;exact Df e
 | own y=>obtain⟨_,e⟩:=x;exact Df e
 | xd fs=>obtain⟨_,⟨_,_,_,e,_⟩,_⟩:=x;exact Df e
 | rng lo hi=>obtain⟨_,_,_,e⟩:=x;exact Df e
 | frz ob u=>obtain⟨e,_⟩:=x;exact Df e
 | tbl ps=>exact Df (show h.get? a=some _ from x)
 | met f y=>exact Df (show h.get? a=some _ from x)
 | ext φ=>obtain⟨_,⟨_,e⟩,_⟩:=x;exact Df e
theorem D0.mapP{α β:Type}{F G:α->β->Prop}:∀{l₁:List α}{l₂:List β},D0 F l₁ l₂->(∀a b,F a b->G a b)->D0 G l₁ l₂
 | _,_,.nil,_=>.nil
 | _,_,.cons r t,f=>.cons (f _ _ r) (D0.mapP t f)
theorem aK.stay(x:aK P w H h a o)(k:∀b u,(b=a\/H b=some (.own a))->h.get? b=some u->h'.get? b=some u)
 (ho:∀b,H b=some (.own a)->H' b=some (.own a))(ht:∀b xs,H b=some (.tup xs)->H' b=some (.tup xs)):aK P w H' h' a o:=by
 induction o with
 | lst xs=>obtain⟨z,its,n,r,e⟩:=x;exact⟨z,its,n,r,k _ _ (.inl rfl) e⟩
 | tup xs=>obtain⟨z,its,r,ob,e,c⟩:=x;exact⟨z,its,r,ob,k _ _ (.inl rfl) e,c⟩
 | dK kvs=>obtain⟨z,y,vs,r,ob,es,ep,e,c⟩:=x;exact⟨z,y,vs,r,ob,es,ep,k _ _ (.inl rfl) e,c⟩
 | dT kvs =>
   obtain⟨z,y,xs,r,ob,es,ep,e,c⟩:=x
   exact⟨z,y,xs,D0.mapP r fun p q z=>⟨z.1,ht _ _ z.2.1,z.2.2⟩,ob,es,ep,k _ _ (.inl rfl) e,c⟩
 | set S n=>obtain⟨ob,es,ep,t,e,c⟩:=x;exact⟨ob,es,ep,t,k _ _ (.inl rfl) e,c⟩
 | ins C dx fs =>
   obtain⟨d,z,ne,e,mA,⟨od,es,ep,e2,c⟩,r⟩:=x
   exact⟨ho _ d,z,ne,k _ _ (.inl rfl) e,mA,⟨od,es,ep,k _ _ (.inr d) e2,c⟩,r⟩
 | own y=>obtain⟨ob,e⟩:=x;exact⟨ob,k _ _ (.inl rfl) e⟩
 | xd fs=>obtain⟨mA,⟨od,es,ep,e,c⟩,r⟩:=x;exact⟨mA,⟨od,es,ep,k _ _ (.inl rfl) e,c⟩,r⟩
 | rng lo hi=>obtain⟨t,u,v,e⟩:=x;exact⟨t,u,v,k _ _ (.inl rfl) e⟩
 | frz ob u ih=>obtain⟨e,q⟩:=x;exact⟨k _ _ (.inl rfl) e,ih q⟩
 | tbl ps =>
   have e:h.get? a=some {cls:=.none,data:=.fields ps}:=x;show h'.get? a=some {cls:=.none,data:=.fields ps}
   exact k a _ (.inl rfl) e
 | met f y =>
   have e:h.get? a=some (W.methodObj (.ref f) (.ref y)):=x;show h'.get? a=some (W.methodObj (.ref f) (.ref y))
   exact k a _ (.inl rfl) e
 | ext φ=>obtain⟨p,⟨o,e⟩,st⟩:=x;exact⟨st _ _ p fun o q=>k _ _ (.inl rfl) q,⟨o,k _ _ (.inl rfl) e⟩,st⟩
theorem CW.lt(x:CW P w H h)(e:H a=some o):a<h.objs.size:=(x a o e).lt
theorem CW.fresh(x:CW P w H h)(e:h.objs.size<=a):H a=none:=by
 cases q:H a with
 | none=>rfl
 | some u=>exact absurd (Dk (x.lt q) e) (D_ _)
theorem CW.kept(x:CW P w H h)(k:∀b u,h.get? b=some u->h'.get? b=some u):CW P w H h':=fun a o e =>
 (x a o e).stay (fun b u _ q=>k b u q) (fun _ q=>q) fun _ _ q=>q
theorem CW.laid(x:CW P w H h)(k:∀b u,h.get? b=some u->h'.get? b=some u)(hp:h.objs.size<=a)(new:aK P w (upd H a o) h' a o):CW P w (upd H a o) h':=fun b u e=>by
 have hn:=x.fresh hp;by_cases hb:b=a
 · subst hb;rw[aj]at e;cases e;exact new
 · rw[ae hb]at e;exact(x b u e).stay (fun c v _ q=>k c v q) (fun c q=>by rw[ae (aq q hn)];exact q) fun c xs q=>by rw[ae (aq q hn)];exact q
end
noncomputable def Rd(H:Hp)(a:Addr)(u:HO):Prop:=H a=some u\/∃o,H a=some (.frz o u)
theorem Rd.ok{H:Hp}{u:HO}(r:Rd H a u)(x:CW P w H h):aK P w H h a u:=by
 rcases r with r|⟨o,r⟩
 · exact x a u r
 · obtain⟨_,q⟩:=x a _ r;exact q
noncomputable def CH:Option HO->Prop
 | some (.lst _)=>True
 | some (.dK _)=>True
 | some (.dT _)=>True
 | some (.set _ _)=>True
 | some (.ins _ _ _)=>True
 | some (.ext _)=>True
 | _=>False
section
variable{P:Dq}{w:DN}{H:Hp}{h h':Heap}{x e:Addr}{o':HO}
theorem CW.write(ok:CW P w H h)(mu:CH (H x))(he:e=x\/H e=some (.own x))(k:∀b u,b≠e->h.get? b=some u->h'.get? b=some u)(heo:∃u,h'.get? e=some u)
 (new:aK P w (upd H x o') h' x o'):CW P w (upd H x o') h':=fun b u q=>by
 have nown:∀c y,H c=some (.own y)->c≠x:=fun c y r z=>by subst z;rw[r]at mu;exact mu
 have ntup:∀c xs,H c=some (.tup xs)->c≠x:=fun c xs r z=>by subst z;rw[r]at mu;exact mu
 by_cases hb:b=x
 · subst hb;rw[aj]at q;cases q;exact new
 · rw[ae hb]at q;by_cases hbe:b=e
   · have q':H b=some (.own x):=by
       rcases he with z|z
       · exact absurd (hbe.trans z) hb
       · rw[hbe];exact z
     rw[q]at q';cases q';obtain⟨v,hv⟩:=heo;exact⟨v,by rw[hbe];exact hv⟩
   · refine(ok b u q).stay (fun c v hc r=>k c v ?_ r) (fun c r=>by rw[ae (nown c b r)];exact r) fun c xs r=>by rw[ae (ntup c xs r)];exact r
     rcases hc with rfl|hc
     · exact hbe
     · rintro rfl;rcases he with z|z
       · exact nown c b hc z
       · rw[hc]at z;cases z;exact hb rfl
end
structure Un (fs ex:List Addr) (H H':Hp) (h h':Heap):Prop where
 keep:∀b o,h.get? b=some o->H b=none->b∉fs->b∉ex->h'.get? b=some o
 slot:∀b o,h.get? b=some o->H b=none->b∈fs->b∉ex->∃sl,h'.get? b=some {o with slots:=sl}
 free:∀b o,h.get? b=some o->H b=none->b∉ex->H' b=none
 there:∀b o,h.get? b=some o->b∉ex->∃o',h'.get? b=some o'
 tups:∀b xs,H b=some (.tup xs)->H' b=some (.tup xs)
 frzs:∀b o u,H b=some (.frz o u)->H' b=some (.frz o u)
 tbls:∀b ps,H b=some (.tbl ps)->∃more,H' b=some (.tbl (ps++more))
section
variable{fs fs' ex ex':List Addr}{H H1 H2:Hp}{h h1 h2 h':Heap}{a x e:Addr}{o:HO}
theorem Un.any(u:Un fs ex H H1 h h1){ob:Obj}(q:h.get? b=some ob)(n:H b=none)(hx:b∉ex):∃sl,h1.get? b=some {ob with slots:=sl}:=by
 by_cases hb:b∈fs
 · exact u.slot b ob q n hb hx
 · exact⟨ob.slots,u.keep b ob q n hb hx⟩
theorem Un.kept(k:∀b u,h.get? b=some u->h'.get? b=some u):Un fs ex H H h h' :=
 ⟨fun b ob q _ _ _=>k b ob q,fun b ob q _ _ _=>⟨ob.slots,k b ob q⟩,fun _ _ _ n _=>n,fun b ob q _=>⟨ob,k b ob q⟩,fun _ _ q=>q,fun _ _ _ q=>q,fun _ ps q=>⟨#[],by rw[q];simp⟩⟩
theorem Un.refl:Un fs ex H H h h:=Un.kept fun _ _ q=>q
theorem Un.laid(k:∀b u,h.get? b=some u->h'.get? b=some u)(hp:h.objs.size<=a)(hn:H a=none):Un fs ex H (upd H a o) h h' where
 keep:=fun b u q _ _ _=>k b u q
 slot:=fun b u q _ _ _=>⟨u.slots,k b u q⟩
 free:=fun b u q n _=>by rw[ae (DB (Dk (Df q) hp))];exact n
 there:=fun b u q _=>⟨u,k b u q⟩
 tups:=fun b xs q=>by rw[ae (aq q hn)];exact q
 frzs:=fun b u xs q=>by rw[ae (aq q hn)];exact q
 tbls:=fun b ps q=>⟨#[],by rw[ae (aq q hn),q];simp⟩
theorem Un.write(mu:CH (H x))(he:e=x\/H e=some (.own x))(k:∀b u,b≠e->h.get? b=some u->h'.get? b=some u)(heo:∃u,h'.get? e=some u):Un fs ex H (upd H x o) h h':=by
 have hx:∀b,H b=none->b≠x:=fun b n z=>by subst z;rw[n]at mu;exact mu
 have hb:∀b,H b=none->b≠e:=fun b n z=>by
  subst z;rcases he with r|r
  · exact hx b n r
  · rw[n]at r;cases r
 have hm:∀b u,H b=some u->¬CH (some u)->b≠x:=fun b u q nm z=>by subst z;rw[q]at mu;exact nm mu
 refine⟨fun b u q n _ _=>k b u (hb b n) q,fun b u q n _ _=>⟨u.slots,k b u (hb b n) q⟩,fun b u q n _=>by rw[ae (hx b n)];exact n,fun b u q _=>?_,
  fun b xs q=>by rw[ae (hm b _ q fun z=>z)];exact q,fun b u xs q=>by rw[ae (hm b _ q fun z=>z)];exact q,fun b ps q=>⟨#[],by rw[ae (hm b _ q fun z=>z),q];simp⟩⟩
 by_cases hbe:b=e
 · subst hbe;exact heo
 · exact⟨u,k b u hbe q⟩
end
noncomputable def A6(h:Heap)(H:Hp):List Addr:=(DO h.objs.size).filter fun a=>(H a).isSome
noncomputable def oI(h:Heap)(H:Hp):Heap:=W.hideAll h (A6 h H)
theorem mo(h:Heap)(H:Hp):(oI h H).objs.size=h.objs.size:=W.hideAll_size _ _
theorem oH{H:Hp}(e:h.get? b=some o)(n:H b=none):(oI h H).get? b=some o :=
 W.hideAll_get _ e fun hm=>by
  have q:(H b).isSome=true:=(List.mem_filter.mp hm).2;rw[n]at q;simp at q
theorem rN{H:Hp}(e:(oI h H).get? b=some o):h.get? b=some o/\H b=none:=by
 have e':h.get? b=some o:=W.of_hideAll (A6 h H) e;refine⟨e',?_⟩
 cases q:H b with
 | none=>rfl
 | some x =>
   have hm:b∈A6 h H:=List.mem_filter.mpr ⟨FH.mpr (Df e'),by simp[q]⟩;have z:(oI h H).get? b=none:=W.hideAll_none (A6 h H) hm;rw[z]at e;cases e
noncomputable def sS(g h:Heap)(L:Addr):List (Addr×Obj):=(DO h.objs.size).filterMap fun a=>if a=L\/(g.get? a).isSome=true then none else(h.get? a).map fun o=>(a,o)
noncomputable def rest(g h:Heap)(L d:Addr):List (Addr×Obj):=(sS g h L).filter fun p=>decide (p.1≠d)
structure Mod (K:W.Frag) (mg:Str->Option Dc) (base:Heap):Prop where
 kin:K.In base
 glob:base.Ns Ds mg
 blt:∃mb,base.Ns builtinsNs mb/\∀x:Str,x ≠ "__name__" -> mb x=Fu x
 nolimit:base.NoLimit
structure Cx where
 prog:Dq
 w:DN
 K:W.Frag
 mg:Str->Option Dc
 base:Heap
 A:DM
 N:List Str
 s₀:Dd
 H₀:Hp
 env:Env
 outer:List Env
 stack:List Env
 ex:List Addr
 fn:Str->Bool
 calm:Bool
 pn:List (Addr×Obj)
 xe:Dc->Dd->Prop
noncomputable def frs(l:List Env):List Addr:=l.filterMap (·.frame)
abbrev Cx.fs(X:Cx):List Addr:=frs X.outer
noncomputable def B8(sc:Scope)(x:Str):Prop:=sc.names.lookup x=some .local\/sc.names.lookup x=some .cell\/sc.names.lookup x=some .free
noncomputable def Loc(sc:Scope)(x:Str):Prop:=sc.names.lookup x=some .local\/sc.names.lookup x=some .cell
noncomputable def Look(env:Env)(h:Heap)(m:Str->Option Dc)(x:Str)(u:Dc):Prop :=
 (env.kindOf x=some .local/\m x=some u)\/((env.kindOf x=some .cell\/env.kindOf x=some .free)/\∃c,env.cells.lookup x=some c/\h.IsCell c (some u))
structure Cx.Ok (X:Cx):Prop where
 mod:Mod X.K X.mg X.base
 kind:X.env.scope.kind = .function
 glob:X.env.globals=Ds
 blt:X.env.builtins=builtinsNs
 above:X.s₀.heap.objs.size<=X.env.locals
 inj:∀x y c,X.env.cells.lookup x=some c->X.env.cells.lookup y=some c->x=y
 has:∀x,(X.env.kindOf x=some .cell\/X.env.kindOf x=some .free)->∃c,X.env.cells.lookup x=some c
 cab:∀x c,X.fn x=true->X.env.cells.lookup x=some c->X.s₀.heap.objs.size<=c
 hd:X.calm=true->X.A.handled=none
 frames:X.A.frames=some X.stack
 stk:X.stack=X.outer\/(X.stack=X.env::X.outer/\X.env.frame=some X.env.locals)
 exf:∀b∈X.ex,b≠X.env.locals/\∀x c,X.env.cells.lookup x=some c->c≠b
 bs:∀b o,X.base.get? b=some o->X.s₀.heap.get? b=some o/\X.H₀ b=none
 bsz:X.base.objs.size<=X.s₀.heap.objs.size
 noex:∀b o,X.base.get? b=some o->b∉X.ex
 exfs:∀b∈X.ex,b∉X.fs
 funs:X.s₀.heap.FunFrames X.base X.outer
 frf:∀b∈X.fs,X.H₀ b=none
structure Inv (X:Cx) (pins:List (Addr×Obj)) (σ:List (Option V)) (H:Hp) (s:Dd):Prop where
 ok:X.Ok
 os:s.os=X.s₀.os
 bare:Ib s.gens
 base:Un X.fs X.ex X.H₀ H X.s₀.heap s.heap
 loc:∃m,s.heap.Ns X.env.locals m/\∀(i:Nat)(x:Str)(v:V),X.N[i]?=some x->σ[i]?=some (some v)->B8 X.env.scope x->∃u,RelV v u/\Look X.env s.heap m x u
 cell:∀x c,X.env.cells.lookup x=some c->∃v,s.heap.IsCell c v
 free:H X.env.locals=none
 freeC:∀x c,X.env.cells.lookup x=some c->H c=none
 pin:∀p∈X.pn++pins,s.heap.get? p.1=some p.2/\H p.1=none/\p.1≠X.env.locals/\p.1∉X.fs/\∀v,p.2.data ≠ .cell v
 hok:CW X.prog X.w H s.heap
 len:σ.length=X.N.length
section
variable{X:Cx}{pins:List (Addr×Obj)}{σ:List (Option V)}{H H':Hp}{s:Dd}{h':Heap}
theorem Cx.Ok.nofr(ok:X.Ok)(e:X.base.get? b=some o):b∉X.fs:=fun hb=>by
 have:=(ok.funs.mem hb).1;rw[e]at this;cases this
theorem Inv.bs(I:Inv X pins σ H s):∀b o,X.base.get? b=some o->s.heap.get? b=some o/\H b=none:=fun b o e =>
 ⟨I.base.keep b o (I.ok.bs b o e).1 (I.ok.bs b o e).2 (I.ok.nofr e) (I.ok.noex b o e),I.base.free b o (I.ok.bs b o e).1 (I.ok.bs b o e).2 (I.ok.noex b o e)⟩
theorem Inv.bk(I:Inv X pins σ H s):∀b o,X.base.get? b=some o->s.heap.get? b=some o:=fun b o e=>(I.bs b o e).1
theorem Inv.mod(I:Inv X pins σ H s):Mod X.K X.mg X.base:=I.ok.mod
theorem Inv.kIn(I:Inv X pins σ H s):X.K.In s.heap:=I.ok.mod.kin.keeps I.bk
theorem Inv.fr(I:Inv X pins σ H s):∃m,Fr X.base X.env.locals s.heap m :=
 let ⟨m,hn,_⟩:=I.loc
 ⟨m,hn,I.bk,Ef I.ok.bsz I.ok.above⟩
theorem Inv.lt(I:Inv X pins σ H s):X.env.locals<s.heap.objs.size:=let ⟨_,hn,_⟩:=I.loc;hn.lt
theorem Inv.sz(I:Inv X pins σ H s):X.s₀.heap.objs.size<=s.heap.objs.size:=Ef I.ok.above (Gi I.lt)
theorem Inv.nofs(I:Inv X pins σ H s)(h:s.heap.objs.size<=a):a∉X.fs:=fun hb=>by
 obtain⟨_,o,ho,_⟩:=I.ok.funs.mem hb;exact absurd (Dk (Df ho) (Ef I.sz h)) (D_ _)
theorem Inv.cne(I:Inv X pins σ H s):∀x c,X.env.cells.lookup x=some c->c≠X.env.locals:=fun x c e z=>by
 obtain⟨v,o,ho,hd⟩:=I.cell x c e;obtain⟨m,⟨o',es,ep,ho',hd',_⟩,_⟩:=I.loc;rw[z,ho']at ho;cases ho;rw[hd']at hd;cases hd
theorem Inv.funs(I:Inv X pins σ H s):s.heap.FunFrames X.base X.outer:=by
 have all:∀(l:List Env),(∀b∈frs l,b∈X.fs)->X.s₀.heap.FunFrames X.base l->s.heap.FunFrames X.base l:=by
  intro l
  induction l with
  | nil=>intro _ _;trivial
  | cons env r ih =>
    intro hs hl;obtain⟨hk,⟨L,o,hf,hn,ho,hd⟩,hr⟩:=hl;have hL:L∈X.fs:=hs L (by unfold frs;rw[FT,hf];exact Dx);obtain⟨sl,e⟩:=I.base.slot L o ho (I.ok.frf L hL) hL fun z=>I.ok.exfs L z hL;exact⟨hk,⟨L,_,hf,hn,e,hd⟩,ih (fun b hb=>hs b (by unfold frs;rw[FT,hf];exact Dl _ hb)) hr⟩
 exact all X.outer (fun _ hb=>hb) I.ok.funs
theorem Inv.stack(I:Inv X pins σ H s):s.heap.FunFrames X.base X.stack:=by
 rcases I.ok.stk with e|⟨e,hf⟩
 · rw[e];exact I.funs
 · rw[e];obtain⟨m,hn,_⟩:=I.loc;refine .cons (by rw[I.ok.kind];decide) hf hn ?_ I.funs;exact IU (Ef I.ok.bsz I.ok.above)
theorem Inv.stkSub(I:Inv X pins σ H s):∀b∈frs X.stack,b∈X.env.locals::X.fs:=fun b hb=>by
 rcases I.ok.stk with e|⟨e,hf⟩
 · rw[e]at hb;exact Dl _ hb
 · rw[e]at hb;unfold frs at hb;rw[FT,hf]at hb;exact hb
theorem Inv.stkFree(I:Inv X pins σ H s):∀b∈frs X.stack,H b=none:=fun b hb=>by
 rcases DS.mp (I.stkSub b hb)with e|hb
 · rw[e];exact I.free
 · obtain⟨_,o,ho,_⟩:=I.ok.funs.mem hb;exact I.base.free b o ho (I.ok.frf b hb) fun z=>I.ok.exfs b z hb
theorem Inv.step{g':Array GenState}{d':Drawn}(I:Inv X pins σ H s)
 (hch:∀b∈ch,(b∈X.ex\/X.s₀.heap.objs.size<=b)/\b≠X.env.locals/\(∀x c,X.env.cells.lookup x=some c->c≠b)/\∀p∈X.pn++pins,p.1≠b)
 (keep:∀b o,b≠X.env.locals->b∉X.fs->b∉ch->s.heap.get? b=some o->H b=none->h'.get? b=some o)
 (slot:∀b o,b≠X.env.locals->b∈X.fs->b∉ch->s.heap.get? b=some o->H b=none->∃sl,h'.get? b=some {o with slots:=sl})(free:∀b o,b∉ch->s.heap.get? b=some o->H b=none->H' b=none)
 (there:∀b o,b∉ch->s.heap.get? b=some o->∃o',h'.get? b=some o')
 (tups:∀b xs,H b=some (.tup xs)->H' b=some (.tup xs))(frzs:∀b o u,H b=some (.frz o u)->H' b=some (.frz o u))(tbls:∀b ps,H b=some (.tbl ps)->∃more,H' b=some (.tbl (ps++more)))
 (ns:∀m,s.heap.Ns X.env.locals m->h'.Ns X.env.locals m)(hok:CW X.prog X.w H' h')(hg:Ib g') :
 Inv X pins σ H' {s with heap:=h',gens:=g',drawn:=d',toks:=t' }:=by
 have neL:∀b o,X.s₀.heap.get? b=some o->b≠X.env.locals:=fun b o e=>DB (Dk (Df e) I.ok.above)
 have neC:∀b o,X.s₀.heap.get? b=some o->b∉X.ex->b∉ch:=fun b o e hx hb=>by
  rcases(hch b hb).1 with z|z
  · exact hx z
  · exact absurd (Dk (Df e) z) (D_ _)
 have cellK:∀x c,X.env.cells.lookup x=some c->∀v,s.heap.IsCell c v->h'.IsCell c v:=fun x c e v ⟨o,ho,hd⟩=>by
  have nch:c∉ch:=fun z=>(hch c z).2.2.1 x c e rfl;by_cases hc:c∈X.fs
  · obtain⟨sl,q⟩:=slot c o (I.cne x c e) hc nch ho (I.freeC x c e);exact⟨_,q,hd⟩
  · exact⟨o,keep c o (I.cne x c e) hc nch ho (I.freeC x c e),hd⟩
 refine⟨I.ok,I.os,hg,⟨fun b o e n hb hx=>?_,fun b o e n hb hx=>?_,fun b o e n hx=>?_,fun b o e hx=>?_,fun b xs e=>tups b xs (I.base.tups b xs e),fun b o xs e=>frzs b o xs (I.base.frzs b o xs e),fun b ps e=>?_⟩,?_,fun x c e=>?_,?_,fun x c e=>?_,fun p hp=>?_,hok,I.len⟩
 · exact keep b o (neL b o e) hb (neC b o e hx) (I.base.keep b o e n hb hx) (I.base.free b o e n hx)
 · obtain⟨sl,e1⟩:=I.base.slot b o e n hb hx;obtain⟨sl',e2⟩:=slot b _ (neL b o e) hb (neC b o e hx) e1 (I.base.free b o e n hx);exact⟨sl',e2⟩
 · obtain⟨o',e1⟩:=I.base.there b o e hx;exact free b o' (neC b o e hx) e1 (I.base.free b o e n hx)
 · obtain⟨o',e1⟩:=I.base.there b o e hx;exact there b o' (neC b o e hx) e1
 · obtain⟨m1,e1⟩:=I.base.tbls b ps e;obtain⟨m2,e2⟩:=tbls b _ e1;exact⟨m1++m2,by rw[e2,Array.append_assoc]⟩
 · obtain⟨m,hn,hl⟩:=I.loc;refine⟨m,ns m hn,fun i x v e1 e2 e3=>?_⟩;obtain⟨u,r,l⟩:=hl i x v e1 e2 e3;refine⟨u,r,?_⟩;rcases l with l|⟨k,c,e,z⟩
   · exact .inl l
   · exact .inr ⟨k,c,e,cellK x c e _ z⟩
 · obtain⟨v,z⟩:=I.cell x c e;exact⟨v,cellK x c e v z⟩
 · obtain⟨m,⟨o,_,_,ho,_⟩,_⟩:=I.loc;exact free _ o (fun z=>(hch _ z).2.1 rfl) ho I.free
 · obtain⟨v,o,ho,hd⟩:=I.cell x c e;exact free c o (fun z=>(hch c z).2.2.1 x c e rfl) ho (I.freeC x c e)
 · obtain⟨e,n,ne,nf,d⟩:=I.pin p hp;have nch:p.1∉ch:=fun z=>(hch p.1 z).2.2.2 p hp rfl;exact⟨keep p.1 p.2 ne nf nch e n,free p.1 p.2 nch e n,ne,nf,d⟩
theorem Inv.un(I:Inv X pins σ H s)(u:Un X.fs [] H H' s.heap h')(hok:CW X.prog X.w H' h'):Inv X pins σ H' {s with heap:=h',toks:=t' }:=by
 obtain⟨m,⟨o,es,ep,ho,r⟩,_⟩:=id I.loc;obtain⟨sl,hL⟩:=u.any ho I.free (by simp)
 exact I.step (g':=s.gens) (d':=s.drawn) (ch:=[]) (fun _ z=>nomatch z) (fun b o _ hb _ e n=>u.keep b o e n hb (by simp)) (fun b o _ hb _ e n=>u.slot b o e n hb (by simp)) (fun b o _ e n=>u.free b o e n (by simp)) (fun b o _ e=>u.there b o e (by simp)) u.tups u.frzs u.tbls (fun m' hm=>by
  obtain⟨o',es',ep',ho',r'⟩:=hm;rw[ho]at ho';cases ho'
  exact⟨_,es',ep',hL,r'⟩) hok I.bare
theorem Inv.call{g':Array GenState}{d':Drawn}(I:Inv X pins σ H s)(u:Un (frs X.stack) ch H H' s.heap h')(hok:CW X.prog X.w H' h')(hg:Ib g')
 (hch:∀b∈ch,(b∈X.ex\/X.s₀.heap.objs.size<=b)/\b≠X.env.locals/\(∀x c,X.env.cells.lookup x=some c->c≠b)/\∀p∈X.pn++pins,p.1≠b) :
 Inv X pins σ H' {s with heap:=h',gens:=g',drawn:=d',toks:=t' }:=by
 obtain⟨m,⟨o,es,ep,ho,r⟩,_⟩:=id I.loc;obtain⟨sl,hL⟩:=u.any ho I.free fun z=>(hch _ z).2.1 rfl
 exact I.step (ch:=ch) hch (fun b o hL hb hc e n=>u.keep b o e n (fun z=>(DS.mp (I.stkSub b z)).elim hL hb) hc) (fun b o _ _ hc e n=>u.any e n hc) (fun b o hc e n=>u.free b o e n hc) (fun b o hc e=>u.there b o e hc) u.tups u.frzs u.tbls (fun m' hm=>by
  obtain⟨o',es',ep',ho',r'⟩:=hm;rw[ho]at ho';cases ho'
  exact⟨_,es',ep',hL,r'⟩) hok hg
theorem Inv.turned(I:Inv X pins σ H s)(k:∀b o,b≠it->s.heap.get? b=some o->h'.get? b=some o)(hn:H it=none)(hL:it≠X.env.locals)
 (h1:it∈X.ex\/X.s₀.heap.objs.size<=it)(h2:∀x c,X.env.cells.lookup x=some c->c≠it)(h3:∀p∈X.pn++pins,p.1≠it):Inv X pins σ H {s with heap:=h',toks:=t' }:=by
 have nit:∀b u,H b=some u->b≠it:=fun b u e z=>by rw[z,hn]at e;cases e
 refine I.step (g':=s.gens) (d':=s.drawn) (ch:=[it]) (fun b hb=>?_) (fun b o _ _ hc e _=>k b o (fun z=>hc (by simp[z])) e) (fun b o _ _ hc e _=>⟨o.slots,k b o (fun z=>hc (by simp[z])) e⟩) (fun _ _ _ _ n=>n)
  (fun b o hc e=>⟨o,k b o (fun z=>hc (by simp[z])) e⟩) (fun _ _ e=>e) (fun _ _ _ e=>e) (fun b ps e=>⟨#[],by rw[e];simp⟩) (fun m hm=>?_) (fun b u e=>?_) I.bare
 · have e:b=it:=by simpa using hb
   subst e;exact⟨h1,hL,h2,h3⟩
 · obtain⟨o,es,ep,ho,r⟩:=hm;exact⟨o,es,ep,k _ o (Fm hL) ho,r⟩
 · refine(I.hok b u e).stay (fun c v hc q=>k c v ?_ q) (fun _ q=>q) fun _ _ q=>q;rcases hc with z|z
   · rw[z];exact nit b u e
   · exact nit c _ z
theorem Inv.tok(I:Inv X pins σ H s)(t:Nat):Inv X pins σ H {s with toks:=t}:=I.un (h':=s.heap) (t':=t) Un.refl I.hok
theorem Inv.kept{t':Nat}(I:Inv X pins σ H s)(k:∀b u,s.heap.get? b=some u->h'.get? b=some u):Inv X pins σ H {s with heap:=h',toks:=t' }:=I.un (Un.kept k) (I.hok.kept k)
theorem Inv.laid{a:Addr}{o:HO}{t':Nat}(I:Inv X pins σ H s)(k:∀b u,s.heap.get? b=some u->h'.get? b=some u)(hp:s.heap.objs.size<=a)(new:aK X.prog X.w (upd H a o) h' a o) :
 Inv X pins σ (upd H a o) {s with heap:=h',toks:=t' }:=I.un (Un.laid k hp (I.hok.fresh hp)) (I.hok.laid k hp new)
theorem Inv.write{x e:Addr}{o:HO}{t':Nat}(I:Inv X pins σ H s)(mu:CH (H x))(he:e=x\/H e=some (.own x))(k:∀b u,b≠e->s.heap.get? b=some u->h'.get? b=some u)(heo:∃u,h'.get? e=some u)
 (new:aK X.prog X.w (upd H x o) h' x o):Inv X pins σ (upd H x o) {s with heap:=h',toks:=t' }:=I.un (Un.write mu he k heo) (I.hok.write mu he k heo new)
theorem Inv.weak{σ':List (Option V)}(I:Inv X pins σ H s)(hl:σ'.length=σ.length)(w:∀(i:Nat) v,σ'[i]?=some (some v)->σ[i]?=some (some v)):Inv X pins σ' H s :=
 ⟨I.ok,I.os,I.bare,I.base,let ⟨m,hn,hl'⟩:=I.loc;⟨m,hn,fun i x v e1 e2 e3=>hl' i x v e1 (w i v e2) e3⟩,I.cell,I.free,I.freeC,I.pin,I.hok,hl.trans I.len⟩
theorem Inv.pins_of{pins':List (Addr×Obj)}(I:Inv X pins σ H s)(h:∀p∈pins',s.heap.get? p.1=some p.2/\H p.1=none/\p.1≠X.env.locals/\p.1∉X.fs/\∀v,p.2.data ≠ .cell v):Inv X pins' σ H s :=
 ⟨I.ok,I.os,I.bare,I.base,I.loc,I.cell,I.free,I.freeC,fun p hp=>(Ez.mp hp).elim (fun z=>I.pin p (G9 _ z)) (h p),I.hok,I.len⟩
theorem fX(hN:N.Nodup)(a:N[i]?=some x)(b:N[j]?=some x):i=j:=by
 obtain⟨h1,e1⟩:=Du.mp a;obtain⟨h2,e2⟩:=Du.mp b;exact(List.getElem_inj hN).mp (e1.trans e2.symm)
theorem dW{M:JZ}{v:V}{Q:Unit->Dd->Prop}(I:Inv X pins σ H s)(hN:X.N.Nodup)(hi:X.N[i]?=some x)(hx:Loc X.env.scope x)(r:RelV v u)
 (h:∀s',Inv X pins (σ.set i (some v)) H s'->(∃a,EQ a s.heap s'.heap/\(a=X.env.locals\/X.env.cells.lookup x=some a))->Q () s')(hf:autoParam (X.fn x=true\/X.env.scope.names.lookup x=some .local) æg._auto_1):Dr M A (storeName X.env x u) Q E s:=by
 obtain⟨m,hn,hl⟩:=id I.loc;have hcls:(X.env.scope.kind == .class||(X.env.scope.kind == .module&&X.env.locals != X.env.globals))=false:=by rw[I.ok.kind];rfl
 have hiσ:i<σ.length:=by rw[I.len];exact(Du.mp hi).1
 have cne:=I.cne
 have tracked:∀{a:Addr}{h':Heap},(∃o,s.heap.get? a=some o/\H a=none)->EQ a s.heap h'->CW X.prog X.w H h':=fun{a h'} ha hs b ob e=>by
  obtain⟨_,_,hfree⟩:=ha;refine(I.hok b ob e).stay (fun c w' hc q=>(hs.2 c ?_).trans q) (fun _ q=>q) fun _ _ q=>q;rintro rfl;rcases hc with rfl|hc
  · rw[hfree]at e;cases e
  · rw[hfree]at hc;cases hc
 rcases hx with hk|hk
 · refine wpAny_storeName_local hk hn (fun h' hn' hs=>?_) hcls;obtain⟨oL,_,_,hoL,_⟩:=id hn;refine h _ ⟨I.ok,I.os,I.bare,⟨fun b o e n hb hx=>?_,fun b o e n hb hx=>?_,I.base.free,fun b o e hx=>?_,I.base.tups,I.base.frzs,I.base.tbls⟩,⟨_,hn',fun j y v' e1 e2 e3=>?_⟩,fun y c e=>?_,I.free,I.freeC,fun p hp=>?_,tracked ⟨oL,hoL,I.free⟩ hs,by simpa using I.len⟩ ⟨_,hs,.inl rfl⟩
   · exact(hs.2 b (DB (Dk (Df e) I.ok.above))).trans (I.base.keep b o e n hb hx)
   · obtain⟨sl,e1⟩:=I.base.slot b o e n hb hx;exact⟨sl,(hs.2 b (DB (Dk (Df e) I.ok.above))).trans e1⟩
   · obtain⟨o',e1⟩:=I.base.there b o e hx;exact⟨o',(hs.2 b (DB (Dk (Df e) I.ok.above))).trans e1⟩
   · by_cases hj:j=i
     · subst hj;rw[hi]at e1;cases e1;rw[Dz hiσ]at e2;cases e2;exact⟨u,r,.inl ⟨hk,by simp⟩⟩
     · rw[Dp (Fm hj)]at e2;obtain⟨u',r',q⟩:=hl j y v' e1 e2 e3;refine⟨u',r',?_⟩;rcases q with⟨k,e⟩|⟨k,c,e,z⟩
       · refine .inl ⟨k,?_⟩;have:y≠x:=fun e=>hj (fX hN e1 (e▸hi));simp[this,e]
       · exact .inr ⟨k,c,e,z.sameBut hs (cne y c e)⟩
   · obtain⟨w',z⟩:=I.cell y c e;exact⟨w',z.sameBut hs (cne y c e)⟩
   · obtain⟨e,n,ne,nf,d⟩:=I.pin p hp;exact⟨(hs.2 p.1 ne).trans e,n,ne,nf,d⟩
 · have hfn:X.fn x=true:=by
     rcases hf with z|z
     · exact z
     · rw[z]at hk;cases hk
   obtain⟨c,hc⟩:=I.ok.has x (.inl hk);obtain⟨w',z⟩:=I.cell x c hc;refine wpAny_storeName_cell I.ok.kind hk hc z (fun h' hc' hs=>?_);obtain⟨oc,hoc,hocd⟩:=id z;refine h {s with heap:=h' } ⟨I.ok,I.os,I.bare,⟨fun b o e n hb hx=>?_,fun b o e n hb hx=>?_,I.base.free,fun b o e hx=>?_,I.base.tups,I.base.frzs,I.base.tbls⟩,⟨m,hn.sameBut hs (Fm (cne x c hc)),fun j y v' e1 e2 e3=>?_⟩,fun y c' e=>?_,I.free,I.freeC,fun p hp=>?_,tracked ⟨oc,hoc,I.freeC x c hc⟩ hs,by simpa using I.len⟩ ⟨c,hs,.inr hc⟩
   · exact(hs.2 b (DB (Dk (Df e) (I.ok.cab x c hfn hc)))).trans (I.base.keep b o e n hb hx)
   · obtain⟨sl,e1⟩:=I.base.slot b o e n hb hx;exact⟨sl,(hs.2 b (DB (Dk (Df e) (I.ok.cab x c hfn hc)))).trans e1⟩
   · obtain⟨o',e1⟩:=I.base.there b o e hx;exact⟨o',(hs.2 b (DB (Dk (Df e) (I.ok.cab x c hfn hc)))).trans e1⟩
   · by_cases hj:j=i
     · subst hj;rw[hi]at e1;cases e1;rw[Dz hiσ]at e2;cases e2;exact⟨u,r,.inr ⟨.inl hk,c,hc,hc'⟩⟩
     · rw[Dp (Fm hj)]at e2;obtain⟨u',r',q⟩:=hl j y v' e1 e2 e3;refine⟨u',r',?_⟩;rcases q with q|⟨k,c',e,z'⟩
       · exact .inl q
       · refine .inr ⟨k,c',e,z'.sameBut hs ?_⟩;rintro rfl;exact hj (fX hN e1 (I.ok.inj _ _ _ e hc▸hi))
   · by_cases hcc:c'=c
     · subst hcc;exact⟨_,hc'⟩
     · obtain⟨w2,z2⟩:=I.cell y c' e;exact⟨w2,z2.sameBut hs hcc⟩
   · obtain⟨e,n,ne,nf,d⟩:=I.pin p hp;refine⟨(hs.2 p.1 ?_).trans e,n,ne,nf,d⟩;intro q;rw[q,hoc]at e;have q':oc=p.2:=DX e;exact d w' (by rw[<- q'];exact hocd)
theorem cB{M:JZ}{v:V}{Q:Unit->Dd->Prop}(I:Inv X pins σ H s)(hN:X.N.Nodup)(hi:X.N[i]?=some x)(hx:Loc X.env.scope x)(r:RelV v u)
 (h:∀s',Inv X pins (σ.set i (some v)) H s'->Q () s')(hf:autoParam (X.fn x=true\/X.env.scope.names.lookup x=some .local) æg._auto_1):Dr M A (storeName X.env x u) Q E s :=
 dW I hN hi hx r (fun s' I' _=>h s' I') hf
theorem Inv.call'{s':Dd}(I:Inv X pins σ H s)(ho:s'.os=s.os)(u:Un (frs X.stack) ch H H' s.heap s'.heap)(hok:CW X.prog X.w H' s'.heap)(hg:Ib s'.gens)
 (hch:∀b∈ch,(b∈X.ex\/X.s₀.heap.objs.size<=b)/\b≠X.env.locals/\(∀x c,X.env.cells.lookup x=some c->c≠b)/\∀p∈X.pn++pins,p.1≠b):Inv X pins σ H' s':=by
 obtain⟨h',g',d',t',o'⟩:=s';have e:o'=s.os:=ho;subst e;exact I.call (g':=g') (t':=t') (d':=d') u hok hg hch
end
abbrev XK:=Dc->Option Addr->Hp->Prop
abbrev St:=List (Option V)
abbrev VK:=V->Hp->Prop
abbrev TE:=St->Hp->VK->Prop
abbrev TT:=St->Hp->(Bool->Hp->Prop)->Prop
abbrev TA:=St->Hp->(List V->Hp->Prop)->Prop
structure Ends where
 nx:St->Hp->Prop
 rt:VK
 bk:St->Hp->Prop:=fun _ _=>False
 ct:St->Hp->Prop:=fun _ _=>False
abbrev TS:=Ends->St->Hp->Prop
noncomputable def EP(X:Cx)(pins:List (Addr×Obj))(σ:St)(Q:VK)(u:Dc)(s':Dd):Prop:=∃v H',Inv X pins σ H' s'/\RelV v u/\Q v H'
noncomputable def TP(X:Cx)(pins:List (Addr×Obj))(σ:St)(Q:Bool->Hp->Prop)(b:Bool)(s':Dd):Prop:=∃H',Inv X pins σ H' s'/\Q b H'
noncomputable def AP(X:Cx)(pins:List (Addr×Obj))(σ:St)(Q:List V->Hp->Prop)(us:List Dc)(s':Dd):Prop:=∃vs H',Inv X pins σ H' s'/\bT vs us/\Q vs H'
noncomputable def SP(X:Cx)(pins:List (Addr×Obj))(D:Ends)(f:Flow)(s':Dd):Prop :=
 match f with
 | .next=>∃σ' H',Inv X pins σ' H' s'/\D.nx σ' H'
 | .brk=>∃σ' H',Inv X pins σ' H' s'/\D.bk σ' H'
 | .cont=>∃σ' H',Inv X pins σ' H' s'/\D.ct σ' H'
 | .ret u=>∃v σ' H',Inv X pins σ' H' s'/\RelV v u/\D.rt v H'
noncomputable def PE(X:Cx)(e:Expr)(t:TE):Prop :=
 ∀(pins:List (Addr×Obj))(s:Dd)(σ:St)(H:Hp)(Q:VK),Inv X pins σ H s->t σ H Q->Dr (Dw X.prog X.w) X.A (eval e X.env) (EP X pins σ Q) X.xe s
noncomputable def PT(X:Cx)(e:Expr)(t:TT):Prop :=
 ∀(pins:List (Addr×Obj))(s:Dd)(σ:St)(H:Hp)(Q:Bool->Hp->Prop),Inv X pins σ H s->t σ H Q->Dr (Dw X.prog X.w) X.A (isTrue e X.env (eval e X.env)) (TP X pins σ Q) X.xe s
noncomputable def PW(X:Cx)(e:Expr)(t:TT):Prop :=
 ∀(whole:Sem Dc)(pins:List (Addr×Obj))(s:Dd)(σ:St)(H:Hp)(Q:Bool->Hp->Prop),Inv X pins σ H s->t σ H Q->Dr (Dw X.prog X.w) X.A (isTrue e X.env whole) (TP X pins σ Q) X.xe s
theorem PW.pt{X:Cx}{t:TT}(h:PW X e t):PT X e t:=h _
noncomputable def PA(X:Cx)(es:List Expr)(t:TA):Prop :=
 ∀(pos:Pos)(pins:List (Addr×Obj))(s:Dd)(σ:St)(H:Hp)(Q:List V->Hp->Prop),Inv X pins σ H s->t σ H Q->Dr (Dw X.prog X.w) X.A (spliced (ES pos (Dh es X.env))) (AP X pins σ Q) X.xe s
noncomputable def PS(X:Cx)(st:Stmt)(t:TS):Prop :=
 ∀(pins:List (Addr×Obj))(s:Dd)(σ:St)(H:Hp)(D:Ends),Inv X pins σ H s->t D σ H->Dr (Dw X.prog X.w) X.A (exec st X.env) (SP X pins D) X.xe s
noncomputable def Cv(X:Cx)(st:List Stmt)(t:TS):Prop :=
 ∀(pins:List (Addr×Obj))(s:Dd)(σ:St)(H:Hp)(D:Ends),Inv X pins σ H s->t D σ H->Dr (Dw X.prog X.w) X.A (execs st X.env) (SP X pins D) X.xe s
theorem A8{t:Sem α}{Q Q':α->Dd->Prop}{M:JZ}(h:Dr M A t Q E s)(hQ:∀a s,Q a s->Q' a s):Dr M A t Q' E s:=DC h hQ fun _ _ x=>x
section
variable{X:Cx}
noncomputable def xv(i:Nat):TE:=fun σ H Q=>∃v,σ[i]?=some (some v)/\Q v H
noncomputable def tC(v:V):TE:=fun _ H Q=>Q v H
theorem bB(hN:X.N[i]?=some x)(hv:B8 X.env.scope x)(hd:autoParam ((x==("__debug__" : Str))=false) æb._auto_1)(hcd:autoParam ((x==("__classdict__" : Str))=false) æb._auto_1):PE X (.Name x pos) (xv i):=by
 intro pins s σ H Q I h;obtain⟨v,e,h⟩:=h;obtain⟨m,hn,hl⟩:=I.loc;obtain⟨u,r,l⟩:=hl i x v hN e hv;have fin:EP X pins σ Q u s:=⟨v,H,I,r,h⟩;rcases l with⟨hk,hm⟩|⟨hk,c,hc,hcell⟩
 · exact wpAny_Name (IV I.ok.kind hk hn hm fin) hd
 · rcases hk with hk|hk
   · exact wpAny_Name (Jd I.ok.kind hk hc hcell fin) hd
   · exact wpAny_Name (wpAny_loadName_free I.ok.kind hk hc hcell fin hcd) hd
theorem hE{i j pos}:PE X (.Constant (.int i) j pos) (tC (.int i)):=fun _ _ _ H _ I h=>wpAny_Constant_int ⟨.int i,H,I.tok _,⟨_,rfl⟩,h⟩
theorem xW{b j pos}:PE X (.Constant (.bool b) j pos) (tC (.bl b)):=fun _ _ _ H _ I h=>Constant_bool ⟨.bl b,H,I,rfl,h⟩
theorem ve{j pos}:PE X (.Constant .none j pos) (tC .non):=fun _ _ _ H _ I h=>Constant_none ⟨.non,H,I,rfl,h⟩
theorem dF{x j pos}:PE X (.Constant (.str x) j pos) (tC (.str x)):=fun _ _ _ H _ I h=>Calls.Constant_str ⟨.str x,H,I.tok _,⟨_,rfl⟩,h⟩
noncomputable def Gl(X:Cx)(x:Str):Prop:=X.env.kindOf x=some .globalImplicit
theorem gc{σ:St}{H:Hp}(I:Inv X pins σ H s)(hg:Gl X x)(hm:X.mg x=some u)(h:Q u s)
 (hd:autoParam ((x==("__debug__" : Str))=false) æb._auto_1):Dr (Dw X.prog X.w) X.A (eval (.Name x pos) X.env) Q E s :=
 Hq I.ok.kind hg (Calls.loadGlobal_global (by rw[I.ok.glob];exact I.mod.glob.keeps I.bk) hm h) hd
theorem cK{σ:St}{H:Hp}(I:Inv X pins σ H s)(hg:Gl X x)(hm:X.mg x=none)(hv:Fu x=some u)(h:Q u s)
 (hn:autoParam (x ≠ "__name__") æb._auto_1)(hd:autoParam ((x==("__debug__" : Str))=false) æb._auto_1):Dr (Dw X.prog X.w) X.A (eval (.Name x pos) X.env) Q E s:=by
 obtain⟨mb,h1,h2⟩:=I.mod.blt;exact Hq I.ok.kind hg (Calls.loadGlobal_builtin (by rw[I.ok.glob];exact I.mod.glob.keeps I.bk) hm (by rw[I.ok.blt];exact h1.keeps I.bk) ((h2 x hn).trans hv) h) hd
theorem iF{v:V}(hg:Gl X x)(hm:X.mg x=some u)(r:RelV v u)(hd:autoParam ((x==("__debug__" : Str))=false) æb._auto_1):PE X (.Name x pos) (tC v) :=
 fun _ _ _ H _ I h=>gc I hg hm ⟨v,H,I,r,h⟩ hd
theorem rE{v:V}(hg:Gl X x)(hm:X.mg x=none)(hv:Fu x=some u)(r:RelV v u)(hn:autoParam (x ≠ "__name__") æb._auto_1)(hd:autoParam ((x==("__debug__" : Str))=false) æb._auto_1):PE X (.Name x pos) (tC v) :=
 fun _ _ _ H _ I h=>cK I hg hm hv ⟨v,H,I,r,h⟩ hn hd
variable{a b:Expr}{ta tb:TE}{pos:Pos}
noncomputable def tB(t:TE):TT:=fun σ H Q=>t σ H fun x H1=>∃c,x = .bl c/\Q c H1
theorem u0{t:TE}(h:PE X e t)(he:autoParam (∀whole,isTrue e X.env whole=(do let v <- whole;Jw e.pos;Jx [v] (truthy v))) æd._auto_1):PT X e (tB t):=by
 intro pins s σ H Q I hw;refine isTrue_plain (A8 (h pins s σ H _ I hw) fun v s1 ⟨x,H1,I1,r1,q1⟩=>?_) (he _);obtain⟨d,rfl,q⟩:=q1;cases r1;exact HQ ⟨H1,I1,q⟩
variable{tA tB':TT}{rest:List Expr}
noncomputable def Ag(t u:TT):TT:=fun σ H Q=>t σ H fun c H1=>if c=true then u σ H1 Q else Q false H1
noncomputable def Bb(t u:TT):TT:=fun σ H Q=>t σ H fun c H1=>if c=true then Q true H1 else u σ H1 Q
noncomputable def z_(t:TT):TT:=fun σ H Q=>t σ H fun c H1=>Q (!c) H1
theorem qR(ha:PT X a tA):PW X (.BoolOp .And [a] pos) tA:=by
 intro wh pins s σ H Q I h;refine isTrue_and (A8 (ha pins s σ H Q I h) fun c s1 e=>?_)
 cases c with
 | true=>exact isTrue_and_nil e
 | false=>exact e
theorem uW(ha:PT X a tA):PW X (.BoolOp .Or [a] pos) tA:=by
 intro wh pins s σ H Q I h;refine isTrue_or (A8 (ha pins s σ H Q I h) fun c s1 e=>?_)
 cases c with
 | false=>exact isTrue_or_nil e
 | true=>exact e
theorem uX(ha:PT X a tA)(hb:PW X (.BoolOp .And (b::rest) pos) tB'):PW X (.BoolOp .And (a::b::rest) pos) (Ag tA tB'):=by
 intro wh pins s σ H Q I h;refine isTrue_and (A8 (ha pins s σ H _ I h) fun c s1 ⟨H1,I1,q1⟩=>?_)
 cases c with
 | true=>exact hb wh pins s1 σ H1 Q I1 q1
 | false=>exact⟨H1,I1,q1⟩
theorem xN(ha:PT X a tA)(hb:PW X (.BoolOp .Or (b::rest) pos) tB'):PW X (.BoolOp .Or (a::b::rest) pos) (Bb tA tB'):=by
 intro wh pins s σ H Q I h;refine isTrue_or (A8 (ha pins s σ H _ I h) fun c s1 ⟨H1,I1,q1⟩=>?_)
 cases c with
 | true=>exact⟨H1,I1,q1⟩
 | false=>exact hb wh pins s1 σ H1 Q I1 q1
theorem u3(ha:PT X a tA):PT X (.UnaryOp .Not a pos) (z_ tA):=by
 intro pins s σ H Q I h;exact isTrue_not (ha pins s σ H (fun c H1=>Q (!c) H1) I h)
noncomputable def xy(ta:TE):TE:=fun σ H Q=>ta σ H fun x H1=>∃c,x = .bl c/\Q (.bl (!c)) H1
theorem vd(ha:PE X a ta):PE X (.UnaryOp .Not a pos) (xy ta):=by
 intro pins s σ H Q I h;refine UnaryOp_ (A8 (ha pins s σ H _ I h) fun v s1 ⟨x,H1,I1,r1,q1⟩=>?_);obtain⟨c,rfl,q1⟩:=q1;cases r1;exact not_of (HQ ⟨.bl (!c),H1,I1,rfl,q1⟩)
noncomputable def Be(t:TT)(ta tb:TE):TE:=fun σ H Q=>t σ H fun c H1=>if c=true then ta σ H1 Q else tb σ H1 Q
theorem nZ{c:Expr}(hc:PT X c tA)(ha:PE X a ta)(hb:PE X b tb):PE X (.IfExp c a b pos) (Be tA ta tb):=by
 intro pins s σ H Q I h;refine wpAny_IfExp (A8 (hc pins s σ H _ I h) fun d s1 ⟨H1,I1,q1⟩=>?_)
 cases d with
 | true=>exact ha pins s1 σ H1 Q I1 q1
 | false=>exact hb pins s1 σ H1 Q I1 q1
end
noncomputable def Ch(K:W.Frag)(H:Hp)(a:Addr)(xs:List V):Prop :=
 Rd H a (.lst xs) \/
  ∃(o:Obj)(its:Array Dc)(n:Nat),K.lookup a=some o/\o.cls = .type "list" /\ o.dict=none/\o.data = .seq its n/\its.size<=sizeLine/\bT xs its.toList
noncomputable def Cg(K:W.Frag)(H:Hp)(a:Addr)(xs:List V):Prop :=
 Rd H a (.tup xs) \/
  ∃(o:Obj)(its:Array Dc)(n:Nat),K.lookup a=some o/\o.cls = .type "tuple" /\ o.data = .seq its n/\its.size<=sizeLine/\bT xs its.toList/\o.dict=none
noncomputable def At:Dc->Option V
 | .none=>some .non
 | .bool b=>some (.bl b)
 | .int i _=>some (.int i)
 | .str x _=>some (.str x)
 | .bytes b _=>some (.byt b)
 | .float b _=>some (.flt b)
 | .ref a=>some (.ref a)
 | .type n=>some (.ty n)
 | _=>none
theorem RelV.abs{x:V}(r:RelV x u):At u=some x:=by
 cases x with
 | non=>cases r;rfl
 | bl _=>cases r;rfl
 | int _=>obtain⟨t,rfl⟩:=r;rfl
 | str _=>obtain⟨t,rfl⟩:=r;rfl
 | byt _=>obtain⟨t,rfl⟩:=r;rfl
 | flt _=>obtain⟨t,rfl⟩:=r;rfl
 | ref _=>cases r;rfl
 | ty _=>cases r;rfl
theorem RelV.inj{x y:V}(r:RelV x u)(q:RelV y u):x=y:=DX (r.abs.symm.trans q.abs)
theorem bT.inj:∀{xs ys:List V}{us:List Dc},bT xs us->bT ys us->xs=ys
 | _,_,_,.nil,.nil=>rfl
 | _,_,_,.cons r t,.cons r' t'=>by rw[r.inj r',bT.inj t t']
section
variable{X:Cx}{pins:List (Addr×Obj)}{σ:St}{H:Hp}{s:Dd}{a:Addr}{xs ys:List V}
theorem Inv.list(I:Inv X pins σ H s)(h:Ch X.K H a xs):∃its:List Dc,bT xs its/\PlainL s.heap a its.toArray/\xs.length<=sizeLine:=by
 rcases h with h|⟨o,its,n,hk,hc,hd,hs,hz,r⟩
 · obtain⟨z,its,n,r,e⟩:=h.ok I.hok;exact⟨its,r,⟨_,n,e,rfl,rfl,rfl⟩,z⟩
 · refine⟨its.toList,r,⟨o,n,I.kIn a o hk,hc,hd,by simpa using hs⟩,?_⟩;have e:=r.length;simp only[Gz]at e;omega
theorem Inv.tuple(I:Inv X pins σ H s)(h:Cg X.K H a xs):∃its:List Dc,bT xs its/\IsTup s.heap a its.toArray/\xs.length<=sizeLine:=by
 rcases h with h|⟨o,its,n,hk,hc,hs,hz,r,hd⟩
 · obtain⟨z,its,r,p⟩:=h.ok I.hok;exact⟨its,r,p.tup,z⟩
 · refine⟨its.toList,r,⟨o,I.kIn a o hk,hc,n,by simpa using hs⟩,?_⟩;have e:=r.length;simp only[Gz]at e;omega
theorem Inv.list_inj(I:Inv X pins σ H s)(h:Ch X.K H a xs)(h':Ch X.K H a ys):xs=ys:=by
 obtain⟨its,r,⟨o,n,e,_,_,d⟩,_⟩:=I.list h;obtain⟨its',r',⟨o',n',e',_,_,d'⟩,_⟩:=I.list h';rw[e]at e';cases e';rw[d]at d'
 injection d' with d1 _
 have:its=its':=by simpa using congrArg Array.toList d1
 subst this;exact r.inj r'
theorem Inv.tupleD(I:Inv X pins σ H s)(h:Cg X.K H a xs):∃ob,s.heap.get? a=some ob/\ob.cls = .type "tuple" /\ ob.dict=none:=by
 rcases h with h|⟨o,its,n,hk,hc,hs,hz,r,hd⟩
 · obtain⟨z,its,r,⟨o,e1,e2,_,e3⟩⟩:=h.ok I.hok;exact⟨o,e1,e2,e3⟩
 · exact⟨o,I.kIn a o hk,hc,hd⟩
theorem Inv.tuple_inj(I:Inv X pins σ H s)(h:Cg X.K H a xs)(h':Cg X.K H a ys):xs=ys:=by
 obtain⟨its,r,⟨o,e,_,n,d⟩,_⟩:=I.tuple h;obtain⟨its',r',⟨o',e',_,n',d'⟩,_⟩:=I.tuple h';rw[e]at e';cases e';rw[d]at d'
 injection d' with d1 _
 have:its=its':=by simpa using congrArg Array.toList d1
 subst this;exact r.inj r'
end
abbrev Cx.wish(X:Cx)(E:Dc->Dd->Prop):Cx:={X with xe:=E}
abbrev Cx.nox(X:Cx):Cx:=X.wish fun _ _=>False
theorem Cx.Ok.wish{X:Cx}(ok:X.Ok)(E:Dc->Dd->Prop):(X.wish E).Ok :=
 ⟨ok.mod,ok.kind,ok.glob,ok.blt,ok.above,ok.inj,ok.has,ok.cab,ok.hd,ok.frames,ok.stk,ok.exf,ok.bs,ok.bsz,ok.noex,ok.exfs,ok.funs,ok.frf⟩
theorem Cx.Ok.unwish{X:Cx}(ok:(X.wish E).Ok):X.Ok :=
 ⟨ok.mod,ok.kind,ok.glob,ok.blt,ok.above,ok.inj,ok.has,ok.cab,ok.hd,ok.frames,ok.stk,ok.exf,ok.bs,ok.bsz,ok.noex,ok.exfs,ok.funs,ok.frf⟩
section
variable{X:Cx}{pins:List (Addr×Obj)}{σ:St}{H:Hp}{s:Dd}{E:Dc->Dd->Prop}
theorem Inv.wish(I:Inv X pins σ H s)(E:Dc->Dd->Prop):Inv (X.wish E) pins σ H s:=⟨I.ok.wish E,I.os,I.bare,I.base,I.loc,I.cell,I.free,I.freeC,I.pin,I.hok,I.len⟩
theorem Inv.unwish(I:Inv (X.wish E) pins σ H s):Inv X pins σ H s:=⟨I.ok.unwish,I.os,I.bare,I.base,I.loc,I.cell,I.free,I.freeC,I.pin,I.hok,I.len⟩
theorem SP.unwish{D:Ends}{f:Flow}{s':Dd}(h:SP (X.wish E) pins D f s'):SP X pins D f s':=by
 cases f with
 | next=>obtain⟨σ',H',I,q⟩:=h;exact⟨σ',H',I.unwish,q⟩
 | brk=>obtain⟨σ',H',I,q⟩:=h;exact⟨σ',H',I.unwish,q⟩
 | cont=>obtain⟨σ',H',I,q⟩:=h;exact⟨σ',H',I.unwish,q⟩
 | ret u=>obtain⟨v,σ',H',I,r,q⟩:=h;exact⟨v,σ',H',I.unwish,r,q⟩
theorem PT.nox{t:TT}(h:PT X.nox e t):PT X e t:=fun pins s σ H Q I hw =>
 DC (h pins s σ H Q (I.wish _) hw) (fun _ _ ⟨H',I',q⟩=>⟨H',I'.unwish,q⟩) fun _ _ z=>D9 z
theorem Cv.nox{st:List Stmt}{t:TS}(h:Cv X.nox st t):Cv X st t:=fun pins s σ H D I hw =>
 DC (h pins s σ H D (I.wish _) hw) (fun _ _ q=>q.unwish) fun _ _ z=>D9 z
end
section
variable{X:Cx}{st:Stmt}{rest:List Stmt}{t u:TS}{e:Expr}{te:TE}{pos:Pos}
noncomputable def xz:TS:=fun D σ H=>D.nx σ H
noncomputable def zZ(t u:TS):TS:=fun D σ H=>t {D with nx:=u D} σ H
theorem ly:Cv X [] xz:=fun _ _ σ H _ I h=>GG ⟨σ,H,I,h⟩
theorem fV(h1:PS X st t)(h2:Cv X rest u):Cv X (st::rest) (zZ t u):=by
 intro pins s σ H D I h;refine wpAny_execs_cons (A8 (h1 pins s σ H {D with nx:=u D} I h) fun f s1 q=>?_)
 cases f with
 | next =>
   obtain⟨σ',H',I',q⟩:=q
   exact h2 pins s1 σ' H' D I' q
 | ret v=>exact q
 | brk=>exact q
 | cont=>exact q
theorem dZ(h1:PS X st t):Cv X [st] t:=by
 intro pins s σ H D I h;refine wpAny_execs_cons (A8 (h1 pins s σ H D I h) fun f s1 q=>?_)
 cases f with
 | next=>exact GG q
 | ret v=>exact q
 | brk=>exact q
 | cont=>exact q
theorem Inv.quiet{σ:St}{H:Hp}(I:Inv X pins σ H s):interactive X.env=false:=by simp[interactive,I.ok.kind]
noncomputable def xA(te:TE):TS:=fun D σ H=>te σ H fun _ H1=>D.nx σ H1
theorem rg(he:PE X e te)(hs:autoParam (ET e none pos.line X.env=pure false) æa._auto_1):PS X (.Expr e pos) (xA te):=by
 intro pins s σ H D I h;exact wpAny_Expr_any (A8 (he pins s σ H _ I h) fun v s1 ⟨x,H1,I1,r1,q1⟩=>⟨σ,H1,I1,q1⟩) I.quiet hs
noncomputable def z0(te:TE):TS:=fun D σ H=>te σ H D.rt
theorem pC(he:PE X e te):PS X (.Return (some e) pos) (z0 te):=by
 intro pins s σ H D I h;exact wpAny_Return_some (A8 (he pins s σ H _ I h) fun v s1 ⟨x,H1,I1,r1,q1⟩=>⟨x,σ,H1,I1,r1,q1⟩)
noncomputable def Ad(c:TT)(t u:TS):TS:=fun D σ H=>c σ H fun b H1=>if b=true then t D σ H1 else u D σ H1
theorem u6{c:Expr}{a b:List Stmt}{tc:TT}(hc:PT X c tc)(ha:Cv X a t)(hb:Cv X b u):PS X (.If c a b pos) (Ad tc t u):=by
 intro pins s σ H D I h;refine wpAny_If (A8 (hc pins s σ H _ I h) fun d s1 ⟨H1,I1,q1⟩=>?_)
 cases d with
 | true=>exact ha pins s1 σ H1 D I1 q1
 | false=>exact hb pins s1 σ H1 D I1 q1
end
abbrev TG:=V->St->Hp->(St->Hp->Prop)->Prop
abbrev Cf:=List V->St->Hp->(St->Hp->Prop)->Prop
noncomputable def PG(X:Cx)(target:Expr)(t:TG):Prop :=
 ∀ (pins:List (Addr×Obj))(s:Dd)(σ:St)(H:Hp)(v:V)(u:Dc)(Q:St->Hp->Prop),Inv X pins σ H s->RelV v u->t v σ H Q ->
   Dr (Dw X.prog X.w) X.A (G_ target X.env u) (fun _ s'=>∃σ' H',Inv X pins σ' H' s'/\Q σ' H') X.xe s
noncomputable def CC(X:Cx)(ts:List Expr)(t:Cf):Prop :=
 ∀ (pins:List (Addr×Obj))(s:Dd)(σ:St)(H:Hp)(vs:List V)(us:List Dc)(Q:St->Hp->Prop),Inv X pins σ H s->bT vs us->t vs σ H Q ->
   Dr (Dw X.prog X.w) X.A (Jp ((GD ts X.env).map (·.2)) us) (fun _ s'=>∃σ' H',Inv X pins σ' H' s'/\Q σ' H') X.xe s
abbrev Cd:=V->V->Hp->VK->Prop
noncomputable def Cz(X:Cx)(op:JJ)(t:Cd):Prop :=
 ∀ (pins:List (Addr×Obj))(s:Dd)(σ:St)(H:Hp)(x y:V)(v u:Dc)(Q:VK),Inv X pins σ H s->RelV x v->RelV y u->t x y H Q ->
   Dr (Dw X.prog X.w) X.A (inplaceOp op v u) (EP X pins σ Q) X.xe s
section
variable{X:Cx}{pos:Pos}
noncomputable def iN(i:Nat):TG:=fun v σ H Q=>Q (σ.set i (some v)) H
theorem rq(hN:X.N.Nodup)(hi:X.N[i]?=some x)(hx:Loc X.env.scope x)(hf:autoParam (X.fn x=true\/X.env.scope.names.lookup x=some .local) æg._auto_1):PG X (.Name x pos) (iN i):=by
 intro pins s σ H v u Q I r h;exact HR (cB I hN hi hx r (fun s' I'=>⟨_,H,I',h⟩) hf)
noncomputable def Ap:Cf:=fun vs σ H Q=>vs=[]/\Q σ H
noncomputable def yn(t:TG)(u:Cf):Cf:=fun vs σ H Q=>∃v r,vs=v::r/\t v σ H fun σ' H'=>u r σ' H' Q
theorem ro:CC X [] Ap:=by
 intro pins s σ H vs us Q I r h;obtain⟨e,h⟩:=h;subst e;cases r;exact assignInOrder_nil ⟨σ,H,I,h⟩
theorem nV{t:TG}{u:Cf}(h1:PG X e t)(h2:CC X es u)
 (hs:autoParam ((GD (e::es) X.env).map (·.2)=G_ e X.env::(GD es X.env).map (·.2)) æa._auto_1):CC X (e::es) (yn t u):=by
 intro pins s σ H vs us Q I r h;obtain⟨v,vr,e1,h⟩:=h;subst e1
 cases r with
 | cons r rr =>
   rw[hs];refine Hy (A8 (h1 pins s σ H _ _ _ I r h) fun _ s1 ⟨σ1,H1,I1,q1⟩=>?_);exact h2 pins s1 σ1 H1 _ _ Q I1 rr q1
noncomputable def Ao(K:W.Frag)(n:Nat)(t:Cf):TG:=fun v σ H Q=>∃a xs,v = .ref a/\Cg K H a xs/\xs.length=n/\t xs σ H Q
theorem vb{k:Nat}{t:Cf}(hc:X.calm=true)(h:CC X es t)
 (hn:autoParam ((GD es X.env).length=n) æa._auto_1)(hst:autoParam ((GD es X.env).findIdx? (·.1)=none) æa._auto_1):PG X (.Tuple es k pos) (Ao X.K n t):=by
 intro pins s σ H v u Q I r hw;obtain⟨a,xs,e1,hq,hl,hw⟩:=hw;subst e1;cases r;obtain⟨its,rv,ht,hz⟩:=I.tuple hq;refine assign_Tuple_tuple (I.ok.hd hc) ht (by simp[hn,<- hl,rv.length]) hst fun h' hx=>?_;have I1:Inv X pins σ H {s with heap:=h' }:=I.kept (t':=s.toks) fun b o e=>hx b o (DB (Df e)) e;exact h pins _ σ H xs _ Q I1 (by simpa using rv) hw
noncomputable def xE(te:TE)(g:TG):TS:=fun D σ H=>te σ H fun x H1=>g x σ H1 D.nx
theorem eY{te:TE}(hN:X.N.Nodup)(hi:X.N[i]?=some x)(hx:Loc X.env.scope x)(he:PE X e te)(hs:autoParam (ET e (some (.Name x pos')) pos.line X.env=pure false) æa._auto_1)(hf:autoParam (X.fn x=true\/X.env.scope.names.lookup x=some .local) æg._auto_1) :
 PS X (.Assign [.Name x pos'] e pos) (xE te (iN i)):=by
 intro pins s σ H D I h;refine wpAny_Assign_Name (A8 (he pins s σ H _ I h) fun v s1 ⟨y,H1,I1,r1,q1⟩=>?_) hs;exact cB I1 hN hi hx r1 (fun s2 I2=>⟨_,H1,I2,q1⟩) hf
noncomputable def z9(i j:Nat)(ta:TA):TS:=fun D σ H=>ta σ H fun vs H1=>∃v w,vs=[v,w]/\D.nx ((σ.set i (some v)).set j (some w)) H1
theorem u4{y:Str}{a b:Expr}{ta:TA}{py pt:Pos}{kt k2 pt2}(hc:X.calm=true)(hN:X.N.Nodup)(hi:X.N[i]?=some x)(hj:X.N[j]?=some y)(hij:i≠j)
 (hx:X.env.scope.names.lookup x=some .local)(hy:X.env.scope.names.lookup y=some .local)(ha:PA X [a,b] ta)
 (hw:swappedStores [.Tuple [.Name x px,.Name y py] kt pt] (.Tuple [a,b] k2 pt2) X.env=pure (some [x,y]))
 (hs:autoParam (swapsWithSole [.Tuple [.Name x px,.Name y py] kt pt] (.Tuple [a,b] k2 pt2) pos.line X.env=pure false) æa._auto_1) :
 PS X (.Assign [.Tuple [.Name x px,.Name y py] kt pt] (.Tuple [a,b] k2 pt2) pos) (z9 i j ta):=by
 intro pins s σ H D I h;rw[exec_Assign_arm];refine C9 (ED ?_);rw[hs];refine C9 (De ?_);rw[if_neg (by decide)];refine C9 (Tuple_ (A8 (ha _ pins s σ H _ I h) fun us s1 ⟨vs,H1,I1,r1,q1⟩=>?_));obtain⟨v,w,e1,q1⟩:=q1;subst e1
 obtain⟨u1,u2,rfl,rv,rw'⟩:∃u1 u2,us=[u1,u2]/\RelV v u1/\RelV w u2:=by
  cases r1 with
  | cons p q =>
    cases q with
    | cons p' q' =>
      cases q';exact⟨_,_,rfl,p,p'⟩
 refine DT ?_ (by show 2<=sizeLine;decide);have I2:Inv X pins σ H1 {s1 with heap:=s1.heap.push {cls:=.type "tuple", data:=.seq [u1,u2].toArray}}:=I1.kept (t':=s1.toks) fun b o e=>Db _ e;rw[hw];refine C9 (De ?_);show Dr (Dw X.prog X.w) X.A (do rule "assign.swapped-stores"; let items <- unpackItems (.ref s1.heap.objs.size) 2 none;Jp [fun v=>JK X.env y v,fun v=>JK X.env x v] items.reverse;pure Flow.next) _ _ _;refine C9 (Hb (C9 (unpackItems_tuple (items:=#[u1,u2]) (I.ok.hd hc) (IsTup.new s1.heap _) fun h' hx'=>?_)));have I3:=I2.kept (h':=h') (t':=s1.toks) fun b o e=>hx' b o (DB (Df e)) e;show Dr _ _ (Jp [fun v=>JK X.env y v,fun v=>JK X.env x v] [u2,u1] >>= fun _=>pure Flow.next) _ _ _;refine C9 (Hy (wpAny_bindName (cB I3 hN hj (.inl hy) rw' (fun s2 I4=>?_) (.inr hy))));refine Hy (wpAny_bindName (cB I4 hN hi (.inl hx) rv (fun s3 I5=>assignInOrder_nil (De ?_)) (.inr hx)));rw[List.set_comm _ _ (Fm hij)]at I5;exact⟨_,H1,I5,q1⟩
noncomputable def Af(i:Nat)(te:TE)(ti:Cd):TS:=fun D σ H=>∃x,σ[i]?=some (some x)/\te σ H fun y H1=>ti x y H1 fun z H2=>D.nx (σ.set i (some z)) H2
theorem u8{te:TE}{op:JJ}{ti:Cd}(hN:X.N.Nodup)(hi:X.N[i]?=some x)(hx:Loc X.env.scope x)(he:PE X e te)(ho:Cz X op ti)(hf:autoParam (X.fn x=true\/X.env.scope.names.lookup x=some .local) æg._auto_1) :
 PS X (.AugAssign (.Name x pos') op e pos) (Af i te ti):=by
 intro pins s σ H D I h;obtain⟨v,e1,h⟩:=h;obtain⟨m,hn,hl⟩:=I.loc;have vis:B8 X.env.scope x:=by rcases hx with k|k;exact .inl k;exact .inr (.inl k)
 obtain⟨u,r,l⟩:=hl i x v hi e1 vis;refine wpAny_AugAssign_Name ?_
 have go:Dr (Dw X.prog X.w) X.A (eval e X.env) (fun w s₂=>Dr (Dw X.prog X.w) X.A (inplaceOp op u w) (fun r s₃=>Dr (Dw X.prog X.w) X.A (storeName X.env x r) (fun _=>SP X pins D .next) X.xe s₃) X.xe s₂) X.xe s:=by
  refine A8 (he pins s σ H _ I h) fun w s1 ⟨y,H1,I1,r1,q1⟩=>?_;refine A8 (ho pins s1 σ H1 v y u w _ I1 r r1 q1) fun z s2 ⟨zv,H2,I2,r2,q2⟩=>?_;exact cB I2 hN hi hx r2 (fun s3 I3=>⟨_,H2,I3,q2⟩) hf
 rcases l with⟨hk,hm⟩|⟨hk,c,hc,hcell⟩
 · exact IV I.ok.kind hk hn hm go
 · rcases hk with hk|hk
   · exact Jd I.ok.kind hk hc hcell go
   · rcases hx with k|k
     · have:X.env.scope.names.lookup x=some .free:=hk;rw[k]at this;cases this
     · have:X.env.scope.names.lookup x=some .free:=hk;rw[k]at this;cases this
end
section
variable{X:Cx}{pos:Pos}
noncomputable def uB(c:TT)(tb:TS):TS:=fun D σ H=>∃W:Nat->St->Hp->Prop,(∃m,W m σ H)/\∀m σ H,W m σ H ->
 c σ H fun b H1=>if b=true then ∃N:St->Hp->Prop,(∀σ' H',N σ' H'->∃m',m'<m/\W m' σ' H')/\tb {D with nx:=N,ct:=N,bk:=D.nx} σ H1 else D.nx σ H1
theorem nQ{c:Expr}{body:List Stmt}{tc:TT}{tb:TS}(hp:JP (Dw X.prog X.w) X.A X.env X.xe)(hc:PT X c tc)(hb:Cv X body tb):PS X (.While c body [] pos) (uB tc tb):=by
 intro pins s σ H D I h;obtain⟨W,⟨m0,w0⟩,turn⟩:=h;refine wpAny_While (codeAny_whileLoop (fun n s'=>∃σ' H',Inv X pins σ' H' s'/\W n σ' H') ?_ m0 ⟨σ,H,I,w0⟩);rintro n s1 ⟨σ1,H1,I1,w1⟩;refine FN hp (A8 (hc pins s1 σ1 H1 _ I1 (turn n σ1 H1 w1)) fun b s2 ⟨H2,I2,q2⟩=>?_)
 cases b with
 | true =>
   obtain⟨N,hN,q2⟩:=q2;rw[if_pos rfl];refine FN hp (A8 (hb pins s2 σ1 H2 _ I2 q2) fun f s3 q3=>?_)
   cases f with
   | next =>
     obtain⟨σ3,H3,I3,n3⟩:=q3;obtain⟨m',hm,w3⟩:=hN σ3 H3 n3
     exact⟨m',hm,σ3,H3,I3,w3⟩
   | cont =>
     obtain⟨σ3,H3,I3,n3⟩:=q3;obtain⟨m',hm,w3⟩:=hN σ3 H3 n3
     exact⟨m',hm,σ3,H3,I3,w3⟩
   | brk=>exact q3
   | ret v=>exact q3
 | false =>
   rw[if_neg DJ];exact GG ⟨σ1,H2,I2,q2⟩
end
structure It where
 go:Nat->Hp->Prop
 yld:Nat->Hp->V->Hp->Prop
 stop:Nat->Hp->Prop
noncomputable def i4(X:Cx)(pins:List (Addr×Obj))(H:Hp)(b:Addr):Prop :=
 H b=none/\b≠X.env.locals/\b∉X.fs/\(b∈X.ex\/X.s₀.heap.objs.size<=b)/\(∀x c,X.env.cells.lookup x=some c->c≠b)/\∀p∈X.pn++pins,p.1≠b
theorem Inv.fpOk{X:Cx}{σ:St}{H H':Hp}(I:Inv X pins σ H s)(hb:s.heap.objs.size<=b)(hn:H' b=none):i4 X pins H' b:=by
 refine⟨hn,Em (Dk I.lt hb),I.nofs hb,.inr (Ef I.sz hb),fun x c e z=>?_,fun p hp z=>?_⟩
 · obtain⟨v,q⟩:=I.cell x c e;exact absurd (Dk q.lt (by rw[z];exact hb)) (D_ _)
 · exact absurd (Dk (Df (I.pin p hp).1) (by rw[z];exact hb)) (D_ _)
structure Turn (P:Dq) (w:DN) (K:W.Frag) (tg:Expr) (J:It) (fp:List Addr) (it:Addr) (tn:Nat->Heap->Prop):Prop where
 mem:it∈fp
 obj:∀i h,tn i h->∀b∈fp,∃o,h.get? b=some o/\∀v,o.data ≠ .cell v
 keep:∀i h h',tn i h->(∀b∈fp,∀o,h.get? b=some o->h'.get? b=some o)->tn i h'
 item:∀(X:Cx),X.prog=P->X.w=w->X.K=K->X.calm=true->∀(i:Nat)(pins:List (Addr×Obj))(s:Dd)(σ:St)(H:Hp)(E:Dc->Dd->Prop),Inv X pins σ H s->(∀b∈fp,i4 X pins H b)->tn i s.heap->J.go i H ->
  Dr (Dw P w) X.A (G1 (.ref it)) (fun r s1=>∃u,r=some u /\
   Dr (Dw P w) X.A (E2 tg (.ref it) u) (fun _ s2=>∃x H',Inv X pins σ H' s2/\RelV x u/\J.yld i H x H'/\tn (i+1) s2.heap/\∀b∈fp,H' b=none) E s1) E s
 done:∀(X:Cx),X.prog=P->X.w=w->X.K=K->X.calm=true->∀(i:Nat)(pins:List (Addr×Obj))(s:Dd)(σ:St)(H:Hp)(E:Dc->Dd->Prop),Inv X pins σ H s->(∀b∈fp,i4 X pins H b)->tn i s.heap->J.stop i H ->
  Dr (Dw P w) X.A (G1 (.ref it)) (fun r s1=>r=none/\Inv X pins σ H s1) E s
 self:∀(A:DM)(i:Nat)(s:Dd)(Q:Dc->Dd->Prop)(E:Dc->Dd->Prop),tn i s.heap->Q (.ref it) s->Dr (Dw P w) A (Jq (.ref it)) Q E s
abbrev TI:=St->Hp->(It->Hp->Prop)->Prop
noncomputable def CB(X:Cx)(pins:List (Addr×Obj))(σ:St)(tg:Expr)(R:It->Hp->Prop)(itv:Dc)(s2:Dd):Prop :=
 ∃(it:Addr)(fp:List Addr)(tn:Nat->Heap->Prop)(J:It)(H':Hp),itv = .ref it/\Inv X pins σ H' s2/\Turn X.prog X.w X.K tg J fp it tn/\tn 0 s2.heap/\(∀b∈fp,i4 X pins H' b)/\R J H'
noncomputable def PI(X:Cx)(tg iter:Expr)(wi:TI):Prop :=
 ∀ (pins:List (Addr×Obj))(s:Dd)(σ:St)(H:Hp)(R:It->Hp->Prop),Inv X pins σ H s->wi σ H R ->
   Dr (Dw X.prog X.w) X.A (eval iter X.env) (fun v s1=>Dr (Dw X.prog X.w) X.A (Jq v) (CB X pins σ tg R) X.xe s1) X.xe s
theorem sx{M:JZ}{n:String}{vs:Array Dc}{Q:Unit->Dd->Prop}(ho:s.heap.get? it=some o)(hc:o.cls = .type n)(hd:o.data = .fields vs)
 (hn:["enumerate", "zip", "dict_itemiterator", "dict_reverseitemiterator", "odict_iterator", "itertools.zip_longest", "itertools.pairwise"].contains n=false)(hQ:Q () s):Dr M A (E2 tg (.ref it) u) Q E s:=by
 unfold E2
 cases tg<;>first
  | exact De hQ
  | (cases u<;>first
      | exact De hQ
      | (refine C9 (wpAny_load ho ?_)
         rw[hc,hd];show Dr M A (if(["enumerate", "zip", "dict_itemiterator", "dict_reverseitemiterator", "odict_iterator", "itertools.zip_longest", "itertools.pairwise"].contains n&&vs[0]?==some (Gj _))=true then _ else _) Q E s;rw[if_neg (by intro h;rw[hn,Bool.false_and]at h;cases h)]
         exact De hQ))
noncomputable def CS(K:W.Frag)(a:Addr):It :=
 ⟨fun i H=>∃xs x,Ch K H a xs/\xs[i]?=some x,fun i H x H'=>H'=H/\∀xs,Ch K H a xs->xs[i]?=some x,fun i H=>∃xs,Ch K H a xs/\xs.length<=i⟩
noncomputable def CP(K:W.Frag)(a:Addr):It :=
 ⟨fun i H=>∃xs x,Cg K H a xs/\xs[i]?=some x,fun i H x H'=>H'=H/\∀xs,Cg K H a xs->xs[i]?=some x,fun i H=>∃xs,Cg K H a xs/\xs.length<=i⟩
noncomputable def CQ(lo:Int)(n:Nat):It:=⟨fun i _=>i<n,fun i H x H'=>H'=H/\x = .int (lo+i),fun i _=>n<=i⟩
theorem kZ{K:W.Frag}(a it:Addr):Turn P w K tg (CS K a) [it] it (fun i h=>h.IsListIter it a i) where
 mem:=by simp
 obj:=fun i h st b hb=>by
  have e:b=it:=by simpa using hb
  subst e;obtain⟨o,e,c,d⟩:=st;exact⟨o,e,fun v z=>by rw[d]at z;cases z⟩
 keep:=fun i h h' st k=>st.at fun o e=>k it (by simp) o e
 item:=by
  intro X hP hw hK hc i pins s σ H E I hf st hg;subst hP hw hK;obtain⟨xs,x,hq,hx⟩:=hg;obtain⟨its,rv,p,hz⟩:=I.list hq;obtain⟨u,hu,ru⟩:=rv.get hx;obtain⟨f0,f1,f2,f3,f4,f5⟩:=hf it (by simp);refine wpAny_pyNext_list_item st p.isList (x:=u) (by simpa using hu) fun h' st' sb=>?_;have I1:Inv X pins σ H {s with heap:=h' }:=I.turned (t':=s.toks) (fun b o hb e=>(sb.2 b hb).trans e) f0 f1 f3 f4 f5;obtain⟨o,e,c,d⟩:=id st';exact⟨u,rfl,sx (s:={s with heap:=h' }) e c d (by decide) ⟨x,H,I1,ru,⟨rfl,fun ys hy=>by rw[I.list_inj hy hq];exact hx⟩,st',fun b hb=>(hf b hb).1⟩⟩
 done:=by
  intro X hP hw hK hc i pins s σ H E I hf st hg;subst hP hw hK;obtain⟨xs,hq,hx⟩:=hg;obtain⟨its,rv,p,hz⟩:=I.list hq;obtain⟨f0,f1,f2,f3,f4,f5⟩:=hf it (by simp);have hl:=rv.length;exact wpAny_pyNext_list_end (I.ok.hd hc) st p.isList (by simp;omega) fun h' eb=>⟨rfl,I.turned (t':=s.toks) (fun b o hb e=>eb b o hb e) f0 f1 f3 f4 f5⟩
 self:=fun _ _ _ _ _ st h=>wpAny_pyIter_listiter st h
theorem jO{K:W.Frag}(a it:Addr):Turn P w K tg (CP K a) [it] it (fun i h=>h.IsTupleIter it a i) where
 mem:=by simp
 obj:=fun i h st b hb=>by
  have e:b=it:=by simpa using hb
  subst e;obtain⟨o,e,c,d⟩:=st;exact⟨o,e,fun v z=>by rw[d]at z;cases z⟩
 keep:=fun i h h' st k=>st.at fun o e=>k it (by simp) o e
 item:=by
  intro X hP hw hK hc i pins s σ H E I hf st hg;subst hP hw hK;obtain⟨xs,x,hq,hx⟩:=hg;obtain⟨its,rv,p,hz⟩:=I.tuple hq;obtain⟨u,hu,ru⟩:=rv.get hx;obtain⟨f0,f1,f2,f3,f4,f5⟩:=hf it (by simp);refine wpAny_pyNext_tuple_item st (show s.heap.IsTuple a its.toArray from p) (x:=u) (by simpa using hu) fun h' st' sb=>?_;have I1:Inv X pins σ H {s with heap:=h' }:=I.turned (t':=s.toks) (fun b o hb e=>(sb.2 b hb).trans e) f0 f1 f3 f4 f5;obtain⟨o,e,c,d⟩:=id st';exact⟨u,rfl,sx (s:={s with heap:=h' }) e c d (by decide) ⟨x,H,I1,ru,⟨rfl,fun ys hy=>by rw[I.tuple_inj hy hq];exact hx⟩,st',fun b hb=>(hf b hb).1⟩⟩
 done:=by
  intro X hP hw hK hc i pins s σ H E I hf st hg;subst hP hw hK;obtain⟨xs,hq,hx⟩:=hg;obtain⟨its,rv,p,hz⟩:=I.tuple hq;obtain⟨f0,f1,f2,f3,f4,f5⟩:=hf it (by simp);have hl:=rv.length;exact wpAny_pyNext_tuple_end (I.ok.hd hc) st (show s.heap.IsTuple a its.toArray from p) (by simp;omega) fun h' eb=>⟨rfl,I.turned (t':=s.toks) (fun b o hb e=>eb b o hb e) f0 f1 f3 f4 f5⟩
 self:=fun _ _ _ _ _ st h=>wpAny_pyIter_tupleiter st h
theorem jP{K:W.Frag}(it:Addr)(lo:Int)(n:Nat):Turn P w K tg (CQ lo n) [it] it (fun i h=>IsRangeIter h it (lo+(i:Nat)*1) ((n:Int)-(i:Nat)) 1) where
 mem:=by simp
 obj:=fun i h st b hb=>by
  have e:b=it:=by simpa using hb
  subst e
  exact⟨_,st,fun v z=>by
   have z':Data.fields _=Data.cell v:=z
   cases z'⟩
 keep:=fun i h h' st k=>k it (by simp) _ st
 item:=by
  intro X hP hw hK hc i pins s σ H E I hf st hg;subst hP hw hK;obtain⟨f0,f1,f2,f3,f4,f5⟩:=hf it (by simp);have W:=Walks.range (prog:=X.prog) (w:=X.w) (I.ok.hd hc) it lo 1 n;refine W.item i s _ _ hg st fun v h' tk hv st' kk=>?_;obtain⟨t,rfl⟩:=hv;have I1:Inv X pins σ H {s with heap:=h',toks:=tk}:=I.turned (fun b o hb e=>kk b o (by simpa using hb) e) f0 f1 f3 f4 f5;refine⟨_,rfl,sx (s:={s with heap:=h',toks:=tk}) (n := "range_iterator") st' rfl rfl (by decide) ⟨.int (lo+i),H,I1,⟨t,?_⟩,⟨rfl,rfl⟩,st',fun b hb=>(hf b hb).1⟩⟩;rw[Int.mul_one]
 done:=by
  intro X hP hw hK hc i pins s σ H E I hf st hg;subst hP hw hK;obtain⟨f0,f1,f2,f3,f4,f5⟩:=hf it (by simp);exact wpAny_pyNext_range_end (I.ok.hd hc) st (by have:n<=i:=hg;omega) fun h' eb=>⟨rfl,I.turned (t':=s.toks) (fun b o hb e=>eb b o hb e) f0 f1 f3 f4 f5⟩
 self:=fun _ _ _ _ _ st h=>wpAny_pyIter_rangeiter st h
section
variable{X:Cx}{tg:Expr}
noncomputable def yf(K:W.Frag)(tl:TE):TI:=fun σ H R=>tl σ H fun x H1=>∃a,x = .ref a/\(∃xs,Ch K H1 a xs)/\R (CS K a) H1
noncomputable def An(K:W.Frag)(tl:TE):TI:=fun σ H R=>tl σ H fun x H1=>∃a,x = .ref a/\(∃xs,Cg K H1 a xs)/\R (CP K a) H1
theorem lF{l:Expr}{tl:TE}(hl:PE X l tl):PI X tg l (yf X.K tl):=by
 intro pins s σ H R I h;refine A8 (hl pins s σ H _ I h) fun v s1 ⟨x,H1,I1,r1,q1⟩=>?_;obtain⟨a,e,⟨xs,hq⟩,q⟩:=q1;subst e;cases r1;obtain⟨its,rv,p,hz⟩:=I1.list hq;refine HU p.isList ?_;refine⟨s1.heap.objs.size,[s1.heap.objs.size],_,_,H1,rfl,I1.kept (t':=s1.toks) fun b o e=>Db _ e,kZ a _,⟨_,Do _ rfl,rfl,rfl⟩,fun b hb=>?_,q⟩;have e:b=s1.heap.objs.size:=by simpa using hb
 subst e;exact I1.fpOk (Dm _) (I1.hok.fresh (Dm _))
theorem va{l:Expr}{tl:TE}(hl:PE X l tl):PI X tg l (An X.K tl):=by
 intro pins s σ H R I h;refine A8 (hl pins s σ H _ I h) fun v s1 ⟨x,H1,I1,r1,q1⟩=>?_;obtain⟨a,e,⟨xs,hq⟩,q⟩:=q1;subst e;cases r1;obtain⟨its,rv,p,hz⟩:=I1.tuple hq;refine wpAny_pyIter_tuple (show s1.heap.IsTuple a its.toArray from p) ?_;refine⟨s1.heap.objs.size,[s1.heap.objs.size],_,_,H1,rfl,I1.kept (t':=s1.toks) fun b o e=>Db _ e,jO a _,⟨_,Do _ rfl,rfl,rfl⟩,fun b hb=>?_,q⟩;have e:b=s1.heap.objs.size:=by simpa using hb
 subst e;exact I1.fpOk (Dm _) (I1.hok.fresh (Dm _))
theorem jf{σ:St}{H:Hp}{R:It->Hp->Prop}{lo hi:Int}{t u v:Tok}{tk:Nat}(I:Inv X pins σ H s)(h1 : -(2^62)<=lo)(h2:lo<2^62)(h3 : -(2^62)<=hi)(h4:hi<2^62)
 (q:R (CQ lo (hi-lo).toNat) H):Dr (Dw X.prog X.w) X.A (Jq (.ref s.heap.objs.size)) (CB X pins σ tg R) E {s with heap:=s.heap.push {cls:=.type "range", data:=.fields #[.int lo t,.int hi u,.int 1 v]},toks:=tk}:=by
 refine wpAny_pyIter_range (IsRange.new ..) (small_one h1 h2 h3 h4) ?_;have I1:Inv X pins σ H {s with heap:=s.heap.push {cls:=.type "range", data:=.fields #[.int lo t,.int hi u,.int 1 v]},toks:=tk}:=I.kept fun b o e=>Db _ e
 refine⟨(s.heap.push {cls:=.type "range", data:=.fields #[.int lo t,.int hi u,.int 1 v]}).objs.size,[(s.heap.push {cls:=.type "range", data:=.fields #[.int lo t,.int hi u,.int 1 v]}).objs.size],_,_,H,rfl,
  I1.kept (t':=tk) fun b o e=>Db _ e,jP _ lo (hi-lo).toNat,?_,fun b hb=>?_,q⟩
 · have e1:lo+((0:Nat):Int)*1=lo:=by simp
   have e2:(((hi-lo).toNat:Nat):Int)-((0:Nat):Int)=Builtin.Range.rangeSize lo hi 1:=by rw[rangeSize_one];split<;>omega
   show IsRangeIter _ _ (lo+((0:Nat):Int)*1) ((((hi-lo).toNat:Nat):Int)-((0:Nat):Int)) 1;rw[e1,e2];exact Do _ rfl
 · have e:b=(s.heap.push {cls:=.type "range", data:=.fields #[.int lo t,.int hi u,.int 1 v]}).objs.size:=by simpa using hb
   subst e;exact I1.fpOk (Dm _) (I1.hok.fresh (Dm _))
noncomputable def ye(ta:TA):TI:=fun σ H R=>ta σ H fun vs H1=>∃j:Int,vs=[.int j] /\ -(2^62)<=j/\j<2^62/\R (CQ 0 j.toNat) H1
noncomputable def yd(ta:TA):TI:=fun σ H R=>ta σ H fun vs H1=>∃i j:Int,vs=[.int i,.int j]/\(-(2^62)<=i/\i<2^62 /\ -(2^62)<=j/\j<2^62)/\R (CQ i (j-i).toNat) H1
theorem lE{a:Expr}{ta:TA}{p:Pos}(hg:Gl X "range")(hm:X.mg "range" = none)(ha:PA X [a] ta)(hs:autoParam (Dh [a] X.env=[(false,eval a X.env)]) æa._auto_1):PI X tg (.Call (.Name "range" p) [a] [] pos) (ye ta):=by
 intro pins s σ H R I h;refine Call_ (cK I hg hm boot_range (Es (A8 (ha pos pins s σ H _ I h) fun us s1 ⟨vs,H1,I1,r1,q1⟩=>?_) hs rfl));obtain⟨j,e,q1,q2,q⟩:=q1;subst e
 cases r1 with
 | cons r rr =>
   cases rr;obtain⟨t,rfl⟩:=r;exact call_range_1 (jf I1 (by omega) (by omega) q1 q2 (by simpa using q))
theorem lD{a b:Expr}{ta:TA}{p:Pos}(hg:Gl X "range")(hm:X.mg "range" = none)(ha:PA X [a,b] ta)(hs:autoParam (Dh [a,b] X.env=[(false,eval a X.env),(false,eval b X.env)]) æa._auto_1)(hs2:autoParam (Dh [b] X.env=[(false,eval b X.env)]) æa._auto_1) :
 PI X tg (.Call (.Name "range" p) [a,b] [] pos) (yd ta):=by
 intro pins s σ H R I h;refine Call_ (cK I hg hm boot_range (Es (A8 (ha pos pins s σ H _ I h) fun us s1 ⟨vs,H1,I1,r1,q1⟩=>?_) (by rw[hs,hs2]) (by rw[hs2];rfl)));obtain⟨i,j,e,⟨q1,q2,q3,q4⟩,q⟩:=q1;subst e
 cases r1 with
 | cons r rr =>
   cases rr with
   | cons r' rr =>
     cases rr;obtain⟨t,rfl⟩:=r;obtain⟨t',rfl⟩:=r';exact call_range_2 (jf I1 q1 q2 q3 q4 q)
noncomputable def Ae(wi:TI)(g:TG)(tb:TS):TS:=fun D σ H=>wi σ H fun J H1=>∃W:Nat->Nat->St->Hp->Prop,(∃m,W 0 m σ H1)/\∀i m σ H,W i m σ H ->
 (J.stop i H/\D.nx σ H)\/(J.go i H/\∃N:St->Hp->Prop,(∀σ' H',N σ' H'->∃m',m'<m/\W (i+1) m' σ' H')/\∀x H',J.yld i H x H'->g x σ H' fun σ2 H2=>tb {D with nx:=N,ct:=N,bk:=D.nx} σ2 H2)
noncomputable def dE(fp:List Addr)(h:Heap):List (Addr×Obj):=fp.filterMap fun b=>(h.get? b).map fun o=>(b,o)
theorem aQ(hb:b∈fp)(e:h.get? b=some o):(b,o)∈dE fp h:=List.mem_filterMap.mpr ⟨b,hb,by rw[e];rfl⟩
theorem lL{p:Addr×Obj}(hp:p∈dE fp h):p.1∈fp/\h.get? p.1=some p.2:=by
 obtain⟨b,hb,e⟩:=List.mem_filterMap.mp hp
 cases q:h.get? b with
 | none=>rw[q]at e;cases e
 | some o =>
   rw[q]at e;have e':(b,o)=p:=DX e;subst e';exact⟨hb,q⟩
theorem Inv.pinned{σ:St}{H:Hp}(I:Inv X pins σ H s)(hf:∀b∈fp,i4 X pins H b)(ho:∀b∈fp,∃o,s.heap.get? b=some o/\∀v,o.data ≠ .cell v):Inv X (pins++dE fp s.heap) σ H s :=
 I.pins_of fun p hp=>(Ez.mp hp).elim (fun z=>I.pin p (Dt _ z)) fun z=>by
  obtain⟨hb,e⟩:=lL z;obtain⟨f0,f1,f2,_⟩:=hf p.1 hb;obtain⟨o,e',d⟩:=ho p.1 hb;rw[e]at e';cases e';exact⟨e,f0,f1,f2,d⟩
theorem Inv.unpinned{pl:List (Addr×Obj)}{σ:St}{H:Hp}(I:Inv X (pins++pl) σ H s):Inv X pins σ H s:=I.pins_of fun p hp=>I.pin p (Dt _ (G9 _ hp))
theorem u7{body:List Stmt}{wi:TI}{g:TG}{tb:TS}(hp:JP (Dw X.prog X.w) X.A X.env X.xe)(hc:X.calm=true)(hi:PI X tg iter wi)(hg:PG X tg g)(hb:Cv X body tb)
 (hs:autoParam (∀x,DL iter X.env x=pure x) æd._auto_1):PS X (.For tg iter body [] pos) (Ae wi g tb):=by
 intro pins s σ H D I h;refine wpAny_For (A8 (hi pins s σ H _ I h) fun v s1 h1=>A8 h1 fun itv s2 h2=>?_) hs;obtain⟨it,fp,tn,J,H2,e,I2,T,st2,f2,W,⟨m0,w0⟩,turn⟩:=h2;subst e;have stat:∀{H':Hp},(∀b∈fp,H' b=none)->∀b∈fp,i4 X pins H' b:=fun hn b hb=>⟨hn b hb,(f2 b hb).2⟩;refine codeAny_forLoop_any (fun n s'=>∃i σ' H',Inv X pins σ' H' s'/\tn i s'.heap/\(∀b∈fp,H' b=none)/\W i n σ' H') ?_ m0 ⟨0,σ,H2,I2,st2,fun b hb=>(f2 b hb).1,w0⟩;rintro n s3 ⟨i,σ3,H3,I3,st3,fr3,w3⟩;rcases turn i n σ3 H3 w3 with⟨stop,qn⟩|⟨go,N,hN,step⟩
 · refine FN hp (A8 (T.done X rfl rfl rfl hc i pins s3 σ3 H3 X.xe I3 (stat fr3) st3 stop) fun r s4 ⟨hr,I4⟩=>?_);subst hr;exact GG ⟨σ3,H3,I4,qn⟩
 · refine FN hp (A8 (T.item X rfl rfl rfl hc i pins s3 σ3 H3 X.xe I3 (stat fr3) st3 go) fun r s4 ⟨u,hr,h4⟩=>?_);subst hr;refine FN hp (A8 h4 fun _ s5 ⟨x,H5,I5,r5,y5,st5,fr5⟩=>?_);have I5':=I5.pinned (stat fr5) (T.obj _ _ st5);refine FN hp (A8 (hg _ s5 σ3 H5 x u _ I5' r5 (step x H5 y5)) fun _ s6 ⟨σ6,H6,I6,q6⟩=>?_);refine FN hp (A8 (hb _ s6 σ6 H6 _ I6 q6) fun f s7 q7=>?_)
   have again:∀{σ7:St}{H7:Hp},Inv X (pins++dE fp s5.heap) σ7 H7 s7->N σ7 H7->∃m,m<n/\∃i σ' H',Inv X pins σ' H' s7/\tn i s7.heap/\(∀b∈fp,H' b=none)/\W i m σ' H':=fun{σ7 H7} I7 n7=>by
    obtain⟨m',hm,w7⟩:=hN σ7 H7 n7;refine⟨m',hm,i+1,σ7,H7,I7.unpinned,T.keep _ _ _ st5 fun b hb o e=>(I7.pin (b,o) (Dt _ (Dt _ (aQ hb e)))).1,fun b hb=>?_,w7⟩;obtain⟨o,e,d⟩:=T.obj _ _ st5 b hb;exact(I7.pin (b,o) (Dt _ (Dt _ (aQ hb e)))).2.1
   cases f with
   | next=>obtain⟨σ7,H7,I7,n7⟩:=q7;exact again I7 n7
   | cont=>obtain⟨σ7,H7,I7,n7⟩:=q7;exact again I7 n7
   | brk=>obtain⟨σ7,H7,I7,q7⟩:=q7;exact⟨σ7,H7,I7.unpinned,q7⟩
   | ret v=>obtain⟨x7,σ7,H7,I7,r7,q7⟩:=q7;exact⟨x7,σ7,H7,I7.unpinned,r7,q7⟩
end
abbrev R2:=V->V->Hp->VK->Prop
noncomputable def CG(X:Cx)(f:Dc->Dc->Sem Dc)(r:R2):Prop :=
 ∀ (pins:List (Addr×Obj))(s:Dd)(σ:St)(H:Hp)(x y:V)(v u:Dc)(Q:VK),Inv X pins σ H s->RelV x v->RelV y u->r x y H Q ->
   Dr (Dw X.prog X.w) X.A (f v u) (EP X pins σ Q) X.xe s
noncomputable def B_(X:Cx)(f:Dc->Sem Dc)(r:V->Hp->VK->Prop):Prop :=
 ∀ (pins:List (Addr×Obj))(s:Dd)(σ:St)(H:Hp)(x:V)(v:Dc)(Q:VK),Inv X pins σ H s->RelV x v->r x H Q ->
   Dr (Dw X.prog X.w) X.A (f v) (EP X pins σ Q) X.xe s
noncomputable def eG(X:Cx)(f:Dc)(r:List V->Hp->VK->Prop):Prop :=
 ∀ (pins:List (Addr×Obj))(s:Dd)(σ:St)(H:Hp)(xs:List V)(us:List Dc)(Q:VK),Inv X pins σ H s->bT xs us->r xs H Q ->
   Dr (Dw X.prog X.w) X.A (call f us) (EP X pins σ Q) X.xe s
noncomputable def Bc(r:R2)(ta tb:TE):TE:=fun σ H Q=>ta σ H fun x H1=>tb σ H1 fun y H2=>r x y H2 Q
noncomputable def A_(r:V->Hp->VK->Prop)(ta:TE):TE:=fun σ H Q=>ta σ H fun x H1=>r x H1 Q
noncomputable def rI(C:Int->Int->Prop)(g:Int->Int->V):R2:=fun x y H Q=>∃i j,x = .int i/\y = .int j/\C i j/\Q (g i j) H
noncomputable def Bs(g:Int->Int->V):R2:=fun x y H Q=>∃i j,x = .int i/\y = .int j/\Q (g i j) H
noncomputable def rU(g:Int->V):V->Hp->VK->Prop:=fun x H Q=>∃i,x = .int i/\Q (g i) H
section
variable{X:Cx}{a b c:Expr}{ta tb tc:TE}{pos:Pos}
theorem yw(ha:PE X a ta)(hb:PE X b tb){σ:St}{H:Hp}{R:V->V->Hp->Prop}(I:Inv X pins σ H s)
 (h:ta σ H fun x H1=>tb σ H1 fun y H2=>R x y H2){f:Dc->Dc->Sem Dc}
 (hf:∀v u s2 x y H2,Inv X pins σ H2 s2->RelV x v->RelV y u->R x y H2->Dr (Dw X.prog X.w) X.A (f v u) Q X.xe s2) :
 Dr (Dw X.prog X.w) X.A (eval a X.env) (fun v s₁=>Dr (Dw X.prog X.w) X.A (eval b X.env) (fun u s₂=>Dr (Dw X.prog X.w) X.A (f v u) Q X.xe s₂) X.xe s₁) X.xe s:=by
 refine A8 (ha pins s σ H _ I h) fun v s1 ⟨x,H1,I1,r1,q1⟩=>?_;refine A8 (hb pins s1 σ H1 _ I1 q1) fun u s2 ⟨y,H2,I2,r2,q2⟩=>?_;exact hf v u s2 x y H2 I2 r1 r2 q2
theorem xT{op:JJ}{r:R2}(ho:CG X (GH op) r)(ha:PE X a ta)(hb:PE X b tb):PE X (.BinOp a op b pos) (Bc r ta tb):=by
 intro pins s σ H Q I h;exact wpAny_BinOp (yw ha hb I h fun v u s2 x y H2 I2 rx ry q=>ho pins s2 σ H2 x y v u Q I2 rx ry q)
theorem xS{op:UnaryOp}{r:V->Hp->VK->Prop}(ho:B_ X (unaryOp op) r)(ha:PE X a ta):PE X (.UnaryOp op a pos) (A_ r ta):=by
 intro pins s σ H Q I h;exact UnaryOp_ (A8 (ha pins s σ H _ I h) fun v s1 ⟨x,H1,I1,r1,q1⟩=>ho pins s1 σ H1 x v Q I1 r1 q1)
theorem By{f:Dc->Dc->Sem Dc}{C:Int->Int->Prop}{g:Int->Int->Int}
 (rule:∀(i j:Int)(t u:Tok)(s:Dd)(Q:Dc->Dd->Prop)(E:Dc->Dd->Prop),C i j->Q (.int (g i j) s.toks) {s with toks:=s.toks+1}->Dr (Dw X.prog X.w) X.A (f (.int i t) (.int j u)) Q E s) :
 CG X f (rI C fun i j=>.int (g i j)):=by
 intro pins s σ H x y v u Q I rx ry h;obtain⟨i,j,rfl,rfl,hc,q⟩:=h;obtain⟨t,rfl⟩:=rx;obtain⟨t',rfl⟩:=ry;exact rule i j t t' s _ _ hc ⟨.int (g i j),H,I.tok _,⟨_,rfl⟩,q⟩
theorem zD{f:Dc->Dc->Sem Dc}{g:Int->Int->Int}
 (rule:∀(i j:Int)(t u:Tok)(s:Dd)(Q:Dc->Dd->Prop)(E:Dc->Dd->Prop),Q (.int (g i j) s.toks) {s with toks:=s.toks+1}->Dr (Dw X.prog X.w) X.A (f (.int i t) (.int j u)) Q E s) :
 CG X f (Bs fun i j=>.int (g i j)):=by
 intro pins s σ H x y v u Q I rx ry h;obtain⟨i,j,rfl,rfl,q⟩:=h;obtain⟨t,rfl⟩:=rx;obtain⟨t',rfl⟩:=ry;exact rule i j t t' s _ _ ⟨.int (g i j),H,I.tok _,⟨_,rfl⟩,q⟩
theorem wz{f:Dc->Dc->Sem Dc}{g:Int->Int->Bool}
 (rule:∀(i j:Int)(t u:Tok)(s:Dd)(Q:Dc->Dd->Prop)(E:Dc->Dd->Prop),Q (.bool (g i j)) s->Dr (Dw X.prog X.w) X.A (f (.int i t) (.int j u)) Q E s) :
 CG X f (Bs fun i j=>.bl (g i j)):=by
 intro pins s σ H x y v u Q I rx ry h;obtain⟨i,j,rfl,rfl,q⟩:=h;obtain⟨t,rfl⟩:=rx;obtain⟨t',rfl⟩:=ry;exact rule i j t t' s _ _ ⟨.bl (g i j),H,I,rfl,q⟩
noncomputable def wN(i j:Int):Prop:=0<=j/\j<=1000000/\i.natAbs<2^64
theorem vz:CG X (GH .Add) (Bs fun i j=>.int (i+j)):=zD fun _ _ _ _ _ _ _ q=>add_int q
theorem vj:CG X (GH .Sub) (Bs fun i j=>.int (i-j)):=zD fun _ _ _ _ _ _ _ q=>sub_int q
theorem rH:CG X (GH .Mod) (rI (fun _ j=>j≠0) fun i j=>.int (i.fmod j)):=By fun _ _ _ _ _ _ _ hc q=>mod_int' hc q
theorem vp:CG X (GH .Pow) (rI wN fun i j=>.int (i^j.toNat)):=By fun _ _ _ _ _ _ _ hc q=>pow_int_small hc.1 hc.2.1 hc.2.2 q
theorem A2{f:Dc->Sem Dc}{g:Int->Int}
 (rule:∀(i:Int)(t:Tok)(s:Dd)(Q:Dc->Dd->Prop)(E:Dc->Dd->Prop),Q (.int (g i) s.toks) {s with toks:=s.toks+1}->Dr (Dw X.prog X.w) X.A (f (.int i t)) Q E s) :
 B_ X f (rU fun i=>.int (g i)):=by
 intro pins s σ H x v Q I rx h;obtain⟨i,rfl,q⟩:=h;obtain⟨t,rfl⟩:=rx;exact rule i t s _ _ ⟨.int (g i),H,I.tok _,⟨_,rfl⟩,q⟩
theorem ut:B_ X (unaryOp .USub) (rU fun i=>.int (-i)):=A2 fun _ _ _ _ _ q=>neg_int q
end
noncomputable def Ah:V->V->Bool
 | .non,.non=>true | .non,.int _=>true | .int _,.non=>true | .non,.bl _=>true | .bl _,.non=>true | .non,.str _=>true | .str _,.non=>true
 | .int _,.int _=>true | .bl _,.bl _=>true | .str _,.str _=>true | .byt _,.byt _=>true
 | .int _,.str _=>true | .str _,.int _=>true | .bl _,.str _=>true | .str _,.bl _=>true
 | _,_=>false
noncomputable def Bq:R2:=fun x y H Q=>Ah x y=true/\Q (.bl (!decide (x=y))) H
theorem sG{i j:Int}:decide (V.int i=V.int j)=(i==j):=by
 rw[Hd];simp
theorem wm{i j:Bool}:decide (V.bl i=V.bl j)=(i==j):=by
 rw[Hd];simp
theorem sF{i j:Str}:decide (V.str i=V.str j)=(i==j):=by
 rw[Hd];simp
theorem sI{i j:Array UInt8}:decide (V.byt i=V.byt j)=(i.toList==j.toList):=by
 rw[Hd];cases i;cases j;simp
section
variable{X:Cx}{a b c:Expr}{ta tb tc:TE}{pos:Pos}
theorem bK{σ:St}{H:Hp}{Q:VK}{k k':Bool}(I:Inv X pins σ H s)(q:Q (.bl k) H)(e:k=k'):EP X pins σ Q (.bool k') s:=by
 subst e;exact⟨.bl k,H,I,rfl,q⟩
theorem vq:CG X (F_ .NotEq) Bq:=by
 intro pins s σ H x y v u Q I rx ry h;obtain⟨hs,q⟩:=h
 cases x with
 | non =>
   cases rx
   cases y with
   | non=>cases ry;exact PySem.EqNone.ne_none_none (bK I q (by simp))
   | bl j=>cases ry;exact PySem.EqNone.ne_none_bool (bK I q (by simp))
   | int j=>obtain⟨t',rfl⟩:=ry;exact PySem.EqNone.ne_none_int (bK I q (by simp))
   | str j=>obtain⟨t',rfl⟩:=ry;exact PySem.EqNone.ne_none_str (bK I q (by simp))
   | _=>exact absurd (show false=true from hs) DJ
 | bl i =>
   cases rx
   cases y with
   | non=>cases ry;exact PySem.EqNone.ne_bool_none (bK I q (by simp))
   | bl j=>cases ry;exact ne_bool (bK I q (congrArg not wm))
   | str j=>obtain⟨t',rfl⟩:=ry;exact PySem.EqMixed.ne_bool_str (bK I q (by simp))
   | _=>exact absurd (show false=true from hs) DJ
 | int i =>
   obtain⟨t,rfl⟩:=rx
   cases y with
   | non=>cases ry;exact PySem.EqNone.ne_int_none (bK I q (by simp))
   | int j=>obtain⟨t',rfl⟩:=ry;exact ne_int (bK I q (congrArg not sG))
   | str j=>obtain⟨t',rfl⟩:=ry;exact PySem.EqMixed.ne_int_str (bK I q (by simp))
   | _=>exact absurd (show false=true from hs) DJ
 | str i =>
   obtain⟨t,rfl⟩:=rx
   cases y with
   | non=>cases ry;exact PySem.EqNone.ne_str_none (bK I q (by simp))
   | bl j=>cases ry;exact PySem.EqMixed.ne_str_bool (bK I q (by simp))
   | int j=>obtain⟨t',rfl⟩:=ry;exact PySem.EqMixed.ne_str_int (bK I q (by simp))
   | str j=>obtain⟨t',rfl⟩:=ry;exact ne_str (bK I q (congrArg not sF))
   | _=>exact absurd (show false=true from hs) DJ
 | byt i =>
   obtain⟨t,rfl⟩:=rx
   cases y with
   | byt j=>obtain⟨t',rfl⟩:=ry;exact W.ne_bytes (bK I q (congrArg not sI))
   | _=>exact absurd (show false=true from hs) DJ
 | _=>cases y<;>exact absurd (show false=true from hs) DJ
theorem vt:CG X (F_ .Lt) (Bs fun i j=>.bl (decide (i<j))):=wz fun _ _ _ _ _ _ _ q=>lt_int q
theorem xX:CG X (F_ .LtE) (Bs fun i j=>.bl (decide (i<=j))):=wz fun _ _ _ _ _ _ _ q=>le_int q
theorem jW:CG X (F_ .Gt) (Bs fun i j=>.bl (decide (j<i))):=wz fun _ _ _ _ _ _ _ q=>gt_int q
theorem xY:CG X (F_ .GtE) (Bs fun i j=>.bl (decide (j<=i))):=wz fun _ _ _ _ _ _ _ q=>ge_int q
theorem vw:CG X (F_ .Is) (fun x y H Q=>y = .non/\Q (.bl (decide (x = .non))) H):=by
 intro pins s σ H x y v u Q I rx ry h;obtain⟨rfl,q⟩:=h;cases ry;refine is_none_gen (bK I q ?_)
 cases x<;>first
  | (cases rx;rfl)
  | (obtain⟨t,rfl⟩:=rx;rfl)
theorem bj(b:Expr){op:CmpOp}(h:autoParam (op ≠ .In) æb._auto_1)(h2:autoParam (op ≠ .NotIn) æb._auto_1):GI op b=false:=by
 have e1:(op==CmpOp.In)=false:=by cases op<;>first|rfl|exact absurd rfl h
 have e2:(op==CmpOp.NotIn)=false:=by cases op<;>first|rfl|exact absurd rfl h2
 cases b<;>simp[GI,e1,e2]
theorem rC{op:CmpOp}{r:R2}(ho:CG X (F_ op) r)(ha:PE X a ta)(hb:PE X b tb)(hm:GI op b=false):PE X (.Compare a [op] [b] pos) (Bc r ta tb):=by
 intro pins s σ H Q I h;exact wpAny_Compare1 (yw ha hb I h fun v u s2 x y H2 I2 rx ry q=>ho pins s2 σ H2 x y v u Q I2 rx ry q) hm
noncomputable def xw(t:TE):TT:=fun σ H Q=>t σ H fun x H'=>∃k,x = .bl k/\Q k H'
theorem qX{op:CmpOp}{r:R2}(ho:CG X (F_ op) r)(ha:PE X a ta)(hb:PE X b tb)(hm:GI op b=false):PT X (.Compare a [op] [b] pos) (xw (Bc r ta tb)):=by
 intro pins s σ H Q I h
 refine wpAny_isTrue_Compare1 (A8 (ha pins s σ H _ I h) fun v s1 ⟨x,H1,I1,r1,q1⟩=>A8 (hb pins s1 σ H1 _ I1 q1) fun u s2 ⟨y,H2,I2,r2,q2⟩ =>
  A8 (ho pins s2 σ H2 x y v u _ I2 r1 r2 q2) fun c s3 ⟨z,H3,I3,r3,k,e,q3⟩=>?_) hm
 subst e;cases r3;exact HQ ⟨H3,I3,q3⟩
theorem jn:(sizeLine:Nat)<2^63:=by rw[GU];decide
theorem vals1{x:V}(r:bT [x] us):∃u,us=[u]/\RelV x u:=by
 cases r with
 | cons r1 r2=>cases r2;exact⟨_,rfl,r1⟩
theorem vals2{x y:V}(r:bT [x,y] us):∃u w',us=[u,w']/\RelV x u/\RelV y w':=by
 cases r with
 | cons r1 r2 =>
   cases r2 with
   | cons r3 r4=>cases r4;exact⟨_,_,rfl,r1,r3⟩
theorem o7:eG X (.builtin "abs") (fun xs H Q=>∃i,xs=[.int i]/\Q (.int (if i<0 then -i else i)) H):=by
 intro pins s σ H xs us Q I r h;obtain⟨i,rfl,q⟩:=h;obtain⟨u,rfl,t,rfl⟩:=vals1 r;exact call_abs_int fun u tk=>⟨.int (if i<0 then -i else i),H,I.tok _,⟨_,rfl⟩,q⟩
end
theorem lW{dx:Addr}{mA:Str->Option Dc}(n:h.Ns1 dx mA):∃od,h.get? dx=some od/\∀name,W.lookIn name od=some (mA name):=by
 obtain⟨o,es,ep,ho,hd,hk,_,hm⟩:=n;refine⟨o,ho,fun name=>?_⟩;have e:=hm name;unfold nsFind findBy at e;rw[<- Array.find?_toList]at e;unfold W.lookIn;rw[hd];dsimp only;split
 · rename_i y q;rw[q]at e;exact congrArg some e
 · rename_i q;rw[q]at e
   have a:es.toList.any (·.refKey)=false:=by
    rw[List.any_eq_false];intro y hy;obtain⟨z,t,hkey⟩:=hk y (Array.mem_toList_iff.mp hy);simp[Gh.refKey,hkey]
   have a':¬es.toList.any (·.refKey)=true:=by rw[a];exact DJ
   rw[if_neg a'];exact congrArg some e
section
variable{prog:Dq}{w:DN}{A:DM}{E:Dc->Dd->Prop}{s:Dd}{K:W.Frag}{x dx C f:Addr}{mA:Str->Option Dc}{name:Str}{v:Dc}
end
theorem tm.some_of{v:V}{o:Option Dc}(r:tm (some v) o):∃u,o=some u/\RelV v u:=by
 cases o with
 | none=>exact(show False from r).elim
 | some u=>exact⟨u,rfl,r⟩
theorem mv{v:V}(r:RelV v u):W.handedIn u=true:=by
 cases v with
 | non=>cases(show u=D3 from r);rfl
 | bl b=>cases(show u=Gp b from r);rfl
 | int i=>obtain⟨t,e⟩:=(show ∃t,u=F0 i t from r);cases e;rfl
 | str x=>obtain⟨t,e⟩:=(show ∃t,u=HP x t from r);cases e;rfl
 | byt b=>obtain⟨t,e⟩:=(show ∃t,u=Dc.bytes b t from r);cases e;rfl
 | flt b=>obtain⟨t,e⟩:=(show ∃t,u=Dc.float b t from r);cases e;rfl
 | ref a=>cases(show u=Dn a from r);rfl
 | ty n=>cases(show u=Gb n from r);rfl
section
variable{P:Dq}{w:DN}{H H':Hp}{h h':Heap}{a C dx:Addr}{fs fs':List (Str×V)}
end
noncomputable def df(K:W.Frag)(C:Addr)(f:Str):Prop:=W.findIn K (.ref C) f=some none
section
variable{X:Cx}{pins:List (Addr×Obj)}{σ:St}{H:Hp}{s:Dd}{a C dx:Addr}{fs:List (Str×V)}{f:Str}{v:V}{A:DM}{E:Dc->Dd->Prop}
theorem sN{prog:Dq}{f:Str}{s:Dd}(hb:FU e f env (eval e env)=eval e env)
 (h:Dr (Dw prog w) A (eval e env) (fun o s₁=>Dr (Dw prog w) A (getAttr o f true) Q E s₁) E s):Dr (Dw prog w) A (eval (.Attribute e f pos) env) Q E s :=
 Attribute_any_ h (by rw[arm_eval_Attribute,hb])
end
section
variable{X:Cx}{o e value:Expr}{f:Str}{pos pos' tpos:Pos}{ta tv:TE}
end
section
variable{X:Cx}{pins:List (Addr×Obj)}{σ:St}{H:Hp}{s:Dd}{A:DM}{E:Dc->Dd->Prop}{Q:Dc->Dd->Prop}{c:Dc}{b:Bool}
end
structure Room (k:Nat) (A:DM):Prop where
 hd:A.handled=none
 dp:A.depth+3*k+5<recursionLimit
 un:A.units+16*k+200<Gu
 gd:A.guards=some []
theorem Room.mono{k:Nat}(r:Room k A)(h:j<=k):Room j A:=⟨r.hd,by have:=r.dp;omega,by have:=r.un;omega,r.gd⟩
theorem Room.deeper{k:Nat}(r:Room (k+1) A)(env:Env):Room k (A.deeper env) :=
 ⟨r.hd,by have:=r.dp;show A.depth+1+3*k+5<_;omega,by have:=r.un;show A.units+3+16*k+200<_;omega,r.gd⟩
theorem jZ{kw:List (Str×Dc)}:(A.under (.builtin "type.__call__" ⟨.ref C::us,kw⟩)).depth=A.depth+1:=by
 first|rfl|simp[IB,Code.weight,Code.isCreation,Code.isGuard,Code.isCaller,Code.frames,JE,guardIds]
theorem jY{kw:List (Str×Dc)}:(A.under (.builtin "type.__call__" ⟨.ref C::us,kw⟩)).units=A.units+1:=by
 first|rfl|simp[IB,Code.cUnits,Code.frames,JE]
theorem Room.make{k:Nat}(r:Room (k+1) A)(C:Addr)(us:List Dc)(kw:List (Str×Dc)):Room k (A.under (.builtin "type.__call__" ⟨.ref C::us,kw⟩)) :=
 ⟨r.hd,by have:=r.dp;rw[jZ];omega,by have:=r.un;rw[jY];omega,by first|exact r.gd|(have:=r.gd;simp[IB,Code.guards,Code.isGuard,guardIds,pushGuards,this])⟩
theorem Room.depth{k:Nat}(r:Room k A):A.depth<recursionLimit:=by have:=r.dp;omega
theorem Room.units{k:Nat}(r:Room k A):A.units+64<Gu:=by have:=r.un;omega
noncomputable def Aa:TA:=fun _ H Q=>Q [] H
noncomputable def xC(ta:TE)(tr:TA):TA:=fun σ H Q=>ta σ H fun x H1=>tr σ H1 fun xs H2=>Q (x::xs) H2
section
variable{X:Cx}{e:Expr}{es:List Expr}{te:TE}{t:TA}{pos:Pos}
theorem hJ:PA X [] Aa:=fun _ _ _ _ H Q I h=>Calls.spliced_nil ⟨[],H,I,.nil,h⟩
theorem cP(ha:PE X e te)(hr:PA X es t)(hs:autoParam (Dh (e::es) X.env=(false,eval e X.env)::Dh es X.env) æa._auto_1):PA X (e::es) (xC te t):=by
 intro pos pins s σ H Q I h;rw[hs];show Dr _ _ (spliced ((false,eval e X.env)::ES pos (Dh es X.env))) _ _ s;refine Calls.spliced_cons (A8 (ha pins s σ H _ I h) fun u s1 ⟨x,H1,I1,r1,q1⟩=>?_);exact A8 (hr pos pins s1 σ H1 _ I1 q1) fun us s2 ⟨xs,H2,I2,r2,q2⟩=>⟨x::xs,H2,I2,.cons r1 r2,q2⟩
noncomputable def zY(t:TA):TE:=fun σ H Q=>t σ H fun xs H1=>xs.length<=sizeLine/\∀p,H1 p=none->Q (.ref p) (upd H1 p (.tup xs))
noncomputable def Ab(t:TA):TE:=fun σ H Q=>t σ H fun xs H1=>xs.length<=sizeLine/\∀p,H1 p=none->Q (.ref p) (upd H1 p (.lst xs))
theorem pD{x1}(h:PA X es t):PE X (.Tuple es x1 pos) (zY t):=by
 intro pins s σ H Q I hq;refine wpAny_Tuple_spliced (A8 (h pos pins s σ H _ I hq) fun us s1 ⟨xs,H1,I1,r,z,q⟩=>⟨by rw[<- r.length];exact z,?_⟩);have hf:H1 s1.heap.objs.size=none:=I1.hok.fresh (Dm _);refine⟨.ref s1.heap.objs.size,upd H1 s1.heap.objs.size (.tup xs),I1.laid (t':=s1.toks) (fun b u e=>Db _ e) (Dm _) ?_,rfl,q _ hf⟩;exact⟨z,us,r,nc.new _ _⟩
theorem vf(h:PA X es t):PE X (.List es pos) (Ab t):=by
 intro pins s σ H Q I hq;refine wpAny_List_spliced (A8 (h pos pins s σ H _ I hq) fun us s1 ⟨xs,H1,I1,r,z,q⟩=>⟨by rw[<- r.length];exact z,?_⟩);have hf:H1 s1.heap.objs.size=none:=I1.hok.fresh (Dm _);refine⟨.ref s1.heap.objs.size,upd H1 s1.heap.objs.size (.lst xs),I1.laid (t':=s1.toks) (fun b u e=>Db _ e) (Dm _) ?_,rfl,q _ hf⟩;exact⟨z,us,0,r,Do _ rfl⟩
end
abbrev Sp:=List V->Hp->VK->XK->Prop
abbrev CZ:=List Env->Hp->Dd->XK->Dc->Dd->Prop
structure Env0 (P:Dq) (w:DN) (K:W.Frag) (mg:Str->Option Dc) (base:Heap) (A:DM) (outer:List Env) (s:Dd) (H:Hp):Prop where
 frames:A.frames=some outer
 mod:Mod K mg base
 bs:∀b o,base.get? b=some o->s.heap.get? b=some o/\H b=none
 bsz:base.objs.size<=s.heap.objs.size
 funs:s.heap.FunFrames base outer
 frf:∀b∈frs outer,H b=none
 hok:CW P w H s.heap
 bare:Ib s.gens
noncomputable def CE(outer:List Env)(P:Dq)(w:DN)(H:Hp)(s:Dd)(Q:VK)(u:Dc)(s':Dd):Prop :=
 ∃v H',s'.os=s.os/\Ib s'.gens/\Un (frs outer) [] H H' s.heap s'.heap/\CW P w H' s'.heap/\RelV v u/\Q v H'
noncomputable def CR(CX:CZ)(outer:List Env)(P:Dq)(w:DN)(H:Hp)(s:Dd)(Q:VK)(E:XK)(r:IC)(s':Dd):Prop :=
 match r with
 | .ok (.ret u)=>CE outer P w H s Q u s'
 | .ok _=>False
 | .error e=>CX outer H s E e s'
structure FnOk (P:Dq) (w:DN) (K:W.Frag) (mg:Str->Option Dc) (base:Heap) (CX:CZ) (k:Nat) (f:Addr) (fd:Fv) (ps:List Str) (sp:Sp):Prop where
 len:∀vs H Q E,sp vs H Q E->vs.length=ps.length
 run:∀(A:DM)(outer:List Env)(s:Dd)(H:Hp)(args:Args)(us:List Dc)(vs:List V)(Q:VK)(E:XK),Room k A->Env0 P w K mg base A outer s H->JQ s fd args (ps.zip us)->bT vs us->sp vs H Q E ->
  EW (Dw P w) A (.call (.ref f) args) (CR CX outer P w H s Q E) s
theorem Env0.make{K:W.Frag}{outer:List Env}{H:Hp}(e:Env0 P w K mg base A outer s H)(C:Addr)(us:List Dc)(kw:List (Str×Dc)) :
 Env0 P w K mg base (A.under (.builtin "type.__call__" ⟨.ref C::us,kw⟩)) outer s H:=⟨by first|exact e.frames|(simpa[IB,Code.envs,JE,pushEnvs]using e.frames),e.mod,e.bs,e.bsz,e.funs,e.frf,e.hok,e.bare⟩
section
variable{X:Cx}{pins:List (Addr×Obj)}{σ:St}{H:Hp}{s s':Dd}
theorem Inv.env0(I:Inv X pins σ H s):Env0 X.prog X.w X.K X.mg X.base X.A X.stack s H :=
 ⟨I.ok.frames,I.ok.mod,I.bs,Ef I.ok.bsz I.sz,I.stack,I.stkFree,I.hok,I.bare⟩
theorem Inv.after{Q:VK}(I:Inv X pins σ H s)(h:CE X.stack X.prog X.w H s Q u s'):EP X pins σ Q u s':=by
 obtain⟨v,H',os,bare,un,hok,r,q⟩:=h;obtain⟨hh,g,d,t,os'⟩:=s';obtain rfl:os'=s.os:=os;exact⟨v,H',I.call (h':=hh) (g':=g) (d':=d) (t':=t) (ch:=[]) un hok bare (fun b z=>absurd z (by simp)),r,q⟩
end
noncomputable def xD(sp:Sp)(dvs:List V)(E:XK)(t:TA):TE:=fun σ H Q=>t σ H fun vs H1=>sp (vs++dvs) H1 Q E
noncomputable def Binds(K:W.Frag)(fd:Fv)(ps:List Str)(ds:List Dc):Prop :=
 ∀(s:Dd)(us:List Dc),K.In s.heap->(us++ds).length=ps.length->JQ s fd ⟨us,[]⟩ (ps.zip (us++ds))
theorem Binds.all{K:W.Frag}(h:∀us:List Dc,us.length=ps.length->bindArgs fd ⟨us,[]⟩=pure (ps.zip us)):Binds K fd ps []:=fun s us _ hl=>by
 rw[EA]at hl ⊢;exact .of_eq (h us hl)
noncomputable def fE(CX:CZ)(X:Cx)(E:XK):Prop:=∀(pins:List (Addr×Obj))(σ:St)(H:Hp)(s:Dd)(e:Dc)(s':Dd),Inv X pins σ H s->CX X.stack H s E e s'->X.xe e s'
section
variable{X:Cx}{CX:CZ}{k:Nat}{f C:Addr}{fd:Fv}{ps:List Str}{sp:Sp}{dvs:List V}{ds:List Dc}{E:XK}{x m:Str}{p pos apos:Pos}{e o:Expr}{es:List Expr}{ta:TE}{t:TA}
theorem uK{σ:St}{H:Hp}{Q:VK}{vs:List V}(F:FnOk X.prog X.w X.K X.mg X.base CX k f fd ps sp)(hr:Room k X.A)(hb:Binds X.K fd ps ds)(hd:bT dvs ds)(hx:fE CX X E)
 (I:Inv X pins σ H s)(r:bT vs us)(h:sp (vs++dvs) H Q E):Dr (Dw X.prog X.w) X.A (call (.ref f) us) (EP X pins σ Q) X.xe s:=by
 have r2:bT (vs++dvs) (us++ds):=r.append hd;have hl:(us++ds).length=ps.length:=by rw[<- r2.length];exact F.len _ _ _ _ h
 refine Jy (FR (F.run X.A X.stack s H ⟨us,[]⟩ (us++ds) (vs++dvs) Q E hr I.env0 (hb s us I.kIn hl) r2 h) fun r s' hq=>?_)
 cases r with
 | error e=>exact hx pins σ H s e s' I hq
 | ok fl =>
   cases fl with
   | ret u=>exact I.after hq
   | next=>exact D9 hq
   | brk=>exact D9 hq
   | cont=>exact D9 hq
theorem iG(F:FnOk X.prog X.w X.K X.mg X.base CX k f fd ps sp)(hr:Room k X.A)(hg:Gl X x)(hm:X.mg x=some (.ref f))(hk:W.keepIn X.K (.ref f)=true)(hb:Binds X.K fd ps ds)(hd:bT dvs ds)(hx:fE CX X E)
 (ha:PA X (e::es) t)(hdb:autoParam ((x==("__debug__" : Str))=false) æb._auto_1)(he:autoParam (Dh (e::es) X.env=(false,eval e X.env)::Dh es X.env) æa._auto_1)(hpl:autoParam ((ES pos (Dh es X.env)).any (·.1)=false) æa._auto_1) :
 PE X (.Call (.Name x p) (e::es) [] pos) (xD sp dvs E t):=by
 intro pins s σ H Q I h;refine E4 (gc I hg hm ?_ hdb);refine W.callWith_K (h₀:=X.base) I.ok.mod.kin hk (A8 (ha pos pins s σ H _ I h) fun us s1 ⟨vs,H1,I1,r,q⟩=>⟨I1.kIn,?_⟩) he hpl;exact uK F hr hb hd hx I1 r q
end
section
variable{X:Cx}{CX:CZ}{k:Nat}{f C:Addr}{fd:Fv}{ps ks:List Str}{sp:Sp}{E:XK}{x m:Str}{p pos apos kpos:Pos}{e o:Expr}{es:List Expr}{kws:List G4}{te ta:TE}{t tk:TA}{nm:Option Str}
variable{g:List Dc->List Dc->List Dc}{gV:List V->List V->List V}
end
structure FnScope (N P:List Str) (sc:Scope):Prop where
 kind:sc.kind = .function
 co:sc.isCoroutine=false
 gen:sc.isGenerator=false
 nd:N.Nodup
 pre:N.take P.length=P
 par:∀x∈P,sc.names.lookup x=some .local\/sc.names.lookup x=some .cell
 nofree:∀y∈sc.names,y.2 ≠ .free
theorem ie{kindOf:Str->Option GJ}{x:Str}:∀{binds:List (Str×Dc)}{m:Str->Option Dc},(∀v,(x,v)∉binds)->bindL kindOf binds m x=m x
 | [],_,_=>rfl
 | (n,v)::r,m,h=>by
   unfold bindL;rw[ie fun w hw=>h w (Dl _ hw)];split
   · have:x≠n:=by rintro rfl;exact h v Dx
     simp[this]
   · rfl
theorem ii{kindOf:Str->Option GJ}{x:Str}:∀{binds:List (Str×Dc)}{m:Str->Option Dc},(∀v,(x,v)∉binds)->bindC kindOf binds m x=m x
 | [],_,_=>rfl
 | (n,v)::r,m,h=>by
   unfold bindC;rw[ii fun w hw=>h w (Dl _ hw)];split
   · rfl
   · have:x≠n:=by rintro rfl;exact h v Dx
     simp[this]
theorem ig{kindOf:Str->Option GJ}{x:Str}{v:Dc}:∀{P:List Str}{vs:List Dc}{i:Nat}{m:Str->Option Dc},P.Nodup->P[i]?=some x->vs[i]?=some v->kindOf x=some .local ->
 bindL kindOf (P.zip vs) m x=some v
 | [],_,_,_,_,h,_,_=>by simp at h
 | _::_,[],_,_,_,_,h,_=>by simp at h
 | p::P,w::vs,0,m,nd,h1,h2,hk=>by
   simp at h1 h2;subst h1;subst h2;show bindL kindOf ((p,w)::P.zip vs) m p=_;unfold bindL;rw[ie fun v hv=>(FO.mp nd).1 (Hf hv).1,if_pos hk]
   simp
 | p::P,w::vs,i+1,m,nd,h1,h2,hk=>by
   show bindL kindOf ((p,w)::P.zip vs) m x=_;unfold bindL;exact ig (i:=i) (FO.mp nd).2 (by simpa using h1) (by simpa using h2) hk
theorem ij{kindOf:Str->Option GJ}{x:Str}{v:Dc}:∀{P:List Str}{vs:List Dc}{i:Nat}{m:Str->Option Dc},P.Nodup->P[i]?=some x->vs[i]?=some v->kindOf x≠some .local ->
 bindC kindOf (P.zip vs) m x=some v
 | [],_,_,_,_,h,_,_=>by simp at h
 | _::_,[],_,_,_,_,h,_=>by simp at h
 | p::P,w::vs,0,m,nd,h1,h2,hk=>by
   simp at h1 h2;subst h1;subst h2;show bindC kindOf ((p,w)::P.zip vs) m p=_;unfold bindC;rw[ii fun v hv=>(FO.mp nd).1 (Hf hv).1,if_neg hk]
   simp
 | p::P,w::vs,i+1,m,nd,h1,h2,hk=>by
   show bindC kindOf ((p,w)::P.zip vs) m x=_;unfold bindC;exact ij (i:=i) (FO.mp nd).2 (by simpa using h1) (by simpa using h2) hk
noncomputable def start(N:List Str)(vs:List V):St:=vs.map some++Ej (N.length-vs.length) none
noncomputable def jC(CX:CZ)(P:Dq)(w:DN)(K:W.Frag)(mg:Str->Option Dc)(base:Heap)(N:List Str)(qual:Str)(scope:Scope)(f:Addr)(cd:Dc)(A:DM)(outer:List Env)(s:Dd)(H:Hp)(E:XK):Cx where
 prog:=P
 w:=w
 K:=K
 mg:=mg
 base:=base
 A:=A.deeper (Hz qual scope s.heap.objs.size f cd)
 N:=N
 s₀:=s
 H₀:=H
 env:=Hz qual scope s.heap.objs.size f cd
 outer:=outer
 stack:=Hz qual scope s.heap.objs.size f cd::outer
 ex:=[]
 calm:=true
 fn:=fun _=>true
 pn:=[]
 xe:=fun e s'=>Dr (Dw P w) (A.deeper (Hz qual scope s.heap.objs.size f cd)) (leaving (Hz qual scope s.heap.objs.size f cd) e) (fun _ s''=>CX outer H s E e s'') (fun e' s''=>CX outer H s E e' s'') s'
theorem jH{sc:Scope}(h:sc.names.lookup x=some .cell):∃c,(EU n sc.names []).lookup x=some c:=by
 have q:=W.cellsFrom_some sc.names n [] (.inl h);exact FP.mp q
theorem mf{CX:CZ}{K:W.Frag}{cd:Dc}{outer:List Env}{s1:Dd}{H:Hp}{E:XK}{vs:List V}
 (S:FnScope N ps scope)(hd:A.handled=none)(e0:Env0 P w K mg base A outer s H)(hl:vs.length=ps.length)(r:bT vs us)
 (x:InCallC s s.heap.objs.size (bindL (Hz qual scope s.heap.objs.size f cd).kindOf (ps.zip us) fun _=>none) (EU (s.heap.objs.size+1) scope.names []) (bindC (Hz qual scope s.heap.objs.size f cd).kindOf (ps.zip us) fun _=>none) s1) :
 Inv (jC CX P w K mg base N qual scope f cd A outer s H E) [] (start N vs) H s1:=by
 have hpl:ps.length<=N.length:=by have:=congrArg List.length S.pre;rw[Ev]at this;omega
 obtain⟨h1,tk,rfl,hk⟩:=x.done;have noA:∀b:Addr,b∉(jC CX P w K mg base N qual scope f cd A outer s H E).ex:=fun b z=>absurd (show b∈([]:List Addr)from z) (by simp)
 refine⟨⟨e0.mod,S.kind,rfl,rfl,Dm _,fun y z c h1 h2=>?_,fun y hy=>?_,fun y c _ h=>?_,fun _=>hd,DM.frames_deeper e0.frames,.inr ⟨rfl,rfl⟩,fun b z=>absurd z (noA b),e0.bs,e0.bsz,fun b _ _=>noA b,fun b z=>absurd z (noA b),e0.funs,e0.frf⟩,
  rfl,e0.bare,Un.kept hk,⟨_,x.toInCall.ns,fun i y v h1 h2 h3=>?_⟩,fun y c h=>⟨_,x.cell y c h⟩,e0.hok.fresh (Dm _),fun y c h=>?_,fun p hp=>absurd (show p∈([]:List (Addr×Obj))from hp) (by simp),e0.hok.kept hk,?_⟩
 · exact name_of_addr x.apart (Ei h1) (Ei h2)
 · have hy:scope.names.lookup y=some .cell\/scope.names.lookup y=some .free:=hy;rcases hy with hy|hy
   · exact jH hy
   · exact absurd rfl (S.nofree _ (Ei hy))
 · exact Gi (x.above y c (Ei h))
 · have hi:i<vs.length:=by
     unfold start at h2;by_cases hi:i<vs.length
     · exact hi
     · rw[Hr (by simpa using hi)]at h2;rw[EI]at h2;split at h2<;>cases h2
   have ha:vs[i]?=some v:=by
    unfold start at h2;rw[FI (by simpa using hi),DY]at h2
    cases e:vs[i]? with
    | none=>rw[e]at h2;cases h2
    | some a=>rw[e]at h2;cases h2;rfl
   obtain⟨u,hu,rv⟩:=r.get ha
   have hp:ps[i]?=some y:=by
    rw[<- S.pre,List.getElem?_take_of_lt (by omega)];exact h1
   have ndP:ps.Nodup:=by rw[<- S.pre];exact S.nd.sublist (List.take_sublist _ _)
   refine⟨u,rv,?_⟩;rcases S.par y (Ew hp)with k|k
   · exact .inl ⟨k,ig ndP hp hu k⟩
   · obtain⟨c,e⟩:=jH (n:=s.heap.objs.size+1) k;refine .inr ⟨.inl k,c,e,?_⟩;have q:=x.cell y c e;rw[ij ndP hp hu (by show scope.names.lookup y≠_;rw[k];decide)]at q;exact q
 · exact e0.hok.fresh (Gi (x.above y c (Ei h)))
 · unfold start;show _=N.length;rw[DK,Di,List.length_replicate];omega
theorem wc{CX:CZ}{K:W.Frag}{k:Nat}{name:Str}{params:Arguments}{body:List Stmt}{dV kV doc pm cdv ct oc:Dc}{an od:Option Addr}
 {osl:Array (Option Dc)}{sp:Sp}(lk:K.lookup f=some ⟨oc,od,.func (W.fnOf name qual params body scope dV kV doc pm an cdv ct),osl⟩)(hcd:W.codeIn K cdv qual=true)(S:FnScope N ps scope)
 (len:∀vs H Q E,sp vs H Q E->vs.length=ps.length)
 (hbody:∀(A:DM)(outer:List Env)(s:Dd)(H:Hp)(vs:List V)(Q:VK)(E:XK),Room k (A.deeper (Hz qual scope s.heap.objs.size f cdv))->sp vs H Q E ->
  ∃t,Cv (jC CX P w K mg base N qual scope f cdv A outer s H E) body t/\t {nx:=fun _ H'=>Q .non H',rt:=Q} (start N vs) H) :
 FnOk P w K mg base CX (k+1) f (W.fnOf name qual params body scope dV kV doc pm an cdv ct) ps sp:=by
 refine⟨len,fun A outer s H args us vs Q E hr e0 hb r hsp=>?_⟩;have hl:=len _ _ _ _ hsp;have KX:K.In s.heap:=e0.mod.kin.keeps fun b o e=>(e0.bs b o e).1;have lim:s.heap.NoLimit:=e0.mod.nolimit.keeps fun b o e=>(e0.bs b o e).1
 have hkind:∀y∈ps.zip us,scope.names.lookup y.1=some .local\/(scope.names.lookup y.1=some .cell/\((EU (s.heap.objs.size+1) scope.names []).lookup y.1).isSome=true):=fun⟨n,v⟩ hy=>by
  rcases S.par n (Hf hy).1 with q|q
  · exact .inl q
  · exact .inr ⟨q,W.cellsFrom_some _ _ _ (.inl q)⟩
 refine codeAny_call_function hr.depth (KX _ _ lk) rfl S.co S.gen rfl (W.codeRec_of KX hcd) (hb _ _ _ _ ?_);refine wpAny_newFunctionEnv_cells S.kind hkind fun env he s1 x=>?_;subst he;refine⟨lim.keeps x.toInCall.keep,codeAny_func ?_⟩;obtain⟨t,ht,hq⟩:=hbody A outer s H vs Q E (hr.deeper _) hsp;have I:Inv (jC CX P w K mg base N qual scope f cdv A outer s H E) [] (start N vs) H s1:=mf S hr.hd e0 hl r x;refine DC (ht [] s1 (start N vs) H _ I hq) (fun fl s' hs=>?_) fun e s' hs=>hs
 have fin:∀{σ':St}{H':Hp}{v:V}{u:Dc},Inv (jC CX P w K mg base N qual scope f cdv A outer s H E) [] σ' H' s'->RelV v u->Q v H'->CE outer P w H s Q u s' :=
  fun{σ' H' v u} J rv q=>⟨v,H',J.os,J.bare,J.base,J.hok,rv,q⟩
 cases fl with
 | ret u =>
   obtain⟨v,σ',H',J,rv,q⟩:=hs
   exact fin J rv q
 | next =>
   obtain⟨σ',H',J,q⟩:=hs
   exact fin (v:=V.non) (u:=D3) J rfl q
 | brk =>
   obtain⟨_,_,_,q⟩:=hs
   exact D9 q
 | cont =>
   obtain⟨_,_,_,q⟩:=hs;exact D9 q
section
variable{X:Cx}{x:Str}{p pos:Pos}{e:Expr}{es:List Expr}{t:TA}{id T:String}{r:List V->Hp->VK->Prop}
noncomputable def Bf(r:List V->Hp->VK->Prop)(t:TA):TE:=fun σ H Q=>t σ H fun vs H1=>r vs H1 Q
theorem n6(hc:eG X (.builtin id) r)(hg:Gl X x)(hm:X.mg x=none)(hv:Fu x=some (.builtin id))(ha:PA X (e::es) t)(hn:autoParam (x ≠ "__name__") æb._auto_1)(hdb:autoParam ((x==("__debug__" : Str))=false) æb._auto_1)
 (he:autoParam (Dh (e::es) X.env=(false,eval e X.env)::Dh es X.env) æa._auto_1)(hpl:autoParam ((ES pos (Dh es X.env)).any (·.1)=false) æa._auto_1):PE X (.Call (.Name x p) (e::es) [] pos) (Bf r t):=by
 intro pins s σ H Q I h;refine E4 (cK I hg hm hv ?_ hn hdb);exact FS (A8 (ha pos pins s σ H _ I h) fun us s1 ⟨vs,H1,I1,r1,q1⟩=>hc pins s1 σ H1 vs us Q I1 r1 q1) he hpl
theorem hG(hc:eG X (.type T) r)(hg:Gl X x)(hm:X.mg x=none)(hv:Fu x=some (.type T))(ha:PA X (e::es) t)(hn:autoParam (x ≠ "__name__") æb._auto_1)(hdb:autoParam ((x==("__debug__" : Str))=false) æb._auto_1)
 (he:autoParam (Dh (e::es) X.env=(false,eval e X.env)::Dh es X.env) æa._auto_1)(hpl:autoParam ((ES pos (Dh es X.env)).any (·.1)=false) æa._auto_1):PE X (.Call (.Name x p) (e::es) [] pos) (Bf r t):=by
 intro pins s σ H Q I h;refine E4 (cK I hg hm hv ?_ hn hdb);exact Es (A8 (ha pos pins s σ H _ I h) fun us s1 ⟨vs,H1,I1,r1,q1⟩=>hc pins s1 σ H1 vs us Q I1 r1 q1) he hpl
end
end L2
variable{H H' F F' F₀ H₀:L2.Hp}{v:L2.V}{X:L2.Cx}{σ:L2.St}{vs:List L2.V}
namespace HT
open PySem PyProof.Rows
section
open PySem.SeqAt
open PySem.AutoSeq1 (wpAny_loadPart')
open PySem.MeetsSeq PySem.MeetsSeq2 PySem.MeetsSeq3
end
section
variable{prog:Dq}{w:DN}{A:DM}{E:Dc->Dd->Prop}{s:Dd}
theorem cat_tup{t:Addr}{vs ws:List Dc}(ht:IsTup s.heap t vs.toArray)(hb:IsTup s.heap b ws.toArray)(hv:vs≠[])
 (h1:ws=[]->Q (.ref t) s)(h2:ws≠[]->Q (.ref s.heap.objs.size) {s with heap:=s.heap.push {cls:=.type "tuple", data:=.seq (vs++ws).toArray}})
 (hsz:vs.length+ws.length<=sizeLine):Dr (Dw prog w) A (GH .Add (.ref t) (.ref b)) Q E s:=by
 obtain⟨⟨cls,dd,data,sl⟩,ho,hc,n,hd⟩:=id ht;obtain⟨⟨cls2,dd2,data2,sl2⟩,ho2,hc2,n2,hd2⟩:=id hb;simp only at hc hd hc2 hd2;subst hc hd hc2 hd2;have e:vs.toArray++ws.toArray=(vs++ws).toArray:=by simp
 by_cases hw:ws=[]
 · exact JF ⟨_,ho,rfl⟩ ⟨_,ho2,rfl⟩ Io Jr GT GK (GE _ _)
     (tuple_addW1 t b vs.toArray ws.toArray n n2 dd dd2 sl sl2 (by simpa using hv) (by simp[hw])) ⟨ho,ho2,h1 hw⟩
 · refine JF ⟨_,ho,rfl⟩ ⟨_,ho2,rfl⟩ Io Jr GT GK (GE _ _)
     (tuple_addW2 t b vs.toArray ws.toArray n n2 dd dd2 sl sl2 (by simpa using hv) (by simpa using hw) (by rw[DA,DA];exact hsz)) ⟨ho,ho2,?_⟩
   rw[e];exact h2 hw
noncomputable def sIx(n d:Nat):Option Int->Nat
 | none=>d
 | some v=>if v<0 then(v+(n:Int)).toNat else min v.toNat n
theorem sIx_none(n d:Nat):sIx n d none=d:=rfl
theorem sIx_nat(n d k:Nat):sIx n d (some (k:Int))=min k n:=by
 show(if(k:Int)<0 then((k:Int)+(n:Int)).toNat else min (k:Int).toNat n)=min k n;rw[if_neg (by omega),Fi]
end
end HT
namespace L2
abbrev TO:=St->Hp->(Option Int->Hp->Prop)->Prop
noncomputable def PO(X:Cx)(e:Option Expr)(t:TO):Prop :=
 ∀ (pins:List (Addr×Obj))(s:Dd)(σ:St)(H:Hp)(Q:Option Int->Hp->Prop),Inv X pins σ H s->t σ H Q ->
   Dr (Dw X.prog X.w) X.A (evalPart e X.env) (fun u s'=>∃o H',Inv X pins σ H' s'/\IsPart u o/\Q o H') X.xe s
noncomputable def qG:TO:=fun _ H Q=>Q none H
noncomputable def xx(t:TE):TO:=fun σ H Q=>t σ H fun x H1=>∃i,x = .int i/\Q (some i) H1
section
variable{X:Cx}{e:Expr}{te:TE}{lo hi:Option Expr}{tl th:TO}{pos p2:Pos}
theorem rn:PO X none qG:=by
 intro pins s σ H Q I h;rw[evalPart_none];exact De ⟨none,H,I,.none,h⟩
theorem rm(h:PE X e te):PO X (some e) (xx te):=by
 intro pins s σ H Q I hw;rw[evalPart_some];refine A8 (h pins s σ H _ I hw) fun u s1 ⟨x,H1,I1,r1,q1⟩=>?_;obtain⟨i,rfl,q⟩:=q1;obtain⟨t,rfl⟩:=r1;exact⟨some i,H1,I1,.int i t,q⟩
noncomputable def Ck(X:Cx)(r:V->Option Int->Option Int->Hp->VK->Prop):Prop :=
 ∀ (pins:List (Addr×Obj))(s:Dd)(σ:St)(H:Hp)(x:V)(v vl vu:Dc)(lo hi:Option Int)(sl:Addr)(Q:VK),Inv X pins σ H s->RelV x v->s.heap.IsSliceOf sl vl vu .none->IsPart vl lo->IsPart vu hi->r x lo hi H Q ->
   ∃T id,Jz (.type T) "__getitem__" = pure (some (.builtin id))/\s.TypeIs v T/\Dr (Dw X.prog X.w) X.A (JR v (.ref sl)) (EP X pins σ Q) X.xe s
noncomputable def Ba(r:V->Option Int->Option Int->Hp->VK->Prop)(te:TE)(tl th:TO):TE:=fun σ H Q=>te σ H fun x H1=>tl σ H1 fun l H2=>th σ H2 fun u H3=>r x l u H3 Q
theorem nX{r:V->Option Int->Option Int->Hp->VK->Prop}(hr:Ck X r)(he:PE X e te)(hl:PO X lo tl)(hu:PO X hi th):PE X (.Subscript e (.Slice lo hi none p2) pos) (Ba r te tl th):=by
 intro pins s σ H Q I h;refine Subscript_ (A8 (he pins s σ H _ I h) fun v s1 ⟨x,H1,I1,r1,q1⟩=>?_);refine wpAny_Slice (A8 (hl pins s1 σ H1 _ I1 q1) fun vl s2 ⟨l,H2,I2,pl,q2⟩=>A8 (hu pins s2 σ H2 _ I2 q2) fun vu s3 ⟨u,H3,I3,pu,q3⟩=>?_);rw[evalPart_none];refine De ?_;have I4:Inv X pins σ H3 {s3 with heap:=s3.heap.push {cls:=.type "slice", data:=.fields #[vl,vu,.none]}}:=I3.kept (t':=s3.toks) fun b ob q=>Db _ q;obtain⟨T,id,hT,ht,hg⟩:=hr pins {s3 with heap:=s3.heap.push {cls:=.type "slice", data:=.fields #[vl,vu,.none]}} σ H3 x v vl vu l u s3.heap.objs.size Q I4 r1 (Heap.IsSliceOf.new ..) pl pu q3;show Dr (Dw X.prog X.w) X.A (Js e (.Slice lo hi none p2) v (.ref s3.heap.objs.size)) (EP X pins σ Q) X.xe {s3 with heap:=s3.heap.push {cls:=.type "slice", data:=.fields #[vl,vu,.none]}};exact tail_any (ops:=[.ref s3.heap.objs.size,v]) ht hT hg (by with_unfolding_all rfl)
noncomputable def tf(xs:List V)(lo hi:Option Int):List V:=(xs.drop (HT.sIx xs.length 0 lo)).take (HT.sIx xs.length xs.length hi-HT.sIx xs.length 0 lo)
theorem iR(xs:List V)(lo hi:Option Int):(tf xs lo hi).length<=xs.length:=by
 unfold tf;rw[Ev,G5];omega
noncomputable def qQ(K:W.Frag):R2:=fun x y H Q=>∃a b xs ys,x = .ref a/\y = .ref b/\Cg K H a xs/\Cg K H b ys/\xs≠[]/\xs.length+ys.length<=sizeLine /\
 (ys=[]->Q (.ref a) H)/\(ys≠[]->∀p,H p=none->Q (.ref p) (upd H p (.tup (xs++ys))))
theorem bT.nil_iff{xs:List V}(r:bT xs us):us=[]↔xs=[]:=by
 cases r with
 | nil=>simp
 | cons _ _=>simp
theorem rJ:CG X (GH .Add) (qQ X.K):=by
 intro pins s σ H x y v u Q I rx ry h;obtain⟨a,b,xs,ys,rfl,rfl,ha,hb,hx,hz,q1,q2⟩:=h;cases rx;cases ry;obtain⟨its,r1,p1,_⟩:=I.tuple ha;obtain⟨its2,r2,p2,_⟩:=I.tuple hb;refine HT.cat_tup p1 p2 (fun z=>hx (r1.nil_iff.mp z)) (fun z=>⟨.ref a,H,I,rfl,q1 (r2.nil_iff.mp z)⟩) (fun z=>?_) (by rw[<- r1.length,<- r2.length];exact hz);refine⟨.ref s.heap.objs.size,_,I.laid (t':=s.toks) (o:=.tup (xs++ys)) (fun b ob q=>Db _ q) (Dm _) ?_,rfl,q2 (fun w=>z (r2.nil_iff.mpr w)) _ (I.hok.fresh (Dm _))⟩;exact⟨by rw[DK];exact hz,_,r1.append r2,nc.new _ _⟩
end
noncomputable def ixN(n:Nat)(i:Int):Option Nat:=if 0<=i then(if i<n then some i.toNat else none)else if -(n:Int)<=i then some (i+n).toNat else none
noncomputable def atI{α:Type}(xs:List α)(i:Int):Option α:=(ixN xs.length i).bind fun j=>xs[j]?
theorem r_{i:Int}(h:ixN n i=some j):seqIndex? i n=some j/\j<n /\ -(n:Int)<=i/\i<n:=by
 unfold ixN at h;by_cases h0:0<=i
 · rw[if_pos h0]at h;by_cases h1:i<n
   · rw[if_pos h1]at h;have e:i.toNat=j:=DX h;exact⟨by rw[seqIndex_of h0 h1,e],by omega,by omega,h1⟩
   · rw[if_neg h1]at h;cases h
 · rw[if_neg h0]at h;by_cases h1 : -(n:Int)<=i
   · rw[if_pos h1]at h;have e:(i+n).toNat=j:=DX h;exact⟨by rw[seqIndex_neg (by omega) h1,e],by omega,h1,by omega⟩
   · rw[if_neg h1]at h;cases h
theorem iX{xs:List α}{i:Int}{v:α}(h:atI xs i=some v):∃j,seqIndex? i xs.length=some j/\xs[j]?=some v/\j<xs.length /\ -(xs.length:Int)<=i/\i<xs.length:=by
 unfold atI at h
 cases e:ixN xs.length i with
 | none=>rw[e]at h;cases h
 | some j =>
   rw[e]at h;obtain⟨h1,h2,h3,h4⟩:=r_ e;exact⟨j,h1,h,h2,h3,h4⟩
theorem mY{xs:List α}{v:α}(h:xs[j]?=some v):atI xs (j:Int)=some v:=by
 have hj:j<xs.length:=(Du.mp h).1
 have e:ixN xs.length (j:Int)=some j:=by
  unfold ixN;rw[if_pos (by omega),if_pos (by omega)];simp
 unfold atI;rw[e];exact h
noncomputable def m_(b:Expr):Prop:=∀o i,Je b false o i=operate [o,i] (JR o i)
noncomputable def CN(X:Cx)(r:R2):Prop :=
 ∀ (value slice:Expr)(pins:List (Addr×Obj))(s:Dd)(σ:St)(H:Hp)(x y:V)(v u:Dc)(Q:VK),Inv X pins σ H s->RelV x v->RelV y u->r x y H Q ->
   Je slice false v u=operate [v,u] (JR v u)->Dr (Dw X.prog X.w) X.A (Js value slice v u) (EP X pins σ Q) X.xe s
noncomputable def CI(X:Cx)(id:String)(r:V->List V->Hp->VK->Prop):Prop :=
 ∀ (pins:List (Addr×Obj))(s:Dd)(σ:St)(H:Hp)(x:V)(xs:List V)(v:Dc)(us:List Dc)(Q:VK),Inv X pins σ H s->RelV x v->bT xs us->r x xs H Q ->
   Dr (Dw X.prog X.w) X.A (call (.builtin id) (v::us)) (EP X pins σ Q) X.xe s
section
variable{X:Cx}{a b:Expr}{ta tb:TE}{pos:Pos}
theorem CN.or{r r':R2}(h:CN X r)(h':CN X r'):CN X (fun x y H Q=>r x y H Q\/r' x y H Q):=by
 intro value slice pins s σ H x y v u Q I rx ry q hs;rcases q with q|q
 · exact h value slice pins s σ H x y v u Q I rx ry q hs
 · exact h' value slice pins s σ H x y v u Q I rx ry q hs
theorem xU{r:R2}(hr:CN X r)(ha:PE X a ta)(hb:PE X b tb)(hs:m_ b):PE X (.Subscript a b pos) (Bc r ta tb):=by
 intro pins s σ H Q I h;exact Subscript_ (yw ha hb I h fun v u s2 x y H2 I2 rx ry q=>hr a b pins s2 σ H2 x y v u Q I2 rx ry q (hs _ _))
noncomputable def zB(K:W.Frag):R2:=fun x y H Q=>∃p xs i v,x = .ref p/\y = .int i/\Ch K H p xs/\atI xs i=some v/\Q v H
noncomputable def zz(K:W.Frag):R2:=fun x y H Q=>∃p xs i v,x = .ref p/\y = .int i/\Cg K H p xs/\atI xs i=some v/\Q v H
noncomputable def zA:R2:=fun x y H Q=>∃z i c,x = .str z/\y = .int i/\z.length<=sizeLine/\atI z.cps.toList i=some c/\Q (.str ⟨#[c]⟩) H
theorem yc:CN X (zB X.K):=by
 intro value slice pins s σ H x y v u Q I rx ry h hs;obtain⟨p,xs,i,z,rfl,rfl,hq,he,q⟩:=h;cases rx;obtain⟨t,rfl⟩:=ry;obtain⟨its,r,pl,hz⟩:=I.list hq;obtain⟨j,h1,h2,h3,h4,h5⟩:=iX he;obtain⟨w,ew,rw'⟩:=r.get h2;have hl:=r.length;have hn:=jn;have fin:EP X pins σ Q w s:=⟨z,H,I,rw',q⟩;by_cases h0:0<=i
 · have hj:i.toNat=j:=by
     rw[seqIndex_of h0 h5]at h1;exact DX h1
   exact item_listR pl.isList h0 (by omega) (by rw[hj];simpa using ew) fin hs
 · have hj:(i+(its.toArray.size:Int)).toNat=j:=by
     rw[seqIndex_neg (by omega) h4]at h1;rw[DA,<- hl];exact DX h1
   exact Iu (x:=w) pl.isList.typeIs slot_list_getitem.lookup
    (wpAny_getItem_list_neg (Q:=fun r s'=>r=w/\EP X pins σ Q r s') pl.isList (by omega) (by rw[DA]<;>omega) (by omega) (by rw[hj];simpa using ew) ⟨rfl,fin⟩) hs
theorem zE:CN X (zz X.K):=by
 intro value slice pins s σ H x y v u Q I rx ry h hs;obtain⟨p,xs,i,z,rfl,rfl,hq,he,q⟩:=h;cases rx;obtain⟨t,rfl⟩:=ry;obtain⟨its,r,pl,hz⟩:=I.tuple hq;obtain⟨j,h1,h2,h3,h4,h5⟩:=iX he;obtain⟨w,ew,rw'⟩:=r.get h2;have hl:=r.length;have hn:=jn;have fin:EP X pins σ Q w s:=⟨z,H,I,rw',q⟩
 exact Iu (x:=w) pl.typeIs slot_tuple_getitem.lookup
  (getItem_tuple (j:=j) (Q:=fun r s'=>r=w/\EP X pins σ Q r s') pl (by omega) (by omega) (by rw[DA,<- hl];exact h1) (by simpa using ew) ⟨rfl,fin⟩) hs
theorem vQ:CN X zA:=by
 intro value slice pins s σ H x y v u Q I rx ry h hs;obtain⟨z,i,c,rfl,rfl,hz,he,q⟩:=h;obtain⟨t,rfl⟩:=rx;obtain⟨t',rfl⟩:=ry;obtain⟨j,h1,h2,h3,h4,h5⟩:=iX he;have hl:z.cps.toList.length=z.length:=by simp[Str.length]
 rw[hl]at h1 h4 h5;have hn:=jn
 exact tail_any (typeIs_str s z t) slot_str_getitem.lookup (getItem_str (c:=c) (by
  have e1:decide (i < -(2^63:Int))=false:=decide_eq_false (by omega);have e2:decide (i ≥ 2^63)=false:=decide_eq_false (by omega)
  rw[e1,e2,Bool.or_false]) (by rw[h1];simpa using h2) ⟨.str ⟨#[c]⟩,H,I.tok _,⟨_,rfl⟩,q⟩) hs
noncomputable def Br(K:W.Frag):R2:=fun x y H Q=>zB K x y H Q\/zz K x y H Q\/zA x y H Q
theorem vR:CN X (Br X.K):=yc.or (zE.or vQ)
theorem gN(lo hi:Option Int)(n:Nat):(GV lo hi none n).1=((HT.sIx n 0 lo:Nat):Int)/\(GV lo hi none n).2.1=((HT.sIx n n hi:Nat):Int)/\(GV lo hi none n).2.2=1:=by
 refine⟨?_,?_,rfl⟩
 · cases lo with
   | none=>simp[GV,HT.sIx]
   | some i =>
     simp only[GV,HT.sIx,Option.getD_none,show(1:Int)>0 by decide,if_true];by_cases h:i<0
     · simp only[h,if_true]<;>omega
     · simp only[h,if_false]<;>omega
 · cases hi with
   | none=>simp[GV,HT.sIx]
   | some i =>
     simp only[GV,HT.sIx,Option.getD_none,show(1:Int)>0 by decide,if_true];by_cases h:i<0
     · simp only[h,if_true]<;>omega
     · simp only[h,if_false]<;>omega
theorem fP(its:List Dc)(lo hi:Option Int):slicePick its.toArray lo hi none=((its.drop (HT.sIx its.length 0 lo)).take (HT.sIx its.length its.length hi-HT.sIx its.length 0 lo)).toArray:=by
 obtain⟨h1,h2,h3⟩:=gN lo hi its.toArray.size;unfold slicePick;rw[h1,h2,h3];simp only[sliceRange_one,pick_run,DA]<;>rfl
noncomputable def Ai(K:W.Frag):V->Option Int->Option Int->Hp->VK->Prop:=fun x lo hi H Q=>∃a xs,x = .ref a/\Ch K H a xs/\∀p,H p=none->Q (.ref p) (upd H p (.lst (tf xs lo hi)))
theorem qK:Ck X (Ai X.K):=by
 intro pins s σ H x v vl vu lo hi sl Q I rx hs pl pu h;obtain⟨a,xs,rfl,hx,q⟩:=h;cases rx;obtain⟨its,r,ht,hz⟩:=I.list hx;have hlen:=r.length;refine⟨"list", _,slot_list_getitem.lookup,ht.isList.typeIs,?_⟩;refine wpAny_getItem_list_slice ht.isList hs pl pu .none (by simp) ?_ (by rw[DA]<;>omega);rw[fP,<- hlen];refine⟨.ref s.heap.objs.size,_,I.laid (t':=s.toks) (o:=.lst (tf xs lo hi)) (fun b ob q=>Db _ q) (Dm _) ?_,rfl,q _ (I.hok.fresh (Dm _))⟩;exact⟨Ef (iR xs lo hi) hz,_,0,(r.drop (HT.sIx xs.length 0 lo)).take (HT.sIx xs.length xs.length hi-HT.sIx xs.length 0 lo),Do _ rfl⟩
theorem ic:eG X (.builtin "len") (fun xs H Q=>∃p ys,xs=[.ref p]/\(Ch X.K H p ys\/Cg X.K H p ys)/\Q (.int ys.length) H):=by
 intro pins s σ H xs us Q I r h;obtain⟨p,ys,rfl,hq,q⟩:=h;obtain⟨u,rfl,rx⟩:=vals1 r;cases rx;have hn:=jn;rcases hq with hq|hq
 · obtain⟨its,r',pl,hz⟩:=I.list hq;have hlen:=r'.length;exact Calls.call_len_list pl.isList (by simp only[DA]<;>omega) ⟨.int ys.length,H,I.tok _,⟨s.toks+1,by rw[DA,hlen]⟩,q⟩
 · obtain⟨its,r',pl,hz⟩:=I.tuple hq;have hlen:=r'.length;exact len_tuple pl (by simp only[DA]<;>omega) ⟨.int ys.length,H,I.tok _,⟨s.toks+1,by rw[DA,hlen]⟩,q⟩
theorem gv:eG X (.type "tuple") (fun xs H Q=>∃p ys,xs=[.ref p]/\((Ch X.K H p ys/\∀l,H l=none->Q (.ref l) (upd H l (.tup ys)))\/(Cg X.K H p ys/\Q (.ref p) H))):=by
 intro pins s σ H xs us Q I r h;obtain⟨p,ys,rfl,h⟩:=h;obtain⟨u,rfl,rx⟩:=vals1 r;cases rx;rcases h with⟨hq,q⟩|⟨hq,q⟩
 · obtain⟨its,r',pl,hz⟩:=I.list hq;have hlen:=r'.length;refine call_tuple_list pl.isList (fun h' kp=>?_) (by simp only[DA]<;>omega);have I1:Inv X pins σ H {s with heap:=h' }:=I.kept (t':=s.toks) kp
   have I2:Inv X pins σ (upd H h'.objs.size (.tup ys)) {s with heap:=h'.push {cls:=.type "tuple", data:=.seq its.toArray}} :=
    I1.laid (t':=s.toks) (fun b o e=>Db _ e) (Dm _) (show aK X.prog X.w _ _ _ (.tup ys)from⟨hz,its,r',nc.new _ _⟩)
   exact⟨.ref h'.objs.size,_,I2,rfl,q _ (I1.hok.fresh (Dm _))⟩
 · obtain⟨its,r',pl,hz⟩:=I.tuple hq;exact call_tuple_same pl ⟨.ref p,H,I,rfl,q⟩
noncomputable def A3(K:W.Frag)(T:String)(x:V)(H:Hp):Prop:=match x with
 | .str _=>T = "str"
 | .int _=>T = "int"
 | .ref p=>(T = "list" /\ ∃xs,Ch K H p xs)\/(T = "tuple" /\ ∃xs,Cg K H p xs) \/
     (T = "dict" /\ ((∃kvs,H p=some (.dK kvs))\/∃kvs,H p=some (.dT kvs)))\/(T = "set" /\ ∃S n,H p=some (.set S n))
 | _=>False
theorem uu{T:String}{x:V}{v:Dc}(I:Inv X pins σ H s)(r:RelV x v)(ty:A3 X.K T x H) :
 s.TypeIs v T/\∀a,v = .ref a->∃ob,s.heap.get? a=some ob/\ob.dict=none:=by
 cases x with
 | str z =>
   obtain⟨t,rfl⟩:=r;cases(show T = "str" from ty)
   exact⟨typeIs_str s z t,fun _ e=>nomatch e⟩
 | int i =>
   obtain⟨t,rfl⟩:=r;cases(show T = "int" from ty)
   exact⟨typeIs_int s i t,fun _ e=>nomatch e⟩
 | ref p =>
   cases r;rcases ty with⟨rfl,xs,hq⟩|⟨rfl,xs,hq⟩|⟨rfl,hk⟩|⟨rfl,S,n,hk⟩
   · obtain⟨its,_,pl,_⟩:=I.list hq;refine⟨pl.isList.typeIs,fun a e=>?_⟩;cases e;obtain⟨o,n,e,c,hd,_⟩:=pl;exact⟨o,e,hd⟩
   · obtain⟨o,e1,e2,e3⟩:=I.tupleD hq;refine⟨⟨o,e1,e2⟩,fun a e=>?_⟩;cases e;exact⟨o,e1,e3⟩
   · have z:∃o,s.heap.get? p=some o/\o.ExactDict:=by
       rcases hk with⟨kvs,hk⟩|⟨kvs,hk⟩
       · obtain⟨_,_,_,_,o,_,_,e,ex,_⟩:=I.hok p _ hk;exact⟨o,e,ex⟩
       · obtain⟨_,_,_,_,o,_,_,e,ex,_⟩:=I.hok p _ hk;exact⟨o,e,ex⟩
     obtain⟨o,e,ex⟩:=z;refine⟨⟨o,e,ex.1⟩,fun a e2=>?_⟩;cases e2;exact⟨o,e,ex.2.1⟩
   · obtain⟨o,_,_,_,e,ex,_⟩:=I.hok p _ hk;refine⟨⟨o,e,ex.1⟩,fun a e2=>?_⟩;cases e2
     exact⟨o,e,ex.2.1⟩
 | _=>exact D9 ty
noncomputable def Bg(K:W.Frag)(T:String)(r:V->List V->Hp->VK->Prop)(to:TE)(t:TA):TE:=fun σ H Q=>to σ H fun x H1=>A3 K T x H1/\t σ H1 fun xs H2=>r x xs H2 Q
variable{o e:Expr}{es:List Expr}{to:TE}{t:TA}{name:Str}{apos cpos:Pos}{T id:String}{r:V->List V->Hp->VK->Prop}
theorem xV(pa:PlainAttrs T)(slot:Slot T name id)(hty:typeOf (.builtin id)=pure (.type "method_descriptor"))(hm:CI X id r)(ho:PE X o to)(ha:PA X (e::es) t)
 (hbase:autoParam (FU o name X.env (eval o X.env)=eval o X.env) æa._auto_1)
 (hfew:autoParam (((ES cpos (Dh (e::es) X.env)).all (fun x=>!x.1)&&(Jt cpos (Hg [] X.env)).all (fun x=>x.1.isSome)
  && decide ((e::es).length+([]:List G4).length+(if([]:List G4).isEmpty then 0 else 1)<30))=true) æa._auto_1)
 (hline:autoParam ((apos.endLine==cpos.line)=true) æa._auto_1)(hs:autoParam (Dh (e::es) X.env=(false,eval e X.env)::Dh es X.env) æa._auto_1)(hplain:autoParam ((ES cpos (Dh es X.env)).any (·.1)=false) æa._auto_1) :
 PE X (.Call (.Attribute o name apos) (e::es) [] cpos) (Bg X.K T r to t):=by
 intro pins s σ H Q I h;refine wpAny_Call_method_late hbase hfew hline rfl (A8 (ho pins s σ H _ I h) fun v s1 ⟨x,H1,I1,r1,ty,q1⟩=>?_);obtain⟨h1,h2⟩:=uu I1 r1 ty;refine⟨T,id,pa,slot,hty,h1,h2,?_⟩;have hA:=ha cpos pins s1 σ H1 _ I1 q1;rw[hs]at hA ⊢;refine Iv (by show(false||(ES cpos (Dh es X.env)).any (·.1))=false;rw[hplain]<;>rfl) (Calls.evalArgs_plain ?_);exact A8 hA fun us s2 ⟨vs,H2,I2,r2,q2⟩=>hm pins s2 σ H2 x vs v us Q I2 r1 r2 q2
end
noncomputable def CJ(X:Cx)(id:String)(r:V->List V->Hp->VK->Prop):Prop :=
 ∀ (pins:List (Addr×Obj))(s:Dd)(σ:St)(H:Hp)(x:V)(xs:List V)(v:Dc)(us:List Dc)(Q:VK),Inv X pins σ H s->RelV x v->bT xs us->r x xs H Q ->
   Dr (Dw X.prog X.w) X.A (call (.builtin id) (v::us)) (EP X pins σ Q) X.xe s
theorem bT.one:∀{x:V}{us:List Dc},bT [x] us->∃u,us=[u]/\RelV x u
 | _,_,.cons r .nil=>⟨_,rfl,r⟩
section
variable{X:Cx}{pins:List (Addr×Obj)}{σ:St}{H:Hp}{s:Dd}{l b:Addr}{xs ys zs:List V}
theorem Inv.lset{its its':List Dc}{f:Array Dc->Array Dc}(I:Inv X pins σ H s)(hH:H l=some (.lst xs))
 (e:s.heap.get? l=some {cls:=.type "list", data:=.seq its.toArray n})(hf:f its.toArray=its'.toArray)(hv:bT ys its')(hz:ys.length<=sizeLine) :
 Inv X pins σ (upd H l (.lst ys)) {s with heap:=s.heap.update l (HV f),toks:=t' }:=by
 have q:=PySem.IsL.update e f;rw[hf]at q;refine I.write (x:=l) (e:=l) (by rw[hH];exact trivial) (.inl rfl) (fun b' u hb hu=>(Eo s.heap (HV f) (Fm hb)).trans hu) ⟨_,q⟩ ?_;exact⟨hz,its',_,hv,q⟩
theorem Inv.lstM(I:Inv X pins σ H s)(hH:H l=some (.lst xs)):xs.length<=sizeLine/\∃(its:List Dc)(n:Nat),bT xs its/\xs.length=its.length/\s.heap.get? l=some {cls:=.type "list", data:=.seq its.toArray n}:=by
 obtain⟨z,its,n,r,e⟩:=I.hok l _ hH;exact⟨z,its,n,r,r.length,e⟩
theorem n_(h:n<=sizeLine):GF n=false:=by
 unfold GF;exact decide_eq_false (by omega)
end
section
variable{X:Cx}
noncomputable def lu:V->List V->Hp->VK->Prop:=fun x vs H Q=>∃l xs y,x = .ref l/\vs=[y]/\H l=some (.lst xs)/\xs.length<sizeLine/\Q .non (upd H l (.lst (xs++[y])))
theorem d4:CJ X "list.append" lu:=by
 intro pins s σ H x vs v us Q I rx rv h;obtain⟨l,xs,y,rfl,rfl,hH,hz,q⟩:=h;cases rx;obtain⟨u,rfl,ru⟩:=rv.one;obtain⟨z,its,n,r,hl,e⟩:=I.lstM hH;refine JA F.slot_list_append ⟨_,e,rfl⟩ F.entry_list_append (F.args_list_append_2 _ _) (PySem.list_append l its.toArray n u (by rw[DA];omega)) ⟨e,?_⟩;refine⟨.non,_,I.lset (its':=its++[u]) hH e (by simp) (r.append (.cons ru .nil)) ?_,rfl,q⟩;rw[DK,ID];omega
noncomputable def ls:V->List V->Hp->VK->Prop:=fun x vs H Q=>∃l b xs zs,x = .ref l/\vs=[.ref b]/\H l=some (.lst xs)/\H b=some (.lst zs)/\xs.length+zs.length<=sizeLine/\Q .non (upd H l (.lst (xs++zs)))
theorem lO:CJ X "list.extend" ls:=by
 intro pins s σ H x vs v us Q I rx rv h;obtain⟨l,b,xs,zs,rfl,rfl,hH,hB,hz,q⟩:=h;cases rx;obtain⟨u,rfl,ru⟩:=rv.one;cases ru;obtain⟨z,its,n,r,hl,e⟩:=I.lstM hH;obtain⟨z2,its2,n2,r2,hl2,e2⟩:=I.lstM hB;have hsz:its.toArray.size+its2.toArray.size<=sizeLine:=by rw[DA,DA];omega
 have hlong:¬(!its.toArray.isEmpty&&GF (its.toArray.size+its2.toArray.size))=true:=by
  rw[n_ hsz,Bool.and_false];exact DJ
 refine JA F.slot_list_extend ⟨_,e,rfl⟩ F.entry_list_extend (F.args_list_extend_2 _ _)
  (AutoSeq1.list_extend_list_list_0 l its.toArray n b its2.toArray n2 hlong (by rw[DA];omega) (by omega)) ⟨e,e2,?_⟩
 refine⟨.non,_,I.lset (its':=its++its2) hH e (by simp) (r.append r2) ?_,rfl,q⟩;rw[DK];omega
end
section
variable{prog:Dq}{w:DN}{A:DM}{E:Dc->Dd->Prop}{s:Dd}
end
section
variable{X:Cx}
end
section
variable{κ:Type}[DecidableEq κ]
noncomputable def fM(kvs:List (κ×V))(k:κ):Option V:=(kvs.find? fun kv=>decide (kv.1=k)).map (·.2)
noncomputable def dL(kvs:List (κ×V))(k:κ)(v:V):List (κ×V) :=
 if(kvs.any fun kv=>decide (kv.1=k))=true then kvs.map (fun kv=>if kv.1=k then(kv.1,v)else kv)else kvs++[(k,v)]
theorem cc{p:κ×V}{r:List (κ×V)}{k:κ}(e:p.1=k):fM (p::r) k=some p.2:=by simp[fM,EB,e]
theorem fL{p:κ×V}{r:List (κ×V)}{k:κ}(e:¬p.1=k):fM (p::r) k=fM r k:=by simp[fM,EB,e]
theorem jb(k:κ):∀kvs:List (κ×V),(kvs.any fun kv=>decide (kv.1=k))=(fM kvs k).isSome
 | []=>rfl
 | p::r=>by
   rw[Ic];by_cases e:p.1=k
   · simp only[cc e,decide_eq_true e,Bool.true_or,Option.isSome_some]
   · rw[fL e,decide_eq_false e,Bool.false_or];exact jb k r
theorem cR(kvs:List (κ×V))(k:κ)(v:V):(dL kvs k v).length<=kvs.length+1:=by
 unfold dL;split
 · rw[Di];omega
 · rw[DK,DP,Gk];omega
theorem tm.isSome_eq{o:Option V}{u:Option Dc}(r:tm o u):o.isSome=u.isSome:=by
 cases o with
 | none=>cases u with
   | none=>rfl
   | some _=>exact(show False from r).elim
 | some _=>cases u with
   | none=>exact(show False from r).elim
   | some _=>rfl
theorem KV.val{kvs:List (κ×V)}{vs:List (κ×Dc)}(r:KV kvs vs)(k:κ):tm (fM kvs k) (JB vs k):=by
 unfold KV at r
 induction r with
 | nil=>exact Gc
 | @cons p q ps qs h t ih =>
   obtain⟨h1,h2⟩:=h;by_cases e:p.1=k
   · have e':q.1=k:=h1.symm.trans e;have b:JB (q::qs) k=some q.2:=by simp[JB,EB,e']
     rw[cc e,b];exact h2
   · have e':¬q.1=k:=fun z=>e (h1.trans z);have b:JB (q::qs) k=JB qs k:=by simp[JB,EB,e']
     rw[fL e,b];exact ih
theorem KV.any{kvs:List (κ×V)}{vs:List (κ×Dc)}(r:KV kvs vs)(k:κ):(kvs.any fun kv=>decide (kv.1=k))=vs.any fun kv=>decide (kv.1=k):=by
 unfold KV at r
 induction r with
 | nil=>rfl
 | cons h t ih=>rw[Ic,Ic,ih,h.1]
theorem KV.repl{kvs:List (κ×V)}{vs:List (κ×Dc)}(r:KV kvs vs)(k:κ){y:V}(ry:RelV y u) :
 KV (kvs.map fun kv=>if kv.1=k then(kv.1,y)else kv) (vs.map fun kv=>if kv.1=k then(kv.1,u)else kv):=by
 unfold KV at r ⊢
 induction r with
 | nil=>exact .nil
 | @cons p q ps qs h t ih =>
   rw[Ep,Ep];refine .cons ?_ ih;obtain⟨h1,h2⟩:=h;by_cases e:p.1=k
   · rw[if_pos e,if_pos (h1.symm.trans e)];exact⟨h1,ry⟩
   · rw[if_neg e,if_neg (fun z=>e (h1.trans z))];exact⟨h1,h2⟩
theorem KV.put{kvs:List (κ×V)}{vs:List (κ×Dc)}(r:KV kvs vs)(k:κ){y:V}(ry:RelV y u):KV (dL kvs k y) (stored vs k u):=by
 unfold dL stored;rw[r.any k];by_cases e:(vs.any fun kv=>decide (kv.1=k))=true
 · rw[if_pos e,if_pos e];exact r.repl k ry
 · rw[if_neg e,if_neg e];exact JS r ⟨rfl,ry⟩
theorem KV.length{kvs:List (κ×V)}{vs:List (κ×Dc)}(r:KV kvs vs):kvs.length=vs.length:=EH r
end
theorem oA{k:CK}(r:RelV (kV k) u):(be P w).is k u=true:=by
 cases k with
 | inl i=>obtain⟨t,e⟩:=(show ∃t,u=F0 i t from r);subst e;exact iJ P w i t
 | inr x=>obtain⟨t,e⟩:=(show ∃t,u=HP x t from r);subst e;exact iI P w x t
theorem hV{P:Dq}{w:DN}:∀{ks:List CK}{us:List Dc},bT (ks.map kV) us->ItemsAre (be P w) ks us
 | [],_,r=>by rw[IE]at r;cases r;exact .nil
 | k::ks,_,r=>by
   rw[Ep]at r
   cases r with
   | cons h t=>exact .cons (oA h) (hV t)
abbrev KT(H:Hp):List (List CK×V)->List (List CK×Addr×Dc)->Prop:=D0 fun p q=>p.1=q.1/\H q.2.1=some (.tup (p.1.map kV))/\RelV p.2 q.2.2
theorem KT.val{kvs:List (List CK×V)}{xs:List (List CK×Addr×Dc)}(r:KT H kvs xs)(k:List CK):tm (fM kvs k) ((IW xs k).map (·.2)):=by
 induction r with
 | nil=>exact Gc
 | @cons p q ps qs h t ih =>
   obtain⟨h1,_,h2⟩:=h;by_cases e:p.1=k
   · have e':q.1=k:=h1.symm.trans e;have b:IW (q::qs) k=some q.2:=by simp[IW,EB,e']
     rw[cc e,b];exact h2
   · have e':¬q.1=k:=fun z=>e (h1.trans z);have b:IW (q::qs) k=IW qs k:=by simp[IW,EB,e']
     rw[fL e,b];exact ih
theorem KT.repl{kvs:List (List CK×V)}{xs:List (List CK×Addr×Dc)}(r:KT H kvs xs)(k:List CK){y:V}(ry:RelV y u) :
 KT H (kvs.map fun kv=>if kv.1=k then(kv.1,y)else kv) (xs.map (putAt k u)):=by
 induction r with
 | nil=>exact .nil
 | @cons p q ps qs h t ih =>
   rw[Ep,Ep];refine .cons ?_ ih;obtain⟨h1,h2,h3⟩:=h;unfold putAt;by_cases e:p.1=k
   · rw[if_pos e,if_pos (h1.symm.trans e)];exact⟨h1,h2,ry⟩
   · rw[if_neg e,if_neg (fun z=>e (h1.trans z))];exact⟨h1,h2,h3⟩
theorem KT.put{kvs:List (List CK×V)}{xs:List (List CK×Addr×Dc)}(r:KT H kvs xs)(k:List CK){y:V}(hb:H b=some (.tup (k.map kV)))(ry:RelV y u) :
 KT H (dL kvs k y) (FV xs k b u):=by
 have e:(kvs.any fun kv=>decide (kv.1=k))=(IW xs k).isSome:=by
  rw[jb,(r.val k).isSome_eq,Option.isSome_map]
 unfold dL FV;rw[e];by_cases q:(IW xs k).isSome=true
 · rw[if_pos q,if_pos q];exact r.repl k ry
 · rw[if_neg q,if_neg q];exact JS r ⟨rfl,hb,ry⟩
theorem KT.keeps{kvs:List (List CK×V)}{xs:List (List CK×Addr×Dc)}(r:KT H kvs xs)(ht:∀b ys,H b=some (.tup ys)->H' b=some (.tup ys)):KT H' kvs xs :=
 D0.mapP r fun _ _ z=>⟨z.1,ht _ _ z.2.1,z.2.2⟩
section
variable{P:Dq}{w:DN}{H:Hp}{h:Heap}{a:Addr}
theorem uQ{u:HO}(ok:CW P w H h)(e:Rd H a u):aK P w H h a u:=e.ok ok
theorem sE{kvs:List (CK×V)}(ok:CW P w H h)(e:Rd H a (.dK kvs)):kvs.length<=sizeLine/\(a==Fh)=false/\∃vs,KV kvs vs/\h.DictOf (be P w) a vs :=
 show aK P w H h a (.dK kvs)from uQ ok e
theorem wg{kvs:List (CK×V)}(ok:CW P w H h)(e:H a=some (.dK kvs)):kvs.length<=sizeLine/\(a==Fh)=false/\∃vs,KV kvs vs/\h.DictOf (be P w) a vs:=sE ok (.inl e)
theorem l5{ks:List CK}(ok:CW P w H h)(e:H a=some (.tup (ks.map kV))):(Ee (be P w)).is h ks a:=by
 obtain⟨_,its,r,o,h1,h2,⟨n,h3⟩,_⟩:=(show aK P w H h a (.tup (ks.map kV))from ok a _ e);exact⟨o,its.toArray,n,h1,h2,h3,by simpa using hV r⟩
theorem sB{kvs:List (List CK×V)}(ok:CW P w H h)(e:Rd H a (.dT kvs)):kvs.length<=sizeLine/\(a==Fh)=false /\
 ∃xs,KT H kvs xs/\h.DictOfH (Ee (be P w)) a xs:=by
 obtain⟨z,y,xs,r,o,es,ep,h1,h2,h3,h4,h5⟩:=(show aK P w H h a (.dT kvs)from uQ ok e);refine⟨z,y,xs,r,o,es,ep,h1,h2,h3,h4,fun x hx=>?_,h5⟩
 have all:∀{l:List (List CK×V)}{m:List (List CK×Addr×Dc)},KT H l m->∀x∈m,(Ee (be P w)).is h x.1 x.2.1:=by
  intro l m q
  induction q with
  | nil=>intro x hx;exact nomatch hx
  | @cons p q ps qs hq t ih =>
    intro x hx;rcases DS.mp hx with e|hx
    · subst e;exact l5 ok (by rw[<- hq.1];exact hq.2.1)
    · exact ih x hx
 exact all r x hx
theorem yt{kvs:List (List CK×V)}(ok:CW P w H h)(e:H a=some (.dT kvs)):kvs.length<=sizeLine/\(a==Fh)=false /\
 ∃xs,KT H kvs xs/\h.DictOfH (Ee (be P w)) a xs:=sB ok (.inl e)
end
noncomputable def wM(H:Hp)(a:Addr)(y:V)(r:Option V):Prop :=
 (∃kvs k,Rd H a (.dK kvs)/\y=kV k/\r=fM kvs k)\/∃kvs k b,Rd H a (.dT kvs)/\y = .ref b/\H b=some (.tup (k.map kV))/\r=fM kvs k
noncomputable def yB(H:Hp)(a:Addr)(y v:V)(H':Hp):Prop :=
 (∃kvs k,H a=some (.dK kvs)/\y=kV k/\kvs.length<sizeLine/\H'=upd H a (.dK (dL kvs k v))) \/
 ∃kvs k b,H a=some (.dT kvs)/\y = .ref b/\H b=some (.tup (k.map kV))/\kvs.length<sizeLine/\H'=upd H a (.dT (dL kvs k v))
theorem wM.k{H:Hp}{a:Addr}{kvs:List (CK×V)}{k:CK}(e:H a=some (.dK kvs)):wM H a (kV k) (fM kvs k):=.inl ⟨kvs,k,.inl e,rfl,rfl⟩
theorem yB.k{H:Hp}{a:Addr}{kvs:List (CK×V)}{k:CK}{v:V}(e:H a=some (.dK kvs))(hl:kvs.length<sizeLine):yB H a (kV k) v (upd H a (.dK (dL kvs k v))):=.inl ⟨kvs,k,e,rfl,hl,rfl⟩
section
variable{X:Cx}{pins:List (Addr×Obj)}{σ:St}{H:Hp}{s:Dd}{a:Addr}{y v:V}{u r:Dc}{o:Option V}{A:DM}{E:Dc->Dd->Prop}
theorem Inv.big(I:Inv X pins σ H s):Fh<s.heap.objs.size:=by
 have h:Ds<s.heap.objs.size:=(I.mod.glob.keeps I.bk).lt;exact HA (by decide) h
theorem mO(hu:A.units+1<Gu)(I:Inv X pins σ H s)(g:wM H a y (some v))(ry:RelV y u)(h:∀w' s',Inv X pins σ H s'->RelV v w'->Q w' s') :
 Dr (Dw X.prog X.w) A (JR (.ref a) u) Q E s:=by
 rcases g with⟨kvs,k,e,ey,l⟩|⟨kvs,k,b,e,ey,eb,l⟩
 · subst ey;obtain⟨z,hd,vs,rel,dd⟩:=sE I.hok e;obtain⟨w',hw,rw'⟩:=tm.some_of (v:=v) (o:=JB vs k) (by rw[l];exact rel.val k);exact wpAny_getItem_of (oA ry) dd.mapOf hw (h w' _ (I.tok _) rw')
 · subst ey;cases(show u=Dn b from ry);obtain⟨z,hd,xs,rel,dd⟩:=sB I.hok e;obtain⟨w',hw,rw'⟩:=tm.some_of (v:=v) (o:=(IW xs k).map (·.2)) (by rw[l];exact rel.val k);obtain⟨p,hp,hp2⟩:=Gd.mp hw;refine GL (EJ hu) (l5 I.hok eb) dd hp ?_;rw[hp2];exact h w' _ (I.tok _) rw'
theorem cT{ob:HO}(I:Inv X pins σ H s)(mu:CH (H a))(hs:EQ a s.heap h')(he:∃q,h'.get? a=some q)(new:aK X.prog X.w (upd H a ob) h' a ob) :
 Inv X pins σ (upd H a ob) {s with heap:=h',toks:=t' } :=
 I.write (x:=a) (e:=a) mu (.inl rfl) (fun b q hb z=>(hs.2 b hb).trans z) he new
theorem dk_new{kvs:List (CK×V)}{vs:List (CK×Dc)}(z:kvs.length<=sizeLine)(hd:(a==Fh)=false)(rel:KV kvs vs)(dd:h'.DictOf (be P w) a vs) :
 aK P w H' h' a (.dK kvs):=⟨z,hd,vs,rel,dd⟩
theorem mN{Q:Unit->Dd->Prop}(hu:A.units+1<Gu)(I:Inv X pins σ H s)(g:yB H a y v H')(ry:RelV y u)(rv:RelV v r)(h:∀s',Inv X pins σ H' s'->Q () s') :
 Dr (Dw X.prog X.w) A (setItem (.ref a) u r) Q E s:=by
 rcases g with⟨kvs,k,e,ey,l,eH⟩|⟨kvs,k,b,e,ey,eb,l,eH⟩
 · subst ey eH;obtain⟨z,hd,vs,rel,dd⟩:=wg I.hok e;have hz:vs.length<=sizeLine:=by rw[<- rel.length];exact z
   have hl:(dL kvs k v).length<=sizeLine:=by have:=cR kvs k v;omega
   refine wpAny_setItem_pairs (hsz:=hz) (oA ry) dd fun h' dd' hs=>h _ ?_;have he:∃q,h'.get? a=some q:=let ⟨q,_,_,hq,_⟩:=dd';⟨q,hq⟩
   exact cT I (by rw[e];exact Gc) hs he (dk_new hl hd (rel.put k rv) dd')
 · subst ey eH;cases(show u=Dn b from ry);obtain⟨z,hd,xs,rel,dd⟩:=yt I.hok e;have hz:xs.length<=sizeLine:=by rw[<- EH rel];exact z
   have hl:(dL kvs k v).length<=sizeLine:=by have:=cR kvs k v;omega
   refine HB (hsz:=hz) (EJ hu) (l5 I.hok eb) dd fun h' dd' hs=>h _ ?_;obtain⟨q,es,ep,hq,h2,h3,h4,_,h5⟩:=dd';refine cT I (by rw[e];exact Gc) hs ⟨q,hq⟩ ⟨hl,hd,_,(rel.put k eb rv).keeps fun c ys ec=>?_,q,es,ep,hq,h2,h3,h4,h5⟩;rw[ae (du ec e (fun z=>nomatch z))];exact ec
end
section
variable{X:Cx}{pins:List (Addr×Obj)}{σ:St}{H:Hp}{s:Dd}{a:Addr}{kvs:List (CK×V)}{k:CK}{u:Dc}{A:DM}{E:Dc->Dd->Prop}
end
noncomputable def pY(i:Expr):Prop:=∀ov iv,Je i false ov iv=operate [ov,iv] (JR ov iv)
theorem iu{prog:Dq}{value slice:Expr}{T id:String}
 (hl:Jz (.type T) "__getitem__" = pure (some (.builtin id)))(hs:pY slice)
 (h:Dr (Dw prog w) A (eval value env) (fun o s₁=>Dr (Dw prog w) A (eval slice env) (fun i s₂=>s₂.TypeIs o T/\Dr (Dw prog w) A (JR o i) Q E s₂) E s₁) E s) :
 Dr (Dw prog w) A (eval (.Subscript value slice pos) env) Q E s:=by
 refine Subscript_ (DC h (fun o s₁ h₁=>DC h₁ (fun i s₂ h₂=>?_) fun _ _ x=>x) fun _ _ x=>x);obtain⟨hT,h₂⟩:=h₂;unfold Js;refine C9 ?_;rw[getitemInPython_of_ne hT.not_modules];refine C9 (wpAny_specialOf hT hl ?_)
 have fin:Dr (Dw prog w) A (Je slice false o i) (fun r s₃=>Dr (Dw prog w) A (letTemporaryGo value o r >>= fun _=>pure r) Q E s₃) E s₂:=by
  rw[hs o i];exact wpAny_operating (DC h₂ (fun r s₃ h₃=>C9 (wpAny_letTemporaryGo (De h₃))) fun _ _ x=>x)
 first
  | exact De (C9 fin)
  | exact C9 (De (C9 fin))
  | exact C9 fin
theorem iP{y:V}{o:Option V}(I:Inv X pins σ H s)(g:wM H a y o):s.TypeIs (.ref a) "dict" := by
 rcases g with⟨kvs,k,e,_,_⟩|⟨kvs,k,b,e,_,_,_⟩
 · obtain⟨_,_,vs,_,dd⟩:=sE I.hok e;exact dd.typeIs
 · obtain⟨_,_,xs,_,dd⟩:=sB I.hok e;exact dd.typeIs
noncomputable def uE(td ty:TE):TE:=fun σ H Q=>td σ H fun x H1=>ty σ H1 fun y H2=>∃a v,x = .ref a/\wM H2 a y (some v)/\Q v H2
noncomputable def xJ(td ty tv:TE):TS:=fun D σ H=>tv σ H fun v H1=>td σ H1 fun x H2=>ty σ H2 fun y H3=>∃a H4,x = .ref a/\yB H3 a y v H4/\D.nx σ H4
section
variable{X:Cx}{o i e value:Expr}{pos pos' tpos:Pos}{td ty tv:TE}
theorem lH(hu:X.A.units+1<Gu)(ho:PE X o td)(hi:PE X i ty)(hs:pY i):PE X (.Subscript o i pos) (uE td ty):=by
 intro pins s σ H Q I h;refine iu Gv.lookup hs (A8 (ho pins s σ H _ I h) fun u s1 ⟨x,H1,I1,rx,q1⟩=>A8 (hi pins s1 σ H1 _ I1 q1) fun iv s2 ⟨y,H2,I2,ry,a,v,ex,g,q2⟩=>?_);subst ex;obtain rfl:u=Dn a:=rx;exact⟨iP I2 g,mO hu I2 g ry fun w' s3 I3 rw'=>⟨v,H2,I3,rw',q2⟩⟩
theorem rh(hu:X.A.units+1<Gu)(ho:PE X o td)(hi:PE X i ty)(hv:PE X value tv)(hs:ET value (some (.Subscript o i pos')) pos.line X.env=pure false) :
 PS X (.Assign [.Subscript o i pos'] value pos) (xJ td ty tv):=by
 intro pins s σ H D I h;refine Iw (A8 (hv pins s σ H _ I h) fun r s1 ⟨v,H1,I1,rv,q1⟩=>A8 (ho pins s1 σ H1 _ I1 q1) fun u s2 ⟨x,H2,I2,rx,q2⟩=>A8 (hi pins s2 σ H2 _ I2 q2) fun iv s3 ⟨y,H3,I3,ry,a,H4,ex,g,q3⟩=>?_) hs;subst ex;obtain rfl:u=Dn a:=rx;exact mN hu I3 g ry rv fun s4 I4=>⟨σ,H4,I4,q3⟩
end
theorem oU(h:Heap)(hb:Fh<h.objs.size):aK P w H (h.push {cls:=.type "dict", data:=.dict #[]}) h.objs.size (.dK []) :=
 ⟨DG _,beq_eq_false_iff_ne.mpr (Fm (DB hb)),[],.nil,Heap.DictOf.new h⟩
section
variable{X:Cx}{pos:Pos}
end
noncomputable def k9:List (TE×TE)->St->Hp->(List (V×V)->Hp->Prop)->Prop
 | [],_,H,Q=>Q [] H
 | (tk,tv)::r,σ,H,Q=>tk σ H fun x H1=>tv σ H1 fun y H2=>k9 r σ H2 fun ps H3=>Q ((x,y)::ps) H3
abbrev VV:List (V×V)->List (Dc×Dc)->Prop:=D0 fun p q=>RelV p.1 q.1/\RelV p.2 q.2
noncomputable def Cy(X:Cx)(pos:Pos)(keys:List (Option Expr))(values:List Expr)(trs:List (TE×TE)):Prop :=
 ∀ (pins:List (Addr×Obj))(s:Dd)(σ:St)(H:Hp)(Q:List (V×V)->Hp->Prop),Inv X pins σ H s->k9 trs σ H Q ->
   Dr (Dw X.prog X.w) X.A (evalPairs (pairTrees keys values X.env pos)) (fun vs s'=>∃ps H',Inv X pins σ H' s'/\VV ps vs/\Q ps H') X.xe s
theorem rj:Cy X pos [] [] []:=fun pins s σ H Q I h=>pairTrees_nil_walk ⟨[],H,I,.nil,h⟩
theorem dQ{k v:Expr}{ks:List (Option Expr)}{vs:List Expr}{tk tv:TE}{trs:List (TE×TE)}(hk:PE X k tk)(hv:PE X v tv)(hr:Cy X pos ks vs trs) :
 Cy X pos (some k::ks) (v::vs) ((tk,tv)::trs):=fun pins s σ H Q I h =>
 pairTrees_cons_walk (A8 (hk pins s σ H _ I h) fun u s1 ⟨x,H1,I1,rx,q1⟩=>A8 (hv pins s1 σ H1 _ I1 q1) fun w2 s2 ⟨y,H2,I2,ry,q2⟩ =>
  A8 (hr pins s2 σ H2 _ I2 q2) fun ws s3 ⟨ps,H3,I3,rel,q3⟩=>⟨(x,y)::ps,H3,I3,.cons ⟨rx,ry⟩ rel,q3⟩)
noncomputable def d6(kvs more:List (CK×V)):List (CK×V):=more.foldl (fun acc kv=>dL acc kv.1 kv.2) kvs
theorem KV.merge:∀{more:List (CK×V)}{rs:List (CK×Dc)}{kvs:List (CK×V)}{vs:List (CK×Dc)},KV more rs->KV kvs vs->KV (d6 kvs more) (merged vs rs):=by
 intro more rs kvs vs r;unfold KV at r
 induction r generalizing kvs vs with
 | nil=>intro q;exact q
 | @cons p q ps qs h t ih =>
   intro r0
   have e:KV (dL kvs p.1 p.2) (stored vs q.1 q.2):=by
    have:=r0.put p.1 h.2;rw[<- h.1];exact this
   exact ih e
theorem c0:∀(more kvs:List (CK×V)),(d6 kvs more).length<=kvs.length+more.length
 | [],kvs=>by show kvs.length<=kvs.length+0;omega
 | p::r,kvs=>by
   have h1:=c0 r (dL kvs p.1 p.2);have h2:=cR kvs p.1 p.2;show(d6 (dL kvs p.1 p.2) r).length<=_;rw[DP];omega
theorem fA{P:Dq}{w:DN}:∀{kvs:List (CK×V)}{ws:List (Dc×Dc)},VV (kvs.map fun kv=>(kV kv.1,kv.2)) ws->∃rs,Carries (be P w) ws rs/\KV kvs rs
 | [],_,r=>by rw[IE]at r;cases r;exact⟨[],Gc,.nil⟩
 | p::kvs,_,r=>by
   rw[Ep]at r
   cases r with
   | @cons a b as bs h t =>
     obtain⟨rs,c,q⟩:=fA (P:=P) (w:=w) t;obtain⟨b1,b2⟩:=b;exact⟨(p.1,b2)::rs,⟨oA h.1,rfl,c⟩,.cons ⟨rfl,h.2⟩ q⟩
noncomputable def xB(trs:List (TE×TE)):TE:=fun σ H Q=>∀p,H p=none->k9 trs σ (upd H p (.dK [])) fun ps H2=>H2 p=some (.dK [])/\∃kvs:List (CK×V),ps=kvs.map (fun kv=>(kV kv.1,kv.2))/\kvs.length<=15/\Q (.ref p) (upd H2 p (.dK (d6 [] kvs)))
theorem rB{keys:List (Option Expr)}{values:List Expr}{trs:List (TE×TE)}(h:Cy X pos keys values trs)(hall:keys.all (·.isSome)=true)(hl:keys.length=values.length)(h0:keys≠[])
 (h15:keys.length<=15):PE X (.Dict keys values pos) (xB trs):=by
 intro pins s σ H Q I q;have hn:=I.hok.fresh (Dm s.heap.objs.size);have I1:=I.laid (a:=s.heap.objs.size) (o:=.dK []) (h':=s.heap.push {cls:=.type "dict", data:=.dict #[]}) (t':=s.toks) (fun _ _ q=>Db _ q) (Dm _) (oU s.heap I.big);refine wpAny_Dict_walk (knd:=be X.prog X.w) hall hl h0 h15 (A8 (h pins _ σ _ _ I1 (q _ hn)) fun ws s2 ⟨ps,H2,I2,rel,e,kvs,ep,lk,q2⟩=>?_);subst ep;obtain⟨rs,c,rk⟩:=fA (P:=X.prog) (w:=X.w) rel;obtain⟨z,hd,vs0,r0,dd⟩:=wg I2.hok e;cases r0;refine⟨rs,c,dd,fun h' dd' hs=>⟨.ref s.heap.objs.size,_,?_,rfl,q2⟩⟩
 have hz:(d6 [] kvs).length<=sizeLine:=by
  have h1:=c0 kvs [];rw[Gk]at h1;rw[GU];omega
 have he:∃q,h'.get? s.heap.objs.size=some q:=let ⟨q,_,_,hq,_⟩:=dd';⟨q,hq⟩
 exact cT I2 (by rw[e];exact Gc) hs he (dk_new hz hd (rk.merge .nil) dd')
section
variable{X:Cx}{pins:List (Addr×Obj)}{σ:St}{H:Hp}{s:Dd}{a:Addr}{y d:V}{u r:Dc}{o:Option V}{A:DM}{E:Dc->Dd->Prop}
end
section
variable{X:Cx}{o e f:Expr}{apos cpos:Pos}{td ty tx:TE}
end
section
variable{X:Cx}{pins:List (Addr×Obj)}{σ:St}{H:Hp}{s:Dd}{a:Addr}{kvs:List (CK×V)}{A:DM}{E:Dc->Dd->Prop}
end
section
variable{X:Cx}{pins:List (Addr×Obj)}{σ:St}{H:Hp}{s:Dd}{a:Addr}{y:V}{u:Dc}{A:DM}{E:Dc->Dd->Prop}
end
end L2
namespace Att
open PySem PySem.W PySem.Calls PyProof.Rows
theorem d_{P:JX}:∀(ns:List Int)(vs:List Dc),WellAll P h vs (ns.map WData.int)->Jf vs ns:=by
 intro ns
 induction ns with
 | nil =>
   intro vs w;rw[IE]at w;cases w
   exact .nil
 | cons n ns ih =>
   intro vs w;rw[Ep]at w
   cases w with
   | cons a b =>
     cases a;exact .cons _ _ (ih _ b)
theorem lg{l:JY}(hn:l.most=some n){P:JX}{args:List WData}{vals:List Dc}
 (hpre:l.row.toRowW.claim.pre args=true)(hwl:WellAll P h vals args) :
 ∃a vs ns,vals=[Dn a]/\args=[WData.list (ns.map WData.int)]/\h.get? a=some {cls:=.type "list", data:=.seq vs.toArray}/\Jf vs ns/\ns.length<=n:=by
 have hsh:WShape.hasAll [] args [.list .int]=true:=(pre_splitW hpre).1;have hc:l.pre.holds [] {args:=args}=true:=(pre_splitW hpre).2;obtain⟨d,r,rfl,h1,h2⟩:=hasAllW_cons hsh;obtain rfl:=hasAllW_nil h2;obtain⟨xs,rfl,h3⟩:=hasW_list h1;obtain⟨ns,rfl⟩:=items_int h3
 have hlen:ns.length<=n:=by
  unfold JY.pre at hc
  have h4:(WTm.not (.lt (.lit (.int (n:Int))) (.len (.arg 0)))).holds [] {args:=[.list (ns.map .int)]}=true:=by
   have h4:=(holds_andW hc).1;rw[hn]at h4;exact h4
  have h5:=condW_of h4 (w_not (w_lt w_lit (w_len_list (w_arg rfl))));rw[Di]at h5;refine Nat.le_of_not_lt fun q=>?_;have q':(n:Int)<((ns.length:Nat):Int):=by omega
  first
   | (rw[decide_eq_true q']at h5;exact absurd h5 (by decide))
   | (simp at h5;omega)
 cases hwl with
 | cons w1 w2 =>
   cases w2
   cases w1 with
   | list ho hall=>exact⟨_,_,ns,rfl,rfl,ho,d_ ns _ hall,hlen⟩
theorem lA(l:JY)(args:List WData):l.row.toRowW.claim.post args (.bool true) args=true :=
 postW_of (r:=l.row.toRowW) (X:=(true==true))
  (show WShape.has [] (.bool true) .bool=true by first|rfl|decide|simp[WShape.has,WShape.arms,WShape.armsAll])
  (show(WTm.eq .res (.lit (.bool true))).value [] {args:=args,res:=some (.bool true),after:=args}=some (.bool (true==true))from w_eq_bool (w_res rfl) w_lit) rfl
theorem attach_call{l:JY}{q:Dq}{YP:DN->Heap->Prop}{d:DefRec}
 (hn:l.most=some n)(hdf:d.params.defaults=[])
 (call:∀(w:DN)(s₀ s₁:Dd)(mg mb:Str->Option Dc)(fa:Addr)(o:Obj)(pm cd doc:Dc)(a:Addr)(vs:List Dc)(ns:List Int),
  Ground q loose [] XP w s₀ mg mb s₁.heap->YP w s₁.heap ->
  s₁.heap.get? fa=some o->o.data = .func (docDef d.name d.params d.body d.scope pm cd doc)->s₁.heap.CodeRec cd d.name->mg d.name=some (.ref fa) ->
  s₁.heap.get? a=some {cls:=.type "list", data:=.seq vs.toArray}->Jf vs ns->ns.length<=n->s₁.gens = #[] ->
  EW (Dw l.prog w) JC (.call (.ref fa) ⟨[.ref a],[]⟩) (fun r s'=>r = .ok (.ret (.bool true))/\OldK s₁.heap s'.heap/\s'.os=s₁.os/\Ib s'.gens) s₁) :
 WalkO q loose XP YP l.row.toRowW d [] (fun f vs=>PySem.call f vs):=by
 intro w s₀ s₁ mg mb G Y fa o pm cd doc dV kV ho hd hcd hD hmg hg args vals as hpre hlay hrd hwl hlo;obtain rfl:dV = .none:=Dflts.none hD hdf;obtain rfl:kV = .none:=Dflts.noKw hD;obtain⟨a,vs,ns,rfl,rfl,hobj,hints,hlen⟩:=lg hn hpre hwl;refine enter_call (FR (call w s₀ s₁ mg mb fa o pm cd doc a vs ns G Y ho (fd_plain hd) hcd hmg hobj hints hlen hg) fun r s' hq=>?_);obtain⟨rfl,h2,h3,h4⟩:=hq;exact⟨.inl ⟨.bool true,.bool true,[],rfl,fun _=>rfl,.bool true,lA l _,fun _=>⟨HW,fun _ hm=>(nomatch hm)⟩⟩,h2,h3,h4⟩
section
variable{prog:Dq}{w:DN}{A:DM}{E:Dc->Dd->Prop}{s:Dd}{K:Frag}
end
end Att
namespace L2
theorem gJ:∀{vs:List Dc}{ns:List Int},Jf vs ns->bT (ns.map V.int) vs
 | _,_,.nil=>.nil
 | _,_,.cons n t h=>.cons ⟨t,rfl⟩ (gJ h)
noncomputable def yz(H:Hp):Prop:=∀b,H b=none\/∃o xs,H b=some (.frz o (.lst xs))
theorem ot{K:W.Frag}{mb:Str->Option Dc}{CX:CZ}{k:Nat}{fa:Addr}{sp:Sp}{s₁:Dd}{vs:List Dc}
 (KX:K.In s₁.heap)(hns:s₁.heap.Ns Ds mg)(hb:s₁.heap.Ns builtinsNs mb)(hbb:∀x:Str,x ≠ "__name__" -> mb x=Fu x)(hlim:s₁.heap.NoLimit)(hg:s₁.gens = #[])
 (ha:s₁.heap.get? a=some {cls:=.type "list", data:=.seq vs.toArray})(hi:Jf vs ns)(hl:ns.length<=sizeLine)(hr:Room k JC)
 (F:∀base:Heap,K.In base->base.Ns Ds mg->FnOk P w K mg base CX k fa fd [x] sp)(hbind:∀(s:Dd)(u:Dc),JQ s fd ⟨[u],[]⟩ [(x,u)])
 (hsp:∀H:Hp,yz H->Ch K H a (ns.map V.int)->sp [.ref a] H (fun v _=>v = .bl true) fun _ _ _=>False)
 (hCX:∀H e s',CX [] H s₁ (fun _ _ _=>False) e s'->False) :
 EW (Dw P w) JC (.call (.ref fa) ⟨[.ref a],[]⟩) (fun r s'=>r = .ok (.ret (.bool true))/\OldK s₁.heap s'.heap/\s'.os=s₁.os/\Ib s'.gens) s₁:=by
 have rv:=gJ hi;have lenV:=hi.length
 have core:∀H:Hp,yz H->Ch K H a (ns.map V.int)->CW P w H s₁.heap->(∀b,H b≠none->b=a)->(H a≠none->K.lookup a=none) ->
  EW (Dw P w) JC (.call (.ref fa) ⟨[.ref a],[]⟩) (fun r s'=>r = .ok (.ret (.bool true))/\OldK s₁.heap s'.heap/\s'.os=s₁.os/\Ib s'.gens) s₁:=by
  intro H hO hS hok hA hK;have base_of:∀{b:Addr}{o:Obj},s₁.heap.get? b=some o->H b=none->(oI s₁.heap H).get? b=some o:=fun e n=>oH e n
  have noA:∀{b:Addr}{o:Obj}{es:Array Gh}{ep:Nat},s₁.heap.get? b=some o->o.data = .dict es ep->H b=none:=fun{b o es ep} e d=>by
   cases q:H b with
   | none=>rfl
   | some u =>
     have e':b=a:=hA b (by rw[q];simp);subst e';rw[ha]at e;cases e;have d':Data.seq vs.toArray _=Data.dict es ep:=d;cases d'
  have nsK:∀{b:Addr}{m:Str->Option Dc},s₁.heap.Ns b m->(oI s₁.heap H).Ns b m:=fun{b m} ⟨o,es,ep,e,d,r⟩=>⟨o,es,ep,base_of e (noA e d),d,r⟩
  have hKb:K.In (oI s₁.heap H):=fun b o e=>base_of (KX b o e) (by
   cases q:H b with
   | none=>rfl
   | some u =>
     have e':b=a:=hA b (by rw[q];simp);subst e'
     rw[hK (by rw[q];simp)]at e;cases e)
  have hM:Mod K mg (oI s₁.heap H):=⟨hKb,nsK hns,⟨mb,nsK hb,hbb⟩,let ⟨mc,h1,h2⟩:=hlim;⟨mc,nsK h1,h2⟩⟩;have e0:Env0 P w K mg (oI s₁.heap H) JC [] s₁ H:=⟨rfl,hM,fun b o e=>rN e,Nat.le_of_eq (mo _ _),trivial,fun b hb=>absurd (show b∈([]:List Addr)from hb) (by simp),hok,.of_eq hg⟩;refine FR ((F _ hKb (nsK hns)).run JC [] s₁ H ⟨[.ref a],[]⟩ [.ref a] [.ref a] _ _ hr e0 (hbind s₁ (.ref a)) (.cons rfl .nil) (hsp H hO hS)) fun r s' h=>?_
  cases r with
  | error e=>exact(hCX H e s' h).elim
  | ok fl =>
    cases fl with
    | next=>exact D9 h
    | brk=>exact D9 h
    | cont=>exact D9 h
    | ret u =>
      obtain⟨v,H',os,bare,un,hok',r',q⟩:=h;have q':v = .bl true:=q;subst q';obtain rfl:u=Gp true:=r';refine⟨rfl,OldK.of_keep fun b o e=>?_,os,bare⟩
      cases q:H b with
      | none=>exact un.keep b o e q (by intro z;exact absurd (show b∈([]:List Addr)from z) (by simp)) (by simp)
      | some u =>
        rcases hO b with z|⟨ob,xs,z⟩
        · rw[q]at z;cases z
        · have z2:=un.frzs b ob _ z;obtain⟨e1,_⟩:=hok b _ z;obtain⟨e2,_⟩:=hok' b _ z2;rw[e]at e1;cases e1;exact e2
 cases hk:K.lookup a with
 | some o =>
   have e:=KX a o hk;rw[ha]at e;cases e
   refine core (fun _=>none) (fun _=>.inl rfl) (.inr ⟨_,vs.toArray,_,hk,rfl,rfl,rfl,by rw[DA,lenV];exact hl,by simpa using rv⟩) (fun b u z=>by have z':(none:Option HO)=some u:=z;cases z') (fun b z=>absurd rfl z) fun z=>absurd rfl z
 | none =>
   refine core (fun b=>if b=a then some (.frz {cls:=.type "list", data:=.seq vs.toArray} (.lst (ns.map V.int)))else none) (fun b=>?_) (.inl (.inr ⟨{cls:=.type "list", data:=.seq vs.toArray},if_pos rfl⟩)) (fun b u z=>?_) (fun b z=>?_) fun _=>hk
   · by_cases hb:b=a
     · exact .inr ⟨_,_,if_pos hb⟩
     · exact .inl (if_neg hb)
   · by_cases hb:b=a
     · have z':=(if_pos hb).symm.trans z;cases z';subst hb;exact⟨ha,by rw[Di];exact hl,vs,_,rv,ha⟩
     · have z':=(if_neg hb).symm.trans z;cases z'
   · by_cases hb:b=a
     · exact hb
     · exact absurd (if_neg hb) z
theorem walk_of{l:W.OpenLaw}{k:Nat}{q:Dq}{YP:DN->Heap->Prop}{d:DefRec}{K:JX->W.Frag}{CX:DN->CZ}{sp:DN->Sp}
 (hn:l.most=some n)(hn2:n<=sizeLine)(hdf:d.params.defaults=[])(hr:Room k JC)
 (hY:∀(w:DN)(h:Heap),YP w h->(K w.params).In h)
 (F:∀(w:DN)(mg:Str->Option Dc)(fa:Addr)(h:Heap),(K w.params).In h->h.Ns Ds mg->mg d.name=some (.ref fa) ->
  ∃ fd:Fv,(∀(s:Dd)(u:Dc),JQ s fd ⟨[u],[]⟩ [(x,u)]) /\
    ∀base:Heap,(K w.params).In base->base.Ns Ds mg->FnOk l.prog w (K w.params) mg base (CX w) k fa fd [x] (sp w))
 (hsp:∀(w:DN)(H:Hp)(a:Addr)(ns:List Int),ns.length<=n->yz H->Ch (K w.params) H a (ns.map V.int)->sp w [.ref a] H (fun v _=>v = .bl true) fun _ _ _=>False)
 (hCX:∀(w:DN)(H:Hp)(s:Dd)(e:Dc)(s':Dd),CX w [] H s (fun _ _ _=>False) e s'->False) :
 W.WalkO q loose XP YP l.row.toRowW d [] (fun f vs=>PySem.call f vs):=by
 refine Att.attach_call hn hdf fun w s₀ s₁ mg mb fa o pm cd doc a vs ns G Y ho hd hcd hmg hobj hints hlen hg=>?_;have KX:=hY w _ Y;obtain⟨fd,hb,hF⟩:=F w mg fa _ KX G.T.g hmg;exact ot KX G.T.g G.T.b G.T.builtins G.T.nolimit hg hobj hints (Ef hlen hn2) hr hF hb (fun H hO hS=>hsp w H a ns hlen hO hS) fun H e s'=>hCX w H s₁ e s'
abbrev C2:CZ:=fun _ _ _ _ _ _=>False
abbrev E0:XK:=fun _ _ _=>False
theorem vg:fE C2 X E0:=fun _ _ _ _ _ _ _ h=>h.elim
structure Fun (K:W.Frag) (x qual:Str) (st:Stmt) (f:Addr) (fd:Fv):Prop where
 ex:∃(oc:Dc)(od:Option Addr)(kV doc pm:Dc)(an:Option Addr)(cdv ct:Dc)(osl:Array (Option Dc)),
  fd=W.fnOf x qual (defArgs st) (defBody st) (defScope st) .none kV doc pm an cdv ct/\K.lookup f=some ⟨oc,od,.func fd,osl⟩/\W.codeIn K cdv qual=true
 kp:W.keepIn K (.ref f)=true
section
variable{P:Dq}{w:DN}{K:W.Frag}{mg:Str->Option Dc}{base:Heap}
theorem Fun.ok{st:Stmt}{k:Nat}{sp:Sp}(F:Fun K x qual st f fd)(S:FnScope N ps (defScope st))(len:∀vs H Q E,sp vs H Q E->vs.length=ps.length)
 (hbody:∀(cdv:Dc)(A:DM)(outer:List Env)(s:Dd)(H:Hp)(vs:List V)(Q:VK)(E:XK),Room k (A.deeper (Hz qual (defScope st) s.heap.objs.size f cdv))->sp vs H Q E ->
  ∃t,Cv (jC C2 P w K mg base N qual (defScope st) f cdv A outer s H E).nox (defBody st) t/\t {nx:=fun _ H'=>Q .non H',rt:=Q} (start N vs) H):FnOk P w K mg base C2 (k+1) f fd ps sp:=by
 obtain⟨oc,od,kV,doc,pm,an,cdv,ct,osl,rfl,lk,hcd⟩:=F.ex;refine wc lk hcd S len fun A outer s H vs Q E hr hsp=>?_;obtain⟨t,h,q⟩:=hbody cdv A outer s H vs Q E hr hsp;exact⟨t,h.nox,q⟩
theorem Fun.binds{st:Stmt}(F:Fun K x qual st f fd)
 (h:∀(kV doc pm:Dc)(an:Option Addr)(cdv ct:Dc)(us:List Dc),us.length=ps.length->bindArgs (W.fnOf x qual (defArgs st) (defBody st) (defScope st) .none kV doc pm an cdv ct) ⟨us,[]⟩=pure (ps.zip us)):Binds K fd ps []:=by
 obtain⟨oc,od,kV,doc,pm,an,cdv,ct,osl,rfl,lk,hcd⟩:=F.ex;exact .all (h kV doc pm an cdv ct)
theorem hZ{st:Stmt}{oc:Dc}{od an:Option Addr}{osl:Array (Option Dc)}{kV doc pm cdv ct:Dc}(l:K.lookup f=some ⟨oc,od,.func (W.fnOf x qual (defArgs st) (defBody st) (defScope st) .none kV doc pm an cdv ct),osl⟩)
 (c:W.codeIn K cdv qual=true)(k:W.keepIn K (.ref f)=true):Fun K x qual st f (W.fnOf x qual (defArgs st) (defBody st) (defScope st) .none kV doc pm an cdv ct):=⟨⟨oc,od,kV,doc,pm,an,cdv,ct,osl,rfl,l,c⟩,k⟩
end
theorem sr{k:Nat}(hr:Room k A):A.units+1<Gu:=E5 (Nat.add_le_add_left (by decide:1<=64) _) hr.units
theorem lf(h:n<=1000):n<sizeLine:=E5 h (by decide)
section
variable{X:Cx}
theorem pv(i:Nat)(hN:autoParam (X.N[i]?=some x) æa._auto_1)(hv:autoParam (B8 X.env.scope x) æc._auto_1)(hd:autoParam ((x==("__debug__" : Str))=false) æb._auto_1)
 (hcd:autoParam ((x==("__classdict__" : Str))=false) æb._auto_1):PE X (.Name x pos) (xv i):=bB hN hv hd hcd
end
noncomputable def aR(H H':Hp):Prop:=∀b o,H b=some o->H' b=some o
theorem aR.refl(H:Hp):aR H H:=fun _ _ h=>h
theorem aR.trans{H1 H2:Hp}(a:aR H H1)(b:aR H1 H2):aR H H2:=fun c o h=>b c o (a c o h)
theorem aR.free(e:aR H H'){l:Addr}(h:H' l=Option.none):H l=Option.none:=by
 cases q:H l with
 | none=>rfl
 | some o =>
   rw[e l o q]at h;cases h
theorem aR.seq{K:W.Frag}{xs:List V}(e:aR H H')(h:Ch K H a xs):Ch K H' a xs:=by
 rcases h with(h|⟨o,h⟩)|h
 · exact .inl (.inl (e _ _ h))
 · exact .inl (.inr ⟨o,e _ _ h⟩)
 · exact .inr h
section
variable{X:Cx}
end
section
variable{κ:Type}[DecidableEq κ]
end
end L2
namespace L2.VL
noncomputable def RO(F:Hp)(o:HO):Prop:=∃(c:Addr)(ns:List Int)(a l t:Int),o = .dK [(E1 "cells", .ref c),(E1 "at", .int a),(E1 "left", .int l),(E1 "turn", .int t)]/\F c=some (.lst (ns.map V.int))/\ns.length<=63/\0<=a/\0<=l/\0<=t
theorem RO.mono{o:HO}(s:aR F F')(h:RO F o):RO F' o:=by
 obtain⟨c,ns,a,l,t,e,q,r⟩:=h;exact⟨c,ns,a,l,t,e,s _ _ q,r⟩
mutual
inductive Rep (K:W.Frag) (F:Hp):V->Da->Prop
 | non:Rep K F .non .none
 | bl (b:Bool):Rep K F (.bl b) (.bool b)
 | int (i:Int):Rep K F (.int i) (.int i)
 | str (x:Str):Rep K F (.str x) (.str x)
 | tup {a:Addr} {vs:List V} {ds:List Da}:Cg K F a vs->Reps K F vs ds->Rep K F (.ref a) (.tuple ds)
 | lst {a:Addr} {vs:List V} {ds:List Da}:F a=some (.lst vs)->Reps K F vs ds->Rep K F (.ref a) (.list ds)
inductive Reps (K:W.Frag) (F:Hp):List V->List Da->Prop
 | nil:Reps K F [] []
 | cons {v:V} {d:Da} {vs:List V} {ds:List Da}:Rep K F v d->Reps K F vs ds->Reps K F (v::vs) (d::ds)
end
theorem bA{K:W.Frag}{xs:List V}(e:aR H H')(h:Cg K H a xs):Cg K H' a xs:=by
 rcases h with(h|⟨o,h⟩)|h
 · exact .inl (.inl (e _ _ h))
 · exact .inl (.inr ⟨o,e _ _ h⟩)
 · exact .inr h
theorem lh{K:W.Frag}{xs:List V}(e:aR H H')(h:Ch K H a xs):Ch K H' a xs:=by
 rcases h with(h|⟨o,h⟩)|h
 · exact .inl (.inl (e _ _ h))
 · exact .inl (.inr ⟨o,e _ _ h⟩)
 · exact .inr h
mutual
theorem Rep.mono{K:W.Frag}{F F':Hp}(s:aR F F'):∀{v:V}{d:Da},Rep K F v d->Rep K F' v d
 | _,_,.non=>.non
 | _,_,.bl b=>.bl b
 | _,_,.int i=>.int i
 | _,_,.str x=>.str x
 | _,_,.tup h r=>.tup (bA s h) (Reps.mono s r)
 | _,_,.lst h r=>.lst (s _ _ h) (Reps.mono s r)
theorem Reps.mono{K:W.Frag}{F F':Hp}(s:aR F F'):∀{vs:List V}{ds:List Da},Reps K F vs ds->Reps K F' vs ds
 | _,_,.nil=>.nil
 | _,_,.cons h r=>.cons (Rep.mono s h) (Reps.mono s r)
end
theorem Reps.length{K:W.Frag}{F:Hp}:∀{vs:List V}{ds:List Da},Reps K F vs ds->vs.length=ds.length
 | _,_,.nil=>rfl
 | _,_,.cons _ r=>by simp[Reps.length r]
theorem Reps.get{K:W.Frag}{F:Hp}:∀{vs:List V}{ds:List Da}{i:Nat}{d:Da},Reps K F vs ds->ds[i]?=some d->∃v,vs[i]?=some v/\Rep K F v d
 | _,_,_,_,.nil,e=>by simp at e
 | _,_,0,_,.cons h _,e=>by simp at e;subst e;exact⟨_,rfl,h⟩
 | _,_,i+1,d,.cons _ r,e=>by
   obtain⟨v,h1,h2⟩:=Reps.get (i:=i) (d:=d) r (by simpa using e);exact⟨v,by simpa using h1,h2⟩
theorem Reps.append{K:W.Frag}{F:Hp}:∀{vs us:List V}{ds es:List Da},Reps K F vs ds->Reps K F us es->Reps K F (vs++us) (ds++es)
 | _,_,_,_,.nil,s=>s
 | _,_,_,_,.cons h r,s=>.cons h (Reps.append r s)
theorem Reps.snoc{K:W.Frag}{ds:List Da}(r:Reps K F vs ds)(h:Rep K F v d):Reps K F (vs++[v]) (ds++[d]):=r.append (.cons h .nil)
theorem Reps.take{K:W.Frag}{F:Hp}:∀{vs:List V}{ds:List Da}(n:Nat),Reps K F vs ds->Reps K F (vs.take n) (ds.take n)
 | _,_,0,_=>.nil
 | _,_,_+1,.nil=>.nil
 | _,_,n+1,.cons h r=>.cons h (Reps.take n r)
theorem Reps.drop{K:W.Frag}{F:Hp}:∀{vs:List V}{ds:List Da}(n:Nat),Reps K F vs ds->Reps K F (vs.drop n) (ds.drop n)
 | _,_,0,r=>r
 | _,_,_+1,.nil=>.nil
 | _,_,n+1,.cons _ r=>Reps.drop n r
theorem Reps.nil_iff{K:W.Frag}(h:Reps K F vs []):vs=[]:=by cases h;rfl
mutual
theorem Rep.reads{X:Cx}{pins:List (Addr×Obj)}{σ:St}{H F:Hp}{s:Dd}(I:Inv X pins σ H s)(sub:aR F H):∀{v:V}{d:Da},Rep X.K F v d->∀u,RelV v u->∃as,Reads s.heap u d as
 | _,_,.non,u,r=>by cases(show u=D3 from r);exact⟨_,.none⟩
 | _,_,.bl b,u,r=>by cases(show u=Gp b from r);exact⟨_,.bool b⟩
 | _,_,.int i,u,r=>by obtain⟨t,q⟩:=(show ∃t,u=F0 i t from r);cases q;exact⟨_,.int i t⟩
 | _,_,.str x,u,r=>by obtain⟨t,q⟩:=(show ∃t,u=HP x t from r);cases q;exact⟨_,.str x t⟩
 | _,_,.tup (a:=a) h q,u,r=>by
   cases(show u=Dn a from r);obtain⟨its,rv,⟨o,h1,h2,n,h3⟩,hz⟩:=I.tuple (bA sub h);obtain⟨as,ra⟩:=Reps.reads I sub q its rv
   exact⟨_,.tuple h1 h2 h3 (by simpa using ra)⟩
 | _,_,.lst (a:=a) h q,u,r=>by
   cases(show u=Dn a from r);obtain⟨its,rv,p,hz⟩:=I.list (.inl (.inl (sub _ _ h)));obtain⟨o,h1,h2,n,h3⟩:=p.isList;obtain⟨as,ra⟩:=Reps.reads I sub q its rv;exact⟨_,.list h1 h2 h3 (by simpa using ra)⟩
theorem Reps.reads{X:Cx}{pins:List (Addr×Obj)}{σ:St}{H F:Hp}{s:Dd}(I:Inv X pins σ H s)(sub:aR F H):∀{vs:List V}{ds:List Da},Reps X.K F vs ds->∀us,bT vs us->∃as,ReadsAll s.heap us ds as
 | _,_,.nil,us,r=>by cases r;exact⟨_,.nil⟩
 | _,_,.cons h q,us,r=>by
   cases r with
   | cons r1 r2 =>
     obtain⟨as,a1⟩:=Rep.reads I sub h _ r1;obtain⟨bs,a2⟩:=Reps.reads I sub q _ r2;exact⟨_,.cons a1 a2⟩
end
structure ReelOk (F H:Hp) (r:Addr):Prop where
 ex:∃o,H r=some o/\RO F o
noncomputable def Co(rl:Option Addr)(F H:Hp):Prop:=∀r,rl=some r->F r=none/\ReelOk F H r
theorem Co.live(h:Co rl F H)(e:rl=some r):∃o,H r=some o:=by
 obtain⟨_,⟨o,q,_⟩⟩:=h r e;exact⟨_,q⟩
structure Grow (rl:Option Addr) (F H F' H':Hp):Prop where
 same:∀b o,H b=some o->rl≠some b->H' b=some o
 fs:aR F F'
 sub:aR F' H'
 old:∀b o,H b=some o->F' b=F b
 reel:Co rl F' H'
theorem Grow.refl{rl:Option Addr}{F H:Hp}(s:aR F H)(r:Co rl F H):Grow rl F H F H:=⟨fun _ _ e _=>e,.refl F,s,fun _ _ _=>rfl,r⟩
theorem Grow.live{rl:Option Addr}{F H F' H':Hp}(g:Grow rl F H F' H'){b:Addr}{o:HO}(e:H b=some o):∃o',H' b=some o':=by
 by_cases h:rl=some b
 · exact g.reel.live h
 · exact⟨o,g.same b o e h⟩
theorem Grow.trans{rl:Option Addr}{F H F1 H1 F2 H2:Hp}(a:Grow rl F H F1 H1)(b:Grow rl F1 H1 F2 H2):Grow rl F H F2 H2 :=
 ⟨fun c o e n=>b.same c o (a.same c o e n) n,a.fs.trans b.fs,b.sub,fun c o e=>by obtain⟨o',e'⟩:=a.live e;rw[b.old c o' e',a.old c o e],b.reel⟩
theorem Grow.freeB(g:Grow rl F H F' H')(e:H' b=none):H b=none:=by
 cases q:H b with
 | none=>rfl
 | some o=>obtain⟨o',e'⟩:=g.live q;rw[e]at e';cases e'
theorem Grow.laid{o:HO}(s:aR F H)(r:Co rl F H)(n:H a=none):Grow rl F H F (upd H a o):=by
 have ne:∀b u,H b=some u->b≠a:=fun b u e=>aq e n;refine⟨fun b u e _=>by rw[ae (ne b u e)];exact e,.refl F,fun b u e=>by rw[ae (ne b u (s b u e))];exact s b u e,fun _ _ _=>rfl,fun q e=>?_⟩;obtain⟨z,⟨u,h1,h2⟩⟩:=r q e;exact⟨z,⟨u,by rw[ae (ne _ _ h1)];exact h1,h2⟩⟩
theorem Grow.data{o:HO}(s:aR F H)(r:Co rl F H)(n:H a=none):Grow rl F H (upd F a o) (upd H a o):=by
 have ne:∀b u,H b=some u->b≠a:=fun b u e=>aq e n;have neF:∀b u,F b=some u->b≠a:=fun b u e=>ne b u (s b u e);refine⟨fun b u e _=>by rw[ae (ne b u e)];exact e,fun b u e=>by rw[ae (neF b u e)];exact e,fun b u e=>?_,fun b u e=>by rw[ae (ne b u e)],fun q e=>?_⟩
 · by_cases hb:b=a
   · subst hb;rw[aj]at e ⊢;exact e
   · rw[ae hb]at e ⊢;exact s b u e
 · obtain⟨z,⟨u,h1,h2⟩⟩:=r q e;exact⟨by rw[ae (ne _ _ h1)];exact z,⟨u,by rw[ae (ne _ _ h1)];exact h1,RO.mono (fun b u e=>by rw[ae (neF b u e)];exact e) h2⟩⟩
theorem Grow.freeze{F1 H1:Hp}{o:HO}(g:Grow rl F H F1 H1)(n:H a=none)(e:H1 a=some o)(f:F1 a=none)(hr:rl≠some a):Grow rl F H (upd F1 a o) H1:=by
 have neF:∀b u,F1 b=some u->b≠a:=fun b u q z=>by subst z;rw[f]at q;cases q
 refine⟨g.same,fun b u q=>by rw[ae (neF b u (g.fs b u q))];exact g.fs b u q,fun b u q=>?_,fun b u q=>by rw[ae (aq q n)];exact g.old b u q,fun q z=>?_⟩
 · by_cases hb:b=a
   · subst hb;rw[aj]at q;rw[e];exact q
   · rw[ae hb]at q;exact g.sub b u q
 · obtain⟨z1,⟨u,h1,h2⟩⟩:=g.reel q z;exact⟨by rw[ae (fun y=>hr (by rw[<- y];exact z))];exact z1,⟨u,h1,RO.mono (fun b u e=>by rw[ae (neF b u e)];exact e) h2⟩⟩
inductive W where
 | d (x:Da)
 | ml (xs:List Da)
 | pk (xs:List Da)
 | reel
 | vv (v:V)
 | md (kvs:List (List CK×Da))
 | mk (kvs:List (CK×Da))
 | xm (kvs:List (List Int×Da))
 | nt (ds:List Da)
 | lk
 | sc (ns:List Int)
 | fd (kvs:List (CK×Da))
 | xr (kvs:List (List Int×Da))
 | fw (kvs:List (CK×Da))
 | ft (kvs:List (List CK×Da))
 | xc (x:Str) (fs:List (Str×Da))
 | dp (kvs:List (CK×Da)) (x:Da)
noncomputable def W.dat:W->Option Da
 | .d x=>some x
 | .ml xs=>some (.list xs)
 | .pk xs=>some (.list xs)
 | .nt ds=>some (.tuple ds)
 | _=>none
noncomputable def W.peek:W->W
 | .ml xs=>.pk xs
 | .md _=>.lk
 | .mk _=>.lk
 | .xm _=>.lk
 | w=>w
noncomputable def W.own:W->Bool
 | .ml _=>true
 | .md _=>true
 | .mk _=>true
 | .xm _=>true
 | _=>false
abbrev KD(K:W.Frag)(F:Hp):List (List CK×V)->List (List CK×Da)->Prop:=D0 fun p q=>p.1=q.1/\Rep K F p.2 q.2
abbrev CM(K:W.Frag)(F:Hp):List (CK×V)->List (CK×Da)->Prop:=D0 fun p q=>p.1=q.1/\Rep K F p.2 q.2
abbrev CL(K:W.Frag)(F:Hp):List (Str×V)->List (Str×Da)->Prop:=D0 fun p q=>p.1=q.1/\Rep K F p.2 q.2
noncomputable def cV(e C dx:Addr):Heap->Prop:=fun h=>∃oe vs,h.get? e=some oe/\oe.cls = .ref C/\oe.dict=some dx/\oe.data = .fields vs
noncomputable def pX(K:W.Frag)(rl:Option Addr)(F H:Hp)(v:V)(kvs:List (List CK×Da)):Prop:=∃a us,v = .ref a/\F a=none/\rl≠some a/\H a=some (.dT us)/\KD K F us kvs
noncomputable def DAt(a:Addr)(xs:List (List Int×Addr×Dc)):Heap->Prop:=fun h=>∃o es ep,h.get? a=some o/\o.ExactDict/\o.data = .dict es ep/\(∀(P:Dq)(w:DN),es.toList=xs.map (Jv (Ee (E9 P w))))/\(xs.map (·.1)).Nodup/\(a==Fh)=false/\xs.length<=sizeLine
noncomputable def DAtO(a:Addr)(u:List (List Int×Addr×Dc)×Obj):Heap->Prop:=fun h=>DAt a u.1 h/\h.get? a=some u.2
noncomputable def KX(K:W.Frag)(F:Hp):List (List Int×Addr×Dc)->List (List Int×Da)->Prop:=D0 fun p q=>p.1=q.1/\Cg K F p.2.1 (p.1.map V.int)/\∃v,RelV v p.2.2/\Rep K F v q.2
theorem KX.mono{K:W.Frag}{F F':Hp}{xs:List (List Int×Addr×Dc)}{kvs:List (List Int×Da)}(h:KX K F xs kvs)(s:aR F F'):KX K F' xs kvs:=D0.mapP h fun _ _ z=>⟨z.1,bA s z.2.1,let ⟨v,r,q⟩:=z.2.2;⟨v,r,q.mono s⟩⟩
noncomputable def i3(K:W.Frag)(rl:Option Addr)(F H:Hp)(v:V)(kvs:List (List Int×Da)):Prop:=∃a xs,v = .ref a/\F a=none/\rl≠some a/\H a=some (.ext (DAt a xs))/\KX K F xs kvs
noncomputable def pW(K:W.Frag)(rl:Option Addr)(F H:Hp)(v:V)(kvs:List (CK×Da)):Prop:=∃a us,v = .ref a/\F a=none/\rl≠some a/\H a=some (.dK us)/\CM K F us kvs
noncomputable def fF(K:W.Frag)(rl:Option Addr)(F H:Hp)(v:V)(xs:List Da):Prop:=∃a vs,v = .ref a/\F a=none/\rl≠some a/\H a=some (.lst vs)/\Reps K F vs xs
noncomputable def cE(K:W.Frag)(rl:Option Addr)(F H:Hp)(v:V):W->Prop
 | .d x=>Rep K F v x
 | .ml xs=>fF K rl F H v xs
 | .pk xs=>fF K rl F H v xs
 | .reel=>∃r,rl=some r/\v = .ref r
 | .vv u=>v=u
 | .md kvs=>pX K rl F H v kvs
 | .mk kvs=>pW K rl F H v kvs
 | .xm kvs=>i3 K rl F H v kvs
 | .nt ds=>∃a vs,v = .ref a/\F a=some (.tup vs)/\Reps K F vs ds
 | .lk=>True
 | .sc ns=>∃a,v = .ref a/\Ch K F a (ns.map V.int)
 | .fd kvs=>∃a us,v = .ref a/\F a=some (.dK us)/\CM K F us kvs
 | .xr kvs=>∃a us,v = .ref a/\F a=some (.ext (DAtO a us))/\KX K F us.1 kvs
 | .fw kvs=>∃a us o,v = .ref a/\F a=some (.frz o (.dK us))/\CM K F us kvs
 | .ft kvs=>∃a us o,v = .ref a/\F a=some (.frz o (.dT us))/\KD K F us kvs
 | .xc x fs=>∃e dx us C,v = .ref e/\W.nsIn K Ds x=some (some (.ref C))/\F e=some (.ext (cV e C dx))/\F dx=some (.xd us)/\CL K F us fs
 | .dp kvs x=>∃a b us u o,v = .ref a/\F a=some (.tup [.ref b,u])/\F b=some (.frz o (.dK us))/\CM K F us kvs/\Rep K F u x
theorem pX.grow{K:W.Frag}{kvs:List (List CK×Da)}(g:Grow rl F H F' H')(r:pX K rl F H v kvs):pX K rl F' H' v kvs:=by
 obtain⟨a,us,rfl,h1,h2,h3,h4⟩:=r;exact⟨a,us,rfl,by rw[g.old a _ h3];exact h1,h2,g.same a _ h3 h2,D0.mapP h4 fun _ _ z=>⟨z.1,z.2.mono g.fs⟩⟩
theorem pW.grow{K:W.Frag}{kvs:List (CK×Da)}(g:Grow rl F H F' H')(r:pW K rl F H v kvs):pW K rl F' H' v kvs:=by
 obtain⟨a,us,rfl,h1,h2,h3,h4⟩:=r;exact⟨a,us,rfl,by rw[g.old a _ h3];exact h1,h2,g.same a _ h3 h2,D0.mapP h4 fun _ _ z=>⟨z.1,z.2.mono g.fs⟩⟩
theorem i3.grow{K:W.Frag}(g:Grow rl F H F' H')(r:i3 K rl F H v kvs):i3 K rl F' H' v kvs:=by
 obtain⟨a,us,rfl,h1,h2,h3,h4⟩:=r;exact⟨a,us,rfl,by rw[g.old a _ h3];exact h1,h2,g.same a _ h3 h2,h4.mono g.fs⟩
theorem fF.grow{K:W.Frag}{xs:List Da}(g:Grow rl F H F' H')(r:fF K rl F H v xs):fF K rl F' H' v xs:=by
 obtain⟨a,vs,rfl,h1,h2,h3,h4⟩:=r;exact⟨a,vs,rfl,by rw[g.old a _ h3];exact h1,h2,g.same a _ h3 h2,h4.mono g.fs⟩
theorem cE.grow{K:W.Frag}{rl:Option Addr}{F H F' H':Hp}{v:V}{w:W}(g:Grow rl F H F' H')(r:cE K rl F H v w):cE K rl F' H' v w:=by
 cases w with
 | d x=>exact Rep.mono g.fs r
 | ml xs=>exact fF.grow g r
 | pk xs=>exact fF.grow g r
 | reel=>exact r
 | vv u=>exact r
 | md kvs=>exact pX.grow g r
 | mk kvs=>exact pW.grow g r
 | xm kvs=>exact i3.grow g r
 | nt ds=>obtain⟨a,vs,e,h,q⟩:=r;exact⟨a,vs,e,g.fs _ _ h,q.mono g.fs⟩
 | lk=>trivial
 | sc ns=>obtain⟨a,e,h⟩:=r;exact⟨a,e,lh g.fs h⟩
 | fd kvs=>obtain⟨a,us,e,h,q⟩:=r;exact⟨a,us,e,g.fs _ _ h,D0.mapP q fun _ _ z=>⟨z.1,z.2.mono g.fs⟩⟩
 | xr kvs=>obtain⟨a,us,e,h,q⟩:=r;exact⟨a,us,e,g.fs _ _ h,KX.mono q g.fs⟩
 | fw kvs=>obtain⟨a,us,o,e,h,q⟩:=r;exact⟨a,us,o,e,g.fs _ _ h,D0.mapP q fun _ _ z=>⟨z.1,z.2.mono g.fs⟩⟩
 | ft kvs=>obtain⟨a,us,o,e,h,q⟩:=r;exact⟨a,us,o,e,g.fs _ _ h,D0.mapP q fun _ _ z=>⟨z.1,z.2.mono g.fs⟩⟩
 | xc _ _=>obtain⟨a,dx,us,C,e,n,h1,h2,q⟩:=r;exact⟨a,dx,us,C,e,n,g.fs _ _ h1,g.fs _ _ h2,D0.mapP q fun _ _ z=>⟨z.1,z.2.mono g.fs⟩⟩
 | dp _ _=>obtain⟨a,b,us,u,o,e,h1,h2,q,z⟩:=r;exact⟨a,b,us,u,o,e,g.fs _ _ h1,g.fs _ _ h2,D0.mapP q fun _ _ z=>⟨z.1,z.2.mono g.fs⟩,z.mono g.fs⟩
theorem cE.peek{K:W.Frag}{w:W}(r:cE K rl F H v w):cE K rl F H v w.peek:=by cases w<;>first|exact r|trivial
theorem fF.rep{K:W.Frag}{xs:List Da}(s:aR F H)(r:fF K rl F H v xs):Rep K H v (.list xs):=by
 obtain⟨a,vs,rfl,h1,h2,h3,h4⟩:=r;exact .lst h3 (h4.mono s)
theorem cE.dat{K:W.Frag}{w:W}{x:Da}(s:aR F H)(r:cE K rl F H v w)(e:w.dat=some x):Rep K H v x:=by
 cases w with
 | d y=>cases e;exact Rep.mono s r
 | ml xs=>cases e;exact fF.rep s r
 | pk xs=>cases e;exact fF.rep s r
 | reel=>cases e
 | vv u=>cases e
 | md kvs=>cases e
 | mk kvs=>cases e
 | xm kvs=>cases e
 | nt ds=>cases e;obtain⟨a,vs,rfl,h,q⟩:=r;exact .tup (.inl (.inl (s _ _ h))) (q.mono s)
 | lk=>cases e
 | sc _=>cases e
 | fd _=>cases e
 | xr _=>cases e
 | fw _=>cases e
 | ft _=>cases e
 | xc _ _=>cases e
 | dp _ _=>cases e
theorem cE.items{K:W.Frag}{w:W}{xs:List Da}(s:aR F H)(r:cE K rl F H v w)(e:w.dat=some (.list xs)):∃a vs,v = .ref a/\Ch K H a vs/\Reps K F vs xs:=by
 have own:fF K rl F H v xs->∃a vs,v = .ref a/\Ch K H a vs/\Reps K F vs xs:=fun⟨a,vs,e1,_,_,e2,e3⟩=>⟨a,vs,e1,.inl (.inl e2),e3⟩
 cases w with
 | d y =>
   cases e
   cases(show Rep K F v (.list xs)from r)with
   | lst h q=>exact⟨_,_,rfl,.inl (.inl (s _ _ h)),q⟩
 | ml ys=>cases e;exact own r
 | pk ys=>cases e;exact own r
 | reel=>cases e
 | vv u=>cases e
 | md kvs=>cases e
 | mk kvs=>cases e
 | xm kvs=>cases e
 | nt ds=>cases e
 | lk=>cases e
 | sc _=>cases e
 | fd _=>cases e
 | xr _=>cases e
 | fw _=>cases e
 | ft _=>cases e
 | xc _ _=>cases e
 | dp _ _=>cases e
theorem cE.itemsT{K:W.Frag}{w:W}{xs:List Da}(s:aR F H)(r:cE K rl F H v w)(e:w.dat=some (.tuple xs)):∃a vs,v = .ref a/\Cg K H a vs/\Reps K F vs xs:=by
 cases w with
 | d y =>
   cases e
   cases(show Rep K F v (.tuple xs)from r)with
   | tup h q=>exact⟨_,_,rfl,bA s h,q⟩
 | ml ys=>cases e
 | pk ys=>cases e
 | reel=>cases e
 | vv u=>cases e
 | md kvs=>cases e
 | mk kvs=>cases e
 | xm kvs=>cases e
 | nt ds=>cases e;obtain⟨a,vs,rfl,h,q⟩:=r;exact⟨a,vs,rfl,.inl (.inl (s _ _ h)),q⟩
 | lk=>cases e
 | sc _=>cases e
 | fd _=>cases e
 | xr _=>cases e
 | fw _=>cases e
 | ft _=>cases e
 | xc _ _=>cases e
 | dp _ _=>cases e
noncomputable def dg(H:Hp)(v:V):W->Prop
 | .ml _=>∀a,v = .ref a->H a=none
 | .md _=>∀a,v = .ref a->H a=none
 | .mk _=>∀a,v = .ref a->H a=none
 | .xm _=>∀a,v = .ref a->H a=none
 | _=>True
theorem cE.live{K:W.Frag}{w:W}(r:cE K rl F H v w)(h:w.own=true):∃a o,v = .ref a/\H a=some o:=by
 cases w with
 | ml xs=>obtain⟨a,vs,e,_,_,hh,_⟩:=r;exact⟨a,_,e,hh⟩
 | md xs=>obtain⟨a,vs,e,_,_,hh,_⟩:=r;exact⟨a,_,e,hh⟩
 | mk xs=>obtain⟨a,vs,e,_,_,hh,_⟩:=r;exact⟨a,_,e,hh⟩
 | xm xs=>obtain⟨a,vs,e,_,_,hh,_⟩:=r;exact⟨a,_,e,hh⟩
 | _=>cases h
theorem dg.none{w:W}(n:dg H v w)(h:w.own=true)(e:v = .ref a):H a=none:=by
 cases w with
 | ml xs=>exact n a e
 | md xs=>exact n a e
 | mk xs=>exact n a e
 | xm xs=>exact n a e
 | _=>cases h
abbrev En:=List (Option W)
structure VR (K:W.Frag) (rl:Option Addr) (F₀ H₀ F H:Hp) (σ:St) (ρ:En):Prop where
 g:Grow rl F₀ H₀ F H
 sl:∀(i:Nat) w,ρ[i]?=some (some w)->∃v,σ[i]?=some (some v)/\cE K rl F H v w/\dg H₀ v w
 ap:∀(i j:Nat)(x y:W) v,i≠j->ρ[i]?=some (some x)->ρ[j]?=some (some y)->x.own=true->y.own=true->σ[i]?=some (some v)->σ[j]?=some (some v)->False
 np:∀(i:Nat) xs,ρ[i]?≠some (some (W.pk xs))
 len:ρ.length=σ.length
section
variable{K:W.Frag}{rl:Option Addr}{F₀ H₀ F H F' H':Hp}{σ:St}{ρ:En}
theorem VR.sub(r:VR K rl F₀ H₀ F H σ ρ):aR F H:=r.g.sub
theorem VR.reel(r:VR K rl F₀ H₀ F H σ ρ):Co rl F H:=r.g.reel
theorem VR.grow(r:VR K rl F₀ H₀ F H σ ρ)(g:Grow rl F H F' H'):VR K rl F₀ H₀ F' H' σ ρ :=
 ⟨r.g.trans g,fun i w e=>let ⟨v,e1,e2,e3⟩:=r.sl i w e;⟨v,e1,e2.grow g,e3⟩,r.ap,r.np,r.len⟩
theorem VR.set(r:VR K rl F₀ H₀ F H σ ρ){H1 F1:Hp}(g:Grow rl F H F1 H1){w:W}(rw':cE K rl F1 H1 v w)(hn:dg H v w)(hp:∀xs,w ≠ .pk xs)(i:Nat):VR K rl F₀ H₀ F1 H1 (σ.set i (some v)) (ρ.set i (some w)):=by
 have r1:=r.grow g;refine⟨r1.g,fun j w' e=>?_,fun j k xs ys u hjk e1 e2 w1 w2 s1 s2=>?_,fun j xs z=>?_,by simp[r.len]⟩
 · by_cases hj:i=j
   · subst hj
     have hi:i<ρ.length:=by
      rw[DU]at e;by_cases hi:i<ρ.length
      · exact hi
      · simp[hi]at e
     rw[Dz hi]at e;cases e;refine⟨v,by rw[Dz (by rw[<- r.len];exact hi)],rw',?_⟩
     cases w with
     | ml xs=>exact fun a ea=>r.g.freeB (hn a ea)
     | d x=>trivial
     | pk xs=>trivial
     | reel=>trivial
     | vv u=>trivial
     | md xs=>exact fun a ea=>r.g.freeB (hn a ea)
     | mk xs=>exact fun a ea=>r.g.freeB (hn a ea)
     | xm xs=>exact fun a ea=>r.g.freeB (hn a ea)
     | nt ds=>trivial
     | lk=>trivial
     | sc _=>trivial
     | fd _=>trivial
     | xr _=>trivial
     | fw _=>trivial
     | ft _=>trivial
     | xc _ _=>trivial
     | dp _ _=>trivial
   · rw[Dp hj]at e;obtain⟨u,h1,h2,h3⟩:=r1.sl j w' e;exact⟨u,by rw[Dp hj];exact h1,h2,h3⟩
 · have key:∀(k:Nat)(x y:W),ρ[k]?=some (some y)->some (some w)=some (some x)->x.own=true->y.own=true->σ[k]?=some (some v)->False:=fun k x y d2 e1 o1 o2 s2=>by
     cases e1;obtain⟨u',h1,h2,h3⟩:=r.sl k _ d2;rw[s2]at h1;cases h1;obtain⟨a,o,ea,hh⟩:=h2.live o2;rw[hn.none o1 ea]at hh;cases hh
   by_cases hj:i=j
   · subst hj;have hk:i≠k:=hjk
     have hi:i<ρ.length:=by
      rw[DU]at e1;by_cases hi:i<ρ.length
      · exact hi
      · simp[hi]at e1
     rw[Dz hi]at e1;rw[Dp hk]at e2 s2;rw[Dz (by rw[<- r.len];exact hi)]at s1;cases s1;exact key k xs ys e2 e1 w1 w2 s2
   · by_cases hk:i=k
     · subst hk
       have hi:i<ρ.length:=by
        rw[DU]at e2;by_cases hi:i<ρ.length
        · exact hi
        · simp[hi]at e2
       rw[Dz hi]at e2;rw[Dp hj]at e1 s1;rw[Dz (by rw[<- r.len];exact hi)]at s2;cases s2;exact key j ys xs e1 e2 w2 w1 s1
     · rw[Dp hj]at e1 s1;rw[Dp hk]at e2 s2;exact r.ap j k xs ys u hjk e1 e2 w1 w2 s1 s2
 · rw[DU]at z;split at z
   · split at z
     · exact hp xs (DX (DX z))
     · cases z
   · exact r.np j xs z
theorem VR.freeze(r:VR K rl F₀ H₀ F H σ ρ){i:Nat}{xs:List Da}(e:ρ[i]?=some (some (.ml xs))):∃F1,VR K rl F₀ H₀ F1 H σ (ρ.set i (some (.d (.list xs)))):=by
 obtain⟨v,h1,h2,h3⟩:=r.sl i _ e;obtain⟨a,vs,rfl,f,hr,hh,q⟩:=(show fF K rl F H v xs from h2);have hi:i<ρ.length:=(Du.mp e).1;have neF:∀b u,F b=some u->b≠a:=fun b u q z=>by subst z;rw[f]at q;cases q
 have fsm:aR F (upd F a (.lst vs)):=fun b u z=>by rw[ae (neF b u z)];exact z
 refine⟨upd F a (.lst vs),r.g.freeze (h3 a rfl) hh f hr,fun j w e1=>?_,fun j k ys zs u hjk e1 e2 w1 w2 s1 s2=>?_,fun j ys z=>?_,by simp[r.len]⟩
 · by_cases hj:i=j
   · subst hj;rw[Dz hi]at e1;cases e1;exact⟨.ref a,h1,.lst aj (q.mono fsm),trivial⟩
   · rw[Dp hj]at e1;obtain⟨u,g1,g2,g3⟩:=r.sl j w e1;refine⟨u,g1,?_,g3⟩
     have own:∀ys,(∀zs,w = .ml zs->ys=zs)->fF K rl F H u ys->(∃b,u = .ref b/\b≠a)->fF K rl (upd F a (.lst vs)) H u ys:=fun ys _ ⟨b,us,eb,f1,f2,f3,f4⟩ ⟨b',eb',ne⟩=>by
      rw[eb]at eb';cases eb';exact⟨b,us,eb,by rw[ae ne];exact f1,f2,f3,f4.mono fsm⟩
     cases w with
     | d x=>exact Rep.mono fsm g2
     | reel=>exact g2
     | vv u=>exact g2
     | ml ys =>
       obtain⟨b,us,eb,f1,f2,f3,f4⟩:=(show fF K rl F H u ys from g2);have ne:b≠a:=fun z=>r.ap i j _ _ (.ref a) hj e e1 rfl rfl h1 (by rw[g1,eb,z])
       exact⟨b,us,eb,by rw[ae ne];exact f1,f2,f3,f4.mono fsm⟩
     | pk ys=>exact absurd e1 (r.np j ys)
     | md ys =>
       obtain⟨b,us,eb,f1,f2,f3,f4⟩:=(show pX K rl F H u ys from g2);have ne:b≠a:=fun z=>r.ap i j _ _ (.ref a) hj e e1 rfl rfl h1 (by rw[g1,eb,z])
       exact⟨b,us,eb,by rw[ae ne];exact f1,f2,f3,D0.mapP f4 fun _ _ z=>⟨z.1,z.2.mono fsm⟩⟩
     | mk ys =>
       obtain⟨b,us,eb,f1,f2,f3,f4⟩:=(show pW K rl F H u ys from g2);have ne:b≠a:=fun z=>r.ap i j _ _ (.ref a) hj e e1 rfl rfl h1 (by rw[g1,eb,z])
       exact⟨b,us,eb,by rw[ae ne];exact f1,f2,f3,D0.mapP f4 fun _ _ z=>⟨z.1,z.2.mono fsm⟩⟩
     | xm ys =>
       obtain⟨b,us,eb,f1,f2,f3,f4⟩:=(show i3 K rl F H u ys from g2);have ne:b≠a:=fun z=>r.ap i j _ _ (.ref a) hj e e1 rfl rfl h1 (by rw[g1,eb,z])
       exact⟨b,us,eb,by rw[ae ne];exact f1,f2,f3,KX.mono f4 fsm⟩
     | nt ds=>obtain⟨b,us,eb,f1,f2⟩:=g2;exact⟨b,us,eb,fsm _ _ f1,f2.mono fsm⟩
     | lk=>trivial
     | sc ns=>obtain⟨b,eb,f1⟩:=g2;exact⟨b,eb,lh fsm f1⟩
     | fd kvs=>obtain⟨b,us,eb,f1,f2⟩:=g2;exact⟨b,us,eb,fsm _ _ f1,D0.mapP f2 fun _ _ z=>⟨z.1,z.2.mono fsm⟩⟩
     | xr kvs=>obtain⟨b,us,eb,f1,f2⟩:=g2;exact⟨b,us,eb,fsm _ _ f1,KX.mono f2 fsm⟩
     | fw kvs=>obtain⟨b,us,o,eb,f1,f2⟩:=g2;exact⟨b,us,o,eb,fsm _ _ f1,D0.mapP f2 fun _ _ z=>⟨z.1,z.2.mono fsm⟩⟩
     | ft kvs=>obtain⟨b,us,o,eb,f1,f2⟩:=g2;exact⟨b,us,o,eb,fsm _ _ f1,D0.mapP f2 fun _ _ z=>⟨z.1,z.2.mono fsm⟩⟩
     | xc _ _=>obtain⟨b,dx,us,C,eb,n,f1,f3,f2⟩:=g2;exact⟨b,dx,us,C,eb,n,fsm _ _ f1,fsm _ _ f3,D0.mapP f2 fun _ _ z=>⟨z.1,z.2.mono fsm⟩⟩
     | dp _ _=>obtain⟨c,b,us,u,o,eb,f1,f3,f2,z⟩:=g2;exact⟨c,b,us,u,o,eb,fsm _ _ f1,fsm _ _ f3,D0.mapP f2 fun _ _ z=>⟨z.1,z.2.mono fsm⟩,z.mono fsm⟩
 · have nd:∀(j:Nat)(y:W),(ρ.set i (some (W.d (.list xs))))[j]?=some (some y)->y.own=true->ρ[j]?=some (some y):=fun j y z o=>by
     by_cases hj:i=j
     · subst hj;rw[Dz hi]at z;cases z;cases o
     · rw[Dp hj]at z;exact z
   exact r.ap j k ys zs u hjk (nd j ys e1 w1) (nd k zs e2 w2) w1 w2 s1 s2
 · rw[DU]at z;split at z
   · first|cases z|(split at z<;>cases z)
   · exact r.np j ys z
end
abbrev TV:=En->(W->Prop)->Prop
abbrev TB:=En->(Bool->Prop)->Prop
abbrev Ca:=En->(List W->Prop)->Prop
abbrev dN(K:W.Frag)(rl:Option Addr)(F H:Hp):List V->List W->Prop:=D0 (cE K rl F H)
noncomputable def PV(X:Cx)(rl:Option Addr)(e:Expr)(f:TV):Prop:=∃t,PE X e t/\∀{F₀ H₀ F H:Hp}{σ:St}{ρ:En},VR X.K rl F₀ H₀ F H σ ρ->∀(Qd:W->Prop)(Q:VK),f ρ Qd ->
 (∀v w F' H',Grow rl F H F' H'->cE X.K rl F' H' v w->dg H v w->Qd w->Q v H')->t σ H Q
noncomputable def PB(X:Cx)(rl:Option Addr)(e:Expr)(f:TB):Prop:=∃t,PT X e t/\∀{F₀ H₀ F H:Hp}{σ:St}{ρ:En},VR X.K rl F₀ H₀ F H σ ρ->∀(Qd:Bool->Prop)(Q:Bool->Hp->Prop),f ρ Qd ->
 (∀b F' H',Grow rl F H F' H'->Qd b->Q b H')->t σ H Q
noncomputable def Cr(X:Cx)(rl:Option Addr)(es:List Expr)(f:Ca):Prop:=∃t,PA X es t/\∀{F₀ H₀ F H:Hp}{σ:St}{ρ:En},VR X.K rl F₀ H₀ F H σ ρ->∀(Qd:List W->Prop)(Q:List V->Hp->Prop),f ρ Qd ->
 (∀vs ws F' H',Grow rl F H F' H'->dN X.K rl F' H' vs ws->Qd ws->Q vs H')->t σ H Q
noncomputable def W.fz:W->W
 | .ml xs=>.d (.list xs)
 | .nt ds=>.d (.tuple ds)
 | w=>w
theorem cE.fz{K:W.Frag}{F1 H1:Hp}{w:W}(g:Grow rl F H F1 H1)(r:cE K rl F1 H1 v w)(n:dg H v w):∃F2,Grow rl F H F2 H1/\aR F1 F2/\cE K rl F2 H1 v w.fz:=by
 cases w with
 | d x=>exact⟨F1,g,.refl _,r⟩
 | pk xs=>exact⟨F1,g,.refl _,r⟩
 | reel=>exact⟨F1,g,.refl _,r⟩
 | vv u=>exact⟨F1,g,.refl _,r⟩
 | md u=>exact⟨F1,g,.refl _,r⟩
 | mk u=>exact⟨F1,g,.refl _,r⟩
 | xm u=>exact⟨F1,g,.refl _,r⟩
 | lk=>exact⟨F1,g,.refl _,r⟩
 | sc _=>exact⟨F1,g,.refl _,r⟩
 | fd _=>exact⟨F1,g,.refl _,r⟩
 | xr _=>exact⟨F1,g,.refl _,r⟩
 | fw _=>exact⟨F1,g,.refl _,r⟩
 | ft _=>exact⟨F1,g,.refl _,r⟩
 | xc _ _=>exact⟨F1,g,.refl _,r⟩
 | dp _ _=>exact⟨F1,g,.refl _,r⟩
 | nt ds=>obtain⟨a,vs,rfl,h,q⟩:=r;exact⟨F1,g,.refl _,.tup (.inl (.inl h)) q⟩
 | ml xs =>
   obtain⟨a,vs,rfl,f,hr,hh,q⟩:=(show fF K rl F1 H1 v xs from r);have neF:∀b u,F1 b=some u->b≠a:=fun b u q z=>by subst z;rw[f]at q;cases q
   have fsm:aR F1 (upd F1 a (.lst vs)):=fun b u z=>by rw[ae (neF b u z)];exact z
   exact⟨upd F1 a (.lst vs),g.freeze (n a rfl) hh f hr,fsm,.lst aj (q.mono fsm)⟩
section
variable{X:Cx}{rl:Option Addr}{a b e:Expr}{es:List Expr}{fa fb fc:TV}{fs:Ca}{pos p:Pos}
noncomputable def vC(x:Da):TV:=fun _ Q=>Q (.d x)
theorem cY{x:Da}(h:PE X e (tC v))(r:∀F,Rep X.K F v x):PV X rl e (vC x) :=
 ⟨_,h,fun R Qd Q q k=>k v (.d x) _ _ (Grow.refl R.sub R.reel) (r _) trivial q⟩
theorem ai{i:Int}{j pos}:PV X rl (.Constant (.int i) j pos) (vC (.int i)):=cY hE fun _=>.int i
theorem uY{i:Bool}{j pos}:PV X rl (.Constant (.bool i) j pos) (vC (.bool i)):=cY xW fun _=>.bl i
theorem lw{j pos}:PV X rl (.Constant .none j pos) (vC .none):=cY ve fun _=>.non
theorem gZ{j pos}:PV X rl (.Constant (.str x) j pos) (vC (.str x)):=cY dF fun _=>.str x
theorem qS{pos:Pos}(hm:X.mg x=some u)(r:RelV v u)(h:∀F,Rep X.K F v d)(hg:autoParam (Gl X x) æa._auto_1)(hd:autoParam ((x==("__debug__" : Str))=false) æb._auto_1):PV X rl (.Name x pos) (vC d) :=
 cY (iF hg hm r hd) h
noncomputable def dj(i:Nat):TV:=fun ρ Q=>∃w,ρ[i]?=some (some w)/\Q w.peek
theorem vn(i:Nat){pos:Pos}(hN:autoParam (X.N[i]?=some x) æa._auto_1)(hv:autoParam (B8 X.env.scope x) æc._auto_1)(hd:autoParam ((x==("__debug__" : Str))=false) æb._auto_1)
 (hcd:autoParam ((x==("__classdict__" : Str))=false) æb._auto_1):PV X rl (.Name x pos) (dj i) :=
 ⟨_,bB hN hv hd hcd,fun R Qd Q ⟨w,e,q⟩ k=>by
  obtain⟨v,e1,r,_⟩:=R.sl i w e;refine⟨v,e1,k v w.peek _ _ (Grow.refl R.sub R.reel) r.peek ?_ q⟩
  cases w<;>trivial⟩
noncomputable def jN:Ca:=fun _ Q=>Q []
noncomputable def ay(f:TV)(fs:Ca):Ca:=fun ρ Q=>f ρ fun w=>fs ρ fun ws=>Q (w.fz::ws)
theorem ac:Cr X rl [] jN:=⟨_,hJ,fun R Qd Q q k=>k [] [] _ _ (Grow.refl R.sub R.reel) .nil q⟩
theorem aa(h1:PV X rl e fa)(h2:Cr X rl es fs)(hs:autoParam (Dh (e::es) X.env=(false,eval e X.env)::Dh es X.env) æa._auto_1):Cr X rl (e::es) (ay fa fs):=by
 obtain⟨t,p1,k1⟩:=h1;obtain⟨ts,p2,k2⟩:=h2;refine⟨_,cP p1 p2 hs,fun R Qd Q q k=>?_⟩;refine k1 R _ _ q fun v w F1 H1 g1 r1 n1 q1=>?_;obtain⟨F2,g2,s2,r2⟩:=cE.fz g1 r1 n1;refine k2 (R.grow g2) _ _ q1 fun vs ws F3 H3 g3 r3 q3=>?_;exact k (v::vs) (w.fz::ws) F3 H3 (g2.trans g3) (.cons (r2.grow g3) r3) q3
noncomputable def B9(X:Cx)(rl:Option Addr)(r:R2)(g:W->W->(W->Prop)->Prop):Prop:=∀{F H:Hp}{x y:V}{wx wy:W}(Qd:W->Prop)(Q:VK),aR F H->Co rl F H->cE X.K rl F H x wx->cE X.K rl F H y wy->g wx wy Qd ->
 (∀v w F' H',Grow rl F H F' H'->cE X.K rl F' H' v w->dg H v w->Qd w->Q v H')->r x y H Q
noncomputable def AY(g:W->W->(W->Prop)->Prop)(fa fb:TV):TV:=fun ρ Q=>fa ρ fun x=>fb ρ fun y=>g x y Q
theorem kN{r:R2}{g:W->W->(W->Prop)->Prop}(vo:B9 X rl r g)(ha:PV X rl a fa)(hb:PV X rl b fb){e:Expr}(hp:∀ta tb,PE X a ta->PE X b tb->PE X e (Bc r ta tb)):PV X rl e (AY g fa fb):=by
 obtain⟨ta,p1,k1⟩:=ha;obtain⟨tb,p2,k2⟩:=hb;refine⟨_,hp ta tb p1 p2,fun R Qd Q q k=>?_⟩;refine k1 R _ _ q fun v w F1 H1 g1 r1 n1 q1=>?_;refine k2 (R.grow g1) _ _ q1 fun v2 w2 F2 H2 g2 r2 n2 q2=>?_
 exact vo Qd Q g2.sub g2.reel (r1.grow g2) r2 q2 fun v3 w3 F3 H3 g3 r3 n3 q3=>k v3 w3 F3 H3 ((g1.trans g2).trans g3) r3 (by
  cases w3 with
  | ml xs=>exact fun a ea=>g1.freeB (g2.freeB (n3 a ea))
  | md xs=>exact fun a ea=>g1.freeB (g2.freeB (n3 a ea))
  | mk xs=>exact fun a ea=>g1.freeB (g2.freeB (n3 a ea))
  | xm xs=>exact fun a ea=>g1.freeB (g2.freeB (n3 a ea))
  | nt _=>trivial
  | lk=>trivial
  | sc _=>trivial
  | fd _=>trivial
  | xr _=>trivial
  | fw _=>trivial
  | ft _=>trivial
  | xc _ _=>trivial
  | dp _ _=>trivial
  | d _=>trivial
  | pk _=>trivial
  | reel=>trivial
  | vv _=>trivial) q3
theorem iD{op:JJ}{r:R2}{g:W->W->(W->Prop)->Prop}(ho:CG X (GH op) r)(vo:B9 X rl r g)(ha:PV X rl a fa)(hb:PV X rl b fb):PV X rl (.BinOp a op b pos) (AY g fa fb) :=
 kN vo ha hb fun _ _ p1 p2=>xT ho p1 p2
noncomputable def gI(C:Int->Int->Prop)(g:Int->Int->Da):W->W->(W->Prop)->Prop:=fun x y Q=>∃i j,x = .d (.int i)/\y = .d (.int j)/\C i j/\Q (.d (g i j))
theorem aY{K:W.Frag}{i:Int}(h:Rep K F v (.int i)):v = .int i:=by cases h;rfl
theorem fI{C:Int->Int->Prop}{g:Int->Int->V}{gd:Int->Int->Da}(h:∀K F i j,Rep K F (g i j) (gd i j)):B9 X rl (rI C g) (gI C gd):=fun{F H x y wx wy} Qd Q s ra r1 r2 q k=>by
 obtain⟨i,j,rfl,rfl,c,q⟩:=q;exact⟨i,j,aY r1,aY r2,c,k _ (.d _) _ _ (Grow.refl s ra) (h _ _ i j) trivial q⟩
noncomputable def BW(g:Int->Int->Da):W->W->(W->Prop)->Prop:=fun x y Q=>∃i j,x = .d (.int i)/\y = .d (.int j)/\Q (.d (g i j))
theorem cA{g:Int->Int->V}{gd:Int->Int->Da}(h:∀K F i j,Rep K F (g i j) (gd i j)):B9 X rl (Bs g) (BW gd):=fun{F H x y wx wy} Qd Q s ra r1 r2 q k=>by
 obtain⟨i,j,rfl,rfl,q⟩:=q;exact⟨i,j,aY r1,aY r2,k _ (.d _) _ _ (Grow.refl s ra) (h _ _ i j) trivial q⟩
theorem v_add(ha:PV X rl a fa)(hb:PV X rl b fb):PV X rl (.BinOp a .Add b pos) (AY (BW fun i j=>.int (i+j)) fa fb):=iD vz (cA fun _ _ _ _=>.int _) ha hb
theorem v_sub(ha:PV X rl a fa)(hb:PV X rl b fb):PV X rl (.BinOp a .Sub b pos) (AY (BW fun i j=>.int (i-j)) fa fb):=iD vj (cA fun _ _ _ _=>.int _) ha hb
noncomputable def C3(i:Int):Prop:=i.natAbs<2^60000
theorem C3.bits{i:Int}(h:C3 i):Builtin.Int.intBits i<=60000:=Ja.mpr h
noncomputable def dA(i j:Int):Prop:=i.natAbs<2^64\/j.natAbs<2^64\/(C3 i/\C3 j)
theorem dA.lt{i j:Int}(h:i.natAbs<2^64):dA i j:=.inl h
theorem dA.rt{i j:Int}(h:j.natAbs<2^64):dA i j:=.inr (.inl h)
theorem dA.bb{i j:Int}(h:C3 i)(h':C3 j):dA i j:=.inr (.inr ⟨h,h'⟩)
theorem dA.ok{i j:Int}(h:dA i j):IntMulOk i j:=by
 rcases h with h|h|h
 · exact .of_left (Ja.mpr h)
 · exact .of_right (Ja.mpr h)
 · exact IntMulOk.of_le h.1.bits h.2.bits (by decide)
theorem rG:CG X (GH .Mult) (rI dA fun i j=>.int (i*j)):=By fun _ _ _ _ _ _ _ hc q=>mul_int q hc.ok
theorem v_mul(ha:PV X rl a fa)(hb:PV X rl b fb):PV X rl (.BinOp a .Mult b pos) (AY (gI dA fun i j=>.int (i*j)) fa fb):=iD rG (fI fun _ _ _ _=>.int _) ha hb
noncomputable def i5(_ j:Int):Prop:=j≠0/\j.natAbs<2^9000
theorem n8:CG X (GH .FloorDiv) (rI i5 fun i j=>.int (i.fdiv j)):=By fun _ j _ _ _ _ _ hc q=>floordiv_int hc.1 q (.inl (PyProof.noPylong_of_log2 ((Nat.log2_lt (by have:=hc.1;omega)).mpr hc.2)))
theorem v_div(ha:PV X rl a fa)(hb:PV X rl b fb):PV X rl (.BinOp a .FloorDiv b pos) (AY (gI i5 fun i j=>.int (i.fdiv j)) fa fb):=iD n8 (fI fun _ _ _ _=>.int _) ha hb
theorem v_mod(ha:PV X rl a fa)(hb:PV X rl b fb):PV X rl (.BinOp a .Mod b pos) (AY (gI (fun _ j=>j≠0) fun i j=>.int (i.fmod j)) fa fb):=iD rH (fI fun _ _ _ _=>.int _) ha hb
theorem v_pow(ha:PV X rl a fa)(hb:PV X rl b fb):PV X rl (.BinOp a .Pow b pos) (AY (gI wN fun i j=>.int (i^j.toNat)) fa fb):=iD vp (fI fun _ _ _ _=>.int _) ha hb
noncomputable def xf(fa:TV):TV:=fun ρ Q=>fa ρ fun x=>∃i,x = .d (.int i)/\Q (.d (.int (-i)))
theorem wX(ha:PV X rl a fa):PV X rl (.UnaryOp .USub a pos) (xf fa):=by
 obtain⟨ta,p1,k1⟩:=ha;refine⟨_,xS ut p1,fun R Qd Q q k=>k1 R _ _ q fun v w F1 H1 g1 r1 n1 ⟨i,ew,q1⟩=>?_⟩;subst ew;exact⟨i,aY r1,k _ (.d _) F1 H1 g1 (.int _) trivial q1⟩
theorem t_{op:CmpOp}{r:R2}{g:W->W->(W->Prop)->Prop}(ho:CG X (F_ op) r)(vo:B9 X rl r g)(hm:GI op b=false)(ha:PV X rl a fa)(hb:PV X rl b fb):PV X rl (.Compare a [op] [b] pos) (AY g fa fb) :=
 kN vo ha hb fun _ _ p1 p2=>rC ho p1 p2 hm
noncomputable def io(f:TV):TB:=fun ρ Q=>f ρ fun w=>∃k,w = .d (.bool k)/\Q k
theorem je{K:W.Frag}{i:Bool}(h:Rep K F v (.bool i)):v = .bl i:=by cases h;rfl
theorem bo{op:CmpOp}{r:R2}{g:W->W->(W->Prop)->Prop}(ho:CG X (F_ op) r)(vo:B9 X rl r g)(hm:GI op b=false)(ha:PV X rl a fa)(hb:PV X rl b fb):PB X rl (.Compare a [op] [b] pos) (io (AY g fa fb)):=by
 obtain⟨ta,p1,k1⟩:=ha;obtain⟨tb,p2,k2⟩:=hb;refine⟨_,qX ho p1 p2 hm,fun R Qd Q q k=>?_⟩;refine k1 R _ _ q fun v w F1 H1 g1 r1 n1 q1=>?_;refine k2 (R.grow g1) _ _ q1 fun v2 w2 F2 H2 g2 r2 n2 q2=>?_;refine vo _ _ g2.sub g2.reel (r1.grow g2) r2 q2 fun v3 w3 F3 H3 g3 r3 n3 ⟨kb,ew,q3⟩=>?_;subst ew;exact⟨kb,je r3,k kb F3 H3 ((g1.trans g2).trans g3) q3⟩
theorem eS(ha:PV X rl e fa)(he:autoParam (∀whole,isTrue e X.env whole=(do let v <- whole;Jw e.pos;Jx [v] (truthy v))) æd._auto_1):PB X rl e (io fa):=by
 obtain⟨ta,p1,k1⟩:=ha;refine⟨_,u0 p1 he,fun R Qd Q q k=>k1 R _ _ q fun v w F1 H1 g1 r1 n1 ⟨kb,ew,q1⟩=>?_⟩;subst ew;exact⟨kb,je r1,k kb F1 H1 g1 q1⟩
abbrev wG(p:Int->Int->Bool):=BW fun i j=>.bool (p i j)
theorem tI:B9 X rl (Bs fun i j=>.bl (decide (i<j))) (wG fun i j=>decide (i<j)):=cA fun _ _ _ _=>.bl _
theorem wT:B9 X rl (Bs fun i j=>.bl (decide (i<=j))) (wG fun i j=>decide (i<=j)):=cA fun _ _ _ _=>.bl _
theorem jM:B9 X rl (Bs fun i j=>.bl (decide (j<i))) (wG fun i j=>decide (j<i)):=cA fun _ _ _ _=>.bl _
theorem wV:B9 X rl (Bs fun i j=>.bl (decide (j<=i))) (wG fun i j=>decide (j<=i)):=cA fun _ _ _ _=>.bl _
noncomputable def xL(K:W.Frag)(neg:Bool):R2:=fun x y H Q=>∃dx dy,Rep K H x dx/\Rep K H y dy/\D4 dx=true/\D4 dy=true/\Q (.bl (if neg then !EF dx dy else EF dx dy)) H
theorem ji(hu:X.A.units+64<Gu):CG X (F_ .Eq) (xL X.K false):=by
 intro pins s σ H x y v u Q I rx ry ⟨dx,dy,h1,h2,s1,s2,q⟩;obtain⟨as,a1⟩:=Rep.reads I (.refl H) h1 v rx;obtain⟨bs,a2⟩:=Rep.reads I (.refl H) h2 u ry;exact SeqAt.compareEq_shaped a1 a2 s1 s2 hu ⟨.bl _,H,I,rfl,q⟩
theorem pF(hu:X.A.units+64<Gu):CG X (F_ .NotEq) (xL X.K true):=by
 intro pins s σ H x y v u Q I rx ry ⟨dx,dy,h1,h2,s1,s2,q⟩;obtain⟨as,a1⟩:=Rep.reads I (.refl H) h1 v rx;obtain⟨bs,a2⟩:=Rep.reads I (.refl H) h2 u ry;exact SeqAt.compareNe_shaped a1 a2 s1 s2 hu ⟨.bl _,H,I,rfl,q⟩
noncomputable def ym(neg:Bool):W->W->(W->Prop)->Prop:=fun x y Q=>∃dx dy,x.dat=some dx/\y.dat=some dy/\D4 dx=true/\D4 dy=true/\Q (.d (.bool (if neg then !EF dx dy else EF dx dy)))
theorem eR{neg:Bool}:B9 X rl (xL X.K neg) (ym neg):=fun{F H x y wx wy} Qd Q s ra r1 r2 q k=>by
 obtain⟨dx,dy,e1,e2,s1,s2,q⟩:=q;exact⟨dx,dy,r1.dat s e1,r2.dat s e2,s1,s2,k _ (.d _) _ _ (Grow.refl s ra) (.bl _) trivial q⟩
noncomputable def zC(K:W.Frag)(neg:Bool):R2:=fun x y H Q=>∃dx ys,Rep K H x dx/\(Rep K H y (.list ys)\/Rep K H y (.tuple ys))/\D4 dx=true/\Ec ys=true/\Q (.bl (if neg then !(ys.any fun z=>EF z dx)else ys.any fun z=>EF z dx)) H
theorem mh{ys:List Da}(hu:A.units+65<Gu)(h:D4 d=true):A.units+1+min (Ed ys) d.depth<Gu:=by
 have h1:=SeqAt.depth_of_shaped h;have h2:min (Ed ys) d.depth<=d.depth:=Nat.min_le_right _ _;omega
theorem lK(hu:X.A.units+65<Gu):CG X (F_ .NotIn) (zC X.K true):=by
 intro pins s σ H x y v u Q I rx ry ⟨dx,ys,h1,h2,s1,s2,q⟩;obtain⟨as,a1⟩:=Rep.reads I (.refl H) h1 v rx;rcases h2 with h2|h2
 · obtain⟨bs,a2⟩:=Rep.reads I (.refl H) h2 u ry;exact SeqAt.notIn_list_reads a2 a1 s2 (Ix s1) (mh hu s1) ⟨.bl _,H,I,rfl,q⟩
 · obtain⟨bs,a2⟩:=Rep.reads I (.refl H) h2 u ry;exact SeqAt.notIn_tuple_reads a2 a1 s2 (Ix s1) (mh hu s1) ⟨.bl _,H,I,rfl,q⟩
noncomputable def yk(neg:Bool):W->W->(W->Prop)->Prop:=fun x y Q=>∃dx ys,x.dat=some dx/\(y.dat=some (.list ys)\/y.dat=some (.tuple ys))/\D4 dx=true/\Ec ys=true/\Q (.d (.bool (if neg then !(ys.any fun z=>EF z dx)else ys.any fun z=>EF z dx)))
theorem tK{neg:Bool}:B9 X rl (zC X.K neg) (yk neg):=fun{F H x y wx wy} Qd Q s ra r1 r2 q k=>by
 obtain⟨dx,ys,e1,e2,s1,s2,q⟩:=q;exact⟨dx,ys,r1.dat s e1,e2.imp (fun e=>r2.dat s e) (fun e=>r2.dat s e),s1,s2,k _ (.d _) _ _ (Grow.refl s ra) (.bl _) trivial q⟩
noncomputable def uq(f g:TB):TB:=fun ρ Q=>f ρ fun b=>if b=true then g ρ Q else Q false
noncomputable def AX(f g:TB):TB:=fun ρ Q=>f ρ fun b=>if b=true then Q true else g ρ Q
noncomputable def zq(f:TB):TB:=fun ρ Q=>f ρ fun b=>Q (!b)
noncomputable def CF(X:Cx)(rl:Option Addr)(e:Expr)(f:TB):Prop:=∃t,PW X e t/\∀{F₀ H₀ F H:Hp}{σ:St}{ρ:En},VR X.K rl F₀ H₀ F H σ ρ->∀(Qd:Bool->Prop)(Q:Bool->Hp->Prop),f ρ Qd ->
 (∀b F' H',Grow rl F H F' H'->Qd b->Q b H')->t σ H Q
variable{f g:TB}{rest:List Expr}
theorem CF.pb(h:CF X rl e f):PB X rl e f:=let ⟨t,p,k⟩:=h;⟨t,p.pt,k⟩
theorem fJ(ha:PB X rl a f):CF X rl (.BoolOp .And [a] pos) f:=let ⟨t,p,k⟩:=ha;⟨t,qR p,k⟩
theorem tV(ha:PB X rl a f):CF X rl (.BoolOp .Or [a] pos) f:=let ⟨t,p,k⟩:=ha;⟨t,uW p,k⟩
theorem gH(ha:PB X rl a f)(hb:CF X rl (.BoolOp .And (b::rest) pos) g):CF X rl (.BoolOp .And (a::b::rest) pos) (uq f g):=by
 obtain⟨t,p,k⟩:=ha;obtain⟨t2,p2,k2⟩:=hb;refine⟨_,uX p p2,fun R Qd Q q h=>k R _ _ q fun c F1 H1 g1 q1=>?_⟩
 cases c with
 | true=>exact k2 (R.grow g1) _ _ q1 fun c F2 H2 g2 q2=>h c F2 H2 (g1.trans g2) q2
 | false=>exact h false F1 H1 g1 q1
theorem wW(ha:PB X rl a f)(hb:CF X rl (.BoolOp .Or (b::rest) pos) g):CF X rl (.BoolOp .Or (a::b::rest) pos) (AX f g):=by
 obtain⟨t,p,k⟩:=ha;obtain⟨t2,p2,k2⟩:=hb;refine⟨_,xN p p2,fun R Qd Q q h=>k R _ _ q fun c F1 H1 g1 q1=>?_⟩
 cases c with
 | true=>exact h true F1 H1 g1 q1
 | false=>exact k2 (R.grow g1) _ _ q1 fun c F2 H2 g2 q2=>h c F2 H2 (g1.trans g2) q2
theorem tW(ha:PB X rl a f):PB X rl (.UnaryOp .Not a pos) (zq f):=by
 obtain⟨t,p,k⟩:=ha;exact⟨_,u3 p,fun R Qd Q q h=>k R _ _ q fun c F1 H1 g1 q1=>h (!c) F1 H1 g1 q1⟩
noncomputable def uo(fa fb:TV):TV:=fun ρ Q=>fa ρ fun w=>∃c,w = .d (.bool c)/\if c=true then fb ρ Q else Q (.d (.bool false))
noncomputable def zp(fa fb:TV):TV:=fun ρ Q=>fa ρ fun w=>∃c,w = .d (.bool c)/\if c=true then Q (.d (.bool true))else fb ρ Q
noncomputable def nB(fa:TV):TV:=fun ρ Q=>fa ρ fun w=>∃c,w = .d (.bool c)/\Q (.d (.bool (!c)))
theorem dg.back{rl:Option Addr}{w:W}(g:Grow rl F H F' H')(n:dg H' v w):dg H v w:=by
 cases w with
 | ml xs=>exact fun a ea=>g.freeB (n a ea)
 | md xs=>exact fun a ea=>g.freeB (n a ea)
 | mk xs=>exact fun a ea=>g.freeB (n a ea)
 | xm xs=>exact fun a ea=>g.freeB (n a ea)
 | nt _=>trivial
 | lk=>trivial
 | sc _=>trivial
 | fd _=>trivial
 | xr _=>trivial
 | fw _=>trivial
 | ft _=>trivial
 | xc _ _=>trivial
 | dp _ _=>trivial
 | d _=>trivial
 | pk _=>trivial
 | reel=>trivial
 | vv _=>trivial
theorem v_not(ha:PV X rl a fa):PV X rl (.UnaryOp .Not a pos) (nB fa):=by
 obtain⟨t,p,k⟩:=ha;refine⟨_,vd p,fun R Qd Q q h=>k R _ _ q fun v w F1 H1 g1 r1 n1 ⟨c,ew,q1⟩=>?_⟩;subst ew;exact⟨c,je r1,h _ (.d _) F1 H1 g1 (.bl _) trivial q1⟩
noncomputable def A0(t:TB)(fa fb:TV):TV:=fun ρ Q=>t ρ fun c=>if c=true then fa ρ Q else fb ρ Q
theorem dS{c:Expr}(hc:PB X rl c f)(ha:PV X rl a fa)(hb:PV X rl b fb):PV X rl (.IfExp c a b pos) (A0 f fa fb):=by
 obtain⟨t,p,k⟩:=hc;obtain⟨t1,p1,k1⟩:=ha;obtain⟨t2,p2,k2⟩:=hb;refine⟨_,nZ p p1 p2,fun R Qd Q q h=>k R _ _ q fun c F1 H1 g1 q1=>?_⟩
 cases c with
 | true=>exact k1 (R.grow g1) _ _ q1 fun v w F2 H2 g2 r2 n2 q2=>h v w F2 H2 (g1.trans g2) r2 (n2.back g1) q2
 | false=>exact k2 (R.grow g1) _ _ q1 fun v w F2 H2 g2 r2 n2 q2=>h v w F2 H2 (g1.trans g2) r2 (n2.back g1) q2
noncomputable def eK:List W->Option (List Da)
 | []=>some []
 | .d x::r=>(eK r).map (x :: ·)
 | _::_=>none
theorem ck{K:W.Frag}{F H:Hp}:∀{vs:List V}{ws:List W}{ds:List Da},dN K rl F H vs ws->eK ws=some ds->Reps K F vs ds
 | _,_,_,.nil,e=>by cases e;exact .nil
 | _,.d x::ws,ds,.cons r rs,e=>by
   have e:(eK ws).map (x :: ·)=some ds:=e
   cases q:eK ws with
   | none=>rw[q]at e;cases e
   | some es=>rw[q]at e;cases e;exact .cons r (ck rs q)
 | _,.ml x::ws,ds,.cons r rs,e=>by cases(show none=some ds from e)
 | _,.pk x::ws,ds,.cons r rs,e=>by cases(show none=some ds from e)
 | _,.reel::ws,ds,.cons r rs,e=>by cases(show none=some ds from e)
 | _,.vv u::ws,ds,.cons r rs,e=>by cases(show none=some ds from e)
 | _,.md u::ws,ds,.cons r rs,e=>by cases(show none=some ds from e)
 | _,.nt u::ws,ds,.cons r rs,e=>by cases(show none=some ds from e)
 | _,.lk::ws,ds,.cons r rs,e=>by cases(show none=some ds from e)
 | _,.sc _::ws,ds,.cons r rs,e=>by cases(show none=some ds from e)
 | _,.fd _::ws,ds,.cons r rs,e=>by cases(show none=some ds from e)
 | _,.xr _::ws,ds,.cons r rs,e=>by cases(show none=some ds from e)
 | _,.xc _ _::ws,ds,.cons r rs,e=>by cases(show none=some ds from e)
 | _,.mk _::ws,ds,.cons r rs,e=>by cases(show none=some ds from e)
 | _,.xm _::ws,ds,.cons r rs,e=>by cases(show none=some ds from e)
 | _,.fw _::ws,ds,.cons r rs,e=>by cases(show none=some ds from e)
 | _,.ft _::ws,ds,.cons r rs,e=>by cases(show none=some ds from e)
 | _,.dp _ _::ws,ds,.cons r rs,e=>by cases(show none=some ds from e)
noncomputable def wu(fs:Ca):TV:=fun ρ Q=>fs ρ fun ws=>∃ds,eK ws=some ds/\ds.length<=sizeLine/\Q (.d (.tuple ds))
noncomputable def xg(fs:Ca):TV:=fun ρ Q=>fs ρ fun ws=>∃ds,eK ws=some ds/\ds.length<=sizeLine/\Q (.ml ds)
theorem bL{x1}(h:Cr X rl es fs):PV X rl (.Tuple es x1 pos) (wu fs):=by
 obtain⟨t,p,k⟩:=h;refine⟨_,pD p,fun R Qd Q q h=>k R _ _ q fun vs ws F1 H1 g1 r1 ⟨ds,e1,z,q1⟩=>?_⟩;have rs:=ck r1 e1;refine⟨by rw[rs.length];exact z,fun p hp=>?_⟩;have g2:=g1.trans (Grow.data (a:=p) (o:=.tup vs) g1.sub g1.reel hp);exact h _ (.d (.tuple ds)) _ _ g2 (.tup (.inl (.inl aj)) (rs.mono (Grow.data (o:=.tup vs) g1.sub g1.reel hp).fs)) trivial q1
theorem jh{K:W.Frag}{p:Addr}{ds:List Da}(s:aR F H)(ra:Co rl F H)(hp:H p=none)(rs:Reps K F vs ds):fF K rl F (upd H p (.lst vs)) (.ref p) ds:=by
 refine⟨p,vs,rfl,s.free hp,fun e=>?_,aj,rs⟩;obtain⟨o,q⟩:=ra.live e;rw[hp]at q;cases q
theorem cu(h:Cr X rl es fs):PV X rl (.List es pos) (xg fs):=by
 obtain⟨t,p,k⟩:=h;refine⟨_,vf p,fun R Qd Q q h=>k R _ _ q fun vs ws F1 H1 g1 r1 ⟨ds,e1,z,q1⟩=>?_⟩;have rs:=ck r1 e1;refine⟨by rw[rs.length];exact z,fun p hp=>?_⟩;exact h _ (.ml ds) _ _ (g1.trans (Grow.laid (a:=p) (o:=.lst vs) g1.sub g1.reel hp)) (jh g1.sub g1.reel hp rs) (fun a ea=>by cases ea;exact g1.freeB hp) q1
noncomputable def itemAt:Da->Int->Option Da
 | .list xs,i=>atI xs i
 | .tuple xs,i=>atI xs i
 | _,_=>none
theorem Reps.atI{K:W.Frag}{F:Hp}{vs:List V}{ds:List Da}{i:Int}{d:Da}(r:Reps K F vs ds)(e:L2.atI ds i=some d):∃v,L2.atI vs i=some v/\Rep K F v d:=by
 unfold L2.atI at e ⊢;rw[r.length]
 cases q:ixN ds.length i with
 | none=>rw[q]at e;cases e
 | some j =>
   rw[q]at e;exact r.get e
noncomputable def BU:W->W->(W->Prop)->Prop:=fun x y Q=>∃dx i z,x.dat=some dx/\y = .d (.int i)/\itemAt dx i=some z/\Q (.d z)
theorem wU:B9 X rl (Br X.K) BU:=fun{F H x y wx wy} Qd Q s ra r1 r2 q k=>by
 obtain⟨dx,i,z,e1,rfl,e3,q⟩:=q;have ey:=aY r2;subst ey
 cases dx with
 | list xs =>
   obtain⟨a,vs,rfl,sq,rs⟩:=r1.items s e1;obtain⟨v,e4,rz⟩:=Reps.atI rs e3
   exact .inl ⟨a,vs,i,v,rfl,rfl,sq,e4,k _ (.d _) _ _ (Grow.refl s ra) rz trivial q⟩
 | tuple xs =>
   obtain⟨a,vs,rfl,sq,rs⟩:=r1.itemsT s e1;obtain⟨v,e4,rz⟩:=Reps.atI rs e3
   exact .inr (.inl ⟨a,vs,i,v,rfl,rfl,sq,e4,k _ (.d _) _ _ (Grow.refl s ra) rz trivial q⟩)
 | none=>cases e3
 | bool b=>cases e3
 | int b=>cases e3
 | str b=>cases e3
 | dict b=>cases e3
theorem eJ(ha:PV X rl a fa)(hb:PV X rl b fb)(hs:autoParam (m_ b) æh._auto_1):PV X rl (.Subscript a b pos) (AY BU fa fb):=kN wU ha hb fun _ _ p1 p2=>xU vR p1 p2 hs
noncomputable def ik(X:Cx)(rl:Option Addr)(r:List V->Hp->VK->Prop)(g:List W->(W->Prop)->Prop):Prop:=∀{F H:Hp}{vs:List V}{ws:List W}(Qd:W->Prop)(Q:VK),aR F H->Co rl F H->dN X.K rl F H vs ws->g ws Qd ->
 (∀v w F' H',Grow rl F H F' H'->cE X.K rl F' H' v w->dg H v w->Qd w->Q v H')->r vs H Q
noncomputable def eL(g:List W->(W->Prop)->Prop)(fs:Ca):TV:=fun ρ Q=>fs ρ fun ws=>g ws Q
theorem ja{r:List V->Hp->VK->Prop}{g:List W->(W->Prop)->Prop}{t:TA->TE}(vc:ik X rl r g)(ha:Cr X rl es fs){e:Expr}(hp:∀ta,PA X es ta->PE X e (Bf r ta)):PV X rl e (eL g fs):=by
 obtain⟨ta,p1,k1⟩:=ha;refine⟨_,hp ta p1,fun R Qd Q q k=>k1 R _ _ q fun vs ws F1 H1 g1 r1 q1=>?_⟩;exact vc Qd Q g1.sub g1.reel r1 q1 fun v w F2 H2 g2 r2 n2 q2=>k v w F2 H2 (g1.trans g2) r2 (n2.back g1) q2
theorem fO{id:String}{r:List V->Hp->VK->Prop}{g:List W->(W->Prop)->Prop}(hc:eG X (.builtin id) r)(vc:ik X rl r g)(hm:X.mg x=none)(hv:Fu x=some (.builtin id))(ha:Cr X rl (e::es) fs)(hg:autoParam (Gl X x) æa._auto_1)(hn:autoParam (x ≠ "__name__") æb._auto_1)(hdb:autoParam ((x==("__debug__" : Str))=false) æb._auto_1)
 (he:autoParam (Dh (e::es) X.env=(false,eval e X.env)::Dh es X.env) æa._auto_1)(hpl:autoParam ((ES pos (Dh es X.env)).any (·.1)=false) æa._auto_1):PV X rl (.Call (.Name x p) (e::es) [] pos) (eL g fs) :=
 ja (t:=fun _=>tC .non) vc ha fun _ p1=>n6 hc hg hm hv p1 hn hdb he hpl
theorem jc{T:String}{r:List V->Hp->VK->Prop}{g:List W->(W->Prop)->Prop}(hc:eG X (.type T) r)(vc:ik X rl r g)(hm:X.mg x=none)(hv:Fu x=some (.type T))(ha:Cr X rl (e::es) fs)(hg:autoParam (Gl X x) æa._auto_1)(hn:autoParam (x ≠ "__name__") æb._auto_1)(hdb:autoParam ((x==("__debug__" : Str))=false) æb._auto_1)
 (he:autoParam (Dh (e::es) X.env=(false,eval e X.env)::Dh es X.env) æa._auto_1)(hpl:autoParam ((ES pos (Dh es X.env)).any (·.1)=false) æa._auto_1):PV X rl (.Call (.Name x p) (e::es) [] pos) (eL g fs) :=
 ja (t:=fun _=>tC .non) vc ha fun _ p1=>hG hc hg hm hv p1 hn hdb he hpl
theorem nM{K:W.Frag}{w:W}(r:dN K rl F H vs [w]):∃v,vs=[v]/\cE K rl F H v w:=by
 cases r with
 | cons r1 r2=>cases r2;exact⟨_,rfl,r1⟩
theorem zy{K:W.Frag}{w w':W}(r:dN K rl F H vs [w,w']):∃v u,vs=[v,u]/\cE K rl F H v w/\cE K rl F H u w':=by
 cases r with
 | cons r1 r2 =>
   cases r2 with
   | cons r3 r4=>cases r4;exact⟨_,_,rfl,r1,r3⟩
noncomputable def wI:List W->(W->Prop)->Prop:=fun ws Q=>∃i,ws=[.d (.int i)]/\Q (.d (.int (if i<0 then -i else i)))
theorem tU:ik X rl (fun xs H Q=>∃i,xs=[.int i]/\Q (.int (if i<0 then -i else i)) H) wI:=fun{F H vs ws} Qd Q s ra r ⟨i,ew,q⟩ k=>by
 subst ew;obtain⟨v,rfl,r1⟩:=nM r;have e:=aY r1;subst e;exact⟨i,rfl,k _ (.d _) _ _ (Grow.refl s ra) (.int _) trivial q⟩
noncomputable def pH:Da->Option Nat
 | .list xs=>some xs.length
 | .tuple xs=>some xs.length
 | _=>none
noncomputable def wD:List W->(W->Prop)->Prop:=fun ws Q=>∃w d n,ws=[w]/\w.dat=some d/\pH d=some n/\Q (.d (.int n))
theorem tT:ik X rl (fun xs H Q=>∃p ys,xs=[.ref p]/\(Ch X.K H p ys\/Cg X.K H p ys)/\Q (.int ys.length) H) wD:=fun{F H vs ws} Qd Q s ra r ⟨w,d,n,ew,e1,e2,q⟩ k=>by
 subst ew;obtain⟨v,rfl,r1⟩:=nM r
 cases d with
 | list xs =>
   obtain⟨a,vs,rfl,sq,rs⟩:=r1.items s e1;cases e2
   exact⟨a,vs,rfl,.inl sq,k _ (.d _) _ _ (Grow.refl s ra) (by rw[rs.length];exact .int _) trivial q⟩
 | tuple xs =>
   obtain⟨a,vs,rfl,sq,rs⟩:=r1.itemsT s e1;cases e2
   exact⟨a,vs,rfl,.inr sq,k _ (.d _) _ _ (Grow.refl s ra) (by rw[rs.length];exact .int _) trivial q⟩
 | none=>cases e2
 | bool b=>cases e2
 | int b=>cases e2
 | str b=>cases e2
 | dict b=>cases e2
end
structure VEnds where
 nx:En->Prop
 rt:W->Prop
 bk:En->Prop:=fun _=>False
 ct:En->Prop:=fun _=>False
structure EndsOk (K:W.Frag) (rl:Option Addr) (F₀ H₀ Fs:Hp) (Dv:VEnds) (D:Ends):Prop where
 nx:∀F H σ ρ,aR Fs F->VR K rl F₀ H₀ F H σ ρ->Dv.nx ρ->D.nx σ H
 rt:∀v w F H,Grow rl F₀ H₀ F H->cE K rl F H v w->dg H₀ v w->Dv.rt w->D.rt v H
 bk:∀F H σ ρ,aR Fs F->VR K rl F₀ H₀ F H σ ρ->Dv.bk ρ->D.bk σ H
 ct:∀F H σ ρ,aR Fs F->VR K rl F₀ H₀ F H σ ρ->Dv.ct ρ->D.ct σ H
theorem EndsOk.on{K:W.Frag}{Fs:Hp}{Dv:VEnds}{D:Ends}(ok:EndsOk K rl F₀ H₀ Fs Dv D)(s:aR Fs F):EndsOk K rl F₀ H₀ F Dv D :=
 ⟨fun F1 H σ ρ s1=>ok.nx F1 H σ ρ (s.trans s1),ok.rt,fun F1 H σ ρ s1=>ok.bk F1 H σ ρ (s.trans s1),fun F1 H σ ρ s1=>ok.ct F1 H σ ρ (s.trans s1)⟩
abbrev Cb:=VEnds->En->Prop
noncomputable def Cw(X:Cx)(rl:Option Addr)(st:Stmt)(t:Cb):Prop:=∃T,PS X st T/\∀{F₀ H₀ F H:Hp}{σ:St}{ρ:En},VR X.K rl F₀ H₀ F H σ ρ->∀Dv D,EndsOk X.K rl F₀ H₀ F Dv D->t Dv ρ->T D σ H
noncomputable def il(X:Cx)(rl:Option Addr)(st:List Stmt)(t:Cb):Prop:=∃T,Cv X st T/\∀{F₀ H₀ F H:Hp}{σ:St}{ρ:En},VR X.K rl F₀ H₀ F H σ ρ->∀Dv D,EndsOk X.K rl F₀ H₀ F Dv D->t Dv ρ->T D σ H
section
variable{X:Cx}{rl:Option Addr}{st:Stmt}{rest body:List Stmt}{t u:Cb}{a b c e:Expr}{es:List Expr}{fa fb:TV}{fs:Ca}{f:TB}{pos p:Pos}
noncomputable def uh:Cb:=fun D ρ=>D.nx ρ
noncomputable def uc(t u:Cb):Cb:=fun D ρ=>t {D with nx:=u D} ρ
theorem dB:il X rl [] uh:=⟨_,ly,fun R Dv D ok q=>ok.nx _ _ _ _ (.refl _) R q⟩
theorem av(h:Cw X rl st t):il X rl [st] t:=let ⟨T,p,k⟩:=h;⟨T,dZ p,k⟩
theorem ak(h:Cw X rl st t)(h2:il X rl rest u):il X rl (st::rest) (uc t u):=by
 obtain⟨T,p,k⟩:=h;obtain⟨T2,p2,k2⟩:=h2;exact⟨_,fV p p2,fun R Dv D ok q=>k R {Dv with nx:=u Dv} {D with nx:=T2 D} ⟨fun F H σ ρ s' R' q'=>k2 R' Dv D (ok.on s') q',ok.rt,ok.bk,ok.ct⟩ q⟩
noncomputable def xn(fa:TV):Cb:=fun D ρ=>fa ρ fun _=>D.nx ρ
noncomputable def xa(fa:TV):Cb:=fun D ρ=>fa ρ D.rt
theorem aS(h:PV X rl e fa):Cw X rl (.Return (some e) pos) (xa fa):=by
 obtain⟨t,p,k⟩:=h;exact⟨_,pC p,fun R Dv D ok q=>k R _ _ q fun v w F1 H1 g1 r1 n1 q1=>ok.rt v w F1 H1 (R.g.trans g1) r1 (n1.back R.g) q1⟩
noncomputable def w_:Cb:=fun D _=>D.rt (.d .none)
noncomputable def xi(f:TB)(t u:Cb):Cb:=fun D ρ=>f ρ fun b=>if b=true then t D ρ else u D ρ
theorem gF{A B:List Stmt}(hc:PB X rl c f)(ha:il X rl A t)(hb:il X rl B u):Cw X rl (.If c A B pos) (xi f t u):=by
 obtain⟨t0,p0,k0⟩:=hc;obtain⟨t1,p1,k1⟩:=ha;obtain⟨t2,p2,k2⟩:=hb;refine⟨_,u6 p0 p1 p2,fun R Dv D ok q=>k0 R _ _ q fun b F1 H1 g1 q1=>?_⟩
 cases b with
 | true=>exact k1 (R.grow g1) Dv D (ok.on g1.fs) q1
 | false=>exact k2 (R.grow g1) Dv D (ok.on g1.fs) q1
noncomputable def W.isPk:W->Bool
 | .pk _=>true
 | _=>false
noncomputable def sW(i:Nat)(fa:TV):Cb:=fun D ρ=>fa ρ fun w=>w.isPk=false/\D.nx (ρ.set i (some w))
theorem cJ(i:Nat)(hN:X.N.Nodup)(he:PV X rl e fa)(hi:autoParam (X.N[i]?=some x) æa._auto_1)(hx:autoParam (Loc X.env.scope x) æe._auto_1)
 (hs:autoParam (ET e (some (.Name x pos')) pos.line X.env=pure false) æa._auto_1)(hf:autoParam (X.fn x=true\/X.env.scope.names.lookup x=some .local) æf._auto_1) :
 Cw X rl (.Assign [.Name x pos'] e pos) (sW i fa):=by
 obtain⟨t,p,k⟩:=he;refine⟨_,eY hN hi hx p hs hf,fun R Dv D ok q=>k R _ _ q fun v w F1 H1 g1 r1 n1 ⟨hp,q1⟩=>?_⟩;exact ok.nx _ _ _ _ g1.fs (R.set g1 r1 n1 (fun xs z=>by subst z;cases hp) i) q1
noncomputable def ko(ρ:En):Prop:=∀(i:Nat)(w:W),ρ[i]?=some (some w)->w.own=false
theorem ko.set{ρ:En}(h:ko ρ)(i:Nat)(x:Da):ko (ρ.set i (some (.d x))):=fun j w z=>by
 rw[DU]at z;split at z
 · split at z
   · cases z;rfl
   · cases z
 · exact h j w z
abbrev Ce:=Da->En->(En->Prop)->Prop
abbrev kE:=List Da->En->(En->Prop)->Prop
noncomputable def CD(X:Cx)(rl:Option Addr)(tg:Expr)(g:Ce):Prop:=∃G,PG X tg G/\∀{F₀ H₀ F H:Hp}{σ:St}{ρ:En},VR X.K rl F₀ H₀ F H σ ρ->∀(v:V)(x:Da)(Qd:En->Prop)(Q:St->Hp->Prop),Rep X.K F v x->g x ρ Qd ->
 (∀F' H' σ' ρ',Grow rl F H F' H'->(ko ρ->ko ρ')->VR X.K rl F₀ H₀ F' H' σ' ρ'->Qd ρ'->Q σ' H')->G v σ H Q
noncomputable def wL(X:Cx)(rl:Option Addr)(tgs:List Expr)(g:kE):Prop:=∃G,CC X tgs G/\∀{F₀ H₀ F H:Hp}{σ:St}{ρ:En},VR X.K rl F₀ H₀ F H σ ρ->∀(vs:List V)(xs:List Da)(Qd:En->Prop)(Q:St->Hp->Prop),Reps X.K F vs xs->g xs ρ Qd ->
 (∀F' H' σ' ρ',Grow rl F H F' H'->(ko ρ->ko ρ')->VR X.K rl F₀ H₀ F' H' σ' ρ'->Qd ρ'->Q σ' H')->G vs σ H Q
noncomputable def sv(i:Nat):Ce:=fun x ρ Q=>Q (ρ.set i (some (.d x)))
theorem ax(i:Nat)(hN:X.N.Nodup)(hi:autoParam (X.N[i]?=some x) æa._auto_1)(hx:autoParam (Loc X.env.scope x) æe._auto_1)(hf:autoParam (X.fn x=true\/X.env.scope.names.lookup x=some .local) æf._auto_1):CD X rl (.Name x pos) (sv i) :=
 ⟨_,rq hN hi hx hf,fun R v x Qd Q r q k=>k _ _ _ _ (Grow.refl R.sub R.reel) (fun n=>n.set i x) (R.set (w:=.d x) (Grow.refl R.sub R.reel) r trivial (fun _ z=>by cases z) i) q⟩
noncomputable def yh:kE:=fun xs ρ Q=>xs=[]/\Q ρ
noncomputable def oK(g:Ce)(gs:kE):kE:=fun xs ρ Q=>∃y r,xs=y::r/\g y ρ fun ρ'=>gs r ρ' Q
theorem qq:wL X rl [] yh:=⟨_,ro,fun R vs xs Qd Q r ⟨e,q⟩ k=>by subst e;exact⟨r.nil_iff,k _ _ _ _ (Grow.refl R.sub R.reel) (fun n=>n) R q⟩⟩
theorem i_{g:Ce}{gs:kE}(h1:CD X rl e g)(h2:wL X rl es gs)(hs:autoParam ((GD (e::es) X.env).map (·.2)=G_ e X.env::(GD es X.env).map (·.2)) æa._auto_1):wL X rl (e::es) (oK g gs):=by
 obtain⟨G,p,k⟩:=h1;obtain⟨G2,p2,k2⟩:=h2;refine⟨_,nV p p2 hs,fun R vs xs Qd Q r ⟨y,ys,ex,q⟩ h=>?_⟩;subst ex
 cases r with
 | cons r1 r2 =>
   refine⟨_,_,rfl,k R _ y _ _ r1 q fun F1 H1 σ1 ρ1 s1 n1 R1 q1=>?_⟩;exact k2 R1 _ ys _ _ (r2.mono s1.fs) q1 fun F2 H2 σ2 ρ2 s2 n2 R2 q2=>h F2 H2 σ2 ρ2 (s1.trans s2) (fun n=>n2 (n1 n)) R2 q2
noncomputable def yg(n:Nat)(gs:kE):Ce:=fun x ρ Q=>∃xs,x = .tuple xs/\xs.length=n/\gs xs ρ Q
theorem tR{kk:Nat}{gs:kE}(hc:X.calm=true)(h:wL X rl es gs)(hn:autoParam ((GD es X.env).length=n) æa._auto_1)(hst:autoParam ((GD es X.env).findIdx? (·.1)=none) æa._auto_1):CD X rl (.Tuple es kk pos) (yg n gs):=by
 obtain⟨G,p,k⟩:=h;refine⟨_,vb hc p hn hst,fun R v x Qd Q r ⟨xs,ex,hl,q⟩ h=>?_⟩;subst ex
 cases r with
 | tup sq rs=>exact⟨_,_,rfl,bA R.sub sq,by rw[rs.length];exact hl,k R _ xs _ _ rs q h⟩
noncomputable def zt(fa:TV)(g:Ce):Cb:=fun D ρ=>fa ρ fun w=>∃x,w = .d x/\g x ρ D.nx
noncomputable def zo(i j:Nat)(fs:Ca):Cb:=fun D ρ=>fs ρ fun ws=>∃x y,eK ws=some [x,y]/\D.nx ((ρ.set i (some (.d x))).set j (some (.d y)))
theorem o9(i j:Nat){y:Str}{py pt:Pos}{kt k2 pt2}(hc:X.calm=true)(hN:X.N.Nodup)(ha:Cr X rl [a,b] fs)
 (hw:autoParam (swappedStores [.Tuple [.Name x px,.Name y py] kt pt] (.Tuple [a,b] k2 pt2) X.env=pure (some [x,y])) æa._auto_1)(hi:autoParam (X.N[i]?=some x) æa._auto_1)(hj:autoParam (X.N[j]?=some y) æa._auto_1)(hij:autoParam (i≠j) æb._auto_1)
 (hx:autoParam (X.env.scope.names.lookup x=some .local) æa._auto_1)(hy:autoParam (X.env.scope.names.lookup y=some .local) æa._auto_1)
 (hs:autoParam (swapsWithSole [.Tuple [.Name x px,.Name y py] kt pt] (.Tuple [a,b] k2 pt2) pos.line X.env=pure false) æa._auto_1) :
 Cw X rl (.Assign [.Tuple [.Name x px,.Name y py] kt pt] (.Tuple [a,b] k2 pt2) pos) (zo i j fs):=by
 obtain⟨t,p,k⟩:=ha;refine⟨_,u4 hc hN hi hj hij hx hy p hw hs,fun R Dv D ok q=>k R _ _ q fun vs ws F1 H1 g1 r1 ⟨x,y,e1,q1⟩=>?_⟩;have rs:=ck r1 e1
 cases rs with
 | cons rx rs =>
   cases rs with
   | cons ry rs =>
     cases rs;have R1:=(R.grow g1).set (w:=.d x) (Grow.refl g1.sub g1.reel) rx trivial (fun _ z=>by cases z) i;exact⟨_,_,rfl,ok.nx _ _ _ _ g1.fs (R1.set (w:=.d y) (Grow.refl g1.sub g1.reel) ry trivial (fun _ z=>by cases z) j) q1⟩
structure VIt (K:W.Frag) (rl:Option Addr) (F:Hp) (J:It) (xs:List Da):Prop where
 go:∀i H x,xs[i]?=some x->aR F H->J.go i H
 stop:∀i H,xs.length<=i->aR F H->J.stop i H
 yld:∀i H v H' x F2,xs[i]?=some x->aR F F2->aR F2 H->Co rl F2 H->J.yld i H v H'->∃F3,Grow rl F2 H F3 H'/\Rep K F3 v x
theorem VIt.of{K:W.Frag}{rl:Option Addr}{J:It}{xs:List Da}(go:∀i H x,xs[i]?=some x->aR F H->J.go i H)(stop:∀i H,xs.length<=i->aR F H->J.stop i H)
 (yld:∀i H v H' x,xs[i]?=some x->aR F H->J.yld i H v H'->H'=H/\Rep K F v x):VIt K rl F J xs :=
 ⟨go,stop,fun i H v H' x F2 e s s2 ra y=>by
  obtain⟨e1,r⟩:=yld i H v H' x e (s.trans s2) y;subst e1
  exact⟨F2,Grow.refl s2 ra,r.mono s⟩⟩
noncomputable def CA(X:Cx)(rl:Option Addr)(tg iter:Expr)(fi:En->(List Da->Prop)->Prop):Prop:=∃wi,PI X tg iter wi/\∀{F₀ H₀ F H:Hp}{σ:St}{ρ:En},VR X.K rl F₀ H₀ F H σ ρ->∀(Qd:List Da->Prop)(R:It->Hp->Prop),fi ρ Qd ->
 (∀J xs F' H',Grow rl F H F' H'->VIt X.K rl F' J xs->Qd xs->R J H')->wi σ H R
end
section
variable{X:Cx}{rl:Option Addr}{st:Stmt}{rest body:List Stmt}{t u:Cb}{a b c e:Expr}{es:List Expr}{fa fb:TV}{fs:Ca}{f:TB}{pos p:Pos}{tg:Expr}
noncomputable def xj(i:Nat)(t:Cb):Cb:=fun D ρ=>∃xs,ρ[i]?=some (some (.ml xs))/\t D (ρ.set i (some (.d (.list xs))))
theorem oR{K:W.Frag}{ρ:En}(r:VR K rl F₀ H₀ F H σ ρ){xs:List Da}(e:ρ[i]?=some (some (.ml xs))):∃F1,aR F F1/\VR K rl F₀ H₀ F1 H σ (ρ.set i (some (.d (.list xs)))):=by
 obtain⟨v,h1,h2,h3⟩:=r.sl i _ e;obtain⟨a,vs,ev,f,hr,hh,q⟩:=(show fF K rl F H v xs from h2);obtain⟨F1,R1⟩:=r.freeze e;obtain⟨v',k1,k2,k3⟩:=R1.sl i _ (Dz (Du.mp e).1);have neF:∀b u,F b=some u->b≠a:=fun b u q z=>by subst z;rw[f]at q;cases q
 have fsm:aR F (upd F a (.lst vs)):=fun b u z=>by rw[ae (neF b u z)];exact z
 have hi:i<ρ.length:=(Du.mp e).1;refine⟨upd F a (.lst vs),fsm,r.g.freeze (h3 a ev) hh f hr,fun j w e1=>?_,R1.ap,R1.np,R1.len⟩;by_cases hj:i=j
 · subst hj;rw[Dz hi]at e1;cases e1;exact⟨v,h1,by rw[ev];exact .lst aj (q.mono fsm),trivial⟩
 · rw[Dp hj]at e1;obtain⟨u,g1,g2,g3⟩:=r.sl j w e1;refine⟨u,g1,?_,g3⟩
   cases w with
   | d x=>exact Rep.mono fsm g2
   | reel=>exact g2
   | vv u=>exact g2
   | ml ys =>
     obtain⟨b,us,eb,f1,f2,f3,f4⟩:=(show fF K rl F H u ys from g2);have ne:b≠a:=fun z=>r.ap i j _ _ v hj e e1 rfl rfl h1 (by rw[g1,eb,z,ev])
     exact⟨b,us,eb,by rw[ae ne];exact f1,f2,f3,f4.mono fsm⟩
   | pk ys=>exact absurd e1 (r.np j ys)
   | md ys =>
     obtain⟨b,us,eb,f1,f2,f3,f4⟩:=(show pX K rl F H u ys from g2);have ne:b≠a:=fun z=>r.ap i j _ _ v hj e e1 rfl rfl h1 (by rw[g1,eb,z,ev])
     exact⟨b,us,eb,by rw[ae ne];exact f1,f2,f3,D0.mapP f4 fun _ _ z=>⟨z.1,z.2.mono fsm⟩⟩
   | mk ys =>
     obtain⟨b,us,eb,f1,f2,f3,f4⟩:=(show pW K rl F H u ys from g2);have ne:b≠a:=fun z=>r.ap i j _ _ v hj e e1 rfl rfl h1 (by rw[g1,eb,z,ev])
     exact⟨b,us,eb,by rw[ae ne];exact f1,f2,f3,D0.mapP f4 fun _ _ z=>⟨z.1,z.2.mono fsm⟩⟩
   | xm ys =>
     obtain⟨b,us,eb,f1,f2,f3,f4⟩:=(show i3 K rl F H u ys from g2);have ne:b≠a:=fun z=>r.ap i j _ _ v hj e e1 rfl rfl h1 (by rw[g1,eb,z,ev])
     exact⟨b,us,eb,by rw[ae ne];exact f1,f2,f3,KX.mono f4 fsm⟩
   | nt ds=>obtain⟨b,us,eb,f1,f2⟩:=g2;exact⟨b,us,eb,fsm _ _ f1,f2.mono fsm⟩
   | lk=>trivial
   | sc ns=>obtain⟨b,eb,f1⟩:=g2;exact⟨b,eb,lh fsm f1⟩
   | fd kvs=>obtain⟨b,us,eb,f1,f2⟩:=g2;exact⟨b,us,eb,fsm _ _ f1,D0.mapP f2 fun _ _ z=>⟨z.1,z.2.mono fsm⟩⟩
   | xr kvs=>obtain⟨b,us,eb,f1,f2⟩:=g2;exact⟨b,us,eb,fsm _ _ f1,KX.mono f2 fsm⟩
   | fw kvs=>obtain⟨b,us,o,eb,f1,f2⟩:=g2;exact⟨b,us,o,eb,fsm _ _ f1,D0.mapP f2 fun _ _ z=>⟨z.1,z.2.mono fsm⟩⟩
   | ft kvs=>obtain⟨b,us,o,eb,f1,f2⟩:=g2;exact⟨b,us,o,eb,fsm _ _ f1,D0.mapP f2 fun _ _ z=>⟨z.1,z.2.mono fsm⟩⟩
   | xc _ _=>obtain⟨b,dx,us,C,eb,n,f1,f3,f2⟩:=g2;exact⟨b,dx,us,C,eb,n,fsm _ _ f1,fsm _ _ f3,D0.mapP f2 fun _ _ z=>⟨z.1,z.2.mono fsm⟩⟩
   | dp _ _=>obtain⟨c,b,us,u,o,eb,f1,f3,f2,z⟩:=g2;exact⟨c,b,us,u,o,eb,fsm _ _ f1,fsm _ _ f3,D0.mapP f2 fun _ _ z=>⟨z.1,z.2.mono fsm⟩,z.mono fsm⟩
theorem kM(i:Nat)(h:Cw X rl st t):Cw X rl st (xj i t):=by
 obtain⟨T,p,k⟩:=h;refine⟨T,p,fun R Dv D ok ⟨xs,e,q⟩=>?_⟩;obtain⟨F1,s1,R1⟩:=oR R e;exact k R1 Dv D (ok.on s1) q
noncomputable def iL(fa:TV):En->(List Da->Prop)->Prop:=fun ρ Q=>fa ρ fun w=>∃xs,w.fz = .d (.list xs)/\Q xs
noncomputable def iT(fa:TV):En->(List Da->Prop)->Prop:=fun ρ Q=>fa ρ fun w=>∃xs,w.fz = .d (.tuple xs)/\Q xs
theorem cL{l:Expr}(hl:PV X rl l fa):CA X rl tg l (iL fa):=by
 obtain⟨t,p,k⟩:=hl;refine⟨_,lF p,fun R Qd Q q h=>k R _ _ q fun v w F1 H1 g1 r1 n1 ⟨xs,ew,q1⟩=>?_⟩;obtain⟨F2,g2,s2,r2⟩:=cE.fz g1 r1 n1;rw[ew]at r2
 cases(show Rep X.K F2 v (.list xs)from r2)with
 | @lst a vs _ sq rs =>
   have sqH:∀H,aR F2 H->Ch X.K H a vs:=fun H s=>.inl (.inl (s _ _ sq));refine⟨a,rfl,⟨vs,sqH H1 g2.sub⟩,h _ xs F2 H1 g2 (.of (fun i H x e s=>?_) (fun i H hl s=>⟨vs,sqH H s,by rw[rs.length];exact hl⟩) (fun i H v H' x e s y=>?_)) q1⟩
   · obtain⟨v,ev,_⟩:=rs.get e;exact⟨vs,v,sqH H s,ev⟩
   · obtain⟨e',hy⟩:=y;obtain⟨v',ev,rv⟩:=rs.get e;have:=hy vs (sqH H s);rw[ev]at this;cases this;exact⟨e',rv⟩
theorem dC{l:Expr}(hl:PV X rl l fa):CA X rl tg l (iT fa):=by
 obtain⟨t,p,k⟩:=hl;refine⟨_,va p,fun R Qd Q q h=>k R _ _ q fun v w F1 H1 g1 r1 n1 ⟨xs,ew,q1⟩=>?_⟩;obtain⟨F2,g2,s2,r2⟩:=cE.fz g1 r1 n1;rw[ew]at r2
 cases(show Rep X.K F2 v (.tuple xs)from r2)with
 | @tup a vs _ sq rs =>
   have sqH:∀H,aR F2 H->Cg X.K H a vs:=fun H s=>bA s sq;refine⟨a,rfl,⟨vs,sqH H1 g2.sub⟩,h _ xs F2 H1 g2 (.of (fun i H x e s=>?_) (fun i H hl s=>⟨vs,sqH H s,by rw[rs.length];exact hl⟩) (fun i H v H' x e s y=>?_)) q1⟩
   · obtain⟨v,ev,_⟩:=rs.get e;exact⟨vs,v,sqH H s,ev⟩
   · obtain⟨e',hy⟩:=y;obtain⟨v',ev,rv⟩:=rs.get e;have:=hy vs (sqH H s);rw[ev]at this;cases this;exact⟨e',rv⟩
noncomputable def aE(lo:Int)(n:Nat):List Da:=(DO n).map fun(i:Nat)=>.int (lo+i)
theorem eX{lo:Int}{x:Da}(h:(aE lo n)[i]?=some x):i<n/\x = .int (lo+i):=by
 unfold aE at h;rw[DY]at h;by_cases hi:i<n
 · rw[DF (by simpa using hi)]at h;simp at h;exact⟨hi,h.symm⟩
 · rw[G3 (by simpa using hi)]at h;cases h
theorem ce{lo:Int}:(aE lo n).length=n:=by simp[aE]
theorem gG{K:W.Frag}(lo:Int)(n:Nat):VIt K rl F (CQ lo n) (aE lo n) :=
 .of (fun i H x e s=>(eX e).1) (fun i H hl s=>by rw[ce]at hl;exact hl) (fun i H v H' x e s y=>by
  obtain⟨e1,e2⟩:=y;subst e2;rw[(eX e).2]
  exact⟨e1,.int _⟩)
noncomputable def BP(fs:Ca):En->(List Da->Prop)->Prop:=fun ρ Q=>fs ρ fun ws=>∃j:Int,ws=[.d (.int j)]/\(-(2^62)<=j/\j<2^62)/\Q (aE 0 j.toNat)
noncomputable def BO(fs:Ca):En->(List Da->Prop)->Prop:=fun ρ Q=>fs ρ fun ws=>∃i j:Int,ws=[.d (.int i),.d (.int j)]/\(-(2^62)<=i/\i<2^62 /\ -(2^62)<=j/\j<2^62)/\Q (aE i (j-i).toNat)
theorem bO(hm:X.mg "range" = none)(ha:Cr X rl [a] fs)(hg:autoParam (Gl X "range") æa._auto_1)(hs:autoParam (Dh [a] X.env=[(false,eval a X.env)]) æa._auto_1):CA X rl tg (.Call (.Name "range" p) [a] [] pos) (BP fs):=by
 obtain⟨t,p1,k⟩:=ha;refine⟨_,lE hg hm p1 hs,fun R Qd Q q h=>k R _ _ q fun vs ws F1 H1 g1 r1 ⟨j,ew,b,q1⟩=>?_⟩;subst ew;obtain⟨v,rfl,rv⟩:=nM r1;have e:=aY rv;subst e;exact⟨j,rfl,b.1,b.2,h _ _ F1 H1 g1 (gG 0 _) q1⟩
theorem kO(hm:X.mg "range" = none)(ha:Cr X rl [a,b] fs)(hg:autoParam (Gl X "range") æa._auto_1)(hs:autoParam (Dh [a,b] X.env=[(false,eval a X.env),(false,eval b X.env)]) æa._auto_1)(hs2:autoParam (Dh [b] X.env=[(false,eval b X.env)]) æa._auto_1):CA X rl tg (.Call (.Name "range" p) [a,b] [] pos) (BO fs):=by
 obtain⟨t,p1,k⟩:=ha;refine⟨_,lD hg hm p1 hs hs2,fun R Qd Q q h=>k R _ _ q fun vs ws F1 H1 g1 r1 ⟨i,j,ew,b,q1⟩=>?_⟩;subst ew;obtain⟨v,u,rfl,rv,ru⟩:=zy r1;have e:=aY rv;have e':=aY ru;subst e e';exact⟨i,j,rfl,b,h _ _ F1 H1 g1 (gG i _) q1⟩
theorem VR.own{K:W.Frag}{F₀ H₀ F H:Hp}{σ:St}{ρ:En}(r:VR K rl F₀ H₀ F H σ ρ){i:Nat}{xs ys:List Da}{a:Addr}{us:List V}(e:ρ[i]?=some (some (.ml xs)))(es:σ[i]?=some (some (.ref a)))(rs:Reps K F us ys) :
 VR K rl F₀ H₀ F (upd H a (.lst us)) σ (ρ.set i (some (.ml ys))):=by
 obtain⟨v,h1,h2,h3⟩:=r.sl i _ e;rw[es]at h1;cases h1;obtain⟨a',vs,ev,f,hr,hh,q⟩:=(show fF K rl F H (.ref a) xs from h2);cases ev;have n0:H₀ a=none:=h3 a rfl;have hi:i<ρ.length:=(Du.mp e).1;have neF:∀b u,F b=some u->b≠a:=fun b u q z=>by subst z;rw[f]at q;cases q
 have g:Grow rl F₀ H₀ F (upd H a (.lst us)):=by
  refine⟨fun b o q1 n=>by rw[ae (aq q1 n0)];exact r.g.same b o q1 n,r.g.fs,fun b o q1=>by rw[ae (neF b o q1)];exact r.sub b o q1,r.g.old,fun y z=>?_⟩;obtain⟨z1,⟨u,h1,h2⟩⟩:=r.reel y z;exact⟨z1,⟨u,by rw[ae (fun q=>hr (by rw[<- q];exact z))];exact h1,h2⟩⟩
 refine⟨g,fun j w e1=>?_,fun j k ys' zs u hjk e1 e2 w1 w2 s1 s2=>?_,fun j ys' z=>?_,by simp[r.len]⟩
 · by_cases hj:i=j
   · subst hj;rw[Dz hi]at e1;cases e1;exact⟨_,es,⟨a,us,rfl,f,hr,aj,rs⟩,h3⟩
   · rw[Dp hj]at e1;obtain⟨u,g1,g2,g3⟩:=r.sl j w e1;refine⟨u,g1,?_,g3⟩
     cases w with
     | d x=>exact g2
     | reel=>exact g2
     | vv u=>exact g2
     | ml zs =>
       obtain⟨b,us',eb,f1,f2,f3,f4⟩:=(show fF K rl F H u zs from g2);have ne:b≠a:=fun z=>r.ap i j _ _ (.ref a) hj e e1 rfl rfl es (by rw[g1,eb,z])
       exact⟨b,us',eb,f1,f2,by rw[ae ne];exact f3,f4⟩
     | pk zs=>exact absurd e1 (r.np j zs)
     | md zs =>
       obtain⟨b,us',eb,f1,f2,f3,f4⟩:=(show pX K rl F H u zs from g2);have ne:b≠a:=fun z=>r.ap i j _ _ (.ref a) hj e e1 rfl rfl es (by rw[g1,eb,z])
       exact⟨b,us',eb,f1,f2,by rw[ae ne];exact f3,f4⟩
     | mk zs =>
       obtain⟨b,us',eb,f1,f2,f3,f4⟩:=(show pW K rl F H u zs from g2);have ne:b≠a:=fun z=>r.ap i j _ _ (.ref a) hj e e1 rfl rfl es (by rw[g1,eb,z])
       exact⟨b,us',eb,f1,f2,by rw[ae ne];exact f3,f4⟩
     | xm zs =>
       obtain⟨b,us',eb,f1,f2,f3,f4⟩:=(show i3 K rl F H u zs from g2);have ne:b≠a:=fun z=>r.ap i j _ _ (.ref a) hj e e1 rfl rfl es (by rw[g1,eb,z])
       exact⟨b,us',eb,f1,f2,by rw[ae ne];exact f3,f4⟩
     | nt ds=>exact g2
     | lk=>trivial
     | sc _=>exact g2
     | fd _=>exact g2
     | xr _=>exact g2
     | fw _=>exact g2
     | ft _=>exact g2
     | xc _ _=>exact g2
     | dp _ _=>exact g2
 · have nd:∀(j:Nat)(z:W),(ρ.set i (some (W.ml ys)))[j]?=some (some z)->z.own=true->∃z',ρ[j]?=some (some z')/\z'.own=true:=fun j zs z o=>by
     by_cases hj:i=j
     · subst hj;exact⟨_,e,rfl⟩
     · rw[Dp hj]at z;exact⟨zs,z,o⟩
   obtain⟨_,d1,o1⟩:=nd j _ e1 w1;obtain⟨_,d2,o2⟩:=nd k _ e2 w2;exact r.ap j k _ _ u hjk d1 d2 o1 o2 s1 s2
 · rw[DU]at z;split at z
   · first|cases z|(split at z<;>cases z)
   · exact r.np j ys' z
noncomputable def wK(K:W.Frag)(rl:Option Addr)(r:V->List V->Hp->VK->Prop)(g:List Da->List W->(List Da->Prop)->Prop):Prop :=
 ∀ {F H:Hp}{a:Addr}{vs args:List V}{xs:List Da}{ws:List W}(Qn:List Da->Prop)(Q:VK),aR F H->H a=some (.lst vs)->Reps K F vs xs->dN K rl F H args ws->g xs ws Qn ->
   (∀us ys,Reps K F us ys->Qn ys->Q .non (upd H a (.lst us)))->r (.ref a) args H Q
noncomputable def sX(i:Nat)(g:List Da->List W->(List Da->Prop)->Prop)(fs:Ca):Cb:=fun D ρ=>∃xs,ρ[i]?=some (some (.ml xs))/\fs ρ fun ws=>g xs ws fun ys=>D.nx (ρ.set i (some (.ml ys)))
theorem kK(i:Nat){nm:Str}{id:String}{r:V->List V->Hp->VK->Prop}{g:List Da->List W->(List Da->Prop)->Prop}(slot:Slot "list" nm id)(hty:typeOf (.builtin id)=pure (.type "method_descriptor"))(hm:CI X id r)(vm:wK X.K rl r g)(ha:Cr X rl (e::es) fs)
 (hN:autoParam (X.N[i]?=some x) æa._auto_1)(hv:autoParam (B8 X.env.scope x) æc._auto_1)
 (hd:autoParam ((x==("__debug__" : Str))=false) æb._auto_1)(hcd:autoParam ((x==("__classdict__" : Str))=false) æb._auto_1)
 (hbase:autoParam (FU (.Name x px) nm X.env (eval (.Name x px) X.env)=eval (.Name x px) X.env) æa._auto_1)
 (hfew:autoParam (((ES cpos (Dh (e::es) X.env)).all (fun x=>!x.1)&&(Jt cpos (Hg [] X.env)).all (fun x=>x.1.isSome)
  && decide ((e::es).length+([]:List G4).length+(if([]:List G4).isEmpty then 0 else 1)<30))=true) æa._auto_1)
 (hline:autoParam ((apos.endLine==cpos.line)=true) æa._auto_1)(hs:autoParam (Dh (e::es) X.env=(false,eval e X.env)::Dh es X.env) æa._auto_1)(hplain:autoParam ((ES cpos (Dh es X.env)).any (·.1)=false) æa._auto_1)
 (hsw:autoParam (ET (.Call (.Attribute (.Name x px) nm apos) (e::es) [] cpos) none pos.line X.env=pure false) æa._auto_1) :
 Cw X rl (.Expr (.Call (.Attribute (.Name x px) nm apos) (e::es) [] cpos) pos) (sX i g fs):=by
 obtain⟨t,p1,k⟩:=ha;refine⟨_,rg (xV PySem.F.plainAttrs_list slot hty hm (bB hN hv hd hcd) p1 hbase hfew hline hs hplain) hsw,fun{F₀ H₀ F H σ ρ} R Dv D ok ⟨xs,e1,q⟩=>?_⟩;obtain⟨v,h1,h2,h3⟩:=R.sl i _ e1;obtain⟨a,vs,rfl,f,hr,hh,rs⟩:=(show fF X.K rl F H v xs from h2);refine⟨.ref a,h1,.inl ⟨rfl,vs,.inl (.inl hh)⟩,k R _ _ q fun args ws F1 H1 g1 r1 q1=>?_⟩;refine vm _ _ g1.sub (g1.same a _ hh hr) (rs.mono g1.fs) r1 q1 fun us ys r2 q2=>?_;exact ok.nx _ _ _ _ g1.fs ((R.grow g1).own e1 h1 r2) q2
noncomputable def wH:List Da->List W->(List Da->Prop)->Prop:=fun xs ws Q=>∃x,eK ws=some [x]/\xs.length<sizeLine/\Q (xs++[x])
theorem tO{K:W.Frag}:wK K rl lu wH:=fun{F H a vs args xs ws} Qn Q s ha rs ra ⟨x,e,z,q⟩ k=>by
 have r2:=ck ra e
 cases r2 with
 | cons rx r3 =>
   cases r3;exact⟨a,vs,_,rfl,rfl,ha,by rw[rs.length];exact z,k _ _ (rs.snoc rx) q⟩
noncomputable def wF:List Da->List W->(List Da->Prop)->Prop:=fun xs ws Q=>∃ys,eK ws=some [.list ys]/\xs.length+ys.length<=sizeLine/\Q (xs++ys)
theorem tM{K:W.Frag}:wK K rl ls wF:=fun{F H a vs args xs ws} Qn Q s ha rs ra ⟨ys,e,z,q⟩ k=>by
 have r2:=ck ra e
 cases r2 with
 | cons rx r3 =>
   cases r3
   cases rx with
   | lst hb ry=>exact⟨a,_,vs,_,rfl,rfl,ha,s _ _ hb,by rw[rs.length,ry.length];exact z,k _ _ (rs.append ry) q⟩
theorem i9(i:Nat)(ha:Cr X rl [e] fs)(hN:autoParam (X.N[i]?=some x) æa._auto_1)(hv:autoParam (B8 X.env.scope x) æc._auto_1)
 (hd:autoParam ((x==("__debug__" : Str))=false) æb._auto_1)(hcd:autoParam ((x==("__classdict__" : Str))=false) æb._auto_1)
 (hbase:autoParam (FU (.Name x px) "append" X.env (eval (.Name x px) X.env)=eval (.Name x px) X.env) æa._auto_1)
 (hfew:autoParam (((ES cpos (Dh [e] X.env)).all (fun x=>!x.1)&&(Jt cpos (Hg [] X.env)).all (fun x=>x.1.isSome)
  && decide (([e]).length+([]:List G4).length+(if([]:List G4).isEmpty then 0 else 1)<30))=true) æa._auto_1)
 (hline:autoParam ((apos.endLine==cpos.line)=true) æa._auto_1)(hs:autoParam (Dh [e] X.env=(false,eval e X.env)::Dh [] X.env) æa._auto_1)(hplain:autoParam ((ES cpos (Dh [] X.env)).any (·.1)=false) æa._auto_1)
 (hsw:autoParam (ET (.Call (.Attribute (.Name x px) "append" apos) [e] [] cpos) none pos.line X.env=pure false) æa._auto_1) :
 Cw X rl (.Expr (.Call (.Attribute (.Name x px) "append" apos) [e] [] cpos) pos) (sX i wH fs) :=
 kK i PySem.F.slot_list_append PySem.F.type_list_append d4 tO ha hN hv hd hcd hbase hfew hline hs hplain hsw
noncomputable def cU:W->Bool
 | .ml _=>false
 | .md _=>false
 | .mk _=>false
 | .xm _=>false
 | .pk _=>false
 | _=>true
noncomputable def AR(K:W.Frag)(rl:Option Addr)(P:List W->(Da->Prop)->Prop):Sp:=fun vs H Q _=>∃F ws,aR F H/\Co rl F H/\dN K rl F H vs ws/\ws.all cU=true/\P ws fun d=>∀v F' H',Grow rl F H F' H'->Rep K F' v d->Q v H'
noncomputable def bU(N:List Str)(ws:List W):En:=ws.map some++Ej (N.length-ws.length) none
theorem gY{K:W.Frag}{F H:Hp}:∀{vs:List V}{ws:List W}{i:Nat}{w:W},dN K rl F H vs ws->ws[i]?=some w->∃v,vs[i]?=some v/\cE K rl F H v w
 | _,_,_,_,.nil,e=>by simp at e
 | _,_,0,_,.cons h _,e=>by simp at e;subst e;exact⟨_,rfl,h⟩
 | _,_,i+1,w,.cons _ r,e=>by
   obtain⟨v,h1,h2⟩:=gY (i:=i) (w:=w) r (by simpa using e);exact⟨v,by simpa using h1,h2⟩
theorem gM{ws:List W}{w:W}(h:(bU N ws)[i]?=some (some w)):ws[i]?=some w:=by
 unfold bU at h;by_cases hi:i<ws.length
 · rw[FI (by simpa using hi),DY]at h
   cases q:ws[i]? with
   | none=>rw[q]at h;cases h
   | some x=>rw[q]at h;cases h;rfl
 · rw[Hr (by simpa using hi),EI]at h;split at h<;>cases h
theorem fH{K:W.Frag}{ws:List W}(s:aR F H)(ra:Co rl F H)(r:dN K rl F H vs ws)(ok:ws.all cU=true):VR K rl F H F H (start N vs) (bU N ws):=by
 have hl:vs.length=ws.length:=EH r;have no:∀(i:Nat) w,(bU N ws)[i]?=some (some w)->cU w=true:=fun i w e=>(Fq.mp ok) w (Ew (gM e));refine⟨Grow.refl s ra,fun i w e=>?_,fun i j xs ys v _ e1 _ o _ _ _=>(by have:=no i _ e1;cases xs<;>first|exact Bool.noConfusion o|exact Bool.noConfusion this),fun i xs e=>(by have:=no i _ e;cases this),?_⟩
 · obtain⟨v,h1,h2⟩:=gY r (gM e);refine⟨v,?_,h2,?_⟩
   · unfold start;rw[FI (by simpa using(Du.mp h1).1),DY,h1];rfl
   · have:=no i w e
     cases w with
     | ml xs=>cases this
     | md xs=>cases this
     | mk xs=>cases this
     | xm xs=>cases this
     | nt _=>trivial
     | lk=>trivial
     | sc _=>trivial
     | fd _=>trivial
     | xr _=>trivial
     | fw _=>trivial
     | ft _=>trivial
     | xc _ _=>trivial
     | dp _ _=>trivial
     | d _=>trivial
     | pk _=>trivial
     | reel=>trivial
     | vv _=>trivial
 · unfold bU start;simp[hl]
noncomputable def ip(Q:Da->Prop):VEnds:=⟨fun _=>Q .none,fun w=>∃d,w.fz = .d d/\Q d,fun _=>False,fun _=>False⟩
theorem AS{K:W.Frag}{st:Stmt}{fa:Addr}{k:Nat}{Pd:List W->(Da->Prop)->Prop}{t:Cb}
 (Fn:Fun K x qual st fa fd)(S:FnScope N ps (defScope st))(len:∀ws Q,Pd ws Q->ws.length=ps.length)
 (hbody:∀(cdv:Dc)(A:DM)(outer:List Env)(s:Dd)(H:Hp)(E:XK),Room k (A.deeper (Hz qual (defScope st) s.heap.objs.size fa cdv)) ->
  il (jC C2 P w K mg base N qual (defScope st) fa cdv A outer s H E).nox rl (defBody st) t)
 (hread:∀ws Q,Pd ws Q->t (ip Q) (bU N ws)):FnOk P w K mg base C2 (k+1) fa fd ps (AR K rl Pd):=by
 refine Fn.ok S (fun vs H Q E ⟨F,ws,_,_,r,_,q⟩=>(EH r).trans (len ws _ q)) fun cdv A outer s H vs Q E hr h=>?_;obtain⟨F,ws,sm,ra,r,ok,q⟩:=h;obtain⟨T,p,kk⟩:=hbody cdv A outer s H E hr;refine⟨T,p,kk (fH sm ra r ok) (ip _) _ ⟨?_,?_,fun _ _ _ _ _ _ z=>D9 z,fun _ _ _ _ _ _ z=>D9 z⟩ (hread ws _ q)⟩
 · intro F1 H1 σ1 ρ1 _ R1 q1;exact q1 .non F1 H1 R1.g .non
 · rintro v w1 F1 H1 g1 r1 n1 ⟨d,ed,q1⟩;obtain⟨F2,g2,s2,r2⟩:=cE.fz g1 r1 n1;rw[ed]at r2;exact q1 v F2 H1 g2 r2
structure Dfn (P:Dq) (w:DN) (K:W.Frag) (mg:Str->Option Dc) (base:Heap) (rl:Option Addr) (x:Str) (ps:List Str) (k:Nat) (Pd:List W->(Da->Prop)->Prop):Prop where
 mono:∀ws Q Q',(∀d,Q d->Q' d)->Pd ws Q->Pd ws Q'
 ex:∃f fd,mg x=some (.ref f)/\W.keepIn K (.ref f)=true/\Binds K fd ps []/\FnOk P w K mg base C2 k f fd ps (AR K rl Pd)
noncomputable def wZ(Pd:List W->(Da->Prop)->Prop)(fs:Ca):TV:=fun ρ Q=>fs ρ fun ws=>ws.all cU=true/\Pd ws fun d=>Q (.d d)
theorem aC{k:Nat}{Pd:List W->(Da->Prop)->Prop}(D:Dfn X.prog X.w X.K X.mg X.base rl x ps k Pd)(hr:Room k X.A)(ha:Cr X rl (e::es) fs)(hg:autoParam (Gl X x) æa._auto_1)
 (hdb:autoParam ((x==("__debug__" : Str))=false) æb._auto_1)(he:autoParam (Dh (e::es) X.env=(false,eval e X.env)::Dh es X.env) æa._auto_1)(hpl:autoParam ((ES pos (Dh es X.env)).any (·.1)=false) æa._auto_1) :
 PV X rl (.Call (.Name x p) (e::es) [] pos) (wZ Pd fs):=by
 obtain⟨f,fd,hm,hk,hb,F⟩:=D.ex;obtain⟨t,p1,kk⟩:=ha;refine⟨_,iG F hr hg hm hk hb .nil vg p1 hdb he hpl,fun R Qd Q q h=>kk R _ _ q fun vs ws F1 H1 g1 r1 ⟨ok,q1⟩=>?_⟩;refine⟨F1,ws,g1.sub,g1.reel,by rw[EA];exact r1,ok,?_⟩;exact D.mono ws _ _ (fun d qd v F2 H2 g2 r2=>h v (.d d) F2 H2 (g1.trans g2) r2 trivial qd) q1
end
end L2.VL
variable{ρ:L2.VL.En}
namespace L2
theorem dz{env:Env}:∀(names:List (Str×GJ))(acc:List (Str×Addr)),(∀x∈names,x.2 = .free->∃c,env.cells.lookup x.1=some c)->(∀x c,acc.lookup x=some c->env.cells.lookup x=some c) ->
 ∃ cl,(forIn names acc (fun(x:Str×GJ)(cs:List (Str×Addr))=>if(x.2==D5)=true then do let c <- cellOf env x.1;pure (Gm ((x.1,c)::cs))else pure (Gm cs)):Sem (List (Str×Addr)))=pure cl /\
   (∀x c,cl.lookup x=some c->env.cells.lookup x=some c)/\(∀x,(acc.lookup x).isSome=true->(cl.lookup x).isSome=true)/\∀x,(x,D5)∈names->(cl.lookup x).isSome=true
 | [],acc,_,h2=>⟨acc,rfl,h2,fun _ z=>z,fun _ z=>nomatch z⟩
 | (n,k)::r,acc,h1,h2=>by
   by_cases hk:k = .free
   · subst hk;obtain⟨c,hc⟩:=h1 (n,.free) Dx rfl
     have h2':∀x c',((n,c)::acc).lookup x=some c'->env.cells.lookup x=some c':=fun x c' z=>by
      rw[Ea]at z
      cases e:x==n with
      | true =>
        rw[e]at z;have e':x=n:=by simpa using e
        cases z;rw[e']
        exact hc
      | false =>
        rw[e]at z;exact h2 x c' z
     obtain⟨cl,e,g1,g2,g3⟩:=dz r ((n,c)::acc) (fun x hx=>h1 x (Dl _ hx)) h2';refine⟨cl,?_,g1,fun x z=>g2 x ?_,fun x z=>?_⟩
     · rw[GM];simp only[beq_self_eq_true,if_true];have e0:cellOf env n=pure c:=by unfold cellOf;rw[hc]
       rw[e0,pure_bind,pure_bind];exact e
     · rw[Ea];split
       · rfl
       · exact z
     · rcases DS.mp z with z|z
       · cases z;refine g2 _ ?_;rw[Ea];simp
       · exact g3 x z
   · obtain⟨cl,e,g1,g2,g3⟩:=dz r acc (fun x hx=>h1 x (Dl _ hx)) h2;refine⟨cl,?_,g1,g2,fun x z=>?_⟩
     · rw[GM];have hb:(k==D5)=false:=by simpa using hk
       simp only[hb,Fw,if_false];rw[pure_bind];exact e
     · rcases DS.mp z with z|z
       · cases z;exact absurd rfl hk
       · exact g3 x z
theorem bR(h:∀x∈scope.names,x.2 = .free->∃c,env.cells.lookup x.1=some c) :
 ∃cl,closureFor scope env=pure cl/\(∀x c,cl.lookup x=some c->env.cells.lookup x=some c)/\∀x,(x,D5)∈scope.names->(cl.lookup x).isSome=true:=by
 obtain⟨cl,e,g1,_,g3⟩:=dz scope.names [] h (fun _ _ z=>by cases z);refine⟨cl,?_,g1,g3⟩;unfold closureFor
 first
  | exact e
  | (simp only[bind_pure];exact e)
theorem gX(h:(J3 scope env).names.lookup x=some .cell\/(J3 scope env).names.lookup x=some .free):(x,D5)∈scope.names\/(x,E_)∈scope.names:=by
 have key:∀names:List (Str×GJ),∀k,(k = .cell\/k = .free) ->
  (names.map fun(n,k)=>if(k==D5&&env.scope.kind == .function&&env.kindOf n==some .cell)then(n,E_)else(n,k)).lookup x=some k->(x,D5)∈names\/(x,E_)∈names:=by
  intro names
  induction names with
  | nil=>intro k _ z;cases z
  | cons y r ih =>
    intro k hk z;obtain⟨n,kn⟩:=y;have step:((x,D5)∈r\/(x,E_)∈r)->((x,D5)∈(n,kn)::r\/(x,E_)∈(n,kn)::r):=fun z=>z.imp (Dl _) (Dl _);rw[Ep]at z;dsimp only at z;by_cases hc:(kn==D5&&env.scope.kind == .function&&env.kindOf n==some .cell)=true
    · rw[if_pos hc,Ea]at z
      have hf:kn = .free:=by
       have:=(Dj.mp (Dj.mp hc).1).1;simpa using this
      cases e:x==n with
      | true =>
        have e':x=n:=by simpa using e
        rw[e',<- hf]
        exact .inl Dx
      | false =>
        rw[e]at z;exact step (ih k hk z)
    · rw[if_neg hc,Ea]at z
      cases e:x==n with
      | true =>
        rw[e]at z;have e':x=n:=by simpa using e
        cases z;rcases hk with hk|hk
        · rw[e',hk];exact .inr Dx
        · rw[e',hk];exact .inl Dx
      | false =>
        rw[e]at z;exact step (ih k hk z)
 rcases h with h|h
 · exact key scope.names .cell (.inl rfl) h
 · exact key scope.names .free (.inr rfl) h
theorem aO:∀(names:List (Str×GJ))(n:Nat)(acc:List (Str×Addr)),EU n names acc=EU n names []++acc
 | [],_,_=>rfl
 | (x,k)::r,n,acc=>by
   unfold EU;split
   · rw[aO r (n+1) ((x,n)::acc),aO r (n+1) [(x,n)],GW];rfl
   · exact aO r n acc
theorem cp{x:Str}{c:Addr}:∀{names:List (Str×GJ)}{n:Nat},(x,c)∈EU n names []->(x,E_)∈names
 | (y,k)::r,n,h=>by
   unfold EU at h;split at h
   · rename_i hk;rw[aO]at h;rcases Ez.mp h with h|h
     · exact Dl _ (cp h)
     · simp at h;have:k = .cell:=by simpa using hk
       rw[h.1,this];exact Dx
   · exact Dl _ (cp h)
theorem dw{a b:List (Str×Addr)}:(a++b).lookup x=(a.lookup x).or (b.lookup x):=by
 induction a with
 | nil=>simp
 | cons y a ih =>
   obtain⟨n,c⟩:=y;rw[List.cons_append,Ea,Ea];cases x==n<;>simp[ih]
theorem iH{M:JZ}{globals:Addr}{o:Env}{Q:Env->Dd->Prop}
 (hQ:Q {scope,locals:=s.heap.objs.size,globals,cells:=EU (s.heap.objs.size+1) scope.names cl,qual,func:=none,code:=o.code,frame:=o.frame,builtins:=o.builtins} {s with heap:=JT (s.heap.push {cls:=.type "dict", data:=.dict #[]}) scope.names}) :
 Dr M A (G0 scope globals cl [] qual none .none (some o)) Q E s:=by
 simp only[G0,Option.isSome_some,if_true];refine C9 (wpAny_alloc ?_);refine C9 (wpAny_layCells _ (fun name kind cells=>by cases hkc:kind==E_<;>simp[hkc]) _ _ _ _ ?_);rw[show({s with heap:=s.heap.push {cls:=.type "dict", data:=.dict #[]}}:Dd).heap.objs.size=s.heap.objs.size+1 from EG ..];exact C9 (De (De hQ))
noncomputable def aD(X:Cx)(N':List Str)(scope:Scope)(cl:List (Str×Addr))(fp:List Addr)(pn:List (Addr×Obj))(s:Dd)(H:Hp):Cx :=
 {X with N:=N',s₀:=s,H₀:=H,env:={compEnvC scope cl s.heap.objs.size X.env with cells:=EU (s.heap.objs.size+1) scope.names cl},outer:=X.stack,ex:=fp,fn:=fun x=>scope.names.lookup x==some .cell,pn:=pn,xe:=fun _ _=>False}
abbrev cM(ifs:List Expr)(env:Env):Sem Bool:=forIn ifs true fun c r=>if r=true then do let ok <- isTrue c env (eval c env);pure (Gm ok)else pure (Gm r)
noncomputable def Cu(X:Cx)(ifs:List Expr)(t:TT):Prop :=
 ∀(pins:List (Addr×Obj))(s:Dd)(σ:St)(H:Hp)(Q:Bool->Hp->Prop),Inv X pins σ H s->t σ H Q->Dr (Dw X.prog X.w) X.A (cM ifs X.env) (TP X pins σ Q) X.xe s
theorem qV:Cu X [] (fun _ H Q=>Q true H):=fun _ _ _ H _ I h=>wpAny_tests_nil ⟨H,I,h⟩
theorem qU{c:Expr}{t:TT}(h:PT X c t):Cu X [c] t:=fun pins s σ H Q I hw=>wpAny_tests_one (h pins s σ H Q I hw)
theorem mQ{prog:Dq}{elt target:Expr}{it acc:Dc}(I:Nat->Dd->Prop)
 (turn:∀n s,I n s->Dr (Dw prog w) A (G1 it) (fun r s₁=>(r=none/\R (.ok .next) s₁)\/∃v,r=some v /\
  Dr (Dw prog w) A (E2 target it v) (fun _ s₂=>Dr (Dw prog w) A (G_ target env v) (fun _ s₃=>Dr (Dw prog w) A (cM ifs env) (fun ok s₄ =>
   if ok=true then Dr (Dw prog w) A (eval elt env) (fun x s₅=>Dr (Dw prog w) A (call (.builtin "list.append") [acc,x]) (fun _ s₆=>∃m,m<n/\I m s₆) (fun _ _=>False) s₅) (fun _ _=>False) s₄
   else ∃m,m<n/\I m s₄) (fun _ _=>False) s₃) (fun _ _=>False) s₂) (fun _ _=>False) s₁) (fun _ _=>False) s)
 (n:Nat)(h:I n s):EW (Dw prog w) A (.compLoop (.ListComp elt [⟨target,iter,ifs,0⟩] scope pos) 0 it acc env) R s:=by
 refine IF rfl I (fun n s hI=>?_) n h;show Dr _ A ((Ju (.ListComp elt [⟨target,iter,ifs,0⟩] scope pos) 0 it acc env).onRaise (fun x=>do GN x env;Hh x)) _ _ s;refine Jg ?_;rw[compTurn_list];refine C9 (ED (C9 (DC (turn n s hI) (fun r s₁ h₁=>?_) fun _ _ h'=>h'.elim)));rcases h₁ with⟨rfl,h₁⟩|⟨v,rfl,h₁⟩
 · exact De h₁
 · refine C9 (DC h₁ (fun _ s₂ h₂=>C9 (DC h₂ (fun _ s₃ h₃=>C9 (DC h₃ (fun ok s₄ h₄=>?_) fun _ _ z=>z.elim)) fun _ _ z=>z.elim)) fun _ _ z=>z.elim)
   cases ok with
   | false=>exact De ⟨rfl,h₄⟩
   | true=>exact C9 (C9 (DC h₄ (fun x s₅ h₅=>C9 (DC h₅ (fun _ s₆ h₆=>De (De ⟨rfl,h₆⟩)) fun _ _ z=>z.elim)) fun _ _ z=>z.elim))
noncomputable def kD(fr:List (Option Nat))(σ:St):St:=fr.map fun o=>o.bind fun j=>(σ[j]?).join
noncomputable def mG(fr:List (Option Nat))(N' N:List Str)(sc scX:Scope):Bool :=
 decide (fr.length=N'.length)&&(DO fr.length).all fun i=>match fr[i]? with
  | some (some j)=>match N'[i]? with
    | some x=>decide (N[j]?=some x)&&decide (sc.names.lookup x=some .free)&&(decide (scX.names.lookup x=some .cell)||decide (scX.names.lookup x=some .free))
    | none=>false
  | _=>true
noncomputable def ni(sc scX:Scope):Bool :=
 decide (sc.kind = .function)&&sc.names.all fun y=>(decide (y.2 ≠ .cell)||decide (sc.names.lookup y.1=some .cell))&&(decide (y.2 ≠ .local)||decide (sc.names.lookup y.1=some .local)) &&
  (decide (y.2 ≠ .free)||(decide (scX.names.lookup y.1=some .cell)||decide (scX.names.lookup y.1=some .free)))
theorem mG.get{fr:List (Option Nat)}{sc scX:Scope}(h:mG fr N' N sc scX=true):fr.length=N'.length/\∀(i j:Nat),fr[i]?=some (some j)->∃x,N'[i]?=some x/\N[j]?=some x/\sc.names.lookup x=some .free/\(scX.names.lookup x=some .cell\/scX.names.lookup x=some .free):=by
 unfold mG at h;obtain⟨h1,h2⟩:=Dj.mp h;refine⟨of_decide_eq_true h1,fun i j e=>?_⟩;have hi:i<fr.length:=(Du.mp e).1;have q:=Fq.mp h2 i (FH.mpr hi);rw[e]at q;dsimp only at q
 cases en:N'[i]? with
 | none=>rw[en]at q;cases q
 | some x =>
   rw[en]at q;dsimp only at q;obtain⟨q1,q2⟩:=Dj.mp q;obtain⟨q3,q4⟩:=Dj.mp q1;exact⟨x,rfl,of_decide_eq_true q3,of_decide_eq_true q4,(DH.mp q2).imp of_decide_eq_true of_decide_eq_true⟩
theorem j5{k:GJ}:∀{names:List (Str×GJ)},names.lookup x=some k->(x,k)∈names:=fun h=>Ei h
structure CompA where
 cl:List (Str×Addr)
 fp:List Addr
 pn:List (Addr×Obj)
 s:Dd
 H:Hp
abbrev blk(X:Cx)(N':List Str)(scope:Scope)(y:CompA):Cx:=aD X N' scope y.cl y.fp y.pn y.s y.H
noncomputable def qH(wi:TI)(fr:List (Option Nat))(g:CompA->TG)(tt:CompA->TT)(te:CompA->TE):TE:=fun σ H Q=>wi σ H fun J H1=>∀D,H1 D=none->∃Wv:Nat->Nat->List V->St->Hp->Prop,(∃m,Wv 0 m [] (kD fr σ) (upd H1 D (.lst []))) /\
 ∀ (z:CompA) i m acc σc H,Wv i m acc σc H->(J.stop i H/\Q (.ref D) H)\/(J.go i H/\∀x H',J.yld i H x H'->g z x σc H' fun σ2 H2=>tt z σ2 H2 fun b H3 =>
   if b=true then te z σ2 H3 fun y H4=>H4 D=some (.lst acc)/\acc.length<sizeLine/\∃m',m'<m/\Wv (i+1) m' (acc++[y]) σ2 (upd H4 D (.lst (acc++[y])))else ∃m',m'<m/\Wv (i+1) m' acc σ2 H3)
theorem dD{env:Env}:∀{names:List (Str×GJ)}{x:Str},names.lookup x=some .free ->
 (names.map fun(n,k)=>if(k==D5&&env.scope.kind == .function&&env.kindOf n==some .cell)then(n,E_)else(n,k)).lookup x=some .cell \/
 (names.map fun(n,k)=>if(k==D5&&env.scope.kind == .function&&env.kindOf n==some .cell)then(n,E_)else(n,k)).lookup x=some .free
 | [],_,h=>by simp at h
 | (n,k)::r,x,h=>by
   have ih:=@dD env r x;rw[Ep];dsimp only
   cases hx:x==n with
   | true =>
     simp only[Ea,hx]at h;cases h;by_cases hc:((D5==D5)&&env.scope.kind == .function&&env.kindOf n==some .cell)=true
     · rw[if_pos hc];simp[Ea,hx]
     · rw[if_neg hc];simp[Ea,hx]
   | false =>
     simp only[Ea,hx]at h;by_cases hc:(k==D5&&env.scope.kind == .function&&env.kindOf n==some .cell)=true
     · rw[if_pos hc];simp only[Ea,hx];exact ih h
     · rw[if_neg hc];simp only[Ea,hx];exact ih h
theorem cn{ex:Expr}{H3:Hp}{s3:Dd}{J:It}{Q:VK}
 (N':List Str)(fr:List (Option Nat))(hc:X.calm=true)(hkind:scope.kind = .function)(hcell:∀y∈scope.names,y.2 = .cell->scope.names.lookup y.1=some .cell)
 (hfree:∀y∈scope.names,y.2 = .free->X.env.kindOf y.1=some .cell\/X.env.kindOf y.1=some .free)(frl:fr.length=N'.length)
 (frg:∀(i j:Nat),fr[i]?=some (some j)->∃x,N'[i]?=some x/\X.N[j]?=some x/\scope.names.lookup x=some .free/\(X.env.scope.names.lookup x=some .cell\/X.env.scope.names.lookup x=some .free))
 (cl1:∀x c,cl.lookup x=some c->X.env.cells.lookup x=some c)(cl2:∀x,(x,D5)∈scope.names->(cl.lookup x).isSome=true)
 (I3:Inv X pins σ H3 s3)(T:Turn X.prog X.w X.K tg J fp it tn)(tn3:tn 0 s3.heap)(fpD:∀b∈fp,H3 b=none)(fp3:∀b∈fp,b<s3.heap.objs.size)
 (fpk:∀b∈fp,b≠X.env.locals/\b∉X.fs/\(b∈X.ex\/X.s₀.heap.objs.size<=b)/\(∀x c,X.env.cells.lookup x=some c->c≠b)/\∀p∈X.pn++pins,p.1≠b)
 (loop:∀s',Inv (aD X N' scope cl fp (X.pn++pins) s3 H3) [] (kD fr σ) H3 s'->tn 0 s'.heap->(∀{H':Hp},(∀b∈fp,H' b=none)->∀b∈fp,i4 (aD X N' scope cl fp (X.pn++pins) s3 H3) [] H' b) ->
  EW (Dw X.prog X.w) X.A (.compStart ex 0 (.ref it) (.ref D) (aD X N' scope cl fp (X.pn++pins) s3 H3).env) (fun r s5=>r = .ok .next/\∃σ5 H4,Inv (aD X N' scope cl fp (X.pn++pins) s3 H3) [] σ5 H4 s5/\Q (.ref D) H4) s')
 (fin:∀s5 H4 m,s5.heap.Ns s3.heap.objs.size m->(∀h',EQ s3.heap.objs.size s5.heap h'->Inv X pins σ H4 {s5 with heap:=h' })->i4 X pins H4 s3.heap.objs.size->Q (.ref D) H4->Rp s3.heap.objs.size (.ok .next) s5) :
 Dr (Dw X.prog X.w) X.A (G0 scope X.env.globals cl [] X.env.qual none .none (some X.env)) (fun cenv s₄ =>
  EW (Dw X.prog X.w) X.A (.compStart ex 0 (.ref it) (.ref D) {cenv with scope:=J3 scope X.env})
   (Rp cenv.locals) s₄) X.xe s3:=by
 refine iH ?_;have ok:=cellsFrom_ok scope.names (s3.heap.push {cls:=.type "dict", data:=.dict #[]}) (s3.heap.objs.size+1) [] ⟨fun _ _ hm=>(nomatch hm),HW⟩ (by rw[EG];exact Dm _);rw[EG]at ok;have kp:∀b o,s3.heap.get? b=some o->(JT (s3.heap.push {cls:=.type "dict", data:=.dict #[]}) scope.names).get? b=some o:=fun b o e=>pushCells_keeps _ _ b o (Db _ e);have hns₁:(JT (s3.heap.push {cls:=.type "dict", data:=.dict #[]}) scope.names).Ns s3.heap.objs.size (fun _=>none):=(Heap.Ns.new s3.heap (.type "dict")).keeps (pushCells_keeps _ _);generalize JT (s3.heap.push {cls:=.type "dict", data:=.dict #[]}) scope.names=h₁ at ok kp hns₁ ⊢
 have cs:∀x c,(EU (s3.heap.objs.size+1) scope.names cl).lookup x=some c->(EU (s3.heap.objs.size+1) scope.names []).lookup x=some c\/cl.lookup x=some c:=fun x c e=>by
  rw[aO,dw]at e
  cases q:(EU (s3.heap.objs.size+1) scope.names []).lookup x with
  | none=>rw[q]at e;exact .inr (by simpa using e)
  | some c'=>rw[q]at e;exact .inl (by simpa using e)
 have own:∀x c,(EU (s3.heap.objs.size+1) scope.names []).lookup x=some c->h₁.IsCell c none/\s3.heap.objs.size+1<=c:=fun x c e=>ok.empty x c (Ei e)
 have clt:∀x c,cl.lookup x=some c->c<s3.heap.objs.size:=fun x c e=>by
  obtain⟨v,o,ho,_⟩:=I3.cell x c (cl1 x c e);exact Df ho
 have frn:∀x,scope.names.lookup x=some .free->(EU (s3.heap.objs.size+1) scope.names []).lookup x=none:=fun x e=>by
  cases q:(EU (s3.heap.objs.size+1) scope.names []).lookup x with
  | none=>rfl
  | some c =>
    have:=hcell (x,.cell) (cp (Ei q)) rfl;rw[e]at this;cases this
 have notC:∀b o,s3.heap.get? b=some o->b≠s3.heap.objs.size:=fun b o e=>DB (Df e);have fpstk:∀b∈fp,b∉frs X.stack:=fun b hb z=>(DS.mp (I3.stkSub b z)).elim (fpk b hb).1 (fpk b hb).2.1;have cellK:∀c v,s3.heap.IsCell c v->h₁.IsCell c v:=fun c v ⟨o,ho,hd⟩=>⟨o,kp c o ho,hd⟩
 have IY:Inv (aD X N' scope cl fp (X.pn++pins) s3 H3) [] (kD fr σ) H3 {s3 with heap:=h₁}:=by
  refine⟨⟨I3.ok.mod,hkind,I3.ok.glob,I3.ok.blt,Dm _,fun x y c e1 e2=>?_,fun x hx=>?_,fun x c _ e=>?_,I3.ok.hd,I3.ok.frames,.inl rfl,
   fun b hb=>⟨DB (fp3 b hb),fun x c e=>?_⟩,I3.bs,Ef I3.ok.bsz I3.sz,fun b o e hb=>?_,fun b hb=>fpstk b hb,I3.stack,I3.stkFree⟩,
   rfl,I3.bare,Un.kept kp,⟨_,hns₁,fun i x v e1 e2 e3=>?_⟩,fun x c e=>?_,I3.hok.fresh (Dm _),fun x c e=>?_,fun p hp=>?_,I3.hok.kept kp,?_⟩
  · rcases cs x c e1 with q1|q1<;>rcases cs y c e2 with q2|q2
    · exact name_of_addr ok.apart (Ei q1) (Ei q2)
    · exact absurd (Dk (clt y c q2) (Gq (own x c q1).2)) (D_ _)
    · exact absurd (Dk (clt x c q1) (Gq (own y c q2).2)) (D_ _)
    · exact I3.ok.inj x y c (cl1 x c q1) (cl1 y c q2)
  · refine FP.mp ?_;show((EU (s3.heap.objs.size+1) scope.names cl).lookup x).isSome=true;rcases gX hx with q|q
    · exact W.cellsFrom_some _ _ _ (.inr (cl2 x q))
    · exact W.cellsFrom_some _ _ _ (.inl (hcell _ q rfl))
  · rename_i hfn;rcases cs x c e with q|q
    · have:=(own x c q).2;show s3.heap.objs.size<=c;omega
    · have hfn:(scope.names.lookup x==some E_)=true:=hfn;have hl:scope.names.lookup x=some .cell:=by simpa using hfn
      obtain⟨c',ec'⟩:=FP.mp (W.cellsFrom_some scope.names (s3.heap.objs.size+1) [] (.inl hl));have e':(EU (s3.heap.objs.size+1) scope.names cl).lookup x=some c:=e;rw[aO,dw,ec']at e';simp at e';subst e';exact Gq (own x c' ec').2
  · rcases cs x c e with q|q
    · exact fun z=>absurd (Dk (fp3 b hb) (Gq (by rw[<- z];exact(own x c q).2))) (D_ _)
    · exact(fpk b hb).2.2.2.1 x c (cl1 x c q)
  · rcases(fpk b hb).2.2.1 with z|z
    · exact I3.ok.noex b o e z
    · exact absurd (Dk (Df e) (Ef I3.ok.bsz z)) (D_ _)
  · have e2':(fr[i]?).map (fun o=>o.bind fun j=>(σ[j]?).join)=some (some v):=by unfold kD at e2;rw[DY]at e2;exact e2
    cases ef:fr[i]? with
    | none=>rw[ef]at e2';cases e2'
    | some o =>
      cases o with
      | none=>rw[ef]at e2';cases e2'
      | some j =>
        rw[ef]at e2';have e3':(σ[j]?).join=some v:=DX e2'
        have e4:σ[j]?=some (some v):=by
         cases q:σ[j]? with
         | none=>rw[q]at e3';cases e3'
         | some z=>rw[q]at e3';cases e3';rfl
        obtain⟨x',n1,n2,n3,n4⟩:=frg i j ef;have ex:x'=x:=DX (n1.symm.trans e1);subst ex;obtain⟨m,hn,hl⟩:=I3.loc;obtain⟨u,ru,lk⟩:=hl j x' v n2 e4 (n4.elim (fun z=>.inr (.inl z)) fun z=>.inr (.inr z));refine⟨u,ru,?_⟩;rcases lk with⟨kl,_⟩|⟨_,c,ec,hcl⟩
        · exact absurd (show X.env.scope.names.lookup x'=some .local from kl) (by rcases n4 with z|z<;>rw[z]<;>decide)
        · obtain⟨c',ec'⟩:=FP.mp (cl2 x' (j5 n3));have:=cl1 x' c' ec';rw[ec]at this;cases this;refine .inr ⟨dD n3,c,?_,cellK _ _ hcl⟩;show(EU (s3.heap.objs.size+1) scope.names cl).lookup x'=some c;rw[aO,dw,frn x' n3];simpa using ec'
  · rcases cs x c e with q|q
    · exact⟨_,(own x c q).1⟩
    · obtain⟨v,z⟩:=I3.cell x c (cl1 x c q);exact⟨v,cellK _ _ z⟩
  · rcases cs x c e with q|q
    · exact I3.hok.fresh (by have:=(own x c q).2;omega)
    · exact I3.freeC x c (cl1 x c q)
  · rw[EA]at hp;obtain⟨e,n,ne,nf,d⟩:=I3.pin p hp;exact⟨kp _ _ e,n,notC _ _ e,fun z=>(DS.mp (I3.stkSub p.1 z)).elim ne nf,d⟩
  · unfold kD;rw[Di];exact frl
 have stat:∀{H':Hp},(∀b∈fp,H' b=none)->∀b∈fp,i4 (aD X N' scope cl fp (X.pn++pins) s3 H3) [] H' b:=fun hn b hb =>
  ⟨hn b hb,DB (fp3 b hb),fpstk b hb,.inl hb,fun x c e=>(by
   rcases cs x c e with q|q
   · exact fun z=>absurd (Dk (fp3 b hb) (Gq (by rw[<- z];exact(own x c q).2))) (D_ _)
   · exact(fpk b hb).2.2.2.1 x c (cl1 x c q)),fun p hp=>by rw[EA]at hp;exact(fpk b hb).2.2.2.2 p hp⟩
 refine FR (loop _ IY (T.keep _ _ _ tn3 fun b _ o e=>kp b o e) stat) fun r s5 ⟨hr,σ5,H4,I5,qn⟩=>?_;subst hr;obtain⟨m,hn,_⟩:=I5.loc;refine fin s5 H4 m hn (fun h' hs'=>?_) (I3.fpOk (Dm _) I5.free) qn;have k':∀b o,b≠s3.heap.objs.size->s5.heap.get? b=some o->h'.get? b=some o:=fun b o nb e=>hs'.extBut b o nb e;have u5:Un (frs X.stack) fp H3 H4 s3.heap s5.heap:=I5.base
 have un:Un (frs X.stack) fp H3 H4 s3.heap h' :=
  ⟨fun b o e n hb hx=>k' b o (notC b o e) (u5.keep b o e n hb hx),fun b o e n hb hx=>by obtain⟨sl,q⟩:=u5.slot b o e n hb hx;exact⟨sl,k' b _ (notC b o e) q⟩,u5.free,
   fun b o e hx=>by obtain⟨o',q⟩:=u5.there b o e hx;exact⟨o',k' b _ (notC b o e) q⟩,u5.tups,u5.frzs,u5.tbls⟩
 have nC:H4 s3.heap.objs.size=none:=I5.free
 have hok':CW X.prog X.w H4 h':=fun b u e=>(I5.hok b u e).stay (fun c v hcv q=>k' c v (by
  rintro rfl;rcases hcv with z|z
  · rw[<- z]at e;rw[nC]at e;cases e
  · rw[nC]at z;cases z) q) (fun _ q=>q) fun _ _ q=>q
 obtain⟨hh,g5,d5,t5,os5⟩:=s5;have os':os5=s3.os:=I5.os;subst os';have I':=Inv.call (s:=s3) (h':=h') (g':=g5) (d':=d5) (t':=t5) (ch:=fp) I3 un hok' I5.bare (fun b hb=>⟨(fpk b hb).2.2.1,(fpk b hb).1,(fpk b hb).2.2.2.1,(fpk b hb).2.2.2.2⟩);exact I'
theorem ka{elt:Expr}{g:TG}{tt:TT}{te:TE}{H3:Hp}{s3:Dd}{J:It}{Q:VK}
 (N':List Str)(fr:List (Option Nat))(hc:X.calm=true)(hkind:scope.kind = .function)(hcell:∀y∈scope.names,y.2 = .cell->scope.names.lookup y.1=some .cell)
 (hfree:∀y∈scope.names,y.2 = .free->X.env.kindOf y.1=some .cell\/X.env.kindOf y.1=some .free)(frl:fr.length=N'.length)
 (frg:∀(i j:Nat),fr[i]?=some (some j)->∃x,N'[i]?=some x/\X.N[j]?=some x/\scope.names.lookup x=some .free/\(X.env.scope.names.lookup x=some .cell\/X.env.scope.names.lookup x=some .free))
 (cl1:∀x c,cl.lookup x=some c->X.env.cells.lookup x=some c)(cl2:∀x,(x,D5)∈scope.names->(cl.lookup x).isSome=true)
 (I3:Inv X pins σ H3 s3)(T:Turn X.prog X.w X.K tg J fp it tn)(tn3:tn 0 s3.heap)(fpD:∀b∈fp,H3 b=none)(fp3:∀b∈fp,b<s3.heap.objs.size)
 (fpk:∀b∈fp,b≠X.env.locals/\b∉X.fs/\(b∈X.ex\/X.s₀.heap.objs.size<=b)/\(∀x c,X.env.cells.lookup x=some c->c≠b)/\∀p∈X.pn++pins,p.1≠b)
 (hg:PG (aD X N' scope cl fp (X.pn++pins) s3 H3) tg g)(ht:Cu (aD X N' scope cl fp (X.pn++pins) s3 H3) ifs tt)(he:PE (aD X N' scope cl fp (X.pn++pins) s3 H3) elt te)
 {Wv:Nat->Nat->List V->St->Hp->Prop}{m0:Nat}(w0:Wv 0 m0 [] (kD fr σ) H3)
 (turn:∀i m acc σc H,Wv i m acc σc H->(J.stop i H/\Q (.ref D) H)\/(J.go i H/\∀x H',J.yld i H x H'->g x σc H' fun σ2 H2=>tt σ2 H2 fun b H3 =>
  if b=true then te σ2 H3 fun y H4=>H4 D=some (.lst acc)/\acc.length<sizeLine/\∃m',m'<m/\Wv (i+1) m' (acc++[y]) σ2 (upd H4 D (.lst (acc++[y])))else ∃m',m'<m/\Wv (i+1) m' acc σ2 H3))
 (fin:∀s5 H4 m,s5.heap.Ns s3.heap.objs.size m->(∀h',EQ s3.heap.objs.size s5.heap h'->Inv X pins σ H4 {s5 with heap:=h' })->i4 X pins H4 s3.heap.objs.size->Q (.ref D) H4->Rp s3.heap.objs.size (.ok .next) s5) :
 Dr (Dw X.prog X.w) X.A (G0 scope X.env.globals cl [] X.env.qual none .none (some X.env)) (fun cenv s₄ =>
  EW (Dw X.prog X.w) X.A (.compStart (.ListComp elt [⟨tg,iter,ifs,0⟩] scope pos) 0 (.ref it) (.ref D) {cenv with scope:=J3 scope X.env})
   (Rp cenv.locals) s₄) X.xe s3:=by
 refine cn N' fr hc hkind hcell hfree frl frg cl1 cl2 I3 T tn3 fpD fp3 fpk (fun s' IY tY stat=>?_) fin
 have loop:EW (Dw X.prog X.w) X.A (.compLoop (.ListComp elt [⟨tg,iter,ifs,0⟩] scope pos) 0 (.ref it) (.ref D) (aD X N' scope cl fp (X.pn++pins) s3 H3).env)
  (fun r s5=>r = .ok .next/\∃σ5 H4,Inv (aD X N' scope cl fp (X.pn++pins) s3 H3) [] σ5 H4 s5/\Q (.ref D) H4) s':=by
  refine mQ (fun n s'=>∃i acc σ' H',Inv (aD X N' scope cl fp (X.pn++pins) s3 H3) [] σ' H' s'/\tn i s'.heap/\(∀b∈fp,H' b=none)/\Wv i n acc σ' H') ?_ m0
   ⟨0,[],_,_,IY,tY,fpD,w0⟩
  rintro n s4 ⟨i,acc,σ4,H4,I4,st4,fr4,w4⟩;rcases turn i n acc σ4 H4 w4 with⟨stop,qn⟩|⟨go,step⟩
  · exact A8 (T.done (aD X N' scope cl fp (X.pn++pins) s3 H3) rfl rfl rfl hc i [] s4 σ4 H4 (fun _ _=>False) I4 (stat fr4) st4 stop) fun r s5 ⟨hr,I5⟩=>.inl ⟨hr,rfl,σ4,H4,I5,qn⟩
  · refine A8 (T.item (aD X N' scope cl fp (X.pn++pins) s3 H3) rfl rfl rfl hc i [] s4 σ4 H4 (fun _ _=>False) I4 (stat fr4) st4 go) fun r s5 ⟨u,hr,h5⟩=>.inr ⟨u,hr,?_⟩;refine A8 h5 fun _ s6 ⟨x,H6,I6,r6,y6,st6,fr6⟩=>?_;have I6':=I6.pinned (stat fr6) (T.obj _ _ st6)
    have again:∀{σ7:St}{H7:Hp}{s7:Dd},Inv (aD X N' scope cl fp (X.pn++pins) s3 H3) ([]++dE fp s6.heap) σ7 H7 s7->∀{acc':List V}{m':Nat},m'<n->Wv (i+1) m' acc' σ7 H7 ->
     ∃m,m<n/\∃i acc σ' H',Inv (aD X N' scope cl fp (X.pn++pins) s3 H3) [] σ' H' s7/\tn i s7.heap/\(∀b∈fp,H' b=none)/\Wv i m acc σ' H':=fun{σ7 H7 s7} I7 {acc' m'} hm w7=>by
     refine⟨m',hm,i+1,acc',σ7,H7,I7.unpinned,T.keep _ _ _ st6 fun b hb o e=>(I7.pin (b,o) (Dt _ (Dt _ (aQ hb e)))).1,fun b hb=>?_,w7⟩;obtain⟨o,e,d⟩:=T.obj _ _ st6 b hb;exact(I7.pin (b,o) (Dt _ (Dt _ (aQ hb e)))).2.1
    refine A8 (hg _ s6 σ4 H6 x u _ I6' r6 (step x H6 y6)) fun _ s7 ⟨σ7,H7,I7,q7⟩=>?_;refine A8 (ht _ s7 σ7 H7 _ I7 q7) fun ok s8 ⟨H8,I8,q8⟩=>?_
    cases ok with
    | false =>
      rw[if_neg DJ]at q8 ⊢;obtain⟨m',hm,w8⟩:=q8
      exact again I8 hm w8
    | true =>
      rw[if_pos rfl]at q8 ⊢;refine A8 (he _ s8 σ7 H8 _ I8 q8) fun y s9 ⟨yv,H9,I9,r9,eD,hl,m',hm,w9⟩=>?_
      exact A8 (d4 (X:=aD X N' scope cl fp (X.pn++pins) s3 H3) _ s9 σ7 H9 (.ref D) [yv] (.ref D) [y] (fun _ H'=>H'=upd H9 D (.lst (acc++[yv]))) I9 rfl (.cons r9 .nil) ⟨D,acc,yv,rfl,rfl,eD,hl,rfl⟩)
       fun _ s10 ⟨_,H10,I10,_,e10⟩=>by subst e10;exact again I10 hm w9
 exact Iy loop (T.self X.A 0 _ _ _ tY loop)
section
variable{X:Cx}{elt tg iter:Expr}{ifs:List Expr}{scope:Scope}{pos:Pos}{wi:TI}{g:CompA->TG}{tt:CompA->TT}{te:CompA->TE}
theorem jg(N':List Str)(fr:List (Option Nat))(hc:X.calm=true)(hi:PI X tg iter wi)(hfr:mG fr N' X.N scope X.env.scope=true)(hsc:ni scope X.env.scope=true)
 (hg:∀y,PG (blk X N' scope y) tg (g y))(ht:∀y,Cu (blk X N' scope y) ifs (tt y))(he:∀y,PE (blk X N' scope y) elt (te y))
 (hs:autoParam (∀x,DL iter X.env x=pure x) æd._auto_1):PE X (.ListComp elt [⟨tg,iter,ifs,0⟩] scope pos) (qH wi fr g tt te):=by
 intro pins s σ H Q I h;obtain⟨sk,sn⟩:=Dj.mp hsc;have hkind:scope.kind = .function:=of_decide_eq_true sk;have hall:=Fq.mp sn
 have hcell:∀y∈scope.names,y.2 = .cell->scope.names.lookup y.1=some .cell:=fun y hy hl=>by
  rcases DH.mp (Dj.mp (Dj.mp (hall y hy)).1).1 with z|z
  · exact absurd hl (of_decide_eq_true z)
  · exact of_decide_eq_true z
 have hnames:∀y∈scope.names,y.2 = .local->scope.names.lookup y.1=some .local:=fun y hy hl=>by
  rcases DH.mp (Dj.mp (Dj.mp (hall y hy)).1).2 with z|z
  · exact absurd hl (of_decide_eq_true z)
  · exact of_decide_eq_true z
 have hfree:∀y∈scope.names,y.2 = .free->X.env.kindOf y.1=some .cell\/X.env.kindOf y.1=some .free:=fun y hy hl=>by
  rcases DH.mp (Dj.mp (hall y hy)).2 with z|z
  · exact absurd hl (of_decide_eq_true z)
  · exact(DH.mp z).imp of_decide_eq_true of_decide_eq_true
 obtain⟨frl,frg⟩:=mG.get hfr;obtain⟨cl,hclos,cl1,cl2⟩:=bR (env:=X.env) (scope:=scope) fun y hy hl=>I.ok.has y.1 (hfree y hy hl);rw[eval_ListComp];refine E6 (use:=none) rfl hs hclos hkind hnames (A8 (hi pins s σ H _ I h) fun v s1 h1=>A8 h1 fun itv s2 h2=>?_);obtain⟨it,fp,tn,J,H2,e,I2,T,st2,f2,q2⟩:=h2;subst e;refine DT ?_;have hD:H2 s2.heap.objs.size=none:=I2.hok.fresh (Dm _)
 have I3:Inv X pins σ (upd H2 s2.heap.objs.size (.lst [])) {s2 with heap:=s2.heap.push {cls:=.type "list", data:=.seq ([]:List Dc).toArray}} :=
  I2.laid (t':=s2.toks) (fun b u e=>Db _ e) (Dm _) ⟨by show 0<=sizeLine;exact DG _,[],0,.nil,Do _ rfl⟩
 obtain⟨Wv,⟨m0,w0⟩,turn⟩:=q2 _ hD;have tn3:tn 0 (s2.heap.push {cls:=.type "list", data:=.seq ([]:List Dc).toArray}):=T.keep _ _ _ st2 fun b _ o e=>Db _ e
 have fpD:∀b∈fp,(upd H2 s2.heap.objs.size (.lst [])) b=none:=fun b hb=>by
  obtain⟨o,e,_⟩:=T.obj _ _ st2 b hb;rw[ae (DB (Df e))];exact(f2 b hb).1
 have fp3:∀b∈fp,b<(s2.heap.push {cls:=.type "list", data:=.seq ([]:List Dc).toArray}).objs.size:=fun b hb=>by
  obtain⟨o,e,_⟩:=T.obj _ _ tn3 b hb;exact Df e
 exact ka N' fr hc hkind hcell hfree frl frg cl1 cl2 I3 T tn3 fpD fp3 (fun b hb=>(f2 b hb).2) (hg ⟨cl,fp,X.pn++pins,_,_⟩) (ht ⟨cl,fp,X.pn++pins,_,_⟩) (he ⟨cl,fp,X.pn++pins,_,_⟩) w0 (turn ⟨cl,fp,X.pn++pins,_,_⟩)
  (Rp:=JL (Dw X.prog X.w) X.A X.xe none (EP X pins σ Q) (.ref s2.heap.objs.size)) fun s5 H4 m hn k _ qn=>⟨m,hn,fun h' hs'=>⟨.ref _,H4,k h' hs',rfl,qn⟩⟩
end
end L2
namespace L2.VL
noncomputable def W.cap:W->Option W
 | .d x=>some (.d x)
 | .reel=>some .reel
 | .vv u=>some (.vv u)
 | .sc ns=>some (.sc ns)
 | .fd kvs=>some (.fd kvs)
 | .xr kvs=>some (.xr kvs)
 | .fw kvs=>some (.fw kvs)
 | .ft kvs=>some (.ft kvs)
 | .xc x fs=>some (.xc x fs)
 | .dp kvs x=>some (.dp kvs x)
 | _=>none
noncomputable def dh(fr:List (Option Nat))(ρ:En):En:=fr.map fun o=>o.bind fun j=>((ρ[j]?).join).bind W.cap
noncomputable def kF(X:Cx)(rl:Option Addr)(ifs:List Expr)(f:TB):Prop:=∃t,Cu X ifs t/\∀{F₀ H₀ F H:Hp}{σ:St}{ρ:En},VR X.K rl F₀ H₀ F H σ ρ->∀(Qd:Bool->Prop)(Q:Bool->Hp->Prop),f ρ Qd ->
 (∀b F' H',Grow rl F H F' H'->Qd b->Q b H')->t σ H Q
theorem cr:kF X rl [] (fun _ Q=>Q true):=⟨_,qV,fun R Qd Q q k=>k true _ _ (Grow.refl R.sub R.reel) q⟩
theorem kH{c:Expr}{f:TB}(h:PB X rl c f):kF X rl [c] f:=let ⟨t,p,k⟩:=h;⟨t,qU p,k⟩
theorem dR{fr:List (Option Nat)}{w:W}(h:(dh fr ρ)[i]?=some (some w)):∃j w',fr[i]?=some (some j)/\ρ[j]?=some (some w')/\w'.cap=some w:=by
 unfold dh at h;rw[DY]at h
 cases ef:fr[i]? with
 | none=>rw[ef]at h;cases h
 | some o =>
   cases o with
   | none=>rw[ef]at h;cases h
   | some j =>
     rw[ef]at h;have h':((ρ[j]?).join).bind W.cap=some w:=DX h
     cases q:ρ[j]? with
     | none=>rw[q]at h';cases h'
     | some o =>
       cases o with
       | none=>rw[q]at h';cases h'
       | some w'=>rw[q]at h';exact⟨j,w',rfl,q,h'⟩
theorem jI{w' w:W}(h:w'.cap=some w):w=w'/\w.own=false/\∀xs,w ≠ .pk xs:=by
 cases w'<;>cases h<;>exact⟨rfl,rfl,(fun _ z=>by cases z)⟩
theorem dO{K:W.Frag}{fr:List (Option Nat)}(R:VR K rl F₀ H₀ F H σ ρ)(g:Grow rl F H F H'):VR K rl F H F H' (kD fr σ) (dh fr ρ):=by
 refine⟨g,fun i w e=>?_,fun i j xs ys v _ e1 _ o1 _ _ _=>?_,fun i xs e=>?_,by simp[kD,dh]⟩
 · obtain⟨j,w',e1,e2,e3⟩:=dR e;obtain⟨rfl,n1,n2⟩:=jI e3;obtain⟨v,s1,r1,_⟩:=R.sl j w e2;refine⟨v,?_,r1.grow g,?_⟩
   · unfold kD;rw[DY,e1];show some ((σ[j]?).join)=_;rw[s1];rfl
   · cases w with
     | ml xs=>cases n1
     | md xs=>cases n1
     | mk xs=>cases n1
     | xm xs=>cases n1
     | nt _=>trivial
     | lk=>trivial
     | sc _=>trivial
     | fd _=>trivial
     | xr _=>trivial
     | fw _=>trivial
     | ft _=>trivial
     | xc _ _=>trivial
     | dp _ _=>trivial
     | d _=>trivial
     | pk _=>trivial
     | reel=>trivial
     | vv _=>trivial
 · obtain⟨_,_,_,_,e3⟩:=dR e1;rw[(jI e3).2.1]at o1;cases o1
 · obtain⟨_,_,_,_,e3⟩:=dR e;exact absurd rfl ((jI e3).2.2 xs)
theorem cC{fr:List (Option Nat)}:ko (dh fr ρ):=fun i xs e=>by
 obtain⟨_,_,_,_,e3⟩:=dR e;exact(jI e3).2.1
theorem VR.other{K:W.Frag}(R:VR K rl F₀ H₀ F H σ ρ)(n:ko ρ){o:HO}(h0:H₀ D=none)(f:F D=none)(hr:rl≠some D):VR K rl F₀ H₀ F (upd H D o) σ ρ:=by
 have neF:∀b u,F b=some u->b≠D:=fun b u q z=>by subst z;rw[f]at q;cases q
 have g:Grow rl F₀ H₀ F (upd H D o):=by
  refine⟨fun b o q1 n=>by rw[ae (aq q1 h0)];exact R.g.same b o q1 n,R.g.fs,fun b o q1=>by rw[ae (neF b o q1)];exact R.sub b o q1,R.g.old,fun y z=>?_⟩;obtain⟨z1,⟨u,h1,h2⟩⟩:=R.reel y z;exact⟨z1,⟨u,by rw[ae (fun q=>hr (by rw[<- q];exact z))];exact h1,h2⟩⟩
 refine⟨g,fun i w e=>?_,R.ap,R.np,R.len⟩;obtain⟨v,h1,h2,h3⟩:=R.sl i w e;refine⟨v,h1,?_,h3⟩
 cases w with
 | d x=>exact h2
 | reel=>exact h2
 | vv u=>exact h2
 | ml xs=>cases n i _ e
 | md xs=>cases n i _ e
 | mk xs=>cases n i _ e
 | xm xs=>cases n i _ e
 | nt ds=>exact h2
 | lk=>trivial
 | sc _=>exact h2
 | fd _=>exact h2
 | xr _=>exact h2
 | fw _=>exact h2
 | ft _=>exact h2
 | xc _ _=>exact h2
 | dp _ _=>exact h2
 | pk xs=>exact absurd e (R.np i xs)
section
variable{X:Cx}{rl:Option Addr}{elt tg iter:Expr}{ifs:List Expr}{scope:Scope}{pos:Pos}{fi:En->(List Da->Prop)->Prop}{g:Ce}{ft:TB}{fe:TV}
end
mutual
def sU:Da->Prop
 | .none=>True
 | .bool _=>True
 | .int i=>i.natAbs<2^1900
 | .str x=>JG x=true
 | .list xs=>eF xs
 | .tuple xs=>eF xs
 | .dict _=>False
def eF:List Da->Prop
 | []=>True
 | x::xs=>sU x/\eF xs
end
theorem fg{k:Nat}(h:n<2^k)(hk:0<k):n.log2<k:=by
 by_cases h0:n=0
 · subst h0;simpa using hk
 · exact(Nat.log2_lt h0).mpr h
mutual
theorem sU.facts:∀d:Da,sU d->d.showable=true/\d.canLay0=true/\d.hasDict=false/\d.leavesShort 1921=true
 | .none,_=>⟨rfl,rfl,rfl,rfl⟩
 | .bool _,_=>⟨rfl,rfl,rfl,rfl⟩
 | .int i,h=>by
   have hl:i.natAbs.log2<1920:=fg (Dk (show i.natAbs<2^1900 from h) (DQ (by decide) (by decide))) (by decide);refine⟨by simp[GO,hl],rfl,rfl,?_⟩;simp only[EK,decide_eq_true_eq]
   exact int_text_len_1921 hl
 | .str x,h=>by
   refine⟨rfl,(show EY (.str x)=true by simp only[EY];exact h),rfl,?_⟩;have h:x.cps.all (· < 0x110000)=true:=h;simp only[EK];rw[Fq];intro c hc;have:=(GR.mp h) c (by simpa using hc);simp at this ⊢
   omega
 | .list xs,h=>by
   obtain⟨a,b,c,d⟩:=eF.facts xs h
   exact⟨by simpa[GO]using a,by simpa[EY]using b,by simpa[Da.hasDict]using c,by simpa[EK]using d⟩
 | .tuple xs,h=>by
   obtain⟨a,b,c,d⟩:=eF.facts xs h
   exact⟨by simpa[GO]using a,by simpa[EY]using b,by simpa[Da.hasDict]using c,by simpa[EK]using d⟩
 | .dict _,h=>D9 h
theorem eF.facts:∀xs:List Da,eF xs->Da.showableAll xs=true/\Ec xs=true/\Da.hasDictAll xs=false/\Gn 1921 xs=true
 | [],_=>⟨rfl,rfl,rfl,rfl⟩
 | x::xs,h=>by
   obtain⟨a,b,c,d⟩:=sU.facts x h.1;obtain⟨a',b',c',d'⟩:=eF.facts xs h.2;exact⟨by simp[Da.showableAll,a,a'],by simp[Ec,b,b'],by simp[Da.hasDictAll,c,c'],by simp[Gn,d,d']⟩
end
noncomputable def Cm(d:Da):Prop:=sU d/\d.depth<=60/\d.bulk<=8000
theorem Cm.len(h:Cm d):d.shown.length<=sizeLine:=by
 have q:=IZ 1921 (by decide) d (sU.facts d h.1).2.2.2;have:=h.2.2;have e:sizeLine=16777216:=by decide
 omega
section
variable{X:Cx}{rl:Option Addr}{a b e:Expr}{es:List Expr}{fa fb fc:TV}{fs:Ca}{pos p:Pos}
noncomputable def uR(K:W.Frag):List V->Hp->VK->Prop:=fun xs H Q=>∃x d,xs=[x]/\Rep K H x d/\Cm d/\Q (.str d.shown) H
theorem mV(hgd:X.A.guards=some [])(hu:X.A.units+64<Gu):eG X (.builtin "repr") (uR X.K):=by
 intro pins s σ H xs us Q I r ⟨x,d,ex,rx,sh,q⟩;subst ex;obtain⟨u,rfl,ru⟩:=vals1 r;have fin:∀tk h' , (∀b o,s.heap.get? b=some o->h'.get? b=some o)->∀t,EP X pins σ Q (.str d.shown t) {s with heap:=h',toks:=tk}:=fun tk h' k t=>⟨.str d.shown,H,I.kept k,⟨t,rfl⟩,q⟩;obtain⟨as,rd⟩:=Rep.reads I (.refl H) rx u ru;have hs:=(sU.facts d sh.1)
 cases rx with
 | non=>cases(show u=D3 from ru);exact P.repr_of_none (fin _ _ (fun _ _ e=>e) _)
 | bl b=>cases(show u=Gp b from ru);exact P.repr_of_bool (fin _ _ (fun _ _ e=>e) _)
 | int i =>
   obtain⟨t,e⟩:=(show ∃t,u=F0 i t from ru);cases e
   exact P.repr_of_int (by simpa[GO]using hs.1) (fin _ _ (fun _ _ e=>e) _)
 | str x =>
   obtain⟨t,e⟩:=(show ∃t,u=HP x t from ru);cases e
   exact P.repr_of_str (fin _ _ (fun _ _ e=>e) _) sh.len
 | tup sq rs =>
   cases(show u=Dn _ from ru)
   exact HF rd hs.1 (GX hs.2.2.1) hgd (by have:=sh.2.1;omega) (fun _ _ e=>e) (fun h' t tk hk=>fin tk h' hk t) sh.len
 | lst sq rs =>
   cases(show u=Dn _ from ru);exact HF rd hs.1 (GX hs.2.2.1) hgd (by have:=sh.2.1;omega) (fun _ _ e=>e) (fun h' t tk hk=>fin tk h' hk t) sh.len
noncomputable def oO:List W->(W->Prop)->Prop:=fun ws Q=>∃w d,ws=[w]/\w.dat=some d/\Cm d/\Q (.d (.str d.shown))
theorem qr:ik X rl (uR X.K) oO:=fun{F H vs ws} Qd Q s ra r ⟨w,d,ew,e1,sh,q⟩ k=>by
 subst ew;obtain⟨v,rfl,r1⟩:=nM r;exact⟨v,d,rfl,r1.dat s e1,sh,k _ (.d _) _ _ (Grow.refl s ra) (.str _) trivial q⟩
theorem pf(hr:Room 0 X.A)(hm:X.mg "repr" = none)(ha:Cr X rl [e] fs)(hg:autoParam (Gl X "repr") æa._auto_1)(he:autoParam (Dh [e] X.env=(false,eval e X.env)::Dh [] X.env) æa._auto_1)(hpl:autoParam ((ES pos (Dh [] X.env)).any (·.1)=false) æa._auto_1) :
 PV X rl (.Call (.Name "repr" p) [e] [] pos) (eL oO fs):=fO (mV hr.gd hr.units) qr hm (by first|rfl|exact boot_repr) ha hg (by decide) (by decide) he hpl
noncomputable def A4:Da->String
 | .none => "NoneType"
 | .bool _ => "bool"
 | .int _ => "int"
 | .str _ => "str"
 | .list _ => "list"
 | .tuple _ => "tuple"
 | .dict _ => "dict"
noncomputable def zF(d:Da)(T:String):Bool:=A4 d==T||(A4 d == "bool" && T == "int")
noncomputable def zw(T:String):Bool:=["int", "bool", "str", "list", "tuple"].contains T
noncomputable def zI:List W->(W->Prop)->Prop:=fun ws Q=>∃w d T,ws=[w,.vv (.ty T)]/\w.dat=some d/\zw T=true/\Q (.d (.bool (zF d T)))
theorem di(hm:X.mg "len" = none)(ha:Cr X rl [a] fs)(hg:autoParam (Gl X "len") æa._auto_1)(he:autoParam (Dh [a] X.env=(false,eval a X.env)::Dh [] X.env) æa._auto_1)(hpl:autoParam ((ES pos (Dh [] X.env)).any (·.1)=false) æa._auto_1) :
 PV X rl (.Call (.Name "len" p) [a] [] pos) (eL wD fs):=fO ic tT hm boot_len ha hg (by decide) (by decide) he hpl
theorem ua(hm:X.mg "abs" = none)(ha:Cr X rl [a] fs)(hg:autoParam (Gl X "abs") æa._auto_1)(he:autoParam (Dh [a] X.env=(false,eval a X.env)::Dh [] X.env) æa._auto_1)(hpl:autoParam ((ES pos (Dh [] X.env)).any (·.1)=false) æa._auto_1) :
 PV X rl (.Call (.Name "abs" p) [a] [] pos) (eL wI fs):=fO o7 tU hm (by first|rfl|exact boot_abs) ha hg (by decide) (by decide) he hpl
noncomputable def vW:List W->(W->Prop)->Prop:=fun ws Q=>∃i,ws=[.d (.int i)]/\i.natAbs.log2<1920/\Q (.d (.str (JM i)))
end
structure FnIn (K:W.Frag) (mg:Str->Option Dc) (x:Str) (st:Stmt) (ps:List Str):Prop where
 ex:∃f fd,mg x=some (.ref f)/\Fun K x x st f fd/\Binds K fd ps []
structure Bz (mg:Str->Option Dc):Prop where
 int_:mg "int" = none
 bool_:mg "bool" = none
 str_:mg "str" = none
 list_:mg "list" = none
 tuple_:mg "tuple" = none
 dict_:mg "dict" = none
 isinstance_:mg "isinstance" = none
 len_:mg "len" = none
 abs_:mg "abs" = none
 repr_:mg "repr" = none
 range_:mg "range" = none
 all_:mg "all" = none
 any_:mg "any" = none
 sum_:mg "sum" = none
 min_:mg "min" = none
 max_:mg "max" = none
 sorted_:mg "sorted" = none
 zip_:mg "zip" = none
 enumerate_:mg "enumerate" = none
 reversed_:mg "reversed" = none
 divmod_:mg "divmod" = none
 set_:mg "set" = none
section
variable{P:Dq}{w:DN}{K:W.Frag}{mg:Str->Option Dc}{base:Heap}{rl:Option Addr}{x:Str}{st:Stmt}{N ps:List Str}{k:Nat}{Pd:List W->(Da->Prop)->Prop}{t:Cb}
theorem Dfn.of(Fn:FnIn K mg x st ps)(S:FnScope N ps (defScope st))(mono:∀ws Q Q',(∀d,Q d->Q' d)->Pd ws Q->Pd ws Q')(len:∀ws Q,Pd ws Q->ws.length=ps.length)
 (hbody:∀{f:Addr}(cdv:Dc)(A:DM)(outer:List Env)(s:Dd)(H:Hp)(E:XK),Room k (A.deeper (Hz x (defScope st) s.heap.objs.size f cdv)) ->
  il (jC C2 P w K mg base N x (defScope st) f cdv A outer s H E).nox rl (defBody st) t)
 (hread:∀ws Q,Pd ws Q->t (ip Q) (bU N ws)):Dfn P w K mg base rl x ps (k+1) Pd:=by
 obtain⟨f,fd,hm,F,hb⟩:=Fn.ex;exact⟨mono,f,fd,hm,F.kp,hb,AS F S len hbody hread⟩
end
section
variable{X:Cx}{rl:Option Addr}{e:Expr}{es:List Expr}{fa fb fc:TV}{fs:Ca}{pos p:Pos}
theorem tG(i:Nat)(ha:Cr X rl [e] fs)(hN:autoParam (X.N[i]?=some x) æa._auto_1)(hv:autoParam (B8 X.env.scope x) æc._auto_1)
 (hd:autoParam ((x==("__debug__" : Str))=false) æb._auto_1)(hcd:autoParam ((x==("__classdict__" : Str))=false) æb._auto_1)
 (hbase:autoParam (FU (.Name x px) "extend" X.env (eval (.Name x px) X.env)=eval (.Name x px) X.env) æa._auto_1)
 (hfew:autoParam (((ES cpos (Dh [e] X.env)).all (fun x=>!x.1)&&(Jt cpos (Hg [] X.env)).all (fun x=>x.1.isSome)
  && decide (([e]).length+([]:List G4).length+(if([]:List G4).isEmpty then 0 else 1)<30))=true) æa._auto_1)
 (hline:autoParam ((apos.endLine==cpos.line)=true) æa._auto_1)(hs:autoParam (Dh [e] X.env=(false,eval e X.env)::Dh [] X.env) æa._auto_1)(hplain:autoParam ((ES cpos (Dh [] X.env)).any (·.1)=false) æa._auto_1)
 (hsw:autoParam (ET (.Call (.Attribute (.Name x px) "extend" apos) [e] [] cpos) none pos.line X.env=pure false) æa._auto_1) :
 Cw X rl (.Expr (.Call (.Attribute (.Name x px) "extend" apos) [e] [] cpos) pos) (sX i wF fs) :=
 kK i PySem.F.slot_list_extend PySem.F.type_list_extend lO tM ha hN hv hd hcd hbase hfew hline hs hplain hsw
end
theorem fz_d(x:Da):(W.d x).fz = .d x:=rfl
theorem fz_ml(x:List Da):(W.ml x).fz = .d (.list x):=rfl
theorem fz_pk(x:List Da):(W.pk x).fz = .pk x:=rfl
theorem fz_reel:W.reel.fz = .reel:=rfl
theorem fz_vv(x:V):(W.vv x).fz = .vv x:=rfl
theorem pk_d(x:Da):L2.VL.W.peek (.d x) = .d x:=rfl
theorem pk_ml(x:List Da):L2.VL.W.peek (.ml x) = .pk x:=rfl
theorem pk_reel:L2.VL.W.peek .reel = .reel:=rfl
theorem pk_vv(x:V):L2.VL.W.peek (.vv x) = .vv x:=rfl
theorem dat_d(x:Da):(W.d x).dat=some x:=rfl
theorem dat_ml(x:List Da):(W.ml x).dat=some (.list x):=rfl
theorem dat_pk(x:List Da):(W.pk x).dat=some (.list x):=rfl
theorem isPk_d(x:Da):(W.d x).isPk=false:=rfl
theorem isPk_ml(x:List Da):(W.ml x).isPk=false:=rfl
theorem isPk_reel:W.reel.isPk=false:=rfl
theorem dats_nil:eK []=some []:=rfl
theorem dats_d(x:Da)(r:List W):eK (.d x::r)=(eK r).map (x :: ·):=rfl
theorem arg_d(x:Da):cU (.d x)=true:=rfl
theorem arg_reel:cU .reel=true:=rfl
theorem item_l(xs:List Da)(i:Int):L2.VL.itemAt (.list xs) i=L2.atI xs i:=rfl
theorem item_t(xs:List Da)(i:Int):L2.VL.itemAt (.tuple xs) i=L2.atI xs i:=rfl
theorem len_l(xs:List Da):pH (.list xs)=some xs.length:=rfl
theorem len_t(xs:List Da):pH (.tuple xs)=some xs.length:=rfl
theorem at0{α:Type}(x:α)(r:List α):L2.atI (x::r) 0=some x:=by simp[L2.atI,L2.ixN]
theorem at1{α:Type}(x y:α)(r:List α):L2.atI (x::y::r) 1=some y:=by
 have:(1:Int)<((x::y::r).length:Int):=by simp;omega
 simp only[L2.atI,L2.ixN];rw[if_pos (by decide),if_pos this];rfl
theorem eg{x y:Int}(h:y≠0):(x.fmod y).natAbs<y.natAbs:=by
 rcases Int.lt_or_gt_of_ne h with hy|hy
 · have h1:=IG x y
   have e:x.fmod y = -((-x).fmod (-y)):=by
    have:=Int.neg_fmod_neg x y;omega
   have p:0 < -y:=by omega
   have b1:=EV (-x) p;have b2:=Gf (-x) p;omega
 · have b1:=EV x hy;have b2:=Gf x hy;omega
theorem oM(x y:Int):FJ y (x.fmod y)=FJ x y:=by
 have e:x.fmod y=x+y*(-(x.fdiv y)):=by
  have:=IG x y;rw[Int.mul_neg];omega
 rw[e,Int.gcd_add_mul_left_right];exact Int.gcd_comm y x
theorem eqv_ii(a b:Int):EF (.int a) (.int b)=(a==b):=by simp[EF]
theorem shaped_i(a:Int):D4 (.int a)=true:=rfl
theorem shaped_b(a:Bool):D4 (.bool a)=true:=rfl
theorem dk{x y:Int}(h:y≠0)(b:y.natAbs<2^64):(x.fmod y).natAbs<2^64:=HA (eg h) b
theorem i5.of{i j:Int}(h:j≠0)(b:j.natAbs<2^64):i5 i j:=⟨h,Dk b (DQ (by decide) (by decide))⟩
theorem eB:∀ns:List Int,Ec (ns.map DZ)=true
 | []=>rfl
 | n::ns=>by simp[Ec,EY,eB ns]
theorem fu:∀ns:List Int,Ed (ns.map DZ)=0
 | []=>rfl
 | n::ns=>by simp[Ed,Fz,fu ns]
theorem shaped_ints(ns:List Int):D4 (.list (ns.map .int))=true:=by simp[D4,EY,Fz,eB,fu]
theorem cx(ns:List Da):EF (.list ns) (.list [])=ns.isEmpty:=by cases ns<;>simp[EF,Da.eqvAll]
theorem sA(a b:Int):FJ (if a<0 then -a else a) (if b<0 then -b else b)=FJ a b:=by
 split<;>split<;>simp[FJ]
theorem sy{a b:Int}(h:b≠0):0<(FJ a b:Int):=by
 have:=Int.gcd_pos_of_ne_zero_right a h;omega
theorem vV{a b:Int}(h:b≠0):(FJ a b)<=b.natAbs:=Nat.le_of_dvd (by omega) (Int.gcd_dvd_natAbs_right a b)
theorem eM(s:String):JG (Et s)=true:=by
 unfold JG;rw[Str.ofString_eq_toList];simp only[GR];intro c hc;have hc:c∈s.toList.map Char.toNat:=List.mem_toArray.mp hc;obtain⟨d,_,rfl⟩:=Eg.mp hc;have:=d.valid
 have h:d.val.toNat<0x110000:=by
  rcases this with h|h
  · have:d.val.toNat<0xd800:=h;omega
  · exact h.2
 exact decide_eq_true h
structure Lf (d:Da):Prop where
 nice:sU d
 dep:d.depth<=2
 wt:d.bulk<=2000
theorem Lf.int{i:Int}(h:i.natAbs<2^1000):Lf (.int i) :=
 ⟨HA h (Nat.pow_lt_pow_right (by decide) (by decide)),by simp[Fz],by simp[JU]⟩
theorem sO{xs:List α}{k:Int}(h0:0<=k)(h1:k<(xs.length:Int)):∃z,L2.atI xs k=some z/\z∈xs:=by
 obtain⟨n,rfl⟩:=FW h0;have hn:n<xs.length:=by omega
 exact⟨xs[n],mY (DF hn),Eb hn⟩
theorem ln{K:W.Frag}{i:Str}(h:Rep K F v (.str i)):v = .str i:=by cases h;rfl
noncomputable def yl(neg:Bool):W->W->(W->Prop)->Prop:=fun x y Q=>∃a b:Str,x = .d (.str a)/\y = .d (.str b)/\Q (.d (.bool (if neg then !decide (a=b)else decide (a=b))))
theorem pd:B9 X rl Bq (yl true):=fun{F H x y wx wy} Qd Q s ra r1 r2 q k=>by
 obtain⟨a,b,rfl,rfl,q⟩:=q;have e1:=ln r1;have e2:=ln r2;subst e1 e2
 have e:decide (V.str a=V.str b)=decide (a=b):=by
  by_cases h:a=b
  · subst h;simp
  · rw[decide_eq_false h,decide_eq_false fun z=>h (by injection z)]
 exact⟨rfl,by rw[e];exact k _ (.d _) _ _ (Grow.refl s ra) (.bl _) trivial q⟩
section
variable{P:Dq}{w:DN}{K:W.Frag}{mg:Str->Option Dc}{base:Heap}{rl:Option Addr}{x:Str}{st:Stmt}{N ps:List Str}{k:Nat}{Pd:List W->(List Da->Prop)->Prop}{t:Cb}
end
section
variable{X:Cx}{rl:Option Addr}{e:Expr}{es:List Expr}{fs:Ca}{pos p:Pos}
noncomputable def wY(Pd:List W->(List Da->Prop)->Prop)(fs:Ca):TV:=fun ρ Q=>fs ρ fun ws=>ws.all cU=true/\Pd ws fun xs=>Q (.ml xs)
theorem qZ(X:Cx)(rest:List Stmt):Cv X rest (fun D σ H=>∀pins s,Inv X pins σ H s->Dr (Dw X.prog X.w) X.A (execs rest X.env) (SP X pins D) X.xe s):=fun pins s σ H D I h=>h pins s I
end
theorem oX(h:ns.length<=63):tf (ns.map V.int) none (some 63)=ns.map V.int:=by
 unfold tf;rw[HT.sIx_none]
 have e:HT.sIx (ns.map V.int).length (ns.map V.int).length (some 63)=(ns.map V.int).length:=by
  have:=HT.sIx_nat (ns.map V.int).length (ns.map V.int).length 63;rw[show((63:Nat):Int)=63 from rfl]at this;rw[this,Di];omega
 rw[e];simp;exact D1 (by simp)
section
variable{X:Cx}{rl:Option Addr}{a b c e:Expr}{es:List Expr}{fa fb fc:TV}{fs:Ca}{pos p:Pos}
noncomputable def dX:Da->Option (List Da)
 | .list xs=>some xs
 | .tuple xs=>some xs
 | _=>none
theorem seq_l(xs:List Da):dX (.list xs)=some xs:=rfl
theorem seq_t(xs:List Da):dX (.tuple xs)=some xs:=rfl
theorem dX.of{o:Option Da}{xs:List Da}(h:o=some d)(e:dX d=some xs):o=some (.list xs)\/o=some (.tuple xs):=by
 cases d<;>cases e
 · exact .inl h
 · exact .inr h
noncomputable def oN:List W->(W->Prop)->Prop:=fun ws Q=>∃w d xs,ws=[w]/\w.dat=some d/\dX d=some xs/\Q (.d (.tuple xs))
theorem tS:ik X rl (fun xs H Q=>∃p ys,xs=[.ref p]/\((Ch X.K H p ys/\∀l,H l=none->Q (.ref l) (upd H l (.tup ys)))\/(Cg X.K H p ys/\Q (.ref p) H))) oN:=fun{F H vs ws} Qd Q s ra r ⟨w,d,xs,ew,ed1,ed2,q⟩ k=>by
 have ed:=dX.of ed1 ed2;subst ew;obtain⟨v,rfl,r1⟩:=nM r;rcases ed with ed|ed
 · obtain⟨a,us,rfl,sq,rs⟩:=r1.items s ed;refine⟨a,us,rfl,.inl ⟨sq,fun l hl=>?_⟩⟩;have g:=Grow.data (a:=l) (o:=.tup us) s ra hl;exact k _ (.d (.tuple xs)) _ _ g (.tup (.inl (.inl aj)) (rs.mono g.fs)) trivial q
 · cases w with
   | d y =>
     cases ed
     cases(show Rep X.K F v (.tuple xs)from r1)with
     | tup sq rs=>exact⟨_,_,rfl,.inr ⟨bA s sq,k _ (.d (.tuple xs)) _ _ (Grow.refl s ra) (.tup sq rs) trivial q⟩⟩
   | ml ys=>cases ed
   | pk ys=>cases ed
   | reel=>cases ed
   | vv u=>cases ed
   | md u=>cases ed
   | mk u=>cases ed
   | xm u=>cases ed
   | lk=>cases ed
   | sc _=>cases ed
   | fd _=>cases ed
   | xr _=>cases ed
   | fw _=>cases ed
   | ft _=>cases ed
   | xc _ _=>cases ed
   | dp _ _=>cases ed
   | nt ds =>
     cases ed;obtain⟨b,us,rfl,h,q'⟩:=r1;exact⟨_,_,rfl,.inr ⟨.inl (.inl (s _ _ h)),k _ (.d (.tuple xs)) _ _ (Grow.refl s ra) (.tup (.inl (.inl h)) q') trivial q⟩⟩
theorem bX(hm:X.mg "tuple" = none)(ha:Cr X rl [a] fs)(hg:autoParam (Gl X "tuple") æa._auto_1)(he:autoParam (Dh [a] X.env=(false,eval a X.env)::Dh [] X.env) æa._auto_1)(hpl:autoParam ((ES pos (Dh [] X.env)).any (·.1)=false) æa._auto_1) :
 PV X rl (.Call (.Name "tuple" p) [a] [] pos) (eL oN fs):=jc gv tS hm (by rfl) ha hg (by decide) (by decide) he hpl
noncomputable def v6:List W->(W->Prop)->Prop:=fun ws Q=>∃w d xs,ws=[w]/\w.dat=some d/\dX d=some xs/\Q (.ml xs)
noncomputable def xb(i j l:Nat)(fs:Ca):Cb:=fun D ρ=>fs ρ fun ws=>∃x y z,eK ws=some [x,y,z]/\D.nx (((ρ.set i (some (.d x))).set j (some (.d y))).set l (some (.d z)))
end
section
variable{X:Cx}{rl:Option Addr}
noncomputable def zJ:W->W->(W->Prop)->Prop:=fun x y Q=>∃b c,x = .d (.bool b)/\y = .d (.bool c)/\Q (.d (.bool (b==c)))
end
section
variable{X:Cx}{rl:Option Addr}{a b c e:Expr}{es:List Expr}{fa fb fc:TV}{fs:Ca}{pos p p2:Pos}
noncomputable def BV(f:Int->Int->Da):List W->(W->Prop)->Prop:=fun ws Q=>∃i j,ws=[.d (.int i),.d (.int j)]/\Q (.d (f i j))
noncomputable def mE:List W->(W->Prop)->Prop:=fun ws Q=>∃i j,ws=[.d (.int i),.d (.int j)]/\0<j/\j<1073741824/\Q (.d (.tuple [.int (i / j),.int (i%j)]))
noncomputable def v8:List W->(W->Prop)->Prop:=fun ws Q=>(∃i,ws=[.d (.int i)]/\Q (.d (.int i)))\/∃k:Bool,ws=[.d (.bool k)]/\Q (.d (.int (if k then 1 else 0)))
noncomputable def BM(C:Int->Int->Prop)(f:Int->Int->Int):Cd:=fun x y H Q=>∃i j,x = .int i/\y = .int j/\C i j/\Q (.int (f i j)) H
theorem sg:Cz X .Mult (BM dA fun i j=>i*j):=by
 intro pins s σ H x y v u Q I r1 r2 h;obtain⟨i,j,e1,e2,hc,q⟩:=h;subst e1;subst e2;obtain⟨t,rfl⟩:=r1;obtain⟨t',rfl⟩:=r2;exact imul_int ⟨.int _,H,I.tok _,⟨_,rfl⟩,q⟩ hc.ok
noncomputable def xp(i:Nat)(C:Int->Int->Prop)(f:Int->Int->Int)(fa:TV):Cb:=fun D ρ=>∃n,ρ[i]?=some (some (.d (.int n)))/\fa ρ fun w=>∃m,w = .d (.int m)/\C n m/\D.nx (ρ.set i (some (.d (.int (f n m)))))
theorem tH(i:Nat){op:JJ}{C:Int->Int->Prop}{f:Int->Int->Int}(hN:X.N.Nodup)(ho:Cz X op (BM C f))(he:PV X rl e fa)(hi:autoParam (X.N[i]?=some x) æa._auto_1)(hx:autoParam (Loc X.env.scope x) æe._auto_1)
 (hf:autoParam (X.fn x=true\/X.env.scope.names.lookup x=some .local) æf._auto_1):Cw X rl (.AugAssign (.Name x pos') op e pos) (xp i C f fa):=by
 obtain⟨t,p,k⟩:=he;refine⟨_,u8 hN hi hx p ho hf,fun R Dv D ok ⟨n,e1,q⟩=>?_⟩;obtain⟨v,s1,r1,_⟩:=R.sl i _ e1;have ev:=aY r1;subst ev;refine⟨_,s1,k R _ _ q fun v w F1 H1 g1 r1 n1 ⟨m,ew,hc,q1⟩=>?_⟩;subst ew;have ev:=aY r1;subst ev;exact⟨n,m,rfl,rfl,hc,ok.nx _ _ _ _ g1.fs (R.set g1 (v:=.int (f n m)) (w:=.d (.int (f n m))) (.int _) trivial (fun _ z=>by cases z) i) q1⟩
noncomputable def cutD(xs:List Da)(lo hi:Option Int):List Da:=(xs.drop (HT.sIx xs.length 0 lo)).take (HT.sIx xs.length xs.length hi-HT.sIx xs.length 0 lo)
abbrev Cc:=En->(Option Int->Prop)->Prop
noncomputable def BA:Cc:=fun _ Q=>Q none
noncomputable def BB(fa:TV):Cc:=fun ρ Q=>fa ρ fun w=>∃i,w = .d (.int i)/\Q (some i)
noncomputable def zm(fa:TV)(fl fh:Cc):TV:=fun ρ Q=>fa ρ fun w=>fl ρ fun l=>fh ρ fun h=>∃xs,w.dat=some (.list xs)/\Q (.ml (cutD xs l h))
noncomputable def v_:W->W->(W->Prop)->Prop:=fun x y Q=>∃xs ys,x.dat=some (.list xs)/\y.dat=some (.list ys)/\xs.length+ys.length<=sizeLine/\Q (.ml (xs++ys))
noncomputable def ul(p p':Int->Int->Bool)(fa fb fc:TV):TV:=fun ρ Q=>fa ρ fun x=>fb ρ fun y=>∃i j,x = .d (.int i)/\y = .d (.int j) /\
 if p i j=true then fc ρ fun z=>∃k,z = .d (.int k)/\Q (.d (.bool (p' j k)))else Q (.d (.bool false))
structure GlD (K:W.Frag) (mg:Str->Option Dc) (x:Str) (d:Da):Prop where
 ex:∃v u,mg x=some u/\RelV v u/\∀F,Rep K F v d
theorem t9(G:GlD X.K X.mg x d)(hg:autoParam (Gl X x) æa._auto_1)(hd:autoParam ((x==("__debug__" : Str))=false) æb._auto_1):PV X rl (.Name x pos) (vC d):=by
 obtain⟨v,u,h1,h2,h3⟩:=G.ex;exact qS h1 h2 h3 hg hd
structure GlK (K:W.Frag) (x:Str) (d:Da):Prop where
 ex:∃v u,W.nsIn K Ds x=some (some u)/\RelV v u/\∀F,Rep K F v d
theorem GlK.of{K:W.Frag}(k:GlK K x d)(Y:K.In h)(G:h.Ns Ds mg):GlD K mg x d:=by
 obtain⟨v,u,h1,h2,h3⟩:=k.ex;exact⟨v,u,W.mg_of Y G h1,h2,h3⟩
end
end L2.VL
namespace L2
section
variable{X:Cx}{a b:Expr}{ta:TA}{p q pos pos2:Pos}
theorem e8{α β:Type}{R:α->β->Prop}:∀{xs:List α}{ys:List β},xs.length=ys.length->(∀(i:Nat) x y,xs[i]?=some x->ys[i]?=some y->R x y)->D0 R xs ys
 | [],[],_,_=>.nil
 | x::xs,y::ys,hl,h=>.cons (h 0 x y rfl rfl) (e8 (by simpa using hl) fun i x y e1 e2=>h (i+1) x y (by simpa using e1) (by simpa using e2))
 | [],_::_,hl,_=>by simp at hl
 | _::_,[],hl,_=>by simp at hl
noncomputable def gj(lo:Int)(n:Nat):List V:=(DO n).map fun(i:Nat)=>V.int (lo+i)
theorem fK{lo:Int}{acc:Array Dc}(h:ItemsOf (fun i v=>∃t,v = .int (lo+i*1) t) acc n):bT (gj lo n) acc.toList:=by
 obtain⟨h1,h2⟩:=h;refine e8 ?_ ?_
 · simp[gj,h1]
 · intro i v u e1 e2;unfold gj at e1;rw[DY]at e1;obtain⟨t,e4⟩:=h2 i u (by simpa using e2);by_cases hi:i<n
   · rw[DF (by simpa using hi)]at e1;simp at e1;subst e1;exact⟨t,by rw[e4];simp⟩
   · rw[G3 (by simpa using hi)]at e1;cases e1
theorem j6{Q:VK}{lo hi:Int}{t u v:Tok}{tk:Nat}(hc:X.calm=true)(I:Inv X pins σ H s)(h1 : -(2^62)<=lo)(h2:lo<2^62)(h3 : -(2^62)<=hi)(h4:hi<2^62)(h5:(hi-lo).toNat<=2^24)
 (q:∀l,H l=none->Q (.ref l) (upd H l (.lst (gj lo (hi-lo).toNat)))):Dr (Dw X.prog X.w) X.A (call (.type "list") [.ref s.heap.objs.size]) (EP X pins σ Q) X.xe {s with heap:=s.heap.push {cls:=.type "range", data:=.fields #[.int lo t,.int hi u,.int 1 v]},toks:=tk}:=by
 have I1:Inv X pins σ H {s with heap:=s.heap.push {cls:=.type "range", data:=.fields #[.int lo t,.int hi u,.int 1 v]},toks:=tk}:=I.kept fun b o e=>Db _ e;refine call_list_range (n:=(hi-lo).toNat) (I.ok.hd hc) (IsRange.new ..) (small_one h1 h2 h3 h4) (by rw[rangeSize_one];split<;>omega) h5 fun h' tk acc c hk hn hi=>?_;have hv:=fK hi;refine⟨.ref _,_,I1.laid (t':=tk) hk (Dm _) (show aK X.prog X.w _ h' _ (.lst _)from⟨?_,acc.toList,c,hv,by rw[Array.toArray_toList];exact hn⟩),rfl,q _ (I1.hok.fresh (Dm _))⟩;show(gj lo _).length<=sizeLine;rw[gj,Di,Fj];exact Ef h5 (by decide)
noncomputable def Ac(ta:TA):TE:=fun σ H Q=>ta σ H fun vs H1=>∃j:Int,vs=[.int j]/\(-(2^62)<=j/\j<2^62)/\j.toNat<=2^24/\∀l,H1 l=none->Q (.ref l) (upd H1 l (.lst (gj 0 j.toNat)))
theorem jV(hc:X.calm=true)(hl:Gl X "list")(hml:X.mg "list" = none)(hg:Gl X "range")(hm:X.mg "range" = none)(ha:PA X [a] ta)(hs:autoParam (Dh [a] X.env=[(false,eval a X.env)]) æa._auto_1)
 (he:autoParam (Dh [.Call (.Name "range" p) [a] [] pos2] X.env=(false,eval (.Call (.Name "range" p) [a] [] pos2) X.env)::Dh [] X.env) æa._auto_1)(hpl:autoParam ((ES pos (Dh [] X.env)).any (·.1)=false) æa._auto_1) :
 PE X (.Call (.Name "list" q) [.Call (.Name "range" p) [a] [] pos2] [] pos) (Ac ta):=by
 intro pins s σ H Q I h;refine E4 (cK I hl hml (by rfl) ?_ (by decide) (by decide));refine Es ?_ he hpl;rw[he];show Dr _ _ (spliced ((false,eval (.Call (.Name "range" p) [a] [] pos2) X.env)::ES pos (Dh [] X.env))) _ _ s;refine Calls.spliced_cons ?_;refine Call_ (cK I hg hm boot_range (Es (A8 (ha pos2 pins s σ H _ I h) fun us s1 ⟨vs,H1,I1,r1,q1⟩=>?_) hs rfl));obtain⟨j,e,⟨h3,h4⟩,h5,q1⟩:=q1;subst e
 cases r1 with
 | cons r rr =>
   cases rr;obtain⟨t,rfl⟩:=r;exact call_range_1 (Calls.spliced_nil (j6 hc I1 (by omega) (by omega) h3 h4 (by simpa using h5) (by simpa using q1)))
end
end L2
namespace L2.VL
section
variable{X:Cx}{rl:Option Addr}{a b c e:Expr}{es:List Expr}{fa fb fc:TV}{fs:Ca}{pos pos2 p q:Pos}
theorem jT{K:W.Frag}(lo:Int)(n:Nat):Reps K F (gj lo n) (aE lo n):=by
 unfold gj aE;generalize DO n=l
 induction l with
 | nil=>exact .nil
 | cons x l ih=>exact .cons (.int _) ih
noncomputable def zU(fs:Ca):TV:=fun ρ Q=>fs ρ fun ws=>∃i j:Int,ws=[.d (.int i),.d (.int j)]/\(-(2^62)<=i/\i<2^62 /\ -(2^62)<=j/\j<2^62)/\(j-i).toNat<=2^24/\Q (.ml (aE i (j-i).toNat))
noncomputable def zr(fs:Ca):TV:=fun ρ Q=>fs ρ fun ws=>∃j:Int,ws=[.d (.int j)]/\(-(2^62)<=j/\j<2^62)/\j.toNat<=2^24/\Q (.ml (aE 0 j.toNat))
theorem kS(hml:X.mg "list" = none)(hm:X.mg "range" = none)(ha:Cr X rl [a] fs)(hc:autoParam (X.calm=true) æa._auto_1)(hl:autoParam (Gl X "list") æa._auto_1)(hg:autoParam (Gl X "range") æa._auto_1)(hs:autoParam (Dh [a] X.env=[(false,eval a X.env)]) æa._auto_1)
 (he:autoParam (Dh [.Call (.Name "range" p) [a] [] pos2] X.env=(false,eval (.Call (.Name "range" p) [a] [] pos2) X.env)::Dh [] X.env) æa._auto_1)(hpl:autoParam ((ES pos (Dh [] X.env)).any (·.1)=false) æa._auto_1) :
 PV X rl (.Call (.Name "list" q) [.Call (.Name "range" p) [a] [] pos2] [] pos) (zr fs):=by
 obtain⟨t,p1,k⟩:=ha;refine⟨_,jV hc hl hml hg hm p1 hs he hpl,fun R Qd Q q h=>k R _ _ q fun vs ws F1 H1 g1 r1 ⟨j,ew,z,y,q1⟩=>?_⟩;subst ew;obtain⟨v,rfl,rv⟩:=nM r1;have e1:=aY rv;subst e1;exact⟨j,rfl,z,y,fun l hl=>h _ (.ml _) _ _ (g1.trans (Grow.laid g1.sub g1.reel hl)) (jh g1.sub g1.reel hl (jT _ _)) (fun a ea=>by cases ea;exact g1.freeB hl) q1⟩
noncomputable def kY(i j:Nat)(fa:TV):Cb:=fun D ρ=>∃xs ys,ρ[i]?=some (some (.ml xs))/\ρ[j]?=some (some (.ml ys))/\fa ρ fun w=>∃k y,w = .d (.int k)/\0<=k/\k<(ys.length:Int)/\ys.length<2^62/\ys[k.toNat]?=some y/\xs.length<sizeLine /\
 D.nx ((ρ.set j (some (.ml (ys.eraseIdx k.toNat)))).set i (some (.ml (xs++[y]))))
end
structure Sm (dp bk:Nat) (d:Da):Prop where
 nice:sU d
 dep:d.depth<=dp
 blk:d.bulk<=bk
theorem e9:∀{xs:List Da},(∀d∈xs,sU d)->eF xs
 | [],_=>trivial
 | x::xs,h=>⟨h x Dx,e9 fun d hd=>h d (Dl _ hd)⟩
theorem el{k:Nat}:∀{xs:List Da},(∀d∈xs,d.depth<=k)->Ed xs<=k+1
 | [],_=>by simp[Ed]
 | x::xs,h=>by
   have h1:=h x Dx;have h2:=el (k:=k) (xs:=xs) fun d hd=>h d (Dl _ hd);simp only[Ed];omega
theorem fB{k:Nat}:∀{xs:List Da},(∀d∈xs,d.bulk<=k)->HG xs<=(k+1)*xs.length
 | [],_=>by simp[HG]
 | x::xs,h=>by
   have h1:=h x Dx;have h2:=fB (k:=k) (xs:=xs) fun d hd=>h d (Dl _ hd);simp only[HG,DP,Nat.mul_succ];omega
theorem Sm.seq{dp bk:Nat}{xs:List Da}(h:∀d∈xs,Sm dp bk d)(hl:xs.length<=n):Sm (dp+2) ((bk+1)*n) (.tuple xs)/\Sm (dp+2) ((bk+1)*n) (.list xs):=by
 have a:=e9 fun d hd=>(h d hd).nice;have b:=el fun d hd=>(h d hd).dep;have c:HG xs<=(bk+1)*n:=Ef (fB fun d hd=>(h d hd).blk) (Nat.mul_le_mul_left _ hl);refine⟨⟨a,?_,c⟩,⟨a,?_,c⟩⟩<;>simp only[Fz]<;>omega
theorem Sm.shw{dp bk:Nat}(h:Sm dp bk d)(h1:dp<=60)(h2:bk<=8000):Cm d:=⟨h.nice,by have:=h.dep;omega,by have:=h.blk;omega⟩
theorem Sm.int{i:Int}(h:i.natAbs<2^1000):Sm 0 0 (.int i):=⟨(Lf.int h).nice,by simp[Fz],by simp[JU]⟩
theorem Sm.mono{dp bk dp' bk':Nat}(h:Sm dp bk d)(h1:dp<=dp')(h2:bk<=bk'):Sm dp' bk' d:=⟨h.nice,Ef h.dep h1,Ef h.blk h2⟩
theorem Sm.pair{a b:Int}(ha:a.natAbs<2^1000)(hb:b.natAbs<2^1000):Sm 2 2 (.tuple [.int a,.int b]) :=
 (Sm.seq (dp:=0) (bk:=0) (n:=2) (xs:=[.int a,.int b]) (fun d hd=>by
  rcases DS.mp hd with rfl|hd
  · exact Sm.int ha
  · rcases DS.mp hd with rfl|hd
    · exact Sm.int hb
    · cases hd) (Dm _)).1
end L2.VL
namespace L2
section
variable{X:Cx}{tg e:Expr}{ta te:TE}{p p2 pos:Pos}
end
end L2
namespace L2.VL
section
variable{X:Cx}{rl:Option Addr}{a b c e tg:Expr}{es:List Expr}{fa fb fc:TV}{fs:Ca}{pos pos2 p p2 q:Pos}
noncomputable def ue(fa:TV):TV:=fun ρ Q=>fa ρ fun w=>∃xs,w.dat=some (.list xs)/\Q (.ml xs.reverse)
end
end L2.VL
namespace L2
section
variable{X:Cx}
end
end L2
namespace L2.VL
section
variable{X:Cx}{rl:Option Addr}{a b c e:Expr}{es:List Expr}{fa fb fc:TV}{fs:Ca}{pos p p2:Pos}
noncomputable def zK(f:List Bool->Bool):List W->(W->Prop)->Prop:=fun ws Q=>∃(w:W)(bs:List Bool),ws=[w]/\w.dat=some (.list (bs.map .bool))/\Q (.d (.bool (f bs)))
end
end L2.VL
namespace L2.TM
section
variable{prog:Dq}{w:DN}{A:DM}{E:Dc->Dd->Prop}{s:Dd}{k:Int}{t:Tok}{l:Addr}{its:Array Dc}
end
end L2.TM
namespace L2
section
variable{X:Cx}
end
end L2
namespace L2.VL
section
variable{X:Cx}{rl:Option Addr}{a b c e:Expr}{es:List Expr}{fa fb fc:TV}{fs:Ca}{pos p p2:Pos}
noncomputable def vY:W->W->(W->Prop)->Prop:=fun x y Q=>∃xs k,x = .d (.tuple xs)/\y = .d (.int k)/\xs≠[]/\1<=k/\k<2^62/\xs.length*k.toNat<=sizeLine/\Q (.d (.tuple (Ej k.toNat xs).flatten))
noncomputable def yo:W->W->(W->Prop)->Prop:=fun x y Q=>∃xs ys,x = .d (.tuple xs)/\y = .d (.tuple ys)/\xs≠[]/\xs.length+ys.length<=sizeLine/\Q (.d (.tuple (xs++ys)))
theorem qm:B9 X rl (qQ X.K) yo:=fun{F H x y wx wy} Qd Q s ra r1 r2 q k=>by
 obtain⟨xs,ys,rfl,rfl,hne,hz,q⟩:=q
 cases(show Rep X.K F x (.tuple xs)from r1)with
 | @tup a vs _ sq rs =>
   cases(show Rep X.K F y (.tuple ys)from r2)with
   | @tup b us _ sq2 rs2 =>
     refine⟨a,b,vs,us,rfl,rfl,bA s sq,bA s sq2,fun z=>hne ?_,by rw[rs.length,rs2.length];exact hz,fun e=>?_,fun e p hp=>?_⟩
     · subst z;cases rs;rfl
     · subst e;cases rs2;rw[EA]at q;exact k _ (.d (.tuple xs)) _ _ (Grow.refl s ra) (.tup sq rs) trivial q
     · have g:=Grow.data (a:=p) (o:=.tup (vs++us)) s ra hp;exact k _ (.d _) _ _ g (.tup (.inl (.inl aj)) ((rs.append rs2).mono g.fs)) trivial q
end
end L2.VL
namespace L2
section
variable{X:Cx}
theorem Room.u65{k:Nat}(r:Room k A):A.units+65<Gu:=by have:=r.un;omega
noncomputable def uT(K:W.Frag):R2:=fun x y H Q=>∃a b ys,x = .ref a/\y = .ref b/\Cg K H a []/\Cg K H b ys/\Q (.ref b) H
theorem rL:CG X (GH .Add) (uT X.K):=by
 intro pins s σ H x y v u Q I rx ry h;obtain⟨a,b,ys,rfl,rfl,ha,hb,q⟩:=h;cases rx;cases ry;obtain⟨its,r1,p1,_⟩:=I.tuple ha;obtain⟨its2,r2,p2,_⟩:=I.tuple hb;cases r1;obtain⟨⟨c1,d1,e1,sl1⟩,ho,hc,n,hd⟩:=p1;obtain⟨⟨c2,d2,e2,sl2⟩,ho2,hc2,n2,hd2⟩:=p2;cases hc;cases hd;cases hc2;cases hd2
 exact JF ⟨_,ho,rfl⟩ ⟨_,ho2,rfl⟩ Io Jr GT GK (GE _ _)
  (tuple_addW0 a b _ its2.toArray n n2 d1 d2 sl1 sl2 rfl) ⟨ho,ho2,⟨.ref b,H,I,rfl,q⟩⟩
noncomputable def uS(K:W.Frag):R2:=fun x y H Q=>qQ K x y H Q\/uT K x y H Q
theorem rK:CG X (GH .Add) (uS X.K):=fun pins s σ H x y v u Q I rx ry h=>h.elim (rJ pins s σ H x y v u Q I rx ry) (rL pins s σ H x y v u Q I rx ry)
section
variable{prog:Dq}{w:DN}{A:DM}{E:Dc->Dd->Prop}{s:Dd}
end
end
end L2
namespace L2.VL
section
variable{X:Cx}{rl:Option Addr}{a b c e:Expr}{es:List Expr}{fa fb fc:TV}{fs:Ca}{pos p p2:Pos}
noncomputable def oQ:W->W->(W->Prop)->Prop:=fun x y Q=>∃xs ys,x = .d (.tuple xs)/\y = .d (.tuple ys)/\xs.length+ys.length<=sizeLine/\Q (.d (.tuple (xs++ys)))
theorem qo:B9 X rl (uS X.K) oQ:=fun{F H x y wx wy} Qd Q s ra r1 r2 q k=>by
 obtain⟨xs,ys,rfl,rfl,hz,q⟩:=q;by_cases hx:xs=[]
 · subst hx
   cases(show Rep X.K F x (.tuple [])from r1)with
   | @tup a vs _ sq rs =>
     cases rs
     cases(show Rep X.K F y (.tuple ys)from r2)with
     | @tup b us _ sq2 rs2=>exact .inr ⟨a,b,us,rfl,rfl,bA s sq,bA s sq2,k _ (.d (.tuple ys)) _ _ (Grow.refl s ra) (.tup sq2 rs2) trivial q⟩
 · exact .inl (qm Qd Q s ra r1 r2 ⟨xs,ys,rfl,rfl,hx,hz,q⟩ k)
theorem ph(ha:PV X rl a fa)(hb:PV X rl b fb):PV X rl (.BinOp a .Add b pos) (AY oQ fa fb):=iD rK qo ha hb
theorem dP{K:W.Frag}{F:Hp}:∀{vs:List V}{ns:List Int},Reps K F vs (ns.map .int)->vs=ns.map V.int
 | _,[],h=>h.nil_iff
 | _,n::ns,.cons h r=>by rw[aY h,dP r];rfl
theorem jr{K:W.Frag}{F:Hp}:∀{ns:List Int},Reps K F (ns.map V.int) (ns.map .int)
 | []=>.nil
 | n::ns=>.cons (.int n) jr
noncomputable def vX:List W->(W->Prop)->Prop:=fun ws Q=>∃(ns:List Int),ws=[.d (.tuple (ns.map .int))]/\ns.length<64/\∀ns':List Int,ns'.Perm ns->ns'.Pairwise (· <= ·)->Q (.ml (ns'.map .int))
end
end L2.VL
namespace L2.TO
section
variable{prog:Dq}{w:DN}{A:DM}{E:Dc->Dd->Prop}{s:Dd}
end
end L2.TO
namespace L2
section
variable{X:Cx}{a b e:Expr}{ta:TA}{te:TE}{p p2 q pos pos2:Pos}
end
end L2
namespace L2.VL
section
variable{X:Cx}{rl:Option Addr}{a b c e:Expr}{es:List Expr}{fa fb fc:TV}{fs:Ca}{pos pos2 p q p2:Pos}
noncomputable def zT(fs:Ca):TV:=fun ρ Q=>fs ρ fun ws=>∃j:Int,ws=[.d (.int j)]/\(-(2^62)<=j/\j<2^62)/\j.toNat<=2^24/\Q (.d (.tuple (aE 0 j.toNat)))
noncomputable def ud(fa:TV):TV:=fun ρ Q=>fa ρ fun w=>∃xs,w = .d (.tuple xs)/\Q (.d (.tuple xs.reverse))
end
end L2.VL
namespace L2.TW
section
variable{prog:Dq}{w:DN}{A:DM}{E:Dc->Dd->Prop}{s:Dd}
end
end L2.TW
namespace L2
section
variable{X:Cx}
end
end L2
namespace L2.VL
section
variable{X:Cx}{rl:Option Addr}{a b c e:Expr}{es:List Expr}{fa fb fc:TV}{fs:Ca}{pos p p2:Pos}
noncomputable def zn(fa:TV)(fl fh:Cc):TV:=fun ρ Q=>fa ρ fun w=>fl ρ fun l=>fh ρ fun h=>∃xs,w = .d (.tuple xs)/\Q (.d (.tuple (cutD xs l h)))
end
end L2.VL
namespace L2
abbrev zX(D:List (Str×Int)):List (Da×Da):=(D.map fun q=>(q.1,DZ q.2)).map fun q=>(Da.str q.1,q.2)
section
variable{X:Cx}{e:Expr}{ty:TE}{px apos cpos:Pos}
end
end L2
namespace L2.VL
section
variable{X:Cx}{rl:Option Addr}{a b c e:Expr}{es:List Expr}{fa fb fc:TV}{fs:Ca}{pos p p2 px apos cpos:Pos}
noncomputable def uz(D:List (Str×Int))(k:Str):Da:=(PySem.Spec.lookup (.str k) (zX D)).getD .none
noncomputable def ub(D:List (Str×Int))(fk:TV):TV:=fun ρ Q=>fk ρ fun w=>∃k,w = .d (.str k)/\Q (.d (uz D k))
end
end L2.VL
set_option exponentiation.threshold 10000
namespace L2.VL
noncomputable def xZ(a b:Int):Da:=.tuple [.int (a.fdiv (FJ a b)),.int (b.fdiv (FJ a b))]
theorem mD{a b:Int}(hb:0<b)(z:b.natAbs<2^8000)(i:Int):i5 i (FJ a b:Int):=by
 have h1:=sy (a:=a) (b:=b) (by omega);have h2:=vV (a:=a) (b:=b) (by omega);exact⟨by omega,E5 (by omega) (Dk z (DQ (by decide) (by decide)))⟩
noncomputable def wq(bs:List Int):Prop:=bs.length=4/\(∀b∈bs,2<=b/\b<=16)/\bs.Pairwise fun x y=>FJ x y=1
instance (bs:List Int):Decidable (wq bs):=by unfold wq;infer_instance
noncomputable def pr(a b:Int):Da:=.tuple [.int a,.int b]
end L2.VL
set_option exponentiation.threshold 10000
namespace L2.VL
noncomputable def stepT(b:Int)(p:List Int)(t:Int)(a:Nat):Int:=t*b+p.getD a 0
noncomputable def A2:Da->Int
 | .int i=>i
 | _=>0
section
variable{P:Dq}{w:DN}{K:W.Frag}{mg:Str->Option Dc}{base:Heap}{rl:Option Addr}{x:Str}{st:Stmt}{N ps:List Str}{k:Nat}{Pd:List W->(List Da->Prop)->Prop}{t:Cb}
end
section
variable{X:Cx}{rl:Option Addr}{a b c e:Expr}{es:List Expr}{fa fb fc:TV}{fs:Ca}{pos p p2 px apos cpos:Pos}
end
end L2.VL
namespace L2.IX
section
variable{prog:Dq}{w:DN}{A:DM}{E:Dc->Dd->Prop}{s:Dd}
end
end L2.IX
namespace L2
section
variable{X:Cx}
end
end L2
namespace L2.VL
section
variable{X:Cx}{rl:Option Addr}{a b c e:Expr}{es:List Expr}{fa fb fc:TV}{fs:Ca}{pos p p2 px apos cpos:Pos}
noncomputable def d8:Da->Bool
 | .none=>true
 | _=>false
noncomputable def yj(neg:Bool):W->W->(W->Prop)->Prop:=fun x y Q=>∃d,x.dat=some d/\y = .d .none/\Q (.d (.bool (if neg then !d8 d else d8 d)))
theorem qN{K:W.Frag}(h:Rep K F v d):decide (v=V.non)=d8 d:=by
 cases h<;>first|rfl|exact decide_eq_false (fun z=>by cases z)
theorem tJ:B9 X rl (fun x y H Q=>y = .non/\Q (.bl (decide (x = .non))) H) (yj false):=fun{F H x y wx wy} Qd Q s ra r1 r2 q k=>by
 obtain⟨d,e1,rfl,q⟩:=q;have e2:y = .non:=by cases(show Rep X.K F y .none from r2);rfl
 refine⟨e2,?_⟩;rw[qN (r1.dat s e1)];exact k _ (.d _) _ _ (Grow.refl s ra) (.bl _) trivial q
noncomputable def vZ:W->W->(W->Prop)->Prop:=fun x y Q=>∃xs k,x.dat=some (.list xs)/\y = .d (.int k) /\ -(2^63)<=k/\k<2^63/\xs.length*k.toNat<=sizeLine/\Q (.ml (Ej k.toNat xs).flatten)
noncomputable def uf(i:Nat):Cb:=fun D ρ=>∃xs,ρ[i]?=some (some (.ml xs))/\D.rt (.ml xs)
noncomputable def um(i:Nat)(fa:TV):Cb:=fun D ρ=>∃xs,ρ[i]?=some (some (.ml xs))/\fa ρ fun w=>∃ys,w.isPk=false/\w.dat=some (.list ys)/\xs.length+ys.length<=sizeLine/\D.nx (ρ.set i (some (.ml (xs++ys))))
end
end L2.VL
namespace L2.ZP
section
variable{prog:Dq}{w:DN}{A:DM}{E:Dc->Dd->Prop}{s:Dd}{it a:Addr}{k:Nat}{xs:Array Dc}{v:Dc}
theorem qF(st:s.heap.IsTupleIter it a k)(tu:s.heap.IsTuple a xs)(e:xs[k]?=some v)
 (q:∀g,g.IsTupleIter it a (k+1)->EQ it s.heap g->Q v {s with heap:=g}):Dr (Dw prog w) A (DR (.ref it)) Q E s:=by
 have ty:=st.typeIs;obtain⟨o,oe,oc,od⟩:=st;obtain⟨l,le,_,_,ld⟩:=tu;unfold DR;have sl:=F.slot_tuple_iterator_next;refine C9 (EL (name:=Et "__next__") ty sl (Ft sl ty F.entry_tuple_iterator_next ?_ (F.args_tuple_iterator_next_1 _)));show Dr _ _ (do let z <- field (.ref it) 0;_) _ _ s;refine C9 (D8 oe od (x:=.ref a) rfl ?_);show Dr _ _ (ite ((Dn a==D3)=true) _ _) _ _ s;rw[if_neg (show ¬(Dn a == .none)=true by intro z;cases z)];show Dr _ _ (do let z <- field (.ref it) 1;_) _ _ s;refine C9 (D8 oe od (x:=.int k 0) rfl ?_);show Dr _ _ (do let z <- seqItems? (.ref a);_) _ _ s;refine C9 (FK le ld ?_);simp only[Fi,e];refine C9 (Gw oe od (by simp) (De ⟨v,rfl,De (q _ ?_ (Hi ..))⟩));refine⟨_,Eh _ oe (FA (E7 od _)),?_,?_⟩
 · exact(Obj.cls_mapFields ..).trans oc
 · rw[E7 od];simp[Gj]
theorem ux(hd:A.handled=none)(st:s.heap.IsTupleIter it a k)(tu:s.heap.IsTuple a xs)(e:xs[k]?=none)
 (q:∀g x,JV it s.heap g->(∃o,g.get? x=some o/\o.cls = .type "StopIteration")->E (.ref x) {s with heap:=g}):Dr (Dw prog w) A (DR (.ref it)) Q E s:=by
 have ty:=st.typeIs;obtain⟨o,oe,oc,od⟩:=st;obtain⟨l,le,_,_,ld⟩:=tu;unfold DR;have sl:=F.slot_tuple_iterator_next;refine C9 (EL (name:=Et "__next__") ty sl (Ft sl ty F.entry_tuple_iterator_next ?_ (F.args_tuple_iterator_next_1 _)));show Dr _ _ (do let z <- field (.ref it) 0;_) _ _ s;refine C9 (D8 oe od (x:=.ref a) rfl ?_);show Dr _ _ (ite ((Dn a==D3)=true) _ _) _ _ s;rw[if_neg (show ¬(Dn a == .none)=true by intro z;cases z)];show Dr _ _ (do let z <- field (.ref it) 1;_) _ _ s;refine C9 (D8 oe od (x:=.int k 0) rfl ?_);show Dr _ _ (do let z <- seqItems? (.ref a);_) _ _ s;refine C9 (FK le ld ?_);simp only[Fi,e];refine C9 (Hb (C9 (Gw oe od (by simp) ?_)));show Dr _ _ (do let z <- newExc (.type "StopIteration") [];_) _ _ _;refine C9 ?_;simp only[newExc,newTuple];refine C9 (DT ?_ (by size_fits));refine C9 (m:=HH _ _) (Ie (a:=.none) (by first|rfl|(simp only[HH];rfl)) (DT ?_ (by size_fits)));simp only[raiseNew];refine C9 (wpAny_handled ?_)
 first
  | rw[show A.in1.handled=none from hd]
  | rw[hd]
 refine C9 (De (wpAny_throw ?_));exact q _ _ (((Hi ..).extBut.push _).push _) ⟨_,Do _ rfl,rfl⟩
end
noncomputable def CU(h:Heap)(it a:Addr)(xs:Array Dc)(k:Nat):Prop:=(h.IsListIter it a k/\h.IsList a xs)\/(h.IsTupleIter it a k/\h.IsTuple a xs)
section
variable{prog:Dq}{w:DN}{A:DM}{E:Dc->Dd->Prop}{s:Dd}{it a:Addr}{k:Nat}{xs:Array Dc}{v:Dc}
theorem CU.item(st:CU s.heap it a xs k)(ne:a≠it)(e:xs[k]?=some v)
 (q:∀g,CU g it a xs (k+1)->EQ it s.heap g->Q v {s with heap:=g}):Dr (Dw prog w) A (DR (.ref it)) Q E s:=by
 rcases st with⟨h1,h2⟩|⟨h1,h2⟩
 · exact wpAny_nextOf_list_item h1 h2 e fun g h3 h4=>q g (.inl ⟨h3,h2.extBut h4.extBut ne⟩) h4
 · exact qF h1 h2 e fun g h3 h4=>q g (.inr ⟨h3,h2.extBut h4.extBut ne⟩) h4
theorem CU.fin(hd:A.handled=none)(st:CU s.heap it a xs k)(e:xs[k]?=none)
 (q:∀g x,JV it s.heap g->(∃o,g.get? x=some o/\o.cls = .type "StopIteration")->E (.ref x) {s with heap:=g}):Dr (Dw prog w) A (DR (.ref it)) Q E s:=by
 rcases st with⟨h1,h2⟩|⟨h1,h2⟩
 · exact wpAny_nextOf_list_end hd h1 h2 e q
 · exact ux hd h1 h2 e q
theorem CU.keep(st:CU h it a xs k)(e1:∀o,h.get? it=some o->h'.get? it=some o)(e2:∀o,h.get? a=some o->h'.get? a=some o):CU h' it a xs k:=by
 rcases st with⟨⟨o,h1,r1⟩,⟨p,h2,r2⟩⟩|⟨⟨o,h1,r1⟩,⟨p,h2,r2⟩⟩
 · exact .inl ⟨⟨o,e1 _ h1,r1⟩,⟨p,e2 _ h2,r2⟩⟩
 · exact .inr ⟨⟨o,e1 _ h1,r1⟩,⟨p,e2 _ h2,r2⟩⟩
end
section
variable{prog:Dq}{w:DN}{A:DM}{E:Dc->Dd->Prop}{s:Dd}{z ti to i1 i2 a1 a2:Addr}{k1 k2:Nat}{xs ys:Array Dc}{x y p q:Dc}
theorem SameBut.keep(sb:EQ a h h')(ne:b≠a):∀o,h.get? b=some o->h'.get? b=some o:=fun o e=>sb.extBut _ _ ne e
theorem pZ(D:ZipApart z ti to i1 i2 a1 a2)(oz:JD s.heap z ti to .none)(oi:Hj s.heap ti (.ref i1) (.ref i2))(oo:Hj s.heap to p q)
 (s1:CU s.heap i1 a1 xs k1)(s2:CU s.heap i2 a2 ys k2)(ex:xs[k1]?=some x)(ey:ys[k2]?=some y)
 (done:∀g,JD g z ti to (Gj s.heap.objs.size)->Hj g to x y->CU g i1 a1 xs (k1+1)->CU g i2 a2 ys (k2+1)->Hj g s.heap.objs.size x y->g.objs.size=s.heap.objs.size+1 ->
  (∀b o,b≠z->b≠to->b≠i1->b≠i2->s.heap.get? b=some o->g.get? b=some o)->Q (.ref s.heap.objs.size) {s with heap:=g}) :
 Dr (Dw prog w) A (Builtin.«zip.__next__» ⟨[.ref z],[]⟩) (fun r s'=>∃u,r = .done (.ret u)/\Q u s') E s:=by
 show Dr _ _ (do let c <- field (.ref z) 2;_) _ _ _;refine C9 (D8 oz rfl (x:=.bool false) rfl ?_);show Dr _ _ (do let c <- field (.ref z) 3;_) _ _ _;refine C9 (D8 oz rfl (x:=.ref ti) rfl ?_);refine C9 (FK oi rfl ?_);show Dr _ _ (do let c <- EE (.ref z);_) _ _ _;refine C9 ?_;unfold EE;refine C9 (D8 oz rfl (x:=D3) rfl (De ?_));simp only[if_true];refine C9 (Hb (C9 (D8 oz rfl (x:=.ref to) rfl (C9 (D6 oz (by simp) fun g1 z1 b1=>?_)))));have z1:JD g1 z ti to .ellipsis:=z1;refine C9 ?_;simp only[GM,List.forIn_nil,List.zipIdx_cons,List.zipIdx_nil];have s1a:CU g1 i1 a1 xs k1:=s1.keep (SameBut.keep b1 D.i1z) (SameBut.keep b1 D.l1z);refine C9 (C9 (Ig ?_));show Dr _ _ (do let c <- DR (.ref i1);_) _ _ _;refine C9 (s1a.item D.l1i1 ex fun g2 s1b b2=>De ?_);have o2:Hj g2 to p q:=b2.extBut _ _ D.TOi1 (b1.extBut _ _ D.TOz oo);refine C9 (FK o2 rfl (C9 (Ha o2 fun g3 o3 b3=>?_)));have o3:Hj g3 to x q:=o3;refine C9 (Jh (De ?_));have s2a:CU g3 i2 a2 ys k2:=((s2.keep (SameBut.keep b1 D.i2z) (SameBut.keep b1 D.l2z)).keep (SameBut.keep b2 D.i12.symm) (SameBut.keep b2 D.l2i1)).keep (SameBut.keep b3 D.TOi2.symm) (SameBut.keep b3 D.l2TO);refine C9 (C9 (Ig ?_));show Dr _ _ (do let c <- DR (.ref i2);_) _ _ _;refine C9 (s2a.item D.l2i2 ey fun g4 s2b b4=>De ?_);have o4:Hj g4 to x q:=b4.extBut _ _ D.TOi2 o3;refine C9 (FK o4 rfl (C9 (Ha o4 fun g5 o5 b5=>?_)));have o5:Hj g5 to x y:=o5;refine C9 (Jh (De (De ?_)));refine C9 (FK o5 rfl (C9 (wpAny_newTuple ?_)));have size:g5.objs.size=s.heap.objs.size:=by rw[b5.1,b4.1,b3.1,b2.1,b1.1]
 have z5:JD g5 z ti to .ellipsis:=b5.extBut _ _ D.TOz.symm (b4.extBut _ _ D.i2z.symm (b3.extBut _ _ D.TOz.symm (b2.extBut _ _ D.i1z.symm z1)));have kp:∀b o,b≠z->b≠to->b≠i1->b≠i2->s.heap.get? b=some o->g5.get? b=some o:=fun b o n1 n2 n3 n4 e=>b5.extBut _ _ n2 (b4.extBut _ _ n4 (b3.extBut _ _ n2 (b2.extBut _ _ n3 (b1.extBut _ _ n1 e))));have s1c:CU g5 i1 a1 xs (k1+1):=((s1b.keep (SameBut.keep b3 D.TOi1.symm) (SameBut.keep b3 D.l1TO)).keep (SameBut.keep b4 D.i12) (SameBut.keep b4 D.l1i2)).keep (SameBut.keep b5 D.TOi1.symm) (SameBut.keep b5 D.l1TO);have s2c:CU g5 i2 a2 ys (k2+1):=s2b.keep (SameBut.keep b5 D.TOi2.symm) (SameBut.keep b5 D.l2TO);have zl:z<g5.objs.size:=Df z5;show Dr _ _ (do Gx (.ref z) (.ref g5.objs.size);_) _ _ _;refine C9 ?_;unfold Gx;have z6:JD (g5.push {cls:=.type "tuple", data:=.seq #[x,y]}) z ti to .ellipsis:=Db _ z5;refine C9 (D6 z6 (by simp) fun g7 z7 b7=>?_);have z7:JD g7 z ti to (Gj g5.objs.size):=z7;refine D6 z7 (by simp) fun g8 z8 b8=>?_;have z8:JD g8 z ti to (Gj g5.objs.size):=z8;have up:∀b o,b≠z->g5.get? b=some o->g8.get? b=some o:=fun b o n e=>b8.extBut _ _ n (b7.extBut _ _ n (Db _ e));have t8:Hj g8 g5.objs.size x y:=b8.extBut _ _ (Em zl) (b7.extBut _ _ (Em zl) (Do _ rfl));have l8:g8.objs.size=g5.objs.size+1:=by rw[b8.1,b7.1,EG]
 rw[size]at z8 t8 l8;refine De ⟨_,rfl,?_⟩;show Q (.ref g5.objs.size) _;rw[size];exact done g8 z8 (up _ _ D.TOz o5) (s1c.keep (fun o e=>up _ o D.i1z e) fun o e=>up _ o D.l1z e) (s2c.keep (fun o e=>up _ o D.i2z e) fun o e=>up _ o D.l2z e) t8 l8 fun b o n1 n2 n3 n4 e=>up b o n1 (kp b o n1 n2 n3 n4 e)
theorem tD{Q:Fin->Dd->Prop}(hd:A.handled=none)(D:ZipApart z ti to i1 i2 a1 a2)(oz:JD s.heap z ti to .none)(oi:Hj s.heap ti (.ref i1) (.ref i2))(oo:Hj s.heap to p q)
 (s1:CU s.heap i1 a1 xs k1)(s2:CU s.heap i2 a2 ys k2)(e:xs[k1]?=none\/ys[k2]?=none)
 (q':∀g x,(∀b o,b≠z->b≠to->b≠i1->b≠i2->s.heap.get? b=some o->g.get? b=some o)->(∃o,g.get? x=some o/\o.cls = .type "StopIteration")->E (.ref x) {s with heap:=g}) :
 Dr (Dw prog w) A (Builtin.«zip.__next__» ⟨[.ref z],[]⟩) Q E s:=by
 show Dr _ _ (do let c <- field (.ref z) 2;_) _ _ _;refine C9 (D8 oz rfl (x:=.bool false) rfl ?_);show Dr _ _ (do let c <- field (.ref z) 3;_) _ _ _;refine C9 (D8 oz rfl (x:=.ref ti) rfl ?_);refine C9 (FK oi rfl ?_);show Dr _ _ (do let c <- EE (.ref z);_) _ _ _;refine C9 ?_;unfold EE;refine C9 (D8 oz rfl (x:=D3) rfl (De ?_));simp only[if_true];refine C9 (Hb (C9 (D8 oz rfl (x:=.ref to) rfl (C9 (D6 oz (by simp) fun g1 z1 b1=>?_)))));have z1:JD g1 z ti to .ellipsis:=z1;refine C9 ?_;simp only[GM,List.forIn_nil,List.zipIdx_cons,List.zipIdx_nil];have s1a:CU g1 i1 a1 xs k1:=s1.keep (SameBut.keep b1 D.i1z) (SameBut.keep b1 D.l1z);refine C9 (C9 (Ig ?_));show Dr _ _ (do let c <- DR (.ref i1);_) _ _ _
 have last:∀(g g':Heap)(u:Addr)(o:Obj),g.get? u=some o->o.cls = .type "StopIteration" -> JD g z ti to .ellipsis->EQ z g g'->∃o,g'.get? u=some o/\o.cls = .type "StopIteration" := fun g g' u o h1 h2 h3 sb=>by
  have ne:u≠z:=fun c=>by rw[c,h3]at h1;cases h1;simp at h2
  exact⟨o,sb.extBut _ _ ne h1,h2⟩
 cases ex:xs[k1]? with
 | none =>
   refine C9 (s1a.fin hd ex fun g2 u b2 ⟨o,ou,oc⟩=>?_);have z2:JD g2 z ti to .ellipsis:=b2 _ _ D.i1z.symm z1
   exact D6 z2 (by simp) fun g3 _ b3=>q' g3 u (fun b o n1 _ n3 _ e=>b3.extBut _ _ n1 (b2 _ _ n3 (b1.extBut _ _ n1 e))) (last g2 g3 u o ou oc z2 b3)
 | some x =>
   have ey:ys[k2]?=none:=e.elim (fun h=>by rw[ex]at h;cases h) id;refine C9 (s1a.item D.l1i1 ex fun g2 s1b b2=>De ?_);have o2:Hj g2 to p q:=b2.extBut _ _ D.TOi1 (b1.extBut _ _ D.TOz oo);refine C9 (FK o2 rfl (C9 (Ha o2 fun g3 o3 b3=>?_)));refine C9 (Jh (De ?_));have s2a:CU g3 i2 a2 ys k2:=((s2.keep (SameBut.keep b1 D.i2z) (SameBut.keep b1 D.l2z)).keep (SameBut.keep b2 D.i12.symm) (SameBut.keep b2 D.l2i1)).keep (SameBut.keep b3 D.TOi2.symm) (SameBut.keep b3 D.l2TO);refine C9 (C9 (Ig ?_));show Dr _ _ (do let c <- DR (.ref i2);_) _ _ _;refine C9 (s2a.fin hd ey fun g4 u b4 ⟨o,ou,oc⟩=>?_);have z4:JD g4 z ti to .ellipsis:=b4 _ _ D.i2z.symm (b3.extBut _ _ D.TOz.symm (b2.extBut _ _ D.i1z.symm z1));exact D6 z4 (by simp) fun g5 _ b5=>q' g5 u (fun b o n1 n2 n3 n4 e=>b5.extBut _ _ n1 (b4 _ _ n4 (b3.extBut _ _ n2 (b2.extBut _ _ n3 (b1.extBut _ _ n1 e))))) (last g4 g5 u o ou oc z4 b5)
end
noncomputable def Cj(b:Bool)(h:Heap)(a:Addr)(xs:Array Dc):Prop:=bif b then h.IsTuple a xs else h.IsList a xs
noncomputable def BK(b:Bool):String:=bif b then "tuple_iterator" else "list_iterator"
theorem Cj.push{b:Bool}{h:Heap}{a:Addr}{xs:Array Dc}(q:Cj b h a xs)(o:Obj):Cj b (h.push o) a xs:=by
 cases b with
 | true=>exact Heap.IsTuple.push q o
 | false=>exact Heap.IsList.push q o
section
variable{prog:Dq}{w:DN}{A:DM}{E:Dc->Dd->Prop}{s:Dd}{b b1 b2:Bool}{a a1 a2:Addr}{xs ys:Array Dc}
theorem vS(st:Cj b s.heap a xs)(q:Q (.ref s.heap.objs.size) {s with heap:=s.heap.push {cls:=.type (BK b),data:=.fields #[.ref a,.int 0 0]}}):Dr (Dw prog w) A (Jq (.ref a)) Q E s:=by
 cases b with
 | true=>exact wpAny_pyIter_tuple st q
 | false=>exact HU st q
abbrev y1(h:Heap)(b1:Bool)(a1:Addr):Heap:=h.push {cls:=.type (BK b1),data:=.fields #[.ref a1,.int 0 0]}
abbrev y2(h:Heap)(b1 b2:Bool)(a1 a2:Addr):Heap:=(y1 h b1 a1).push {cls:=.type (BK b2),data:=.fields #[.ref a2,.int 0 0]}
abbrev y3(h:Heap)(b1 b2:Bool)(a1 a2:Addr):Heap:=(y2 h b1 b2 a1 a2).push {cls:=.type "tuple", data:=.seq #[.ref h.objs.size,.ref (y1 h b1 a1).objs.size]}
abbrev y4(h:Heap)(b1 b2:Bool)(a1 a2:Addr):Heap:=(y3 h b1 b2 a1 a2).push {cls:=.type "tuple", data:=.seq #[.none,.none]}
abbrev y5(h:Heap)(b1 b2:Bool)(a1 a2:Addr):Heap:=(y4 h b1 b2 a1 a2).push {cls:=.type "zip", data:=.fields #[.none,.bool false,.bool false,.ref (y2 h b1 b2 a1 a2).objs.size,.ref (y3 h b1 b2 a1 a2).objs.size]}
theorem qa(b1 b2:Bool)(a1 a2:Addr)(xs ys:Array Dc) :
 Meets (Builtin.«zip.__new__» ⟨[.type "zip", .ref a1,.ref a2],[]⟩) (fun _ R s=>Cj b1 s.heap a1 xs/\Cj b2 s.heap a2 ys/\R (.ok (.ret (.ref (y4 s.heap b1 b2 a1 a2).objs.size))) {s with heap:=y5 s.heap b1 b2 a1 a2}) :=
 .of_wp fun prog w A R s h=>by
  obtain⟨hp,g,d,tk,os⟩:=s;obtain⟨q1,q2,h⟩:=h;have hsub:=sub_zip;have k1:Cj b1 (Dd.heap ⟨hp,g,d,tk,os⟩) a1 xs:=q1;have k2:Cj b2 (Dd.heap ⟨hp.push {cls:=.type (BK b1),data:=.fields #[.ref a1,.int 0 0]},g,d,tk,os⟩) a2 ys:=q2.push _
  wp_walk using vS k1,vS k2
  exact⟨_,rfl,h⟩
theorem o6(q1:Cj b1 s.heap a1 xs)(q2:Cj b2 s.heap a2 ys)
 (k:∀g,JD g (s.heap.objs.size+4) (s.heap.objs.size+2) (s.heap.objs.size+3) .none->Hj g (s.heap.objs.size+2) (.ref s.heap.objs.size) (.ref (s.heap.objs.size+1))->Hj g (s.heap.objs.size+3) .none .none ->
  CU g s.heap.objs.size a1 xs 0->CU g (s.heap.objs.size+1) a2 ys 0->g.objs.size=s.heap.objs.size+5->(∀c o,s.heap.get? c=some o->g.get? c=some o)->Q (.ref (s.heap.objs.size+4)) {s with heap:=g}) :
 Dr (Dw prog w) A (call (.type "zip") [.ref a1,.ref a2]) Q E s:=by
 refine callType_new F.called_zip (by decide) (F.typeCall_zip_2 _ _) (F.newCall_zip_2 _ _) (fun u=>F.args_object_init_3 u _ _) F.entry_zip_new (qa b1 b2 a1 a2 xs ys) ⟨q1,q2,?_⟩;have n1:(y1 s.heap b1 a1).objs.size=s.heap.objs.size+1:=EG ..;have n2:(y2 s.heap b1 b2 a1 a2).objs.size=s.heap.objs.size+2:=by rw[EG,n1]
 have n3:(y3 s.heap b1 b2 a1 a2).objs.size=s.heap.objs.size+3:=by rw[EG,n2]
 have n4:(y4 s.heap b1 b2 a1 a2).objs.size=s.heap.objs.size+4:=by rw[EG,n3]
 have n5:(y5 s.heap b1 b2 a1 a2).objs.size=s.heap.objs.size+5:=by rw[EG,n4]
 have pu:∀{h:Heap}{o u:Obj}{c:Addr},h.get? c=some u->(h.push o).get? c=some u:=fun e=>Db _ e;have kp:∀c o,s.heap.get? c=some o->(y5 s.heap b1 b2 a1 a2).get? c=some o:=fun c o e=>pu (pu (pu (pu (pu e))));have f5:(y5 s.heap b1 b2 a1 a2).get? (y4 s.heap b1 b2 a1 a2).objs.size=some _:=Do _ rfl;have f4:(y5 s.heap b1 b2 a1 a2).get? (y3 s.heap b1 b2 a1 a2).objs.size=some _:=pu (Do _ rfl);have f3:(y5 s.heap b1 b2 a1 a2).get? (y2 s.heap b1 b2 a1 a2).objs.size=some _:=pu (pu (Do _ rfl));have f2:(y5 s.heap b1 b2 a1 a2).get? (y1 s.heap b1 a1).objs.size=some _:=pu (pu (pu (Do _ rfl)));have f1:(y5 s.heap b1 b2 a1 a2).get? s.heap.objs.size=some _:=pu (pu (pu (pu (Do _ rfl))));show _/\_;rw[n2,n3,n4]at f5;rw[n1,n2]at f3;rw[n3]at f4;rw[n1]at f2;rw[n4]
 have mk:∀{b:Bool}{i a:Addr}{zs:Array Dc},(y5 s.heap b1 b2 a1 a2).get? i=some {cls:=.type (BK b),data:=.fields #[.ref a,.int 0 0]}->Cj b s.heap a zs->CU (y5 s.heap b1 b2 a1 a2) i a zs 0:=fun{b i a zs} e q=>by
  cases b with
  | true=>obtain⟨o,h1,h2⟩:=(show s.heap.IsTuple a zs from q);exact .inr ⟨⟨_,e,rfl,rfl⟩,⟨o,kp _ _ h1,h2⟩⟩
  | false=>obtain⟨o,h1,h2⟩:=(show s.heap.IsList a zs from q);exact .inl ⟨⟨_,e,rfl,rfl⟩,⟨o,kp _ _ h1,h2⟩⟩
 exact⟨⟨_,f5,rfl⟩,k _ f5 f3 f4 (mk f1 q1) (mk f2 q2) n5 kp⟩
end
end L2.ZP
namespace L2
open PySem PySem.Spec PyProof.Rows L2.ZP
theorem Inv.turnedL(I:Inv X pins σ H s)(k:∀b o,b∉ch->s.heap.get? b=some o->h'.get? b=some o)(hn:∀b∈ch,i4 X pins H b) :
 Inv X pins σ H {s with heap:=h',toks:=t' }:=by
 have nit:∀b u,H b=some u->b∉ch:=fun b u e z=>by rw[(hn b z).1]at e;cases e
 refine I.step (g':=s.gens) (d':=s.drawn) (ch:=ch) (fun b hb=>?_) (fun b o _ _ hc e _=>k b o hc e) (fun b o _ _ hc e _=>⟨o.slots,k b o hc e⟩) (fun _ _ _ _ n=>n) (fun b o hc e=>⟨o,k b o hc e⟩) (fun _ _ e=>e) (fun _ _ _ e=>e) (fun b ps e=>⟨#[],by rw[e];simp⟩) (fun m hm=>?_) (fun b u e=>?_) I.bare
 · obtain⟨_,h2,_,h4,h5,h6⟩:=hn b hb;exact⟨h4,h2,h5,h6⟩
 · obtain⟨o,es,ep,ho,r⟩:=hm;exact⟨o,es,ep,k _ o (fun z=>(hn _ z).2.1 rfl) ho,r⟩
 · refine(I.hok b u e).stay (fun c v hc q=>k c v ?_ q) (fun _ q=>q) fun _ _ q=>q;rcases hc with z|z
   · rw[z];exact nit b u e
   · exact nit c _ z
noncomputable def Ci(b:Bool)(K:W.Frag)(H:Hp)(a:Addr)(xs:List V):Prop:=bif b then Cg K H a xs else Ch K H a xs
theorem Inv.sqB{b:Bool}{xs:List V}(I:Inv X pins σ H s)(h:Ci b X.K H a xs):∃its,bT xs its/\Cj b s.heap a its.toArray:=by
 cases b with
 | true =>
   obtain⟨its,r,t,z⟩:=I.tuple h
   exact⟨its,r,t⟩
 | false =>
   obtain⟨its,r,p,z⟩:=I.list h;exact⟨its,r,p.isList⟩
theorem Inv.sqB_inj{b:Bool}{xs ys:List V}(I:Inv X pins σ H s)(h:Ci b X.K H a xs)(h':Ci b X.K H a ys):xs=ys:=by
 cases b with
 | true=>exact I.tuple_inj h h'
 | false=>exact I.list_inj h h'
noncomputable def CO(K:W.Frag)(b1 b2:Bool)(a1 a2:Addr):It :=
 ⟨fun i H=>∃xs ys x y,Ci b1 K H a1 xs/\Ci b2 K H a2 ys/\xs[i]?=some x/\ys[i]?=some y,
  fun i H v H'=>∃x y p,(∀xs,Ci b1 K H a1 xs->xs[i]?=some x)/\(∀ys,Ci b2 K H a2 ys->ys[i]?=some y)/\H p=none/\v = .ref p/\H'=upd H p (.tup [x,y]),
  fun i H=>∃xs ys,Ci b1 K H a1 xs/\Ci b2 K H a2 ys/\(xs.length<=i\/ys.length<=i)⟩
noncomputable def CV(b:Bool)(h:Heap)(it a:Addr)(k:Nat):Prop:=bif b then h.IsTupleIter it a k else h.IsListIter it a k
theorem CV.it1{b:Bool}{k:Nat}{xs:Array Dc}(q:CV b h it a k)(r:Cj b h a xs):CU h it a xs k:=by
 cases b with
 | true=>exact .inr ⟨q,r⟩
 | false=>exact .inl ⟨q,r⟩
theorem CV.keep{b:Bool}{k:Nat}(q:CV b h it a k)(e:∀o,h.get? it=some o->h'.get? it=some o):CV b h' it a k:=by
 cases b with
 | true=>obtain⟨o,h1,r⟩:=(show h.IsTupleIter it a k from q);exact⟨o,e _ h1,r⟩
 | false=>obtain⟨o,h1,r⟩:=(show h.IsListIter it a k from q);exact⟨o,e _ h1,r⟩
theorem CV.obj{b:Bool}{k:Nat}(q:CV b h it a k):∃o,h.get? it=some o/\∀v,o.data ≠ .cell v:=by
 cases b with
 | true=>obtain⟨o,h1,_,d⟩:=(show h.IsTupleIter it a k from q);exact⟨o,h1,fun v z=>by rw[d]at z;cases z⟩
 | false=>obtain⟨o,h1,_,d⟩:=(show h.IsListIter it a k from q);exact⟨o,h1,fun v z=>by rw[d]at z;cases z⟩
theorem CU.ir{b:Bool}{k:Nat}{xs:Array Dc}{h0:Heap}(q:CU h it a xs k)(r:CV b h0 it a j)(s:Cj b h a xs):CV b h it a k:=by
 cases b with
 | true =>
   rcases q with⟨_,⟨o,e,c,_⟩⟩|⟨q,_⟩
   · obtain⟨o',e',c',_⟩:=(show h.IsTuple a xs from s);rw[e]at e';cases e';rw[c]at c';injection c' with z;exact absurd z (by decide)
   · exact q
 | false =>
   rcases q with⟨q,_⟩|⟨_,⟨o,e,c,_⟩⟩
   · exact q
   · obtain⟨o',e',c',_⟩:=(show h.IsList a xs from s);rw[e]at e';cases e';rw[c]at c';injection c' with z;exact absurd z (by decide)
noncomputable def ZS(b1 b2:Bool)(z ti to i1 i2 a1 a2:Addr)(i:Nat)(h:Heap):Prop:=JD h z ti to .none/\Hj h ti (.ref i1) (.ref i2)/\(∃p q,Hj h to p q)/\CV b1 h i1 a1 i/\CV b2 h i2 a2 i
theorem Cj.of{b:Bool}{xs:Array Dc}(q:Cj b h a xs)(e:∀o,h.get? a=some o->h'.get? a=some o):Cj b h' a xs:=by
 cases b with
 | true=>obtain⟨o,h1,r⟩:=(show h.IsTuple a xs from q);exact⟨o,e _ h1,r⟩
 | false=>obtain⟨o,h1,r⟩:=(show h.IsList a xs from q);exact⟨o,e _ h1,r⟩
theorem nE{K:W.Frag}{elts:List Expr}{kt:Nat}{pt:Pos}(b1 b2:Bool)(z ti to i1 i2 a1 a2:Addr)(D:ZipApart z ti to i1 i2 a1 a2) :
 Turn P w K (.Tuple elts kt pt) (CO K b1 b2 a1 a2) [z,ti,to,i1,i2] z (ZS b1 b2 z ti to i1 i2 a1 a2) where
 mem:=by simp
 obj:=fun i h ⟨h1,h2,⟨p,q,h3⟩,h4,h5⟩ b hb=>by
  simp at hb;rcases hb with rfl|rfl|rfl|rfl|rfl
  · exact⟨_,h1,fun v c=>by cases c⟩
  · exact⟨_,h2,fun v c=>by cases c⟩
  · exact⟨_,h3,fun v c=>by cases c⟩
  · exact h4.obj
  · exact h5.obj
 keep:=fun i h h' ⟨h1,h2,⟨p,q,h3⟩,h4,h5⟩ k=>⟨k z (by simp) _ h1,k ti (by simp) _ h2,⟨p,q,k to (by simp) _ h3⟩,h4.keep fun o e=>k i1 (by simp) o e,h5.keep fun o e=>k i2 (by simp) o e⟩
 item:=by
  intro X hP hw hK hc i pins s σ H E I hf st hg;subst hP hw hK;obtain⟨h1,h2,⟨p,q,h3⟩,h4,h5⟩:=st;obtain⟨xs,ys,x,y,q1,q2,ex,ey⟩:=hg;obtain⟨its,r1,t1⟩:=I.sqB q1;obtain⟨jts,r2,t2⟩:=I.sqB q2;obtain⟨u,hu,ru⟩:=r1.get ex;obtain⟨v,hv,rv⟩:=r2.get ey;have ty:s.TypeIs (.ref z) "zip" := ⟨_,h1,rfl⟩;unfold G1
  refine C9 (Ih (EL (name:=Et "__next__") ty F.slot_zip_next (Ft F.slot_zip_next ty F.entry_zip_next
   (pZ D h1 h2 h3 (h4.it1 t1) (h5.it1 t2) (by simpa using hu) (by simpa using hv) fun g e1 e2 e3 e4 e5 e6 e7=>De ?_) (F.args_zip_next_1 _))))
  have hz:s.heap.objs.size≠z:=Em (Df h1);refine⟨.ref s.heap.objs.size,rfl,wpAny_letOwnedTupleGo_zip e1 fun g' f1 fb=>?_⟩;have hp:H s.heap.objs.size=none:=I.hok.fresh (Dm _)
  have I1:Inv X pins σ (upd H s.heap.objs.size (.tup [x,y])) {s with heap:=s.heap.push {cls:=.type "tuple", data:=.seq [u,v].toArray}} :=
   I.laid (t':=s.toks) (o:=.tup [x,y]) (fun b ob e=>Db _ e) (Dm _) ⟨(by show 2<=sizeLine;decide),[u,v],.cons ru (.cons rv .nil),nc.new _ _⟩
  have ne:∀b∈[z,ti,to,i1,i2],b≠s.heap.objs.size:=fun b hb e=>by
   simp at hb;rcases hb with rfl|rfl|rfl|rfl|rfl
   · exact hz e.symm
   · exact absurd (Df h2) (by rw[e];exact D_ _)
   · exact absurd (Df h3) (by rw[e];exact D_ _)
   · obtain⟨o,ho,_⟩:=h4.obj;exact absurd (Df ho) (by rw[e];exact D_ _)
   · obtain⟨o,ho,_⟩:=h5.obj;exact absurd (Df ho) (by rw[e];exact D_ _)
  have kg:∀b o,b∉[z,ti,to,i1,i2]->(s.heap.push {cls:=.type "tuple", data:=.seq [u,v].toArray}).get? b=some o->g'.get? b=some o:=fun b o hb e=>by
   simp at hb;obtain⟨n1,n2,n3,n4,n5⟩:=hb;refine fb.extBut _ _ n1 ?_;by_cases hbn:b=s.heap.objs.size
   · subst hbn;rw[Do _ rfl]at e;cases e;exact e5
   · exact e7 b o n1 n3 n4 n5 (by rw[Heap.get?_push_ne _ _ _ hbn]at e;exact e)
  have fp1:∀b∈[z,ti,to,i1,i2],i4 X pins (upd H s.heap.objs.size (.tup [x,y])) b:=fun b hb=>by
   obtain⟨f0,fr⟩:=hf b hb;exact⟨by rw[ae (ne b hb)];exact f0,fr⟩
  have I2:Inv X pins σ (upd H s.heap.objs.size (.tup [x,y])) {s with heap:=g' }:=I1.turnedL (t':=s.toks) kg fp1;have k8:∀b o,b≠z->g.get? b=some o->g'.get? b=some o:=fun b o n e=>fb.extBut _ _ n e;have t1':Cj b1 g a1 its.toArray:=Cj.of t1 fun o e=>e7 _ o D.l1z D.l1TO D.l1i1 D.l1i2 e;have t2':Cj b2 g a2 jts.toArray:=Cj.of t2 fun o e=>e7 _ o D.l2z D.l2TO D.l2i1 D.l2i2 e;refine⟨.ref s.heap.objs.size,_,I2,rfl,⟨x,y,_,fun xs' q'=>by rw[I.sqB_inj q' q1];exact ex,fun ys' q'=>by rw[I.sqB_inj q' q2];exact ey,hp,rfl,rfl⟩,⟨f1,k8 _ _ D.TIz (e7 _ _ D.TIz D.TITO D.TIi1 D.TIi2 h2),⟨_,_,k8 _ _ D.TOz e2⟩,(CU.ir e3 h4 t1').keep fun o e=>k8 _ o D.i1z e,(CU.ir e4 h5 t2').keep fun o e=>k8 _ o D.i2z e⟩,fun b hb=>(fp1 b hb).1⟩
 done:=by
  intro X hP hw hK hc i pins s σ H E I hf st hg;subst hP hw hK;obtain⟨h1,h2,⟨p,q,h3⟩,h4,h5⟩:=st;obtain⟨xs,ys,q1,q2,ex⟩:=hg;obtain⟨its,r1,t1⟩:=I.sqB q1;obtain⟨jts,r2,t2⟩:=I.sqB q2;have l1:=r1.length;have l2:=r2.length;have ty:s.TypeIs (.ref z) "zip" := ⟨_,h1,rfl⟩;unfold G1
  refine C9 (Ih (EL (name:=Et "__next__") ty F.slot_zip_next (Ft F.slot_zip_next ty F.entry_zip_next
   (tD (I.ok.hd hc) D h1 h2 h3 (h4.it1 t1) (h5.it1 t2) (by simp;omega) fun g e kg ⟨o,ho,hoc⟩=>?_) (F.args_zip_next_1 _))))
  refine C9 (wpAny_isInstance (T := "StopIteration") (b:=true) ⟨o,ho,hoc⟩ isSubtype_stop (De ⟨rfl,?_⟩));exact I.turnedL (t':=s.toks) (fun b o hb e=>by simp at hb;exact kg b o hb.1 hb.2.2.1 hb.2.2.2.1 hb.2.2.2.2 e) hf
 self:=fun _ _ _ _ _ st h=>wpAny_pyIter_zip st.1 h
open PySem PySem.Spec PyProof.Rows L2.ZP
section
variable{X:Cx}{e1 e2:Expr}{ta:TA}{elts:List Expr}{kt:Nat}{pt p pos:Pos}
noncomputable def Am(K:W.Frag)(b1 b2:Bool)(t:TA):TI:=fun σ H R=>t σ H fun vs H1=>∃a1 a2 xs ys,vs=[.ref a1,.ref a2]/\Ci b1 K H1 a1 xs/\Ci b2 K H1 a2 ys/\R (CO K b1 b2 a1 a2) H1
theorem u_(b1 b2:Bool)(hg:Gl X "zip")(hm:X.mg "zip" = none)(ha:PA X [e1,e2] ta)(hs:autoParam (Dh [e1,e2] X.env=(false,eval e1 X.env)::Dh [e2] X.env) æa._auto_1)(hpl:autoParam ((ES pos (Dh [e2] X.env)).any (·.1)=false) æa._auto_1) :
 PI X (.Tuple elts kt pt) (.Call (.Name "zip" p) [e1,e2] [] pos) (Am X.K b1 b2 ta):=by
 intro pins s σ H R I h;refine Call_ (cK I hg hm (by rfl) (Es (A8 (ha pos pins s σ H _ I h) fun us s1 ⟨vs,H1,I1,r1,q1⟩=>?_) hs hpl) (by decide) (by decide));obtain⟨a1,a2,xs,ys,ev,q1,q2,q⟩:=q1;subst ev
 cases r1 with
 | cons r rr =>
   cases rr with
   | cons r' rr =>
     cases rr;cases r;cases r';obtain⟨its,v1,t1⟩:=I1.sqB q1;obtain⟨jts,v2,t2⟩:=I1.sqB q2;refine o6 t1 t2 fun g f1 f2 f3 f4 f5 f6 kp=>wpAny_pyIter_zip f1 ?_
     have lt1:a1<s1.heap.objs.size/\a2<s1.heap.objs.size:=by
      constructor
      · cases b1 with
        | true=>obtain⟨o,ho,_⟩:=(show s1.heap.IsTuple a1 _ from t1);exact Df ho
        | false=>obtain⟨o,ho,_⟩:=(show s1.heap.IsList a1 _ from t1);exact Df ho
      · cases b2 with
        | true=>obtain⟨o,ho,_⟩:=(show s1.heap.IsTuple a2 _ from t2);exact Df ho
        | false=>obtain⟨o,ho,_⟩:=(show s1.heap.IsList a2 _ from t2);exact Df ho
     obtain⟨l1,l2⟩:=lt1;have ap:∀{n c:Nat},c<n->∀k:Nat,c≠n+k:=fun h k e=>by omega
     have D:ZipApart (s1.heap.objs.size+4) (s1.heap.objs.size+2) (s1.heap.objs.size+3) s1.heap.objs.size (s1.heap.objs.size+1) a1 a2:=by
      generalize hN:s1.heap.objs.size=N at l1 l2;exact⟨by simp,by simp,by simp,by simp,by simp,by simp,by simp,by simp,by simp,by simp,ap l1 4,ap l1 3,ap l1 0,ap l1 1,ap l2 4,ap l2 3,ap l2 0,ap l2 1⟩
     have kg:∀b o,s1.heap.get? b=some o->g.get? b=some o:=kp;have I2:Inv X pins σ H1 {s1 with heap:=g}:=I1.kept (t':=s1.toks) kg
     have ir:∀{b:Bool}{it a:Addr}{zs:Array Dc},CU g it a zs 0->Cj b s1.heap a zs->CV b g it a 0:=fun{b it a zs} q r=>by
      have r':=Cj.of r fun o e=>kg _ o e
      cases b with
      | true =>
        rcases q with⟨_,⟨o,e,c,_⟩⟩|⟨q,_⟩
        · obtain⟨o',e',c',_⟩:=(show g.IsTuple a zs from r');rw[e]at e';cases e';rw[c]at c';injection c' with z;exact absurd z (by decide)
        · exact q
      | false =>
        rcases q with⟨q,_⟩|⟨_,⟨o,e,c,_⟩⟩
        · exact q
        · obtain⟨o',e',c',_⟩:=(show g.IsList a zs from r');rw[e]at e';cases e';rw[c]at c';injection c' with z;exact absurd z (by decide)
     refine⟨_,[s1.heap.objs.size+4,s1.heap.objs.size+2,s1.heap.objs.size+3,s1.heap.objs.size,s1.heap.objs.size+1],_,_,H1,rfl,I2,nE b1 b2 _ _ _ _ _ a1 a2 D,⟨f1,f2,⟨_,_,f3⟩,ir f4 t1,ir f5 t2⟩,fun b hb=>?_,q⟩
     have hb':s1.heap.objs.size<=b:=by
      simp at hb;rcases hb with rfl|rfl|rfl|rfl|rfl
      · exact G6 _ 4
      · exact G6 _ 2
      · exact G6 _ 3
      · exact Dm _
      · exact G6 _ 1
     exact I1.fpOk hb' (I1.hok.fresh hb')
end
end L2
namespace L2.VL
section
variable{X:Cx}{rl:Option Addr}{a b:Expr}{elts:List Expr}{kt:Nat}{pt p pos:Pos}{fs:Ca}
noncomputable def i8(xs ys:List Da):List Da:=List.zipWith (fun x y=>.tuple [x,y]) xs ys
noncomputable def cI:Da->Bool
 | .tuple _=>true
 | _=>false
theorem pz{K:W.Frag}{xs:List Da}(r:Rep K F v d)(e:dX d=some xs):∃a vs,v = .ref a/\Reps K F vs xs/\∀H,aR F H->Ci (cI d) K H a vs:=by
 cases r with
 | tup sq rs=>cases e;exact⟨_,_,rfl,rs,fun H s=>bA s sq⟩
 | lst h rs=>cases e;exact⟨_,_,rfl,rs,fun H s=>.inl (.inl (s _ _ h))⟩
 | non=>cases e
 | bl b=>cases e
 | int i=>cases e
 | str x=>cases e
theorem i7{xs ys:List Da}(h:(i8 xs ys)[i]?=some d):∃x y,xs[i]?=some x/\ys[i]?=some y/\d = .tuple [x,y]:=by
 unfold i8 at h;rw[IH]at h
 cases ex:xs[i]? with
 | none=>rw[ex]at h;cases h
 | some x =>
   cases ey:ys[i]? with
   | none=>rw[ex,ey]at h;cases h
   | some y=>rw[ex,ey]at h;cases h;exact⟨x,y,rfl,rfl,rfl⟩
theorem tP(b1 b2:Bool)(hm:X.mg "zip" = none)(ha:Cr X rl [a,b] fs)(hg:autoParam (Gl X "zip") æa._auto_1)(hs:autoParam (Dh [a,b] X.env=(false,eval a X.env)::Dh [b] X.env) æa._auto_1)(hpl:autoParam ((ES pos (Dh [b] X.env)).any (·.1)=false) æa._auto_1) :
 CA X rl (.Tuple elts kt pt) (.Call (.Name "zip" p) [a,b] [] pos) (fun ρ Q=>fs ρ fun ws=>∃dx dy xs ys,ws=[.d dx,.d dy]/\dX dx=some xs/\dX dy=some ys/\cI dx=b1/\cI dy=b2/\Q (i8 xs ys)):=by
 obtain⟨t,p1,k⟩:=ha;refine⟨_,u_ b1 b2 hg hm p1 hs hpl,fun R Qd Q q h=>k R _ _ q fun vs ws F1 H1 g1 r1 ⟨dx,dy,xs,ys,ew,e1,e2,kb1,kb2,q1⟩=>?_⟩;subst ew kb1 kb2;obtain⟨v,u,rfl,rv,ru⟩:=zy r1;obtain⟨a1,vs,rfl,rs,sq1⟩:=pz rv e1;obtain⟨a2,us,rfl,rt,sq2⟩:=pz ru e2;refine⟨a1,a2,vs,us,rfl,sq1 _ g1.sub,sq2 _ g1.sub,h _ (i8 xs ys) F1 H1 g1 ⟨fun i H x e s=>?_,fun i H hl s=>?_,fun i H v H' x F2 e s s2 ra y=>?_⟩ q1⟩
 · obtain⟨x1,y1,ex,ey,_⟩:=i7 e;obtain⟨v1,ev1,_⟩:=rs.get ex;obtain⟨u1,eu1,_⟩:=rt.get ey;exact⟨vs,us,v1,u1,sq1 _ s,sq2 _ s,ev1,eu1⟩
 · refine⟨vs,us,sq1 _ s,sq2 _ s,?_⟩;unfold i8 at hl;rw[List.length_zipWith]at hl;rw[rs.length,rt.length];omega
 · obtain⟨x1,y1,ex,ey,ed⟩:=i7 e;obtain⟨vx,vy,pp,hx,hy,hp,ev,eH⟩:=y;obtain⟨v1,ev1,rv1⟩:=rs.get ex;obtain⟨u1,eu1,ru1⟩:=rt.get ey;have h1:=hx vs (sq1 _ (s.trans s2));have h2:=hy us (sq2 _ (s.trans s2));rw[ev1]at h1;rw[eu1]at h2;cases h1;cases h2;subst ev eH ed;have g:=Grow.data (a:=pp) (o:=.tup [vx,vy]) s2 ra hp;exact⟨_,g,.tup (.inl (.inl aj)) (.cons ((rv1.mono s).mono g.fs) (.cons ((ru1.mono s).mono g.fs) .nil))⟩
noncomputable def BN(b1 b2:Bool)(fs:Ca):En->(List Da->Prop)->Prop:=fun ρ Q=>fs ρ fun ws=>∃dx dy xs ys,ws=[.d dx,.d dy]/\dX dx=some xs/\dX dy=some ys/\cI dx=b1/\cI dy=b2/\Q (i8 xs ys)
theorem nv(hm:X.mg "zip" = none)(ha:Cr X rl [a,b] fs)(hg:autoParam (Gl X "zip") æa._auto_1)(hs:autoParam (Dh [a,b] X.env=(false,eval a X.env)::Dh [b] X.env) æa._auto_1)(hpl:autoParam ((ES pos (Dh [b] X.env)).any (·.1)=false) æa._auto_1) :
 CA X rl (.Tuple elts kt pt) (.Call (.Name "zip" p) [a,b] [] pos) (BN true true fs):=tP true true hm ha hg hs hpl
end
theorem nr{α:Sort u}{a b:α}(h:a=b):a=b:=h
abbrev Mo(α:Type):=(α->Prop)->Prop
noncomputable def ret{α:Type}(a:α):Mo α:=fun Q=>Q a
noncomputable def BZ{α β:Type}(m:Mo α)(f:α->Mo β):Mo β:=fun Q=>m fun a=>f a Q
noncomputable def BR{α:Type}(P:Prop)(m:Mo α):Mo α:=fun Q=>P/\m Q
noncomputable def stk{α:Type}:Mo α:=fun _=>False
noncomputable def anyM{α:Type}(P:α->Prop):Mo α:=fun Q=>∀a,P a->Q a
noncomputable def ar{α β:Type}(o:Option α)(f:α->Mo β):Mo β:=match o with
 | some a=>f a
 | none=>stk
section
variable{α β γ:Type}
theorem bnd_ret(a:α)(f:α->Mo β):BZ (ret a) f=f a:=nr rfl
theorem bnd_bnd(m:Mo α)(f:α->Mo β)(g:β->Mo γ):BZ (BZ m f) g=BZ m fun a=>BZ (f a) g:=nr rfl
theorem bnd_grd(P:Prop)(m:Mo α)(f:α->Mo β):BZ (BR P m) f=BR P (BZ m f):=nr rfl
theorem bnd_stk(f:α->Mo β):BZ stk f=stk:=nr rfl
theorem bnd_ite(c:Prop)[Decidable c](a b:Mo α)(f:α->Mo β):BZ (if c then a else b) f=if c then BZ a f else BZ b f:=by split<;>rfl
theorem bnd_opt(o:Option α)(k:α->Mo β)(f:β->Mo γ):BZ (ar o k) f=ar o fun a=>BZ (k a) f:=by cases o<;>rfl
theorem opt_some(a:α)(k:α->Mo β):ar (some a) k=k a:=nr rfl
theorem opt_none(k:α->Mo β):ar none k=stk:=nr rfl
theorem am{P:Prop}(h:P)(m:Mo α):BR P m=m:=by funext Q;exact propext ⟨fun z=>z.2,fun z=>⟨h,z⟩⟩
theorem grd_T(m:Mo α):BR True m=m:=am trivial m
theorem dH(c:Prop)[Decidable c](a b:Mo α)(Q:α->Prop):(if c then a else b) Q=if c then a Q else b Q:=by split<;>rfl
theorem af{m n:Mo α}(h:∀Q,m Q↔n Q):m=n:=funext fun Q=>propext (h Q)
end
noncomputable def asI:W->Option Int
 | .d (.int i)=>some i
 | _=>none
noncomputable def asB:W->Option Bool
 | .d (.bool b)=>some b
 | _=>none
noncomputable def asS:W->Option Str
 | .d (.str b)=>some b
 | _=>none
noncomputable def asD:W->Option Da
 | .d x=>some x
 | _=>none
noncomputable def lstD:Da->Option (List Da)
 | .list xs=>some xs
 | _=>none
noncomputable def tupD:Da->Option (List Da)
 | .tuple xs=>some xs
 | _=>none
noncomputable def B6(w:W):Option (List Da):=w.dat.bind lstD
noncomputable def B3(w:W):Option (List Da):=(asD w).bind tupD
noncomputable def B5(w:W):Option (List Da):=w.dat.bind dX
noncomputable def A7:W->Option Int
 | .d (.int i)=>some i
 | .d (.bool b)=>some (if b then 1 else 0)
 | _=>none
noncomputable def isiT:W->Option String
 | .vv (.ty T)=>some T
 | _=>none
noncomputable def pU:List Da->Option (List Bool)
 | []=>some []
 | .bool b::r=>(pU r).map (b :: ·)
 | _=>none
noncomputable def gr:List Da->Option (List Int)
 | []=>some []
 | .int b::r=>(gr r).map (b :: ·)
 | _=>none
theorem blsD_map:∀bs:List Bool,pU (bs.map .bool)=some bs
 | []=>rfl
 | b::bs=>by show(pU (bs.map .bool)).map (b :: ·)=_;rw[blsD_map bs];rfl
theorem iW:∀{xs:List Da}{bs:List Bool},pU xs=some bs->xs=bs.map .bool
 | [],bs,h=>by cases h;rfl
 | .bool b::r,bs,h=>by
   have h:(pU r).map (b :: ·)=some bs:=h
   cases q:pU r with
   | none=>rw[q]at h;cases h
   | some cs=>rw[q]at h;cases h;rw[iW q];rfl
 | .none::_,_,h=>by cases h
 | .int _::_,_,h=>by cases h
 | .str _::_,_,h=>by cases h
 | .list _::_,_,h=>by cases h
 | .tuple _::_,_,h=>by cases h
 | .dict _::_,_,h=>by cases h
theorem b9:∀bs:List Int,gr (bs.map .int)=some bs
 | []=>rfl
 | b::bs=>by show(gr (bs.map .int)).map (b :: ·)=_;rw[b9 bs];rfl
theorem gq:∀{xs:List Da}{bs:List Int},gr xs=some bs->xs=bs.map .int
 | [],bs,h=>by cases h;rfl
 | .int b::r,bs,h=>by
   have h:(gr r).map (b :: ·)=some bs:=h
   cases q:gr r with
   | none=>rw[q]at h;cases h
   | some cs=>rw[q]at h;cases h;rw[gq q];rfl
 | .none::_,_,h=>by cases h
 | .bool _::_,_,h=>by cases h
 | .str _::_,_,h=>by cases h
 | .list _::_,_,h=>by cases h
 | .tuple _::_,_,h=>by cases h
 | .dict _::_,_,h=>by cases h
theorem asI_d(i:Int):asI (.d (.int i))=some i:=rfl
theorem asB_d(i:Bool):asB (.d (.bool i))=some i:=rfl
theorem asS_d(i:Str):asS (.d (.str i))=some i:=rfl
theorem asD_d(i:Da):asD (.d i)=some i:=rfl
theorem asT_d(x:Da):B3 (.d x)=tupD x:=rfl
theorem asL_d(x:Da):B6 (.d x)=lstD x:=rfl
theorem asL_ml(x:List Da):B6 (.ml x)=some x:=rfl
theorem asL_pk(x:List Da):B6 (.pk x)=some x:=rfl
theorem asQ_d(x:Da):B5 (.d x)=dX x:=rfl
theorem asQ_ml(x:List Da):B5 (.ml x)=some x:=rfl
theorem asQ_pk(x:List Da):B5 (.pk x)=some x:=rfl
theorem lstD_l(x:List Da):lstD (.list x)=some x:=rfl
theorem tupD_t(x:List Da):tupD (.tuple x)=some x:=rfl
theorem toI_i(i:Int):A7 (.d (.int i))=some i:=rfl
theorem toI_b(i:Bool):A7 (.d (.bool i))=some (if i then 1 else 0):=rfl
theorem isiT_t(T:String):isiT (.vv (.ty T))=some T:=rfl
theorem bD{w:W}{i:Int}:asI w=some i↔w = .d (.int i):=by
 constructor
 · intro h;unfold asI at h;split at h<;>simp_all
 · rintro rfl;rfl
theorem eE{w:W}{i:Bool}:asB w=some i↔w = .d (.bool i):=by
 constructor
 · intro h;unfold asB at h;split at h<;>simp_all
 · rintro rfl;rfl
theorem pV{w:W}{i:Str}:asS w=some i↔w = .d (.str i):=by
 constructor
 · intro h;unfold asS at h;split at h<;>simp_all
 · rintro rfl;rfl
theorem fD{w:W}{i:Da}:asD w=some i↔w = .d i:=by
 constructor
 · intro h;unfold asD at h;split at h<;>simp_all
 · rintro rfl;rfl
theorem se{w:W}{i:String}:isiT w=some i↔w = .vv (.ty i):=by
 constructor
 · intro h;unfold isiT at h;split at h<;>simp_all
 · rintro rfl;rfl
theorem rR{w:Da}{i:List Da}:lstD w=some i↔w = .list i:=by
 constructor
 · intro h;unfold lstD at h;split at h<;>simp_all
 · rintro rfl;rfl
theorem qE{w:Da}{i:List Da}:tupD w=some i↔w = .tuple i:=by
 constructor
 · intro h;unfold tupD at h;split at h<;>simp_all
 · rintro rfl;rfl
theorem jK{w:W}{i:List Da}:B3 w=some i↔w = .d (.tuple i):=by
 constructor
 · intro h;unfold B3 at h
   cases q:asD w with
   | none=>rw[q]at h;cases h
   | some x=>rw[q]at h;rw[fD.mp q,qE.mp h]
 · rintro rfl;rfl
theorem fC{w:W}{i:List Da}:B6 w=some i↔w.dat=some (.list i):=by
 unfold B6;constructor
 · intro h
   cases q:w.dat with
   | none=>rw[q]at h;cases h
   | some x=>rw[q]at h;rw[rR.mp h]
 · intro h;rw[h];rfl
theorem ag{β:Type}{o:Option α}{k:α->Mo β}{Q:β->Prop}:ar o k Q↔∃a,o=some a/\k a Q:=by
 cases o with
 | none=>exact⟨fun z=>z.elim,fun⟨_,z,_⟩=>by cases z⟩
 | some a=>exact⟨fun z=>⟨a,rfl,z⟩,fun⟨_,e,z⟩=>by cases e;exact z⟩
section
variable{fa fb fc:TV}{fs:Ca}{f g:TB}{ρ:En}{t u:Cb}
theorem m_vC(x:Da):vC x ρ=ret (.d x):=nr rfl
theorem bh(i:Nat):dj i ρ=ar ((ρ[i]?).join) fun w=>ret w.peek:=by
 refine af fun Q=>?_;rw[ag];constructor
 · rintro⟨w,e,q⟩;exact⟨w,by rw[e];rfl,q⟩
 · rintro⟨w,e,q⟩;refine⟨w,?_,q⟩
   cases h:ρ[i]? with
   | none=>rw[h]at e;cases e
   | some o=>rw[h]at e;cases o with
     | none=>cases e
     | some x=>cases e;rfl
theorem m_vOp(h:W->W->(W->Prop)->Prop):AY h fa fb ρ=BZ (fa ρ) fun x=>BZ (fb ρ) fun y=>h x y:=nr rfl
theorem m_gI(C:Int->Int->Prop)(h:Int->Int->Da)(x y:W):gI C h x y=ar (asI x) fun i=>ar (asI y) fun j=>BR (C i j) (ret (.d (h i j))):=by
 refine af fun Q=>?_;simp only[ag,bD,gI,BR,ret];exact⟨fun⟨i,j,a,b,c,q⟩=>⟨i,a,j,b,c,q⟩,fun⟨i,a,j,b,c,q⟩=>⟨i,j,a,b,c,q⟩⟩
theorem m_gI0(h:Int->Int->Da)(x y:W):BW h x y=ar (asI x) fun i=>ar (asI y) fun j=>ret (.d (h i j)):=by
 refine af fun Q=>?_;simp only[ag,bD,BW,ret];exact⟨fun⟨i,j,a,b,q⟩=>⟨i,a,j,b,q⟩,fun⟨i,a,j,b,q⟩=>⟨i,j,a,b,q⟩⟩
theorem m_vNeg:xf fa ρ=BZ (fa ρ) fun x=>ar (asI x) fun i=>ret (.d (.int (-i))):=by
 refine af fun Q=>?_;simp only[xf,BZ,ag,bD,ret]
theorem m_vTest{f:TV}:io f ρ=BZ (f ρ) fun w=>ar (asB w) ret:=by
 refine af fun Q=>?_;simp only[io,BZ,ag,eE,ret]
theorem m_gEqD(neg:Bool)(x y:W):ym neg x y=ar x.dat fun dx=>ar y.dat fun dy=>BR (D4 dx=true) (BR (D4 dy=true) (ret (.d (.bool (if neg then !EF dx dy else EF dx dy))))):=by
 refine af fun Q=>?_;simp only[ag,ym,BR,ret];exact⟨fun⟨i,j,a,b,c,d,q⟩=>⟨i,a,j,b,c,d,q⟩,fun⟨i,a,j,b,c,d,q⟩=>⟨i,j,a,b,c,d,q⟩⟩
theorem wp{w:W}{i:List Da}:B5 w=some i↔(w.dat=some (.list i)\/w.dat=some (.tuple i)):=by
 unfold B5;constructor
 · intro h
   cases q:w.dat with
   | none=>rw[q]at h;cases h
   | some x=>rw[q]at h;exact dX.of (o:=some x) rfl h
 · rintro(h|h)<;>rw[h]<;>rfl
theorem m_gInD(neg:Bool)(x y:W):yk neg x y=ar x.dat fun dx=>ar (B5 y) fun ys=>BR (D4 dx=true) (BR (Ec ys=true) (ret (.d (.bool (if neg then !(ys.any fun z=>EF z dx)else ys.any fun z=>EF z dx))))):=by
 refine af fun Q=>?_;simp only[ag,wp,yk,BR,ret];exact⟨fun⟨i,j,a,b,c,d,q⟩=>⟨i,a,j,b,c,d,q⟩,fun⟨i,a,j,b,c,d,q⟩=>⟨i,j,a,b,c,d,q⟩⟩
theorem m_vAnd:uq f g ρ=BZ (f ρ) fun b=>if b=true then g ρ else ret false:=by
 refine af fun Q=>?_;simp only[uq,BZ,dH,ret]
theorem m_vOr:AX f g ρ=BZ (f ρ) fun b=>if b=true then ret true else g ρ:=by
 refine af fun Q=>?_;simp only[AX,BZ,dH,ret]
theorem m_vNot:zq f ρ=BZ (f ρ) fun b=>ret (!b):=nr rfl
theorem m_vAndV:uo fa fb ρ=BZ (fa ρ) fun w=>ar (asB w) fun b=>if b=true then fb ρ else ret (.d (.bool false)):=by
 refine af fun Q=>?_;simp only[uo,BZ,ag,eE,dH,ret]
theorem m_vOrV:zp fa fb ρ=BZ (fa ρ) fun w=>ar (asB w) fun b=>if b=true then ret (.d (.bool true))else fb ρ:=by
 refine af fun Q=>?_;simp only[zp,BZ,ag,eE,dH,ret]
theorem m_vNotV:nB fa ρ=BZ (fa ρ) fun w=>ar (asB w) fun b=>ret (.d (.bool (!b))):=by
 refine af fun Q=>?_;simp only[nB,BZ,ag,eE,ret]
theorem m_vIf{t:TB}:A0 t fa fb ρ=BZ (t ρ) fun c=>if c=true then fa ρ else fb ρ:=by
 refine af fun Q=>?_;simp only[A0,BZ,dH]
theorem m_vTup:wu fs ρ=BZ (fs ρ) fun ws=>ar (eK ws) fun ds=>BR (ds.length<=sizeLine) (ret (.d (.tuple ds))):=by
 refine af fun Q=>?_;simp only[wu,BZ,ag,BR,ret]
theorem m_vLst:xg fs ρ=BZ (fs ρ) fun ws=>ar (eK ws) fun ds=>BR (ds.length<=sizeLine) (ret (.ml ds)):=by
 refine af fun Q=>?_;simp only[xg,BZ,ag,BR,ret]
theorem m_gIx(x y:W):BU x y=ar x.dat fun dx=>ar (asI y) fun i=>ar (itemAt dx i) fun z=>ret (.d z):=by
 refine af fun Q=>?_;simp only[BU,ag,bD,ret];exact⟨fun⟨i,j,z,a,b,c,q⟩=>⟨i,a,j,b,z,c,q⟩,fun⟨i,a,j,b,z,c,q⟩=>⟨i,j,z,a,b,c,q⟩⟩
theorem m_vCall(h:List W->(W->Prop)->Prop):eL h fs ρ=BZ (fs ρ) h:=nr rfl
theorem m_gAbs(w:W):wI [w]=ar (asI w) fun i=>ret (.d (.int (if i<0 then -i else i))):=by
 refine af fun Q=>?_;simp only[wI,ag,bD,ret,DI,and_true]
theorem m_gLen(w:W):wD [w]=ar w.dat fun d=>ar (pH d) fun n=>ret (.d (.int n)):=by
 refine af fun Q=>?_;simp only[wD,ag,ret,DI,and_true];exact⟨fun⟨w',d,n,e,a,b,q⟩=>by subst e;exact⟨d,a,n,b,q⟩,fun⟨d,a,n,b,q⟩=>⟨w,d,n,rfl,a,b,q⟩⟩
theorem m_gRepr(w:W):oO [w]=ar w.dat fun d=>BR (Cm d) (ret (.d (.str d.shown))):=by
 refine af fun Q=>?_;simp only[oO,ag,ret,BR,DI,and_true];exact⟨fun⟨w',d,e,a,b,q⟩=>by subst e;exact⟨d,a,b,q⟩,fun⟨d,a,b,q⟩=>⟨w,d,rfl,a,b,q⟩⟩
theorem m_gIsi(w v:W):zI [w,v]=ar w.dat fun d=>ar (isiT v) fun T=>BR (zw T=true) (ret (.d (.bool (zF d T)))):=by
 refine af fun Q=>?_;simp only[zI,ag,se,ret,BR,DI,and_true];exact⟨fun⟨w',d,T,⟨e,e'⟩,a,b,q⟩=>by subst e;exact⟨d,a,T,e',b,q⟩,fun⟨d,a,T,e',b,q⟩=>⟨w,d,T,⟨rfl,e'⟩,a,b,q⟩⟩
theorem m_gStrI(w:W):vW [w]=ar (asI w) fun i=>BR (i.natAbs.log2<1920) (ret (.d (.str (JM i)))):=by
 refine af fun Q=>?_;simp only[vW,ag,bD,ret,BR,DI,and_true]
theorem m_gTupO(w:W):oN [w]=ar (B5 w) fun xs=>ret (.d (.tuple xs)):=by
 refine af fun Q=>?_;simp only[oN,ag,ret,DI,and_true];constructor
 · rintro⟨w',d,xs,e,a,b,q⟩;subst e;exact⟨xs,by unfold B5;rw[a];exact b,q⟩
 · rintro⟨xs,e,q⟩;unfold B5 at e
   cases h:w.dat with
   | none=>rw[h]at e;cases e
   | some d=>rw[h]at e;exact⟨w,d,xs,rfl,h,e,q⟩
theorem m_gLstO(w:W):v6 [w]=ar (B5 w) fun xs=>ret (.ml xs):=by
 refine af fun Q=>?_;simp only[v6,ag,ret,DI,and_true];constructor
 · rintro⟨w',d,xs,e,a,b,q⟩;subst e;exact⟨xs,by unfold B5;rw[a];exact b,q⟩
 · rintro⟨xs,e,q⟩;unfold B5 at e
   cases h:w.dat with
   | none=>rw[h]at e;cases e
   | some d=>rw[h]at e;exact⟨w,d,xs,rfl,h,e,q⟩
theorem m_gIsB(x y:W):zJ x y=ar (asB x) fun i=>ar (asB y) fun j=>ret (.d (.bool (i==j))):=by
 refine af fun Q=>?_;simp only[ag,eE,zJ,ret];exact⟨fun⟨i,j,a,b,q⟩=>⟨i,a,j,b,q⟩,fun⟨i,a,j,b,q⟩=>⟨i,j,a,b,q⟩⟩
theorem m_gIsN(neg:Bool)(x:W):yj neg x (.d .none)=ar x.dat fun d=>ret (.d (.bool (if neg then !d8 d else d8 d))):=by
 refine af fun Q=>?_;simp only[ag,yj,ret,true_and]
theorem m_gI2(h:Int->Int->Da)(x y:W):BV h [x,y]=ar (asI x) fun i=>ar (asI y) fun j=>ret (.d (h i j)):=by
 refine af fun Q=>?_;simp only[ag,bD,BV,ret,DI,and_true];exact⟨fun⟨i,j,⟨a,b⟩,q⟩=>⟨i,a,j,b,q⟩,fun⟨i,a,j,b,q⟩=>⟨i,j,⟨a,b⟩,q⟩⟩
theorem m_gDivmod(x y:W):mE [x,y]=ar (asI x) fun i=>ar (asI y) fun j=>BR (0<j) (BR (j<1073741824) (ret (.d (.tuple [.int (i / j),.int (i%j)])))):=by
 refine af fun Q=>?_;simp only[ag,bD,mE,BR,ret,DI,and_true];exact⟨fun⟨i,j,⟨a,b⟩,c,d,q⟩=>⟨i,a,j,b,c,d,q⟩,fun⟨i,a,j,b,c,d,q⟩=>⟨i,j,⟨a,b⟩,c,d,q⟩⟩
theorem uw{w:W}{i:Int}:A7 w=some i↔(w = .d (.int i)\/∃b:Bool,w = .d (.bool b)/\i=if b then 1 else 0):=by
 constructor
 · intro h;unfold A7 at h;split at h
   · cases h;exact .inl rfl
   · cases h;exact .inr ⟨_,rfl,rfl⟩
   · cases h
 · rintro(rfl|⟨b,rfl,rfl⟩)<;>rfl
theorem m_gInt1(w:W):v8 [w]=ar (A7 w) fun i=>ret (.d (.int i)):=by
 refine af fun Q=>?_;simp only[ag,uw,v8,ret,DI,and_true];constructor
 · rintro(⟨i,rfl,q⟩|⟨k,rfl,q⟩)
   · exact⟨i,.inl rfl,q⟩
   · exact⟨_,.inr ⟨k,rfl,rfl⟩,q⟩
 · rintro⟨i,rfl|⟨b,rfl,rfl⟩,q⟩
   · exact .inl ⟨i,rfl,q⟩
   · exact .inr ⟨b,rfl,q⟩
theorem m_oNo:BA ρ=ret none:=nr rfl
theorem m_oIt:BB fa ρ=BZ (fa ρ) fun w=>ar (asI w) fun i=>ret (some i):=by
 refine af fun Q=>?_;simp only[BB,BZ,ag,bD,ret]
theorem m_vSlL{fl fh:Cc}:zm fa fl fh ρ=BZ (fa ρ) fun w=>BZ (fl ρ) fun l=>BZ (fh ρ) fun h=>ar (B6 w) fun xs=>ret (.ml (cutD xs l h)):=by
 refine af fun Q=>?_;simp only[zm,BZ,ag,fC,ret]
theorem m_vSlA{fl fh:Cc}:zn fa fl fh ρ=BZ (fa ρ) fun w=>BZ (fl ρ) fun l=>BZ (fh ρ) fun h=>ar (B3 w) fun xs=>ret (.d (.tuple (cutD xs l h))):=by
 refine af fun Q=>?_;simp only[zn,BZ,ag,jK,ret]
theorem m_gCatD(x y:W):v_ x y=ar (B6 x) fun xs=>ar (B6 y) fun ys=>BR (xs.length+ys.length<=sizeLine) (ret (.ml (xs++ys))):=by
 refine af fun Q=>?_;simp only[v_,ag,fC,BR,ret];exact⟨fun⟨i,j,a,b,c,q⟩=>⟨i,a,j,b,c,q⟩,fun⟨i,a,j,b,c,q⟩=>⟨i,j,a,b,c,q⟩⟩
theorem m_gCatA(x y:W):oQ x y=ar (B3 x) fun xs=>ar (B3 y) fun ys=>BR (xs.length+ys.length<=sizeLine) (ret (.d (.tuple (xs++ys)))):=by
 refine af fun Q=>?_;simp only[oQ,ag,jK,BR,ret];exact⟨fun⟨i,j,a,b,c,q⟩=>⟨i,a,j,b,c,q⟩,fun⟨i,a,j,b,c,q⟩=>⟨i,j,a,b,c,q⟩⟩
theorem m_vChain(p p':Int->Int->Bool):ul p p' fa fb fc ρ=BZ (fa ρ) fun x=>BZ (fb ρ) fun y=>ar (asI x) fun i=>ar (asI y) fun j=>if p i j=true then BZ (fc ρ) fun z=>ar (asI z) fun k=>ret (.d (.bool (p' j k)))else ret (.d (.bool false)):=by
 show(BZ (fa ρ) fun x=>BZ (fb ρ) fun y=>fun(Q:W->Prop)=>∃i j,x = .d (.int i)/\y = .d (.int j)/\if p i j=true then fc ρ fun z=>∃k,z = .d (.int k)/\Q (.d (.bool (p' j k)))else Q (.d (.bool false)))=_;congr 1;funext x;congr 1;funext y;refine af fun Q=>?_;simp only[BZ,ag,bD,ret,dH];exact⟨fun⟨i,j,a,b,q⟩=>⟨i,a,j,b,q⟩,fun⟨i,a,j,b,q⟩=>⟨i,j,a,b,q⟩⟩
theorem m_vLR1:zr fs ρ=BZ (fs ρ) fun ws=>ar (ws.head?.bind asI) fun j=>BR (ws.length=1) (BR (-(2^62)<=j/\j<2^62) (BR (j.toNat<=2^24) (ret (.ml (aE 0 j.toNat))))):=by
 show(BZ (fs ρ) fun ws=>fun(Q:W->Prop)=>∃j:Int,ws=[.d (.int j)]/\(-(2^62)<=j/\j<2^62)/\j.toNat<=2^24/\Q (.ml (aE 0 j.toNat)))=_;congr 1;funext ws;refine af fun Q=>?_;simp only[ag,BR,ret];constructor
 · rintro⟨j,rfl,a,b,q⟩;exact⟨j,rfl,rfl,a,b,q⟩
 · rintro⟨j,e,l,a,b,q⟩
   match ws,l with
   | [w],_=>rw[show w = .d (.int j)from bD.mp e];exact⟨j,rfl,a,b,q⟩
theorem m_vTR1:zT fs ρ=BZ (fs ρ) fun ws=>ar (ws.head?.bind asI) fun j=>BR (ws.length=1) (BR (-(2^62)<=j/\j<2^62) (BR (j.toNat<=2^24) (ret (.d (.tuple (aE 0 j.toNat)))))):=by
 show(BZ (fs ρ) fun ws=>fun(Q:W->Prop)=>∃j:Int,ws=[.d (.int j)]/\(-(2^62)<=j/\j<2^62)/\j.toNat<=2^24/\Q (.d (.tuple (aE 0 j.toNat))))=_;congr 1;funext ws;refine af fun Q=>?_;simp only[ag,BR,ret];constructor
 · rintro⟨j,rfl,a,b,q⟩;exact⟨j,rfl,rfl,a,b,q⟩
 · rintro⟨j,e,l,a,b,q⟩
   match ws,l with
   | [w],_=>rw[show w = .d (.int j)from bD.mp e];exact⟨j,rfl,a,b,q⟩
noncomputable def A5(ws:List W):Option (Int×Int):=match ws with
 | [a,b]=>(asI a).bind fun i=>(asI b).map fun j=>(i,j)
 | _=>none
theorem two_d(a b:Int):A5 [.d (.int a),.d (.int b)]=some (a,b):=rfl
theorem pq{ws:List W}{p:Int×Int}:A5 ws=some p↔ws=[.d (.int p.1),.d (.int p.2)]:=by
 constructor
 · intro h
   match ws with
   | []=>cases h
   | [_]=>cases h
   | _::_::_::_=>cases h
   | [a,b] =>
     have h:((asI a).bind fun i=>(asI b).map fun j=>(i,j))=some p:=h
     cases ha:asI a with
     | none=>rw[ha]at h;cases h
     | some i =>
       cases hb:asI b with
       | none=>rw[ha,hb]at h;cases h
       | some j=>rw[ha,hb]at h;cases h;rw[bD.mp ha,bD.mp hb]
 · rintro rfl;rfl
theorem m_vLR2:zU fs ρ=BZ (fs ρ) fun ws=>ar (A5 ws) fun p=>BR (-(2^62)<=p.1/\p.1<2^62 /\ -(2^62)<=p.2/\p.2<2^62) (BR ((p.2-p.1).toNat<=2^24) (ret (.ml (aE p.1 (p.2-p.1).toNat)))):=by
 show(BZ (fs ρ) fun ws=>fun(Q:W->Prop)=>∃i j:Int,ws=[.d (.int i),.d (.int j)]/\(-(2^62)<=i/\i<2^62 /\ -(2^62)<=j/\j<2^62)/\(j-i).toNat<=2^24/\Q (.ml (aE i (j-i).toNat)))=_;congr 1;funext ws;refine af fun Q=>?_;simp only[ag,pq,BR,ret];exact⟨fun⟨i,j,a,b,c,q⟩=>⟨(i,j),a,b,c,q⟩,fun⟨p,a,b,c,q⟩=>⟨p.1,p.2,a,b,c,q⟩⟩
theorem m_iL:iL fa ρ=BZ (fa ρ) fun w=>ar ((asD w.fz).bind lstD) ret:=by
 show(BZ (fa ρ) fun w=>fun(Q:List Da->Prop)=>∃xs,w.fz = .d (.list xs)/\Q xs)=_;congr 1;funext w;refine af fun Q=>?_;simp only[ag,ret];constructor
 · rintro⟨xs,e,q⟩;exact⟨xs,by rw[e];rfl,q⟩
 · rintro⟨xs,e,q⟩
   cases h:asD w.fz with
   | none=>rw[h]at e;cases e
   | some x=>rw[h]at e;rw[fD.mp h,rR.mp e];exact⟨xs,rfl,q⟩
theorem m_iT:iT fa ρ=BZ (fa ρ) fun w=>ar ((asD w.fz).bind tupD) ret:=by
 show(BZ (fa ρ) fun w=>fun(Q:List Da->Prop)=>∃xs,w.fz = .d (.tuple xs)/\Q xs)=_;congr 1;funext w;refine af fun Q=>?_;simp only[ag,ret];constructor
 · rintro⟨xs,e,q⟩;exact⟨xs,by rw[e];rfl,q⟩
 · rintro⟨xs,e,q⟩
   cases h:asD w.fz with
   | none=>rw[h]at e;cases e
   | some x=>rw[h]at e;rw[fD.mp h,qE.mp e];exact⟨xs,rfl,q⟩
theorem m_iR1:BP fs ρ=BZ (fs ρ) fun ws=>ar (ws.head?.bind asI) fun j=>BR (ws.length=1) (BR (-(2^62)<=j/\j<2^62) (ret (aE 0 j.toNat))):=by
 show(BZ (fs ρ) fun ws=>fun(Q:List Da->Prop)=>∃j:Int,ws=[.d (.int j)]/\(-(2^62)<=j/\j<2^62)/\Q (aE 0 j.toNat))=_;congr 1;funext ws;refine af fun Q=>?_;simp only[ag,BR,ret];constructor
 · rintro⟨j,rfl,a,q⟩;exact⟨j,rfl,rfl,a,q⟩
 · rintro⟨j,e,l,a,q⟩
   match ws,l with
   | [w],_=>rw[show w = .d (.int j)from bD.mp e];exact⟨j,rfl,a,q⟩
theorem m_iR2:BO fs ρ=BZ (fs ρ) fun ws=>ar (A5 ws) fun p=>BR (-(2^62)<=p.1/\p.1<2^62 /\ -(2^62)<=p.2/\p.2<2^62) (ret (aE p.1 (p.2-p.1).toNat)):=by
 show(BZ (fs ρ) fun ws=>fun(Q:List Da->Prop)=>∃i j:Int,ws=[.d (.int i),.d (.int j)]/\(-(2^62)<=i/\i<2^62 /\ -(2^62)<=j/\j<2^62)/\Q (aE i (j-i).toNat))=_;congr 1;funext ws;refine af fun Q=>?_;simp only[ag,pq,BR,ret];exact⟨fun⟨i,j,a,b,q⟩=>⟨(i,j),a,b,q⟩,fun⟨p,a,b,q⟩=>⟨p.1,p.2,a,b,q⟩⟩
noncomputable def wP(b1 b2:Bool)(ws:List W):Option (List Da):=match ws with
 | [.d x,.d y]=>if cI x=b1/\cI y=b2 then(dX x).bind fun xs=>(dX y).map fun ys=>i8 xs ys else none
 | _=>none
theorem m_iZb(b1 b2:Bool):BN b1 b2 fs ρ=BZ (fs ρ) fun ws=>ar (wP b1 b2 ws) ret:=by
 show(BZ (fs ρ) fun ws=>fun(Q:List Da->Prop)=>∃dx dy xs ys,ws=[.d dx,.d dy]/\dX dx=some xs/\dX dy=some ys/\cI dx=b1/\cI dy=b2/\Q (i8 xs ys))=_;congr 1;funext ws;refine af fun Q=>?_;simp only[ag,ret];constructor
 · rintro⟨dx,dy,xs,ys,rfl,a,b,c,d,q⟩;exact⟨_,by show(if cI dx=b1/\cI dy=b2 then(dX dx).bind fun xs=>(dX dy).map fun ys=>i8 xs ys else none)=_;rw[if_pos ⟨c,d⟩,a,b];rfl,q⟩
 · rintro⟨zs,e,q⟩;unfold wP at e;split at e
   · rename_i dx dy;split at e
     · rename_i c
       cases ha:dX dx with
       | none=>rw[ha]at e;cases e
       | some xs =>
         cases hb:dX dy with
         | none=>rw[ha,hb]at e;cases e
         | some ys=>rw[ha,hb]at e;cases e;exact⟨dx,dy,xs,ys,rfl,ha,hb,c.1,c.2,q⟩
     · cases e
   · cases e
theorem m_vUse(Pd:List W->(Da->Prop)->Prop):wZ Pd fs ρ=BZ (fs ρ) fun ws=>BR (ws.all cU=true) (BZ (Pd ws) fun d=>ret (.d d)):=nr rfl
theorem m_vUseL(Pd:List W->(List Da->Prop)->Prop):wY Pd fs ρ=BZ (fs ρ) fun ws=>BR (ws.all cU=true) (BZ (Pd ws) fun d=>ret (.ml d)):=nr rfl
theorem m_gAll(h:List Bool->Bool)(w:W):zK h [w]=ar ((B6 w).bind pU) fun bs=>ret (.d (.bool (h bs))):=by
 refine af fun Q=>?_;simp only[zK,ag,ret,DI,and_true];constructor
 · rintro⟨w',bs,rfl,e,q⟩;exact⟨bs,by rw[fC.mpr e];exact blsD_map bs,q⟩
 · rintro⟨bs,e,q⟩
   cases hl:B6 w with
   | none=>rw[hl]at e;cases e
   | some xs=>rw[hl]at e;refine⟨w,bs,rfl,?_,q⟩;rw[<- iW e];exact fC.mp hl
theorem m_gRepT(x y:W):vY x y=ar (B3 x) fun xs=>ar (asI y) fun k=>BR (xs≠[]/\1<=k/\k<2^62/\xs.length*k.toNat<=sizeLine) (ret (.d (.tuple (Ej k.toNat xs).flatten))):=by
 refine af fun Q=>?_;simp only[vY,ag,jK,bD,BR,ret];exact⟨fun⟨i,j,a,b,c,d,e,f,q⟩=>⟨i,a,j,b,⟨c,d,e,f⟩,q⟩,fun⟨i,a,j,b,⟨c,d,e,f⟩,q⟩=>⟨i,j,a,b,c,d,e,f,q⟩⟩
theorem m_gRepL(x y:W):vZ x y=ar (B6 x) fun xs=>ar (asI y) fun k=>BR (-(2^63)<=k/\k<2^63/\xs.length*k.toNat<=sizeLine) (ret (.ml (Ej k.toNat xs).flatten)):=by
 refine af fun Q=>?_;simp only[vZ,ag,fC,bD,BR,ret];exact⟨fun⟨i,j,a,b,c,d,e,q⟩=>⟨i,a,j,b,⟨c,d,e⟩,q⟩,fun⟨i,a,j,b,⟨c,d,e⟩,q⟩=>⟨i,j,a,b,c,d,e,q⟩⟩
theorem m_vRevT:ud fa ρ=BZ (fa ρ) fun w=>ar (B3 w) fun xs=>ret (.d (.tuple xs.reverse)):=by
 refine af fun Q=>?_;simp only[ud,BZ,ag,jK,ret]
theorem m_vRevL:ue fa ρ=BZ (fa ρ) fun w=>ar (B6 w) fun xs=>ret (.ml xs.reverse):=by
 refine af fun Q=>?_;simp only[ue,BZ,ag,fC,ret]
theorem m_gEqS(neg:Bool)(x y:W):yl neg x y=ar (asS x) fun i=>ar (asS y) fun j=>ret (.d (.bool (if neg then !decide (i=j)else decide (i=j)))):=by
 refine af fun Q=>?_;simp only[ag,pV,yl,ret];exact⟨fun⟨i,j,a,b,q⟩=>⟨i,a,j,b,q⟩,fun⟨i,a,j,b,q⟩=>⟨i,j,a,b,q⟩⟩
theorem m_vTGet(D:List (Str×Int)):ub D fa ρ=BZ (fa ρ) fun w=>ar (asS w) fun k=>ret (.d (uz D k)):=by
 refine af fun Q=>?_;simp only[ub,BZ,ag,pV,ret]
noncomputable def zM(w:W):Option (List Int):=(B3 w).bind gr
theorem m_gSrtT(w:W):vX [w]=ar (zM w) fun ns=>BR (ns.length<64) (BZ (anyM fun ns':List Int=>ns'.Perm ns/\ns'.Pairwise (· <= ·)) fun ns'=>ret (.ml (ns'.map .int))):=by
 refine af fun Q=>?_;simp only[vX,ag,ret,BR,BZ,anyM,DI,and_true];constructor
 · rintro⟨ns,rfl,a,q⟩;exact⟨ns,b9 ns,a,fun n' ⟨h1,h2⟩=>q n' h1 h2⟩
 · rintro⟨ns,e,a,q⟩;unfold zM at e
   cases hl:B3 w with
   | none=>rw[hl]at e;cases e
   | some xs=>rw[hl]at e;exact⟨ns,by rw[jK.mp hl,<- gq e],a,fun n' h1 h2=>q n' ⟨h1,h2⟩⟩
end
inductive Fl where
 | nx (ρ:En)|rt (w:W)|bk (ρ:En)|ct (ρ:En)
noncomputable def mS(t:Cb)(ρ:En):Mo Fl:=fun Q=>t ⟨fun ρ=>Q (.nx ρ),fun w=>Q (.rt w),fun ρ=>Q (.bk ρ),fun ρ=>Q (.ct ρ)⟩ ρ
noncomputable def sq(m:Mo Fl)(k:En->Mo Fl):Mo Fl:=BZ m fun fl=>match fl with
 | .nx ρ=>k ρ
 | .rt w=>ret (.rt w)
 | .bk ρ=>ret (.bk ρ)
 | .ct ρ=>ret (.ct ρ)
noncomputable def s_(Q:Da->Prop):Fl->Prop
 | .nx _=>Q .none
 | .rt w=>∃d,w.fz = .d d/\Q d
 | _=>False
section
variable{fa fb fc:TV}{fs:Ca}{f g:TB}{ρ:En}{t u:Cb}{k:En->Mo Fl}
theorem aZ{Q:Da->Prop}(h:mS t ρ (s_ Q)):t (ip Q) ρ:=h
theorem end_d(Q:Da->Prop)(d:Da):s_ Q (.rt (.d d))=Q d:=propext ⟨fun⟨_,e,q⟩=>by cases e;exact q,fun q=>⟨d,rfl,q⟩⟩
theorem end_ml(Q:Da->Prop)(d:List Da):s_ Q (.rt (.ml d))=Q (.list d):=propext ⟨fun⟨_,e,q⟩=>by cases e;exact q,fun q=>⟨_,rfl,q⟩⟩
theorem end_nx(Q:Da->Prop)(ρ:En):s_ Q (.nx ρ)=Q .none:=nr rfl
theorem sq_nx:sq (ret (.nx ρ)) k=k ρ:=nr rfl
theorem sq_rt(w:W):sq (ret (.rt w)) k=ret (.rt w):=nr rfl
theorem sq_bk:sq (ret (.bk ρ)) k=ret (.bk ρ):=nr rfl
theorem sq_ct:sq (ret (.ct ρ)) k=ret (.ct ρ):=nr rfl
theorem sq_grd(P:Prop)(m:Mo Fl):sq (BR P m) k=BR P (sq m k):=nr rfl
theorem sq_stk:sq stk k=stk:=nr rfl
theorem sq_ite(c:Prop)[Decidable c](a b:Mo Fl):sq (if c then a else b) k=if c then sq a k else sq b k:=by split<;>rfl
theorem uG(o:Option α)(h:α->Mo Fl):sq (ar o h) k=ar o fun a=>sq (h a) k:=by cases o<;>rfl
theorem s_next:mS uh ρ=ret (.nx ρ):=nr rfl
theorem s_seq:mS (uc t u) ρ=sq (mS t ρ) (mS u):=by
 refine af fun Q=>?_;show t ⟨fun ρ=>u ⟨_,_,_,_⟩ ρ,_,_,_⟩ ρ↔_;exact G7
theorem s_drop:mS (xn fa) ρ=BZ (fa ρ) fun _=>ret (.nx ρ):=nr rfl
theorem s_ret:mS (xa fa) ρ=BZ (fa ρ) fun w=>ret (.rt w):=nr rfl
theorem s_retN:mS w_ ρ=ret (.rt (.d .none)):=nr rfl
theorem s_ifS:mS (xi f t u) ρ=BZ (f ρ) fun b=>if b=true then mS t ρ else mS u ρ:=by
 refine af fun Q=>?_;simp only[mS,xi,BZ,dH]
theorem s_set(i:Nat):mS (sW i fa) ρ=BZ (fa ρ) fun w=>BR (w.isPk=false) (ret (.nx (ρ.set i (some w)))):=nr rfl
theorem s_never:mS (fun _ _=>False) ρ=stk:=nr rfl
theorem m_hName(i:Nat)(x:Da):sv i x ρ=ret (ρ.set i (some (.d x))):=nr rfl
theorem vG(xs:List Da):yh xs ρ=BR (xs=[]) (ret ρ):=nr rfl
theorem rP{g:Ce}{gs:kE}(xs:List Da):oK g gs xs ρ=ar (match xs with | []=>none|y::r=>some (y,r)) fun p=>BZ (g p.1 ρ) fun ρ'=>gs p.2 ρ':=by
 refine af fun Q=>?_;simp only[ag,oK,BZ];constructor
 · rintro⟨y,r,rfl,q⟩;exact⟨(y,r),rfl,q⟩
 · rintro⟨p,e,q⟩
   cases xs with
   | nil=>cases e
   | cons y r=>cases e;exact⟨y,r,rfl,q⟩
theorem m_hCons_c{g:Ce}{gs:kE}(y:Da)(r:List Da):oK g gs (y::r) ρ=BZ (g y ρ) fun ρ'=>gs r ρ':=by rw[rP];rfl
theorem m_hNil_n:yh [] ρ=ret ρ:=by rw[vG,am rfl]
theorem m_hTup(n:Nat){gs:kE}(x:Da):yg n gs x ρ=ar (tupD x) fun xs=>BR (xs.length=n) (gs xs ρ):=by
 refine af fun Q=>?_;simp only[ag,qE,yg,BR]
theorem s_asg{g:Ce}:mS (zt fa g) ρ=BZ (fa ρ) fun w=>ar (asD w) fun x=>BZ (g x ρ) fun ρ'=>ret (.nx ρ'):=by
 refine af fun Q=>?_;simp only[mS,zt,BZ,ag,fD,ret]
theorem s_par(i j:Nat):mS (zo i j fs) ρ=BZ (fs ρ) fun ws=>ar (eK ws) fun ds=>ar (match ds with | [x,y]=>some (x,y)|_=>none) fun p=>ret (.nx ((ρ.set i (some (.d p.1))).set j (some (.d p.2)))):=by
 show(BZ (fs ρ) fun ws=>fun(Q:Fl->Prop)=>∃x y,eK ws=some [x,y]/\Q (.nx ((ρ.set i (some (.d x))).set j (some (.d y)))))=_;congr 1;funext ws;refine af fun Q=>?_;simp only[ag,ret];constructor
 · rintro⟨x,y,e,q⟩;exact⟨_,e,(x,y),rfl,q⟩
 · rintro⟨ds,e,p,e2,q⟩;split at e2
   · cases e2;exact⟨_,_,e,q⟩
   · cases e2
theorem s_par3(i j l:Nat):mS (xb i j l fs) ρ=BZ (fs ρ) fun ws=>ar (eK ws) fun ds=>ar (match ds with | [x,y,z]=>some (x,y,z)|_=>none) fun p=>ret (.nx (((ρ.set i (some (.d p.1))).set j (some (.d p.2.1))).set l (some (.d p.2.2)))):=by
 show(BZ (fs ρ) fun ws=>fun(Q:Fl->Prop)=>∃x y z,eK ws=some [x,y,z]/\Q (.nx (((ρ.set i (some (.d x))).set j (some (.d y))).set l (some (.d z)))))=_;congr 1;funext ws;refine af fun Q=>?_;simp only[ag,ret];constructor
 · rintro⟨x,y,z,e,q⟩;exact⟨_,e,(x,y,z),rfl,q⟩
 · rintro⟨ds,e,p,e2,q⟩;split at e2
   · cases e2;exact⟨_,_,_,e,q⟩
   · cases e2
noncomputable def Bn(ρ:En)(i:Nat):Option Int:=((ρ[i]?).join).bind asI
noncomputable def asM:W->Option (List Da)
 | .ml xs=>some xs
 | _=>none
noncomputable def Bm(ρ:En)(i:Nat):Option (List Da):=((ρ[i]?).join).bind asM
theorem asM_ml(xs:List Da):asM (.ml xs)=some xs:=rfl
theorem zL{w:W}{xs:List Da}:asM w=some xs↔w = .ml xs:=by
 constructor
 · intro h;unfold asM at h;split at h<;>simp_all
 · rintro rfl;rfl
theorem eW{xs:List Da}:Bm ρ i=some xs↔ρ[i]?=some (some (.ml xs)):=by
 unfold Bm;constructor
 · intro h
   cases q:ρ[i]? with
   | none=>rw[q]at h;cases h
   | some o=>rw[q]at h;cases o with
     | none=>cases h
     | some w=>rw[zL.mp h]
 · intro h;rw[h];rfl
theorem uI{n:Int}:Bn ρ i=some n↔ρ[i]?=some (some (.d (.int n))):=by
 unfold Bn;constructor
 · intro h
   cases q:ρ[i]? with
   | none=>rw[q]at h;cases h
   | some o=>rw[q]at h;cases o with
     | none=>cases h
     | some w=>rw[bD.mp h]
 · intro h;rw[h];rfl
theorem s_aug(i:Nat)(C:Int->Int->Prop)(h:Int->Int->Int):mS (xp i C h fa) ρ=ar (Bn ρ i) fun n=>BZ (fa ρ) fun w=>ar (asI w) fun m=>BR (C n m) (ret (.nx (ρ.set i (some (.d (.int (h n m))))))):=by
 refine af fun Q=>?_;simp only[mS,xp,BZ,ag,uI,bD,BR,ret]
theorem s_augL(i:Nat):mS (um i fa) ρ=ar (Bm ρ i) fun xs=>BZ (fa ρ) fun w=>ar (B6 w) fun ys=>BR (w.isPk=false) (BR (xs.length+ys.length<=sizeLine) (ret (.nx (ρ.set i (some (.ml (xs++ys))))))):=by
 refine af fun Q=>?_;simp only[mS,um,ag,eW];refine exists_congr fun xs=>and_congr_right fun _=>?_;show(fa ρ fun w=>∃ys,w.isPk=false/\w.dat=some (.list ys)/\_/\_)↔(fa ρ fun w=>_)
 have:(fun w:W=>∃ys,w.isPk=false/\w.dat=some (.list ys)/\xs.length+ys.length<=sizeLine/\Q (.nx (ρ.set i (some (.ml (xs++ys))))))=fun w=>(ar (B6 w) fun ys=>BR (w.isPk=false) (BR (xs.length+ys.length<=sizeLine) (ret (.nx (ρ.set i (some (.ml (xs++ys)))))))) Q:=by
  funext w;refine propext ?_;rw[ag];simp only[fC,BR,ret];exact⟨fun⟨ys,a,b,c,d⟩=>⟨ys,b,a,c,d⟩,fun⟨ys,b,a,c,d⟩=>⟨ys,a,b,c,d⟩⟩
 rw[this]
theorem s_frz(i:Nat):mS (xj i t) ρ=ar (Bm ρ i) fun xs=>mS t (ρ.set i (some (.d (.list xs)))):=by
 refine af fun Q=>?_;simp only[mS,xj,ag,eW]
theorem s_mut(i:Nat)(h:List Da->List W->(List Da->Prop)->Prop):mS (sX i h fs) ρ=ar (Bm ρ i) fun xs=>BZ (fs ρ) fun ws=>BZ (h xs ws) fun ys=>ret (.nx (ρ.set i (some (.ml ys)))):=by
 refine af fun Q=>?_;simp only[mS,sX,BZ,ag,eW,ret]
theorem m_gApp(xs:List Da)(w:W):wH xs [w]=ar (asD w) fun x=>BR (xs.length<sizeLine) (ret (xs++[x])):=by
 refine af fun Q=>?_;simp only[wH,ag,fD,BR,ret];constructor
 · rintro⟨x,e,a,q⟩;cases w<;>first|(cases e;exact⟨_,rfl,a,q⟩)|cases e
 · rintro⟨x,rfl,a,q⟩;exact⟨x,rfl,a,q⟩
theorem m_gExt(xs:List Da)(w:W):wF xs [w]=ar ((asD w).bind lstD) fun ys=>BR (xs.length+ys.length<=sizeLine) (ret (xs++ys)):=by
 refine af fun Q=>?_;simp only[wF,ag,BR,ret];constructor
 · rintro⟨x,e,a,q⟩;cases w<;>first|(cases e;exact⟨_,rfl,a,q⟩)|cases e
 · rintro⟨x,e,a,q⟩
   cases h:asD w with
   | none=>rw[h]at e;cases e
   | some d=>rw[h]at e;rw[fD.mp h,rR.mp e];exact⟨x,rfl,a,q⟩
theorem s_retO(i:Nat):mS (uf i) ρ=ar (Bm ρ i) fun xs=>ret (.rt (.ml xs)):=by
 refine af fun Q=>?_;simp only[mS,uf,ag,eW,ret]
theorem s_appPop(i j:Nat):mS (kY i j fa) ρ=ar (Bm ρ i) fun xs=>ar (Bm ρ j) fun ys=>BZ (fa ρ) fun w=>ar (asI w) fun k=>BR (0<=k/\k<(ys.length:Int)/\ys.length<2^62) (ar (ys[k.toNat]?) fun y=>BR (xs.length<sizeLine) (ret (.nx ((ρ.set j (some (.ml (ys.eraseIdx k.toNat)))).set i (some (.ml (xs++[y]))))))):=by
 refine af fun Q=>?_;simp only[mS,kY,ag,eW]
 have:∀xs ys:List Da,(fun w:W=>∃k y,w = .d (.int k)/\0<=k/\k<(ys.length:Int)/\ys.length<2^62/\ys[k.toNat]?=some y/\xs.length<sizeLine/\Q (.nx ((ρ.set j (some (.ml (ys.eraseIdx k.toNat)))).set i (some (.ml (xs++[y]))))))=fun w=>(ar (asI w) fun k=>BR (0<=k/\k<(ys.length:Int)/\ys.length<2^62) (ar (ys[k.toNat]?) fun y=>BR (xs.length<sizeLine) (ret (.nx ((ρ.set j (some (.ml (ys.eraseIdx k.toNat)))).set i (some (.ml (xs++[y])))))))) Q:=by
  intro xs ys;funext w;refine propext ?_;simp only[ag,bD,BR,ret];exact⟨fun⟨k,y,a,b,c,d,e,f,q⟩=>⟨k,a,⟨b,c,d⟩,y,e,f,q⟩,fun⟨k,a,⟨b,c,d⟩,y,e,f,q⟩=>⟨k,y,a,b,c,d,e,f,q⟩⟩
 constructor
 · rintro⟨xs,ys,e1,e2,q⟩;refine⟨xs,e1,ys,e2,?_⟩;rw[this]at q;exact q
 · rintro⟨xs,e1,ys,e2,q⟩;refine⟨xs,ys,e1,e2,?_⟩;rw[this];exact q
end
noncomputable def Le(a b:En):Prop:=a.length=b.length/\∀(i:Nat) w,a[i]?=some (some w)->b[i]?=some (some w)
theorem Le.refl(a:En):Le a a:=⟨rfl,fun _ _ h=>h⟩
theorem Le.trans{a b c:En}(h:Le a b)(h':Le b c):Le a c:=⟨h.1.trans h'.1,fun i w e=>h'.2 i w (h.2 i w e)⟩
theorem le_nil:Le [] []=True:=propext ⟨fun _=>trivial,fun _=>Le.refl _⟩
theorem le_cn(x:Option W)(a b:En):Le (none::a) (x::b)=Le a b:=by
 refine propext ⟨fun h=>⟨by have:=h.1;simpa using this,fun i w e=>by have:=h.2 (i+1) w (by simpa using e);simpa using this⟩,fun h=>⟨by simp[h.1],fun i w e=>?_⟩⟩
 cases i with
 | zero=>simp at e
 | succ i=>simpa using h.2 i w (by simpa using e)
theorem le_cs(x:Option W)(a b:En):Le (x::a) (x::b)=Le a b:=by
 refine propext ⟨fun h=>⟨by have:=h.1;simpa using this,fun i w e=>by have:=h.2 (i+1) w (by simpa using e);simpa using this⟩,fun h=>⟨by simp[h.1],fun i w e=>?_⟩⟩
 cases i with
 | zero=>simpa using e
 | succ i=>simpa using h.2 i w (by simpa using e)
theorem VR.le{K:W.Frag}{ρ0:En}(R:VR K rl F₀ H₀ F H σ ρ)(h:Le ρ0 ρ):VR K rl F₀ H₀ F H σ ρ0 :=
 ⟨R.g,fun i w e=>R.sl i w (h.2 i w e),fun i j x y v n e1 e2=>R.ap i j x y v n (h.2 i x e1) (h.2 j y e2),fun i xs e=>R.np i xs (h.2 i _ e),h.1.trans R.len⟩
noncomputable def fo:List Nat->En->En
 | [],ρ=>ρ
 | i::l,ρ=>fo l (ρ.set i none)
theorem vL(ρ:En)(i:Nat):Le (ρ.set i none) ρ:=by
 refine⟨by simp,fun j w e=>?_⟩;rw[DU]at e;split at e
 · split at e
   · cases e
   · cases e
 · exact e
theorem gb:∀(l:List Nat)(ρ:En),Le (fo l ρ) ρ
 | [],ρ=>Le.refl ρ
 | i::l,ρ=>(gb l (ρ.set i none)).trans (vL ρ i)
theorem fo_nil(ρ:En):fo [] ρ=ρ:=rfl
theorem fo_cons(i:Nat)(l:List Nat)(ρ:En):fo (i::l) ρ=fo l (ρ.set i none):=rfl
noncomputable def cv(fl:List Nat)(g:Ce)(t:Cb):List Da->Cb
 | [],D,ρ=>D.nx ρ
 | x::xs,D,ρ=>g x ρ fun ρ2=>t {D with nx:=fun ρ'=>cv fl g t xs D (fo fl ρ'),ct:=fun ρ'=>cv fl g t xs D (fo fl ρ'),bk:=fun ρ'=>D.nx (fo fl ρ')} ρ2
noncomputable def uk(fl:List Nat)(fi:En->(List Da->Prop)->Prop)(g:Ce)(t:Cb):Cb:=fun D ρ=>fi ρ fun xs=>cv fl g t xs D (fo fl ρ)
section
variable{X:Cx}{rl:Option Addr}{st:Stmt}{rest body:List Stmt}{t u:Cb}{a b c e:Expr}{es:List Expr}{fa fb:TV}{fs:Ca}{f:TB}{pos p:Pos}
theorem bN(fl:List Nat){fi:En->(List Da->Prop)->Prop}{g:Ce}(hp:JP (Dw X.prog X.w) X.A X.env X.xe)(hc:X.calm=true)(hi:CA X rl tg iter fi)(hg:CD X rl tg g)(hb:il X rl body t)
 (hs:autoParam (∀x,DL iter X.env x=pure x) æd._auto_1):Cw X rl (.For tg iter body [] pos) (uk fl fi g t):=by
 obtain⟨wi,p0,k0⟩:=hi;obtain⟨G,p1,k1⟩:=hg;obtain⟨T,p2,k2⟩:=hb;refine⟨_,u7 hp hc p0 p1 p2 hs,fun{F₀ H₀ F H σ ρ} R Dv D ok q=>k0 R _ _ q fun J xs F1 H1 g1 vi q1=>?_⟩;refine⟨fun i m σ H=>m=xs.length-i/\i<=xs.length/\∃F ρ,aR F1 F/\VR X.K rl F₀ H₀ F H σ ρ/\cv fl g t (xs.drop i) Dv ρ,⟨xs.length,by simp,DG _,F1,fo fl ρ,.refl _,(R.grow g1).le (gb fl ρ),by simpa using q1⟩,?_⟩;rintro i m σ H ⟨rfl,hi,F2,ρ2,s2,R2,j2⟩;have sH:aR F1 H:=s2.trans R2.sub;by_cases hlt:i<xs.length
 · have ei:xs[i]?=some xs[i]:=by simp[hlt]
   rw[Ek hlt]at j2;refine .inr ⟨vi.go i H _ ei sH,fun σ' H'=>∃F ρ,aR F1 F/\VR X.K rl F₀ H₀ F H' σ' ρ/\cv fl g t (xs.drop (i+1)) Dv ρ,fun σ' H' z=>⟨xs.length-(i+1),by omega,rfl,hlt,z⟩,fun v H' y=>?_⟩;obtain⟨Fy,gy,rv⟩:=vi.yld i H v H' _ F2 ei s2 R2.sub R2.reel y;refine k1 (R2.grow gy) v _ _ _ rv j2 fun F3 H3 σ3 ρ3 s3 n3 R3 q3=>?_;have s13:aR F1 F3:=s2.trans (gy.fs.trans s3.fs)
   exact k2 R3 {Dv with nx:=fun ρ'=>cv fl g t (xs.drop (i+1)) Dv (fo fl ρ'),ct:=fun ρ'=>cv fl g t (xs.drop (i+1)) Dv (fo fl ρ'),bk:=fun ρ'=>Dv.nx (fo fl ρ')} _
    ⟨fun F4 H4 σ4 ρ4 s4 R4 q4=>⟨F4,fo fl ρ4,s13.trans s4,R4.le (gb fl ρ4),q4⟩,ok.rt,fun F4 H4 σ4 ρ4 s4 R4 q4=>ok.nx _ _ _ _ (g1.fs.trans (s13.trans s4)) (R4.le (gb fl ρ4)) q4,fun F4 H4 σ4 ρ4 s4 R4 q4=>⟨F4,fo fl ρ4,s13.trans s4,R4.le (gb fl ρ4),q4⟩⟩ q3
 · have e:i=xs.length:=by omega
   subst e;rw[Ga]at j2;exact .inl ⟨vi.stop _ H (Dm _) sH,ok.nx _ _ _ _ (g1.fs.trans s2) R2 j2⟩
noncomputable def AU(fl:List Nat)(f:TB)(t:Cb)(m:Nat):Cb:=fun D ρ=>f ρ fun b=>if b=true then t {D with nx:=fun ρ'=>∃k,∃h:k<m,AU fl f t k D (fo fl ρ'),ct:=fun ρ'=>∃k,∃h:k<m,AU fl f t k D (fo fl ρ'),bk:=fun ρ'=>D.nx (fo fl ρ')} ρ else D.nx ρ
termination_by m
noncomputable def kW(fl:List Nat)(f:TB)(t:Cb):Cb:=fun D ρ=>∃m,AU fl f t m D (fo fl ρ)
theorem pi(fl:List Nat)(f:TB)(t:Cb)(m:Nat)(D:VEnds)(ρ:En):AU fl f t m D ρ=f ρ fun b=>if b=true then t {D with nx:=fun ρ'=>∃k,∃h:k<m,AU fl f t k D (fo fl ρ'),ct:=fun ρ'=>∃k,∃h:k<m,AU fl f t k D (fo fl ρ'),bk:=fun ρ'=>D.nx (fo fl ρ')} ρ else D.nx ρ:=by
 conv=>lhs;unfold AU
theorem kJ(fl:List Nat)(hp:JP (Dw X.prog X.w) X.A X.env X.xe)(hc:PB X rl c f)(hb:il X rl body t):Cw X rl (.While c body [] pos) (kW fl f t):=by
 obtain⟨t0,p0,k0⟩:=hc;obtain⟨t1,p1,k1⟩:=hb;refine⟨_,nQ hp p0 p1,fun{F₀ H₀ F H σ ρ} R Dv D ok q=>?_⟩;obtain⟨m,j0⟩:=q;refine⟨fun m σ' H'=>∃F' ρ',aR F F'/\VR X.K rl F₀ H₀ F' H' σ' ρ'/\AU fl f t m Dv ρ',⟨m,F,fo fl ρ,.refl _,R.le (gb fl ρ),j0⟩,?_⟩;rintro m σ2 H2 ⟨F2,ρ2,s2,R2,j⟩;rw[pi]at j;refine k0 R2 _ _ j fun b F1 H1 g1 q1=>?_
 cases b with
 | false=>exact ok.nx _ _ _ _ (s2.trans g1.fs) (R2.grow g1) q1
 | true =>
   refine⟨fun σ' H'=>∃F' ρ',aR F F'/\VR X.K rl F₀ H₀ F' H' σ' ρ'/\∃m',m'<m/\AU fl f t m' Dv ρ',fun σ' H' ⟨F',ρ',s',R',m',hm,j⟩=>⟨m',hm,F',ρ',s',R',j⟩,?_⟩
   exact k1 (R2.grow g1) {Dv with nx:=fun ρ'=>∃k,∃h:k<m,AU fl f t k Dv (fo fl ρ'),ct:=fun ρ'=>∃k,∃h:k<m,AU fl f t k Dv (fo fl ρ'),bk:=fun ρ'=>Dv.nx (fo fl ρ')} _
    ⟨fun F3 H3 σ3 ρ3 s3 R3 ⟨m',hm,q3⟩=>⟨F3,fo fl ρ3,(s2.trans g1.fs).trans s3,R3.le (gb fl ρ3),m',hm,q3⟩,ok.rt,fun F3 H3 σ3 ρ3 s3 R3 q3=>ok.nx _ _ _ _ ((s2.trans g1.fs).trans s3) (R3.le (gb fl ρ3)) q3,fun F3 H3 σ3 ρ3 s3 R3 ⟨m',hm,q3⟩=>⟨F3,fo fl ρ3,(s2.trans g1.fs).trans s3,R3.le (gb fl ρ3),m',hm,q3⟩⟩ q1
end
noncomputable def BG(fl:List Nat)(k:En->Mo Fl):Fl->Mo Fl
 | .nx ρ=>k (fo fl ρ)
 | .ct ρ=>k (fo fl ρ)
 | .bk ρ=>ret (.nx (fo fl ρ))
 | .rt w=>ret (.rt w)
noncomputable def d7(fl:List Nat)(b:Da->En->Mo Fl):List Da->En->Mo Fl
 | [],ρ=>ret (.nx ρ)
 | x::xs,ρ=>BZ (b x ρ) (BG fl (d7 fl b xs))
theorem lU(fl:List Nat)(g:Ce)(t:Cb):∀(xs:List Da)(ρ:En),mS (cv fl g t xs) ρ=d7 fl (fun x ρ=>BZ (g x ρ) (mS t)) xs ρ
 | [],ρ=>rfl
 | x::xs,ρ=>by
   refine af fun Q=>?_;show(g x ρ fun ρ2=>t ⟨fun ρ'=>mS (cv fl g t xs) (fo fl ρ') Q,fun w=>Q (.rt w),fun ρ'=>Q (.nx (fo fl ρ')),fun ρ'=>mS (cv fl g t xs) (fo fl ρ') Q⟩ ρ2)↔_;simp only[lU fl g t xs];exact G7
noncomputable def B2(g:Ce)(t:Cb):Da->En->Mo Fl:=fun x ρ=>BZ (g x ρ) (mS t)
theorem bdy_ap(g:Ce)(t:Cb)(x:Da)(ρ:En):B2 g t x ρ=BZ (g x ρ) (mS t):=nr rfl
theorem s_for(fl:List Nat)(fi:En->(List Da->Prop)->Prop)(g:Ce)(t:Cb)(ρ:En):mS (uk fl fi g t) ρ=BZ (fi ρ) fun xs=>d7 fl (B2 g t) xs (fo fl ρ):=by
 refine af fun Q=>?_;show(fi ρ fun xs=>mS (cv fl g t xs) (fo fl ρ) Q)↔_;simp only[lU];exact G7
noncomputable def BF(fl:List Nat)(J:En->Prop)(Q:Fl->Prop):Fl->Prop
 | .nx ρ=>J (fo fl ρ)
 | .ct ρ=>J (fo fl ρ)
 | .bk ρ=>Q (.nx (fo fl ρ))
 | .rt w=>Q (.rt w)
section
variable{α σ:Type}{fl:List Nat}{b:Da->En->Mo Fl}
theorem jm(J:Nat->En->Prop){Q:Fl->Prop}:∀{xs:List Da}{ρ:En}(n:Nat),J n ρ->(∀i x ρ,xs[i]?=some x->J (n+i) ρ->∀k:Fl->Prop,(∀r,BF fl (J (n+i+1)) Q r->k r)->b x ρ k)->(∀ρ,J (n+xs.length) ρ->Q (.nx ρ))->d7 fl b xs ρ Q
 | [],ρ,n,h0,_,fin=>fin ρ h0
 | x::xs,ρ,n,h0,step,fin=>by
   refine step 0 x ρ rfl h0 (fun r=>BG fl (d7 fl b xs) r Q) fun r hr=>?_;have rc:∀ρ',J (n+1) ρ'->d7 fl b xs ρ' Q:=fun ρ' h'=>jm J (n+1) h' (fun i y ρ e j k hk=>step (i+1) y ρ (by simpa using e) (by rw[show n+(i+1)=n+1+i by omega];exact j) k (by rw[show n+(i+1)+1=n+1+i+1 by omega];exact hk)) (fun ρ j=>fin ρ (by rw[DP,show n+(xs.length+1)=n+1+xs.length by omega];exact j))
   cases r with
   | nx ρ'=>exact rc _ hr
   | ct ρ'=>exact rc _ hr
   | bk ρ'=>exact hr
   | rt w=>exact hr
theorem lV{xs:List α}{enc:α->Da}{Q:Fl->Prop}(J:Nat->En->Prop)(h0:J 0 ρ)
 (step:∀i (h:i<xs.length) ρ,J i ρ->∀k:Fl->Prop,(∀r,BF fl (J (i+1)) Q r->k r)->b (enc xs[i]) ρ k)(fin:∀ρ,J xs.length ρ->Q (.nx ρ)):d7 fl b (xs.map enc) ρ Q:=by
 refine jm J 0 h0 (fun i x ρ e j k hk=>?_) (fun ρ j=>fin ρ (by simpa using j));have hi:i<xs.length:=by have:=(Du.mp e).1;simpa using this
 rw[DY,DF hi]at e;cases e;rw[Nat.zero_add]at j hk;exact step i hi ρ j k hk
theorem oj{lo:Int}{Q:Fl->Prop}(J:Nat->En->Prop)(h0:J 0 ρ)
 (step:∀i,i<n->∀ρ,J i ρ->∀k:Fl->Prop,(∀r,BF fl (J (i+1)) Q r->k r)->b (.int (lo+i)) ρ k)(fin:∀ρ,J n ρ->Q (.nx ρ)):d7 fl b (aE lo n) ρ Q:=by
 refine lV (xs:=DO n) J h0 (fun i h ρ j k hk=>?_) (fun ρ j=>fin ρ (by simpa using j));rw[List.getElem_range];exact step i (by simpa using h) ρ j k hk
end
noncomputable def eQ(fl:List Nat)(f:TB)(t:Cb)(ρ:En):Mo Fl:=fun Q=>∃m,mS (AU fl f t m) ρ Q
theorem s_while(fl:List Nat)(f:TB)(t:Cb)(ρ:En):mS (kW fl f t) ρ=eQ fl f t (fo fl ρ):=nr rfl
theorem nu(fl:List Nat)(f:TB)(t:Cb)(m:Nat)(ρ:En):mS (AU fl f t m) ρ=BZ (f ρ) fun b=>if b=true then BZ (mS t ρ) (BG fl fun ρ'=>fun Q=>∃k,∃h:k<m,mS (AU fl f t k) ρ' Q)else ret (.nx ρ):=by
 refine af fun Q=>?_;show AU fl f t m _ ρ↔_;rw[pi];simp only[BZ,dH];exact G7
theorem qg{fl:List Nat}{f:TB}{t:Cb}(h:f ρ=ret false):eQ fl f t ρ=ret (.nx ρ):=by
 refine af fun Q=>?_;constructor
 · rintro⟨m,q⟩;rw[nu,h,bnd_ret,if_neg (by decide)]at q;exact q
 · intro q;refine⟨0,?_⟩;rw[nu,h,bnd_ret,if_neg (by decide)];exact q
theorem qf{fl:List Nat}{f:TB}{t:Cb}{ρ':En}(h:f ρ=ret true)(h2:mS t ρ=ret (.nx ρ')):eQ fl f t ρ=eQ fl f t (fo fl ρ'):=by
 refine af fun Q=>?_;constructor
 · rintro⟨m,q⟩;rw[nu,h,bnd_ret,if_pos rfl,h2,bnd_ret]at q;obtain⟨k,_,q⟩:=q;exact⟨k,q⟩
 · rintro⟨m,q⟩;refine⟨m+1,?_⟩;rw[nu,h,bnd_ret,if_pos rfl,h2,bnd_ret];exact⟨m,Nat.lt_succ_self m,q⟩
theorem kG{σ:Type}{fl:List Nat}{f:TB}{t:Cb}(st:σ->En)(c:σ->Bool)(nxt:σ->σ)(μ:σ->Nat)(I:σ->Prop)
 (hf:∀s,I s->f (st s)=ret (c s))(ht:∀s,I s->c s=true->I (nxt s)/\μ (nxt s)<μ s/\∃ρ',mS t (st s)=ret (.nx ρ')/\fo fl ρ'=st (nxt s))(s:σ)(hs:I s):∃s',I s'/\c s'=false/\eQ fl f t (st s)=ret (.nx (st s')):=by
 induction hm:μ s using Nat.strongRecOn generalizing s with
 | ind n ih =>
   subst hm
   cases hc:c s with
   | false=>exact⟨s,hs,hc,qg (by rw[hf s hs,hc])⟩
   | true =>
     obtain⟨i1,m1,ρ',e1,e2⟩:=ht s hs hc;obtain⟨s',a,b,e⟩:=ih _ m1 (nxt s) i1 rfl;exact⟨s',a,b,by rw[qf (by rw[hf s hs,hc]) e1,e2,e]⟩
noncomputable def kB(ρ0:En)(g:Ce)(ft:TB)(fe:TV):List Da->List Da->(List Da->Prop)->Prop
 | [],acc,Q=>Q acc
 | x::xs,acc,Q=>g x ρ0 fun ρ2=>Le ρ0 ρ2/\ft ρ2 fun b=>if b=true then fe ρ2 fun w=>∃d,w.fz = .d d/\acc.length<sizeLine/\kB ρ0 g ft fe xs (acc++[d]) Q else kB ρ0 g ft fe xs acc Q
noncomputable def gK(fi:En->(List Da->Prop)->Prop)(fr:List (Option Nat))(g:Ce)(ft:TB)(fe:TV):TV:=fun ρ Q=>fi ρ fun xs=>kB (dh fr ρ) g ft fe xs [] fun ds=>Q (.ml ds)
section
variable{X:Cx}{rl:Option Addr}{elt tg iter:Expr}{ifs:List Expr}{scope:Scope}{pos:Pos}{fi:En->(List Da->Prop)->Prop}{g:Ce}{ft:TB}{fe:TV}
theorem ol{wi:TI}(fr:List (Option Nat))(k0:∀{F₀ H₀ F H:Hp}{σ:St}{ρ:En},VR X.K rl F₀ H₀ F H σ ρ->∀(Qd:List Da->Prop)(R:It->Hp->Prop),fi ρ Qd ->
 (∀J xs F' H',Grow rl F H F' H'->VIt X.K rl F' J xs->Qd xs->R J H')->wi σ H R)
 (hg:∀y,CD (blk X N' scope y) rl tg g)(ht:∀y,kF (blk X N' scope y) rl ifs ft)(he:∀y,PV (blk X N' scope y) rl elt fe)
 (R:VR X.K rl F₀ H₀ F H σ ρ)(Qd:W->Prop)(Q:VK)(q:gK fi fr g ft fe ρ Qd)
 (k:∀v w F' H',Grow rl F H F' H'->cE X.K rl F' H' v w->dg H v w->Qd w->Q v H'):qH wi fr (fun y=>DW (hg y)) (fun y=>DW (ht y)) (fun y=>DW (he y)) σ H Q:=by
 refine k0 R _ _ q fun J xs F1 H1 g1 vi q1=>?_;intro D hD;have rD:rl≠some D:=fun e=>by obtain⟨o,z⟩:=g1.reel.live e;rw[hD]at z;cases z
 have FD:F1 D=none:=g1.sub.free hD;have gD:Grow rl F1 H1 F1 (upd H1 D (.lst [])):=Grow.laid g1.sub g1.reel hD;have R1:=R.grow g1;have n0:ko (dh fr ρ):=cC
 refine⟨fun i m acc σc Hc=>m=xs.length-i/\i<=xs.length/\∃Fc ds,VR X.K rl F1 H1 Fc Hc σc (dh fr ρ)/\Hc D=some (.lst acc)/\Fc D=none/\Reps X.K Fc acc ds/\kB (dh fr ρ) g ft fe (xs.drop i) ds (fun ds=>Qd (.ml ds)),
  ⟨xs.length,by simp,DG _,F1,[],dO R1 gD,aj,FD,.nil,by simpa using q1⟩,?_⟩
 rintro z i m acc σc Hc ⟨rfl,hi,Fc,ds,Rc,hDc,fDc,rs,q2⟩;have sH:aR F1 Hc:=Rc.g.fs.trans Rc.sub;by_cases hlt:i<xs.length
 · have ei:xs[i]?=some xs[i]:=by simp[hlt]
   have ed:xs.drop i=xs[i]::xs.drop (i+1):=Ek hlt;rw[ed]at q2;refine .inr ⟨vi.go i Hc _ ei sH,fun v H' y=>?_⟩;obtain⟨Fy,gy,rv⟩:=vi.yld i Hc v H' _ Fc ei Rc.g.fs Rc.sub Rc.reel y;refine(Dg (hg z)).2 (Rc.grow gy) v _ _ _ rv q2 fun F3 H3 σ3 ρ3 g3 n3 R3 ⟨le3,q3⟩=>?_;refine(Dg (ht z)).2 R3 _ _ q3 fun b F4 H4 g4 q4=>?_;have R4:=R3.grow g4;have g34:=(gy.trans g3).trans g4;have keepD:∀{Fx Hx:Hp},Grow rl Fc Hc Fx Hx->Hx D=some (.lst acc)/\Fx D=none:=fun gx=>⟨gx.same D _ hDc rD,by rw[gx.old D _ hDc];exact fDc⟩
   cases b with
   | false=>exact⟨xs.length-(i+1),by omega,rfl,hlt,F4,ds,R4.le le3,(keepD g34).1,(keepD g34).2,rs.mono g34.fs,q4⟩
   | true =>
     refine(Dg (he z)).2 R4 _ _ q4 fun v5 w5 F5 H5 g5 r5 n5 ⟨d,ed5,hl,q5⟩=>?_;obtain⟨F6,g6,s6,r6⟩:=cE.fz g5 r5 n5;rw[ed5]at r6;have g36:=g34.trans g6;refine⟨(keepD g36).1,by rw[rs.length];exact hl,xs.length-(i+1),by omega,rfl,hlt,F6,ds++[d],((R4.grow g6).le le3).other n0 hD (keepD g36).2 rD,aj,(keepD g36).2,(rs.mono g36.fs).snoc r6,q5⟩
 · have e:i=xs.length:=by omega
   subst e;rw[Ga]at q2;refine .inl ⟨vi.stop _ Hc (Dm _) sH,k _ (.ml ds) Fc Hc (g1.trans Rc.g) ⟨D,acc,rfl,fDc,rD,hDc,rs⟩ (fun a ea=>by cases ea;exact g1.freeB hD) q2⟩
theorem bw(N':List Str)(fr:List (Option Nat))(hc:X.calm=true)(hi:CA X rl tg iter fi)
 (hg:∀y,CD (blk X N' scope y) rl tg g)(ht:∀y,kF (blk X N' scope y) rl ifs ft)(he:∀y,PV (blk X N' scope y) rl elt fe)
 (hfr:autoParam (mG fr N' X.N scope X.env.scope=true) æa._auto_1)(hsc:autoParam (ni scope X.env.scope=true) æa._auto_1)
 (hs:autoParam (∀x,DL iter X.env x=pure x) æd._auto_1):PV X rl (.ListComp elt [⟨tg,iter,ifs,0⟩] scope pos) (gK fi fr g ft fe):=by
 obtain⟨wi,p0,k0⟩:=hi;exact⟨_,jg N' fr hc p0 hfr hsc (fun y=>(Dg (hg y)).1) (fun y=>(Dg (ht y)).1) (fun y=>(Dg (he y)).1) hs,fun R Qd Q q k=>ol fr k0 hg ht he R Qd Q q k⟩
end
noncomputable def BL(ρ0:En)(g:Ce)(ft:TB)(fe:TV)(x:Da):Mo (Option Da):=BZ (g x ρ0) fun ρ2=>BR (Le ρ0 ρ2) (BZ (ft ρ2) fun b=>if b=true then BZ (fe ρ2) fun w=>ar (asD w.fz) fun d=>ret (some d)else ret none)
noncomputable def bv(b:Da->Mo (Option Da)):List Da->List Da->Mo (List Da)
 | [],acc=>ret acc
 | x::xs,acc=>BZ (b x) fun o=>match o with
   | some d=>BR (acc.length<sizeLine) (bv b xs (acc++[d]))
   | none=>bv b xs acc
theorem iS(ρ0:En)(g:Ce)(ft:TB)(fe:TV):∀(xs acc:List Da),kB ρ0 g ft fe xs acc=bv (BL ρ0 g ft fe) xs acc
 | [],acc=>rfl
 | x::xs,acc=>by
   refine af fun Q=>?_;show(g x ρ0 fun ρ2=>Le ρ0 ρ2/\ft ρ2 fun b=>if b=true then fe ρ2 fun w=>∃d,w.fz = .d d/\acc.length<sizeLine/\kB ρ0 g ft fe xs (acc++[d]) Q else kB ρ0 g ft fe xs acc Q)↔(BZ (BL ρ0 g ft fe x) _) Q;simp only[iS ρ0 g ft fe xs]
   have:∀(ρ2:En)(b:Bool),(if b=true then fe ρ2 fun w=>∃d,w.fz = .d d/\acc.length<sizeLine/\bv (BL ρ0 g ft fe) xs (acc++[d]) Q else bv (BL ρ0 g ft fe) xs acc Q)=(BZ (if b=true then BZ (fe ρ2) fun w=>ar (asD w.fz) fun d=>ret (some d)else ret none) fun o=>match o with
   | some d=>BR (acc.length<sizeLine) (bv (BL ρ0 g ft fe) xs (acc++[d]))
   | none=>bv (BL ρ0 g ft fe) xs acc) Q:=by
     intro ρ2 b
     cases b with
     | false=>rfl
     | true =>
       rw[if_pos rfl,if_pos rfl];show _=fe ρ2 fun w=>_;congr 1;funext w;refine propext ?_;show _↔(BZ (ar (asD w.fz) fun d=>ret (some d)) _) Q;rw[bnd_opt,ag];simp only[fD];exact G7
   simp only[this];exact G7
theorem m_comp(fi:En->(List Da->Prop)->Prop)(fr:List (Option Nat))(g:Ce)(ft:TB)(fe:TV)(ρ:En):gK fi fr g ft fe ρ=BZ (fi ρ) fun xs=>BZ (bv (BL (dh fr ρ) g ft fe) xs []) fun ds=>ret (.ml ds):=by
 refine af fun Q=>?_;show(fi ρ fun xs=>kB (dh fr ρ) g ft fe xs [] fun ds=>Q (.ml ds))↔_;simp only[iS];exact G7
section
variable{α:Type}{b:Da->Mo (Option Da)}
theorem db{enc:α->Da}(f:α->Option Da):∀(xs:List α)(acc:List Da),(∀x∈xs,b (enc x)=ret (f x))->acc.length+xs.length<=sizeLine->bv b (xs.map enc) acc=ret (acc++xs.filterMap f)
 | [],acc,_,_=>by simp[bv]
 | x::xs,acc,h,hl=>by
   show BZ (b (enc x)) _=_;rw[h x Dx,bnd_ret];simp at hl
   cases e:f x with
   | none =>
     show bv b (xs.map enc) acc=_
     rw[db f xs acc (fun y hy=>h y (Dl _ hy)) (by omega),List.filterMap_cons_none e]
   | some d =>
     show BR (acc.length<sizeLine) (bv b (xs.map enc) (acc++[d]))=_;rw[am (by omega),db f xs (acc++[d]) (fun y hy=>h y (Dl _ hy)) (by simp;omega),List.filterMap_cons_some e];simp
theorem mR{xs:List α}{enc:α->Da}(f:α->Option Da)(h:∀x∈xs,b (enc x)=ret (f x))(hl:xs.length<=sizeLine):bv b (xs.map enc) []=ret (xs.filterMap f):=by
 have:=db f xs [] h (by simpa using hl);simpa using this
theorem comp_map{xs:List α}{enc:α->Da}(f:α->Da)(h:∀x∈xs,b (enc x)=ret (some (f x)))(hl:xs.length<=sizeLine):bv b (xs.map enc) []=ret (xs.map f):=by
 rw[mR (fun x=>some (f x)) h hl,Iz]
theorem mP{lo:Int}(f:Nat->Da)(h:∀j,j<n->b (.int (lo+j))=ret (some (f j)))(hl:n<=sizeLine):bv b (aE lo n) []=ret ((DO n).map f) :=
 comp_map (xs:=DO n) f (fun j hj=>h j (FH.mp hj)) (by simpa using hl)
theorem dI{enc:α->Da}(R:α->Da->Prop){Q:List Da->Prop}:∀(xs:List α)(acc:List Da),(∀x∈xs,∀k:Option Da->Prop,(∀d,R x d->k (some d))->b (enc x) k)->acc.length+xs.length<=sizeLine->(∀ds,D0 R xs ds->Q (acc++ds))->bv b (xs.map enc) acc Q
 | [],acc,_,_,fin=>by have:=fin [] .nil;rw[EA]at this;exact this
 | x::xs,acc,h,hl,fin=>by
   simp at hl;refine h x Dx _ fun d r=>?_;refine⟨by omega,dI R xs (acc++[d]) (fun y hy=>h y (Dl _ hy)) (by simp;omega) fun ds ps=>?_⟩;have:=fin (d::ds) (.cons r ps);simpa using this
theorem oY{xs:List α}{enc:α->Da}(R:α->Da->Prop){Q:List Da->Prop}(h:∀x∈xs,∀k:Option Da->Prop,(∀d,R x d->k (some d))->b (enc x) k)(hl:xs.length<=sizeLine)(fin:∀ds,D0 R xs ds->Q ds):bv b (xs.map enc) [] Q :=
 dI R xs [] h (by simpa using hl) (by simpa using fin)
theorem mT{lo:Int}(P:Da->Prop){Q:List Da->Prop}(h:∀j,j<n->∀k:Option Da->Prop,(∀d,P d->k (some d))->b (.int (lo+j)) k)(hl:n<=sizeLine)(fin:∀ds:List Da,ds.length=n->(∀d∈ds,P d)->Q ds):bv b (aE lo n) [] Q:=by
 refine oY (xs:=DO n) (fun _ d=>P d) (fun j hj=>h j (FH.mp hj)) (by simpa using hl) fun ds ps=>?_;refine fin ds ?_ ?_
 · have:=EH ps;simpa using this.symm
 · clear fin h hl;intro d hd;generalize DO n=l at ps
   induction ps with
   | nil=>cases hd
   | cons r _ ih=>exact(DS.mp hd).elim (fun e=>by rw[e];exact r) ih
end
section
variable(c:Prop)[Decidable c]
theorem ite_nx(a b:En):(if c then ret (Fl.nx a)else ret (Fl.nx b))=ret (Fl.nx (if c then a else b)):=by split<;>rfl
theorem ite_rt(a b:W):(if c then ret (Fl.rt a)else ret (Fl.rt b))=ret (Fl.rt (if c then a else b)):=by split<;>rfl
theorem ite_retd(a b:Da):(if c then ret (W.d a)else ret (W.d b))=ret (W.d (if c then a else b)):=by split<;>rfl
theorem ite_retb(a b:Bool):(if c then ret a else ret b)=ret (if c then a else b):=by split<;>rfl
theorem ite_rets(a b:Da):(if c then ret (some a)else ret (some b))=ret (some (if c then a else b)):=by split<;>rfl
theorem ite_cons{α:Type}(x y:α)(l m:List α):(if c then x::l else y::m)=(if c then x else y)::(if c then l else m):=by split<;>rfl
theorem ite_some{α:Type}(x y:α):(if c then some x else some y)=some (if c then x else y):=by split<;>rfl
theorem ite_d(a b:Da):(if c then W.d a else W.d b)=W.d (if c then a else b):=by split<;>rfl
theorem ite_pi(a b:Int):(if c then DZ a else DZ b)=DZ (if c then a else b):=by split<;>rfl
theorem ite_pb(a b:Bool):(if c then Ii a else Ii b)=Ii (if c then a else b):=by split<;>rfl
theorem itb_tt(b y:Bool):(if b=true then true else y)=(b||y):=by cases b<;>rfl
theorem itb_ff(b y:Bool):(if b=true then y else false)=(b&&y):=by cases b<;>rfl
theorem itb_ft(b y:Bool):(if b=true then false else y)=(!b&&y):=by cases b<;>rfl
theorem itb_tf(b y:Bool):(if b=true then y else true)=(!b||y):=by cases b<;>rfl
end
theorem ah(h:n<=1000):(n<=sizeLine)=True:=by have:=DV;exact propext ⟨fun _=>trivial,fun _=>by omega⟩
theorem tup2(x y:Da):(match [x,y]with | [x,y]=>some (x,y)|_=>none)=some (x,y):=rfl
theorem bnd_tt{α β:Type}(a:α)(f:α->Mo β):BZ (fun Q=>Q a) f=f a:=nr rfl
section
variable{α β:Type}
theorem au{P:α->Prop}{f:α->Mo β}{Q:β->Prop}(h:∀a,P a->f a Q):BZ (anyM P) f Q:=h
theorem cj{P:Prop}{m:Mo α}{Q:α->Prop}(h:P)(h':m Q):BR P m Q:=⟨h,h'⟩
theorem aX{c:Prop}[Decidable c]{a b:Mo α}{Q:α->Prop}(h:c->a Q)(h':¬c->b Q):(if c then a else b) Q:=by split<;>simp_all
theorem oE{b:Bool}{x y:Mo α}{Q:α->Prop}(h:b=true->x Q)(h':b=false->y Q):(if b=true then x else y) Q:=by cases b<;>simp_all
end
theorem bg{Q:Da->Prop}(h:Q d):ret (Fl.rt (.d d)) (s_ Q):=⟨d,rfl,h⟩
section
variable{α:Type}{k:En->Mo Fl}{Q:Fl->Prop}
theorem Bi{m:Mo α}{h:α->Mo Fl}(z:BZ m (fun a=>sq (h a) k) Q):sq (BZ m h) k Q:=z
theorem Bh{o:Option α}{h:α->Mo Fl}(z:ar o (fun a=>sq (h a) k) Q):sq (ar o h) k Q:=by rw[uG];exact z
noncomputable def kc(k1 k2:En->Mo Fl):En->Mo Fl:=fun ρ=>sq (k1 ρ) k2
theorem kc_ap(k1 k2:En->Mo Fl)(ρ:En):kc k1 k2 ρ=sq (k1 ρ) k2:=nr rfl
theorem sq_sq(m:Mo Fl)(k1 k2:En->Mo Fl):sq (sq m k1) k2=sq m (kc k1 k2):=by
 refine af fun Q=>?_;show m _↔m _;have:∀fl:Fl,(sq (match fl with | .nx ρ=>k1 ρ | .rt w=>ret (.rt w) | .bk ρ=>ret (.bk ρ) | .ct ρ=>ret (.ct ρ)) k2) Q=(match fl with | .nx ρ=>kc k1 k2 ρ | .rt w=>ret (.rt w) | .bk ρ=>ret (.bk ρ) | .ct ρ=>ret (.ct ρ):Mo Fl) Q:=by intro fl;cases fl<;>rfl
 exact Iff.of_eq (congrArg m (funext this))
theorem az{P:α->Prop}{f:α->Mo Fl}(z:∀a,P a->sq (f a) k Q):sq (BZ (anyM P) f) k Q:=z
end
theorem pk_sc(x:List Int):L2.VL.W.peek (.sc x) = .sc x:=rfl
theorem fz_sc(x:List Int):(W.sc x).fz = .sc x:=rfl
theorem arg_sc(x:List Int):cU (.sc x)=true:=rfl
theorem isPk_sc(x:List Int):(W.sc x).isPk=false:=rfl
section
variable{X:Cx}{rl:Option Addr}{a b c e:Expr}{es:List Expr}{fa fb fc:TV}{fs:Ca}{pos p p2:Pos}{ρ:En}
noncomputable def v7:List W->(W->Prop)->Prop:=fun ws Q=>∃ns,ws=[.sc ns]/\Q (.d (.int ns.length))
noncomputable def asSc:W->Option (List Int)
 | .sc ns=>some ns
 | _=>none
theorem asSc_s(ns:List Int):asSc (.sc ns)=some ns:=rfl
theorem i0{w:W}{i:List Int}:asSc w=some i↔w = .sc i:=by
 constructor
 · intro h;unfold asSc at h;split at h<;>simp_all
 · rintro rfl;rfl
theorem m_gLenS(w:W):v7 [w]=ar (asSc w) fun ns=>ret (.d (.int ns.length)):=by
 refine af fun Q=>?_;simp only[v7,ag,i0,ret,DI,and_true]
noncomputable def zH:W->W->(W->Prop)->Prop:=fun x y Q=>∃ns i n,x = .sc ns/\y = .d (.int i)/\atI ns i=some n/\Q (.d (.int n))
theorem gw{β:Type}(f:α->β)(xs:List α)(i:Int):atI (xs.map f) i=(atI xs i).map f:=by
 unfold atI;rw[Di];cases ixN xs.length i<;>simp
theorem m_gIxS(x y:W):zH x y=ar (asSc x) fun ns=>ar (asI y) fun i=>ar (atI ns i) fun n=>ret (.d (.int n)):=by
 refine af fun Q=>?_;simp only[zH,ag,i0,bD,ret];exact⟨fun⟨i,j,z,a,b,c,q⟩=>⟨i,a,j,b,z,c,q⟩,fun⟨i,a,j,b,z,c,q⟩=>⟨i,j,z,a,b,c,q⟩⟩
noncomputable def zk(fa:TV)(fl fh:Cc):TV:=fun ρ Q=>fa ρ fun w=>fl ρ fun l=>fh ρ fun h=>∃ns:List Int,w = .sc ns/\Q (.ml (cutD (ns.map .int) l h))
theorem m_vSlS{fl fh:Cc}:zk fa fl fh ρ=BZ (fa ρ) fun w=>BZ (fl ρ) fun l=>BZ (fh ρ) fun h=>ar (asSc w) fun ns=>ret (.ml (cutD (ns.map .int) l h)):=by
 refine af fun Q=>?_;simp only[zk,BZ,ag,i0,ret]
end
noncomputable def Bj(K:W.Frag)(pre:List W->Prop):Sp:=fun vs H Q _=>∃F ws,aR F H/\dN K none F H vs ws/\ws.all cU=true/\pre ws/\∀r F' H',H r=none->Grow none F H F' H'->Co (some r) F' H'->Q (.ref r) H'
structure DfnR (P:Dq) (w:DN) (K:W.Frag) (mg:Str->Option Dc) (base:Heap) (x:Str) (ps:List Str) (k:Nat) (pre:List W->Prop):Prop where
 ex:∃f fd,mg x=some (.ref f)/\W.keepIn K (.ref f)=true/\Binds K fd ps []/\FnOk P w K mg base C2 k f fd ps (Bj K pre)
noncomputable def BD:Option W->Option W
 | some .reel=>none
 | o=>o
noncomputable def nR(ρ:En):En:=ρ.map BD
noncomputable def W.isR:W->Bool
 | .reel=>true
 | _=>false
noncomputable def ui(i:Nat)(pre:List W->Prop)(fs:Ca)(t:Cb):Cb:=fun D ρ=>fs ρ fun ws=>ws.all cU=true/\pre ws/\t ⟨fun ρ'=>D.nx (nR ρ'),fun w=>w.isR=false/\D.rt w,fun ρ'=>D.bk (nR ρ'),fun ρ'=>D.ct (nR ρ')⟩ (ρ.set i (some .reel))
theorem sw(g:Grow none F₀ H₀ F H)(ra:Co (some r) F H):Grow (some r) F₀ H₀ F H:=⟨fun b o e _=>g.same b o e (by simp),g.fs,g.sub,g.old,ra⟩
theorem jt(g:Grow (some r) F₀ H₀ F H)(n:H₀ r=none):Grow none F₀ H₀ F H:=⟨fun b o e _=>g.same b o e (fun z=>by cases z;rw[n]at e;cases e),g.fs,g.sub,g.old,fun _ z=>by cases z⟩
theorem uL{K:W.Frag}{w:W}(h:cE K none F H v w)(ne:∀a,w.own=true\/(∃xs,w = .pk xs)->v = .ref a->a≠r):cE K (some r) F H v w:=by
 cases w with
 | d x=>exact h
 | ml xs=>obtain⟨a,vs,e,f,_,g⟩:=h;exact⟨a,vs,e,f,fun z=>ne a (.inl rfl) e (by cases z;rfl),g⟩
 | pk xs=>obtain⟨a,vs,e,f,_,g⟩:=h;exact⟨a,vs,e,f,fun z=>ne a (.inr ⟨_,rfl⟩) e (by cases z;rfl),g⟩
 | reel=>obtain⟨_,z,_⟩:=h;cases z
 | vv u=>exact h
 | md kvs=>obtain⟨a,vs,e,f,_,g⟩:=h;exact⟨a,vs,e,f,fun z=>ne a (.inl rfl) e (by cases z;rfl),g⟩
 | mk kvs=>obtain⟨a,vs,e,f,_,g⟩:=h;exact⟨a,vs,e,f,fun z=>ne a (.inl rfl) e (by cases z;rfl),g⟩
 | xm kvs=>obtain⟨a,vs,e,f,_,g⟩:=h;exact⟨a,vs,e,f,fun z=>ne a (.inl rfl) e (by cases z;rfl),g⟩
 | nt ds=>exact h
 | lk=>trivial
 | sc ns=>exact h
 | fd _=>exact h
 | xr _=>exact h
 | fw _=>exact h
 | ft _=>exact h
 | xc _ _=>exact h
 | dp _ _=>exact h
theorem lp{K:W.Frag}{w:W}(h:cE K (some r) F H v w)(n:w.isR=false):cE K none F H v w:=by
 cases w with
 | d x=>exact h
 | ml xs=>obtain⟨a,vs,e,f,_,g⟩:=h;exact⟨a,vs,e,f,by simp,g⟩
 | pk xs=>obtain⟨a,vs,e,f,_,g⟩:=h;exact⟨a,vs,e,f,by simp,g⟩
 | reel=>cases n
 | vv u=>exact h
 | md kvs=>obtain⟨a,vs,e,f,_,g⟩:=h;exact⟨a,vs,e,f,by simp,g⟩
 | mk kvs=>obtain⟨a,vs,e,f,_,g⟩:=h;exact⟨a,vs,e,f,by simp,g⟩
 | xm kvs=>obtain⟨a,vs,e,f,_,g⟩:=h;exact⟨a,vs,e,f,by simp,g⟩
 | nt ds=>exact h
 | lk=>trivial
 | sc ns=>exact h
 | fd _=>exact h
 | xr _=>exact h
 | fw _=>exact h
 | ft _=>exact h
 | xc _ _=>exact h
 | dp _ _=>exact h
theorem jj{w:W}(h:(nR ρ)[i]?=some (some w)):ρ[i]?=some (some w)/\w.isR=false:=by
 unfold nR at h;rw[DY]at h
 cases e:ρ[i]? with
 | none=>rw[e]at h;cases h
 | some o =>
   rw[e]at h
   cases o with
   | none=>cases h
   | some u=>cases u<;>first|(cases h;exact⟨rfl,rfl⟩)|cases h
theorem VR.out{K:W.Frag}(R:VR K (some r) F₀ H₀ F H σ ρ)(n:H₀ r=none):VR K none F₀ H₀ F H σ (nR ρ):=by
 refine⟨jt R.g n,fun i w e=>?_,fun i j x y v hn e1 e2=>R.ap i j x y v hn (jj e1).1 (jj e2).1,fun i xs e=>R.np i xs (jj e).1,?_⟩
 · obtain⟨e1,e2⟩:=jj e;obtain⟨v,h1,h2,h3⟩:=R.sl i w e1;exact⟨v,h1,lp h2 e2,h3⟩
 · have:=R.len;simpa[nR]using this
theorem VR.into{K:W.Frag}(R:VR K none F₀ H₀ F H σ ρ)(n:H r=none)(g:Grow none F H F' H')(ra:Co (some r) F' H')(i:Nat):VR K (some r) F₀ H₀ F' H' (σ.set i (some (.ref r))) (ρ.set i (some .reel)):=by
 have R1:=R.grow g;refine⟨sw R1.g ra,fun j w e=>?_,fun j k x y v hn e1 e2 o1 o2 s1 s2=>?_,fun j xs e=>?_,by simp[R.len]⟩
 · by_cases hj:i=j
   · subst hj
     have hi:i<ρ.length:=by
      rw[DU]at e;by_cases hi:i<ρ.length
      · exact hi
      · simp[hi]at e
     rw[Dz hi]at e;cases e;exact⟨.ref r,by rw[Dz (by rw[<- R.len];exact hi)],⟨r,rfl,rfl⟩,trivial⟩
   · rw[Dp hj]at e;obtain⟨v,h1,h2,h3⟩:=R1.sl j w e;refine⟨v,by rw[Dp hj];exact h1,uL h2 fun a ow ea z=>?_,h3⟩;obtain⟨v0,h10,h20,_⟩:=R.sl j w e;rw[h1]at h10;cases h10;rcases ow with ow|⟨xs,rfl⟩
     · obtain⟨b,o,eb,hb⟩:=h20.live ow;rw[ea]at eb;cases eb;rw[z,n]at hb;cases hb
     · exact absurd e (R.np j xs)
 · have key:∀(m:Nat)(z:W),(ρ.set i (some W.reel))[m]?=some (some z)->z.own=true->i≠m/\ρ[m]?=some (some z):=fun m z e o=>by
     by_cases hm:i=m
     · subst hm;rw[DU]at e;split at e
       · split at e
         · cases e;cases o
         · cases e
       · exact absurd rfl (by assumption)
     · rw[Dp hm]at e;exact⟨hm,e⟩
   obtain⟨n1,d1⟩:=key j x e1 o1;obtain⟨n2,d2⟩:=key k y e2 o2;rw[Dp n1]at s1;rw[Dp n2]at s2;exact R1.ap j k x y v hn d1 d2 o1 o2 s1 s2
 · rw[DU]at e;split at e
   · split at e
     · cases e
     · cases e
   · exact R1.np j xs e
section
variable{X:Cx}{st:Stmt}{rest body:List Stmt}{t u:Cb}{a b c e:Expr}{es:List Expr}{fa fb:TV}{fs:Ca}{pos p px cpos:Pos}{ρ:En}
theorem qj(i:Nat){f:Str}{k:Nat}{pre:List W->Prop}(D:DfnR X.prog X.w X.K X.mg X.base f ps k pre)(hr:Room k X.A)(hN:X.N.Nodup)(ha:Cr X none (e::es) fs)(hrest:∀r,il X (some r) rest t)
 (hi:autoParam (X.N[i]?=some x) æa._auto_1)(hx:autoParam (Loc X.env.scope x) æe._auto_1)(hg:autoParam (Gl X f) æa._auto_1)(hdb:autoParam ((f==("__debug__" : Str))=false) æb._auto_1)
 (he:autoParam (Dh (e::es) X.env=(false,eval e X.env)::Dh es X.env) æa._auto_1)(hpl:autoParam ((ES cpos (Dh es X.env)).any (·.1)=false) æa._auto_1)
 (hs:autoParam (ET (.Call (.Name f p) (e::es) [] cpos) (some (.Name x px)) pos.line X.env=pure false) æa._auto_1)(hf:autoParam (X.fn x=true\/X.env.scope.names.lookup x=some .local) æf._auto_1) :
 il X none (.Assign [.Name x px] (.Call (.Name f p) (e::es) [] cpos) pos::rest) (ui i pre fs t):=by
 obtain⟨fa,fd,hm,hk,hb,F⟩:=D.ex;obtain⟨ta,p1,k1⟩:=ha;refine⟨_,fV (eY hN hi hx (iG F hr hg hm hk hb .nil vg p1 hdb he hpl) hs hf) (qZ X rest),fun{F₀ H₀ F H σ ρ} R Dv D ok q=>k1 R _ _ q fun vs ws F1 H1 g1 r1 ⟨ao,pw,q1⟩=>?_⟩;have R1:=R.grow g1;refine⟨F1,ws,g1.sub,by rw[EA];exact r1,ao,pw,fun r F2 H2 hr2 g2 ra=>?_⟩;intro pins s I;obtain⟨T,pT,kT⟩:=hrest r;have h0:H₀ r=none:=R1.g.freeB hr2;refine pT pins s _ H2 D I (kT (R1.into hr2 g2 ra i) _ D ⟨fun F3 H3 σ3 ρ3 s3 R3 q3=>?_,fun v w F3 H3 g3 r3 n3 q3=>?_,fun F3 H3 σ3 ρ3 s3 R3 q3=>?_,fun F3 H3 σ3 ρ3 s3 R3 q3=>?_⟩ q1)
 · exact ok.nx F3 H3 σ3 _ (g1.fs.trans (g2.fs.trans s3)) (R3.out h0) q3
 · exact ok.rt v w F3 H3 (jt g3 h0) (lp r3 q3.1) n3 q3.2
 · exact ok.bk F3 H3 σ3 _ (g1.fs.trans (g2.fs.trans s3)) (R3.out h0) q3
 · exact ok.ct F3 H3 σ3 _ (g1.fs.trans (g2.fs.trans s3)) (R3.out h0) q3
end
noncomputable def A1:Fl->Mo Fl
 | .nx ρ=>ret (.nx (nR ρ))
 | .rt w=>BR (w.isR=false) (ret (.rt w))
 | .bk ρ=>ret (.bk (nR ρ))
 | .ct ρ=>ret (.ct (nR ρ))
theorem s_newR(i:Nat)(pre:List W->Prop)(fs:Ca)(t:Cb)(ρ:En):mS (ui i pre fs t) ρ=BZ (fs ρ) fun ws=>BR (ws.all cU=true) (BR (pre ws) (BZ (mS t (ρ.set i (some .reel))) A1)):=nr rfl
theorem nR_nil:nR []=[]:=rfl
theorem nR_r(l:En):nR (some .reel::l)=none::nR l:=rfl
theorem nR_n(l:En):nR (none::l)=none::nR l:=rfl
theorem nR_d(x:Da)(l:En):nR (some (.d x)::l)=some (.d x)::nR l:=rfl
theorem nR_ml(x:List Da)(l:En):nR (some (.ml x)::l)=some (.ml x)::nR l:=rfl
theorem nR_sc(x:List Int)(l:En):nR (some (.sc x)::l)=some (.sc x)::nR l:=rfl
noncomputable def eV(K:W.Frag):Sp:=fun vs H Q _=>∃(a:Addr)(ns:List Int),vs=[.ref a]/\Ch K H a (ns.map V.int)/\ns.length<=63/\∀H',Q (.bl true) H'
noncomputable def Ak:VEnds:=⟨fun _=>False,fun w=>w = .d (.bool true),fun _=>False,fun _=>False⟩
noncomputable def sZ:Fl->Prop
 | .rt w=>w = .d (.bool true)
 | _=>False
theorem un_law(m:Mo Fl):BZ m A1 sZ=m sZ:=by
 show m (fun fl=>A1 fl sZ)=m sZ;congr 1;funext fl
 cases fl with
 | rt w=>exact propext ⟨fun⟨_,h⟩=>h,fun h=>⟨by rw[show w = .d (.bool true)from h];rfl,h⟩⟩
 | _=>rfl
theorem rW:ret (Fl.rt (.d (.bool true))) sZ:=rfl
section
variable{P:Dq}{w:DN}{K:W.Frag}{mg:Str->Option Dc}{base:Heap}{st:Stmt}{N:List Str}{k:Nat}{t:Cb}{x:Str}
theorem rM(F:Fun K "law" "law" st f fd)(S:FnScope N [x] (defScope st))
 (hbody:∀(cdv:Dc)(A:DM)(outer:List Env)(s:Dd)(H:Hp)(E:XK),Room k (A.deeper (Hz "law" (defScope st) s.heap.objs.size f cdv))->il (jC C2 P w K mg base N "law" (defScope st) f cdv A outer s H E).nox none (defBody st) t)
 (hread:∀ns:List Int,ns.length<=63->mS t (bU N [.sc ns]) sZ):FnOk P w K mg base C2 (k+1) f fd [x] (eV K):=by
 refine F.ok S (fun vs H Q E h=>?_) (fun cdv A outer s H vs Q E hr h=>?_)
 · obtain⟨a,ns,rfl,_⟩:=h;rfl
 · obtain⟨a,ns,rfl,hS,hl,kq⟩:=h;obtain⟨T,p,kk⟩:=hbody cdv A outer s H E hr;have rw0:dN K none H H [.ref a] [.sc ns]:=.cons ⟨a,rfl,hS⟩ .nil;have R:VR K none H H H H (start N [.ref a]) (bU N [.sc ns]):=fH (.refl H) (fun _ z=>by cases z) rw0 rfl;refine⟨T,p,kk R Ak _ ⟨fun _ _ _ _ _ _ z=>D9 z,?_,fun _ _ _ _ _ _ z=>D9 z,fun _ _ _ _ _ _ z=>D9 z⟩ (hread ns hl)⟩;rintro v w1 F1 H1 g1 r1 n1 z;have z:w1 = .d (.bool true):=z;subst z;have e:=je r1;subst e;exact kq H1
end
noncomputable def qz(i:Nat)(fa:TV):Cb:=fun D ρ=>fa ρ fun w=>∃d,w.fz = .d d/\D.nx (ρ.set i (some (.d d)))
section
variable{X:Cx}{rl:Option Addr}{st:Stmt}{rest body:List Stmt}{t u:Cb}{a b c e:Expr}{es:List Expr}{fa fb:TV}{fs:Ca}{f:TB}{pos p:Pos}{ρ:En}
theorem aI(i:Nat)(hN:X.N.Nodup)(he:PV X rl e fa)(hi:autoParam (X.N[i]?=some x) æa._auto_1)(hx:autoParam (Loc X.env.scope x) æe._auto_1)
 (hs:autoParam (ET e (some (.Name x pos')) pos.line X.env=pure false) æa._auto_1)(hf:autoParam (X.fn x=true\/X.env.scope.names.lookup x=some .local) æf._auto_1) :
 Cw X rl (.Assign [.Name x pos'] e pos) (qz i fa):=by
 obtain⟨t,p,k⟩:=he;refine⟨_,eY hN hi hx p hs hf,fun R Dv D ok q=>k R _ _ q fun v w F1 H1 g1 r1 n1 ⟨d,ed,q1⟩=>?_⟩;obtain⟨F2,g2,s2,r2⟩:=cE.fz g1 r1 n1;rw[ed]at r2;exact ok.nx _ _ _ _ g2.fs (R.set g2 r2 trivial (fun xs z=>by cases z) i) q1
theorem s_setZ(i:Nat):mS (qz i fa) ρ=BZ (fa ρ) fun w=>ar (asD w.fz) fun d=>ret (.nx (ρ.set i (some (.d d)))):=by
 show(BZ (fa ρ) fun w=>fun(Q:Fl->Prop)=>∃d,w.fz = .d d/\Q (.nx (ρ.set i (some (.d d)))))=_;congr 1;funext w;refine af fun Q=>?_;simp only[ag,fD,ret]
end
section
variable{X:Cx}{rl:Option Addr}{elt tg iter:Expr}{ifs:List Expr}{scope:Scope}{pos:Pos}{fi:En->(List Da->Prop)->Prop}{g:Ce}{ft:TB}{fe:TV}
end
noncomputable def wv(xs:List Int):Da:=.tuple (xs.map .int)
noncomputable def sY(xs:List Int):Da:=.list (xs.map .int)
theorem cQ:∀{xs ys:List Int},xs.map DZ=ys.map DZ↔xs=ys:=by
 intro xs ys;constructor
 · intro h;have:=congrArg gr h;rw[b9,b9]at this;exact DX this
 · rintro rfl;rfl
theorem jd{xs ys:List Int}:wv xs=wv ys↔xs=ys:=by
 unfold wv;rw[Ex,cQ]
theorem oh{xs ys:List Int}:sY xs=sY ys↔xs=ys:=by
 unfold sY;rw[GY,cQ]
theorem bM{α:Type}{f:α->Da}(h:∀a b,f a=f b↔a=b):∀{xs ys:List α},xs.map f=ys.map f↔xs=ys
 | [],[]=>by simp
 | [],_::_=>by simp
 | _::_,[]=>by simp
 | x::xs,y::ys=>by simp[h,bM h (xs:=xs) (ys:=ys)]
noncomputable def xt(xs:List (List Int)):Da:=.tuple (xs.map wv)
theorem nG{xs ys:List (List Int)}:xt xs=xt ys↔xs=ys:=by
 unfold xt;rw[Ex,bM fun _ _=>jd]
theorem jJ{xs:List α}{i:Int}(h0:0<=i)(h1:i<(xs.length:Int)):atI xs i=some (xs[i.toNat]'(by omega)):=by
 obtain⟨n,rfl⟩:=FW h0;exact mY (DF (by omega))
section
variable{α σ:Type}{fl:List Nat}{b:Da->En->Mo Fl}{k:En->Mo Fl}{Q:Fl->Prop}{ρ:En}
theorem nq{f:TB}{t:Cb}(st:σ->En)(c:σ->Bool)(nxt:σ->σ)(μ:σ->Nat)(I:σ->Prop)(s:σ)(h0:ρ=st s)(hs:I s)
 (hf:∀s,I s->f (st s)=ret (c s))(ht:∀s,I s->c s=true->I (nxt s)/\μ (nxt s)<μ s/\∃ρ',mS t (st s)=ret (.nx ρ')/\fo fl ρ'=st (nxt s))(fin:∀s,I s->c s=false->k (st s) Q):sq (eQ fl f t ρ) k Q:=by
 subst h0;obtain⟨s',a,b,e⟩:=kG st c nxt μ I hf ht s hs;rw[e];exact fin s' a b
noncomputable def BE(fl:List Nat)(J:En->Prop)(k:En->Mo Fl)(Q:Fl->Prop):Fl->Prop
 | .nx ρ=>J (fo fl ρ)
 | .ct ρ=>J (fo fl ρ)
 | .bk ρ=>k (fo fl ρ) Q
 | .rt w=>Q (.rt w)
theorem bC{J:En->Prop}{ρ:En}(h:J (fo fl ρ)):BE fl J k Q (.nx ρ):=h
theorem fq{xs:List α}{enc:α->Da}(J:Nat->En->Prop)(hx:xs'=xs.map enc)(h0:J 0 ρ)
 (step:∀i (h:i<xs.length) ρ,J i ρ->∀K:Fl->Prop,(∀r,BE fl (J (i+1)) k Q r->K r)->b (enc xs[i]) ρ K)(fin:∀ρ,J xs.length ρ->k ρ Q):sq (d7 fl b xs' ρ) k Q:=by
 subst hx;refine lV (Q:=fun r=>(match r with | .nx ρ=>k ρ | .rt w=>ret (.rt w) | .bk ρ=>ret (.bk ρ) | .ct ρ=>ret (.ct ρ):Mo Fl) Q) J h0 (fun i hi ρ j K hK=>step i hi ρ j K fun r hr=>hK r ?_) fin;cases r<;>exact hr
theorem d9{lo:Int}(J:Nat->En->Prop)(h0:J 0 ρ)
 (step:∀i,i<n->∀ρ,J i ρ->∀K:Fl->Prop,(∀r,BE fl (J (i+1)) k Q r->K r)->b (.int (lo+i)) ρ K)(fin:∀ρ,J n ρ->k ρ Q):sq (d7 fl b (aE lo n) ρ) k Q:=by
 refine oj (Q:=fun r=>(match r with | .nx ρ=>k ρ | .rt w=>ret (.rt w) | .bk ρ=>ret (.bk ρ) | .ct ρ=>ret (.ct ρ):Mo Fl) Q) J h0 (fun i hi ρ j K hK=>step i hi ρ j K fun r hr=>hK r ?_) fin;cases r<;>exact hr
theorem oS{lo:Int}(step:∀i,i<n->∀K:Fl->Prop,(∀r,BE fl (fun ρ'=>ρ'=ρ) k Q r->K r)->b (.int (lo+i)) ρ K)(fin:k ρ Q):sq (d7 fl b (aE lo n) ρ) k Q :=
 d9 (fun _ ρ'=>ρ'=ρ) rfl (fun i h ρ' e K hK=>by subst e;exact step i h K hK) fun ρ' e=>by subst e;exact fin
end
theorem Aq{m:Mo Fl}{Q:Fl->Prop}(h:sq m (fun ρ=>ret (.nx ρ)) Q):m Q:=by
 have e:(fun fl:Fl=>(match fl with | .nx ρ=>ret (.nx ρ) | .rt w=>ret (.rt w) | .bk ρ=>ret (.bk ρ) | .ct ρ=>ret (.ct ρ):Mo Fl) Q)=Q:=by
  funext fl;cases fl<;>rfl
 have h:m (fun fl:Fl=>(match fl with | .nx ρ=>ret (.nx ρ) | .rt w=>ret (.rt w) | .bk ρ=>ret (.bk ρ) | .ct ρ=>ret (.ct ρ):Mo Fl) Q):=h;rw[e]at h;exact h
section
variable{α β:Type}{b:Da->Mo (Option Da)}{k:List Da->Mo β}{Q:β->Prop}
theorem jG{xs:List α}{enc:α->Da}(f:α->Option Da)(hx:xs'=xs.map enc)(h:∀x∈xs,b (enc x)=ret (f x))(hl:xs.length<=sizeLine)(fin:k (xs.filterMap f) Q):BZ (bv b xs' []) k Q:=by
 subst hx;rw[mR f h hl];exact fin
theorem eA{xs:List α}{enc:α->Da}(f:α->Da)(hx:xs'=xs.map enc)(h:∀x∈xs,b (enc x)=ret (some (f x)))(hl:xs.length<=sizeLine)(fin:k (xs.map f) Q):BZ (bv b xs' []) k Q:=by
 subst hx;rw[comp_map f h hl];exact fin
theorem jF{lo:Int}(f:Nat->Da)(h:∀j,j<n->b (.int (lo+j))=ret (some (f j)))(hl:n<=sizeLine)(fin:k ((DO n).map f) Q):BZ (bv b (aE lo n) []) k Q:=by
 rw[mP f h hl];exact fin
theorem o0{lo:Int}(P:Da->Prop)(h:∀j,j<n->∀K:Option Da->Prop,(∀d,P d->K (some d))->b (.int (lo+j)) K)(hl:n<=sizeLine)(fin:∀ds:List Da,ds.length=n->(∀d∈ds,P d)->k ds Q):BZ (bv b (aE lo n) []) k Q :=
 mT P h hl fin
end
section
variable{α β:Type}
theorem lQ{xs:List Da}{i:Int}{k:Da->Mo β}{Q:β->Prop}(h0:0<=i)(h1:i<(xs.length:Int))(h:∀z∈xs,k z Q):ar (atI xs i) k Q:=by
 obtain⟨z,e,m⟩:=sO h0 h1;rw[e];exact h z m
theorem b6{xs:List α}{enc:α->Da}{i:Int}{k:Da->Mo β}{Q:β->Prop}(P:α->Prop)(hx:xs'=xs.map enc)(h0:0<=i)(h1:i<(xs.length:Int))(hP:∀z∈xs,P z)(h:∀z,P z->k (enc z) Q):ar (atI xs' i) k Q:=by
 subst hx;refine lQ h0 (by simpa using h1) fun z mz=>?_;obtain⟨x,hx,rfl⟩:=Eg.mp mz;exact h x (hP x hx)
theorem lR{xs:List α}{enc:α->Da}{i:Int}{k:Da->Mo β}{Q:β->Prop}(P:α->Prop)(h0:0<=i)(h1:i<(xs.length:Int))(hP:∀z∈xs,P z)(h:∀z∈xs,P z->k (enc z) Q):ar ((atI xs i).map enc) k Q:=by
 obtain⟨z,e,m⟩:=sO h0 h1;rw[e];exact h z m (hP z m)
end
theorem jA{α:Type}{enc:α->Da}{P:α->Prop}:∀{ds:List Da},(∀d∈ds,∃x,P x/\d=enc x)->∃xs:List α,ds=xs.map enc/\xs.length=ds.length/\∀x∈xs,P x
 | [],_=>⟨[],rfl,rfl,by simp⟩
 | d::ds,h=>by
   obtain⟨x,hx,e⟩:=h d Dx;obtain⟨xs,e1,e2,e3⟩:=jA (ds:=ds) fun d hd=>h d (Dl _ hd);exact⟨x::xs,by rw[e,e1];rfl,by simp[e2],fun y hy=>(DS.mp hy).elim (fun z=>by rw[z];exact hx) (e3 y)⟩
section
variable{X:Cx}{rl:Option Addr}{a b c o e:Expr}{es:List Expr}{fa fb:TV}{fs:Ca}{pos p apos cpos:Pos}{ρ:En}
noncomputable def AZ(g:List Da->List W->(W->Prop)->Prop)(fa:TV)(fs:Ca):TV:=fun ρ Q=>fa ρ fun x=>∃xs,x.dat=some (.list xs)/\fs ρ fun ws=>g xs ws Q
theorem m_vML(g:List Da->List W->(W->Prop)->Prop):AZ g fa fs ρ=BZ (fa ρ) fun x=>ar (B6 x) fun xs=>BZ (fs ρ) fun ws=>g xs ws:=by
 show(BZ (fa ρ) fun x=>fun(Q:W->Prop)=>∃xs,x.dat=some (.list xs)/\fs ρ fun ws=>g xs ws Q)=_;congr 1;funext x;refine af fun Q=>?_;rw[ag];simp only[fC];exact G7
noncomputable def mF:List Da->List W->(W->Prop)->Prop:=fun xs ws Q=>∃(bs:List Bool)(k:Bool),xs=bs.map .bool/\ws=[.d (.bool k)]/\Q (.d (.int (bs.count k)))
theorem m_gCountB(xs:List Da)(w:W):mF xs [w]=ar (pU xs) fun bs=>ar (asB w) fun k=>ret (.d (.int (bs.count k))):=by
 refine af fun Q=>?_;simp only[mF,ag,eE,ret,DI,and_true];constructor
 · rintro⟨bs,k,rfl,e,q⟩;exact⟨bs,blsD_map bs,k,e,q⟩
 · rintro⟨bs,e,k,e',q⟩;exact⟨bs,k,iW e,e',q⟩
noncomputable def v4:W->W->(W->Prop)->Prop:=fun x y Q=>∃b c,x = .d (.bool b)/\y = .d (.bool c)/\Q (.d (.bool (b != c)))
theorem m_gNotB(x y:W):v4 x y=ar (asB x) fun i=>ar (asB y) fun j=>ret (.d (.bool (i != j))):=by
 refine af fun Q=>?_;simp only[ag,eE,v4,ret];exact⟨fun⟨i,j,a,b,q⟩=>⟨i,a,j,b,q⟩,fun⟨i,a,j,b,q⟩=>⟨i,j,a,b,q⟩⟩
end
end L2.VL
namespace L2
section
variable{X:Cx}{pos:Pos}
end
end L2
namespace L2.VL
section
variable{X:Cx}{rl:Option Addr}{es:List Expr}{pos:Pos}{ρ:En}
noncomputable def zG(n:Nat)(gs:kE):Ce:=fun x ρ Q=>∃xs,x = .list xs/\xs.length=n/\gs xs ρ Q
theorem m_hLst(n:Nat){gs:kE}(x:Da):zG n gs x ρ=ar (lstD x) fun xs=>BR (xs.length=n) (gs xs ρ):=by
 refine af fun Q=>?_;simp only[ag,rR,zG,BR]
end
section
variable{α:Type}{a0 a1 a2 a3 a4 a5 a6 a7 a8 a9 a10 a11 a12 a13 a14 a15 a16 a17 a18 a19 x y:α}{l:List α}
theorem gt0:(x::l)[0]?=some x:=nr rfl
theorem st0:(x::l).set 0 y=y::l:=nr rfl
theorem gt1:(a0::x::l)[1]?=some x:=nr rfl
theorem st1:(a0::x::l).set 1 y=a0::y::l:=nr rfl
theorem gt2:(a0::a1::x::l)[2]?=some x:=nr rfl
theorem st2:(a0::a1::x::l).set 2 y=a0::a1::y::l:=nr rfl
theorem gt3:(a0::a1::a2::x::l)[3]?=some x:=nr rfl
theorem st3:(a0::a1::a2::x::l).set 3 y=a0::a1::a2::y::l:=nr rfl
theorem gt4:(a0::a1::a2::a3::x::l)[4]?=some x:=nr rfl
theorem st4:(a0::a1::a2::a3::x::l).set 4 y=a0::a1::a2::a3::y::l:=nr rfl
theorem gt5:(a0::a1::a2::a3::a4::x::l)[5]?=some x:=nr rfl
theorem st5:(a0::a1::a2::a3::a4::x::l).set 5 y=a0::a1::a2::a3::a4::y::l:=nr rfl
theorem gt6:(a0::a1::a2::a3::a4::a5::x::l)[6]?=some x:=nr rfl
theorem st6:(a0::a1::a2::a3::a4::a5::x::l).set 6 y=a0::a1::a2::a3::a4::a5::y::l:=nr rfl
theorem gt7:(a0::a1::a2::a3::a4::a5::a6::x::l)[7]?=some x:=nr rfl
theorem st7:(a0::a1::a2::a3::a4::a5::a6::x::l).set 7 y=a0::a1::a2::a3::a4::a5::a6::y::l:=nr rfl
theorem gt8:(a0::a1::a2::a3::a4::a5::a6::a7::x::l)[8]?=some x:=nr rfl
theorem st8:(a0::a1::a2::a3::a4::a5::a6::a7::x::l).set 8 y=a0::a1::a2::a3::a4::a5::a6::a7::y::l:=nr rfl
theorem gt9:(a0::a1::a2::a3::a4::a5::a6::a7::a8::x::l)[9]?=some x:=nr rfl
theorem st9:(a0::a1::a2::a3::a4::a5::a6::a7::a8::x::l).set 9 y=a0::a1::a2::a3::a4::a5::a6::a7::a8::y::l:=nr rfl
theorem gt10:(a0::a1::a2::a3::a4::a5::a6::a7::a8::a9::x::l)[10]?=some x:=nr rfl
theorem st10:(a0::a1::a2::a3::a4::a5::a6::a7::a8::a9::x::l).set 10 y=a0::a1::a2::a3::a4::a5::a6::a7::a8::a9::y::l:=nr rfl
theorem gt11:(a0::a1::a2::a3::a4::a5::a6::a7::a8::a9::a10::x::l)[11]?=some x:=nr rfl
theorem st11:(a0::a1::a2::a3::a4::a5::a6::a7::a8::a9::a10::x::l).set 11 y=a0::a1::a2::a3::a4::a5::a6::a7::a8::a9::a10::y::l:=nr rfl
theorem gt12:(a0::a1::a2::a3::a4::a5::a6::a7::a8::a9::a10::a11::x::l)[12]?=some x:=nr rfl
theorem st12:(a0::a1::a2::a3::a4::a5::a6::a7::a8::a9::a10::a11::x::l).set 12 y=a0::a1::a2::a3::a4::a5::a6::a7::a8::a9::a10::a11::y::l:=nr rfl
theorem gt13:(a0::a1::a2::a3::a4::a5::a6::a7::a8::a9::a10::a11::a12::x::l)[13]?=some x:=nr rfl
theorem st13:(a0::a1::a2::a3::a4::a5::a6::a7::a8::a9::a10::a11::a12::x::l).set 13 y=a0::a1::a2::a3::a4::a5::a6::a7::a8::a9::a10::a11::a12::y::l:=nr rfl
theorem gt14:(a0::a1::a2::a3::a4::a5::a6::a7::a8::a9::a10::a11::a12::a13::x::l)[14]?=some x:=nr rfl
theorem st14:(a0::a1::a2::a3::a4::a5::a6::a7::a8::a9::a10::a11::a12::a13::x::l).set 14 y=a0::a1::a2::a3::a4::a5::a6::a7::a8::a9::a10::a11::a12::a13::y::l:=nr rfl
theorem gt15:(a0::a1::a2::a3::a4::a5::a6::a7::a8::a9::a10::a11::a12::a13::a14::x::l)[15]?=some x:=nr rfl
theorem st15:(a0::a1::a2::a3::a4::a5::a6::a7::a8::a9::a10::a11::a12::a13::a14::x::l).set 15 y=a0::a1::a2::a3::a4::a5::a6::a7::a8::a9::a10::a11::a12::a13::a14::y::l:=nr rfl
theorem gt16:(a0::a1::a2::a3::a4::a5::a6::a7::a8::a9::a10::a11::a12::a13::a14::a15::x::l)[16]?=some x:=nr rfl
theorem st16:(a0::a1::a2::a3::a4::a5::a6::a7::a8::a9::a10::a11::a12::a13::a14::a15::x::l).set 16 y=a0::a1::a2::a3::a4::a5::a6::a7::a8::a9::a10::a11::a12::a13::a14::a15::y::l:=nr rfl
theorem gt17:(a0::a1::a2::a3::a4::a5::a6::a7::a8::a9::a10::a11::a12::a13::a14::a15::a16::x::l)[17]?=some x:=nr rfl
theorem st17:(a0::a1::a2::a3::a4::a5::a6::a7::a8::a9::a10::a11::a12::a13::a14::a15::a16::x::l).set 17 y=a0::a1::a2::a3::a4::a5::a6::a7::a8::a9::a10::a11::a12::a13::a14::a15::a16::y::l:=nr rfl
theorem gt18:(a0::a1::a2::a3::a4::a5::a6::a7::a8::a9::a10::a11::a12::a13::a14::a15::a16::a17::x::l)[18]?=some x:=nr rfl
theorem st18:(a0::a1::a2::a3::a4::a5::a6::a7::a8::a9::a10::a11::a12::a13::a14::a15::a16::a17::x::l).set 18 y=a0::a1::a2::a3::a4::a5::a6::a7::a8::a9::a10::a11::a12::a13::a14::a15::a16::a17::y::l:=nr rfl
theorem gt19:(a0::a1::a2::a3::a4::a5::a6::a7::a8::a9::a10::a11::a12::a13::a14::a15::a16::a17::a18::x::l)[19]?=some x:=nr rfl
theorem st19:(a0::a1::a2::a3::a4::a5::a6::a7::a8::a9::a10::a11::a12::a13::a14::a15::a16::a17::a18::x::l).set 19 y=a0::a1::a2::a3::a4::a5::a6::a7::a8::a9::a10::a11::a12::a13::a14::a15::a16::a17::a18::y::l:=nr rfl
end
section
variable{a0 a1 a2 a3 a4 a5 a6 a7 a8 a9 a10 a11 a12 a13 a14 a15 a16 a17 a18 a19:Option W}{w:W}{l:En}
theorem vv0:dj 0 (some w::l)=ret w.peek:=(bh 0).trans rfl
theorem vv1:dj 1 (a0::some w::l)=ret w.peek:=(bh 1).trans rfl
theorem vv2:dj 2 (a0::a1::some w::l)=ret w.peek:=(bh 2).trans rfl
theorem vv3:dj 3 (a0::a1::a2::some w::l)=ret w.peek:=(bh 3).trans rfl
theorem vv4:dj 4 (a0::a1::a2::a3::some w::l)=ret w.peek:=(bh 4).trans rfl
theorem vv5:dj 5 (a0::a1::a2::a3::a4::some w::l)=ret w.peek:=(bh 5).trans rfl
theorem vv6:dj 6 (a0::a1::a2::a3::a4::a5::some w::l)=ret w.peek:=(bh 6).trans rfl
theorem vv7:dj 7 (a0::a1::a2::a3::a4::a5::a6::some w::l)=ret w.peek:=(bh 7).trans rfl
theorem vv8:dj 8 (a0::a1::a2::a3::a4::a5::a6::a7::some w::l)=ret w.peek:=(bh 8).trans rfl
theorem vv9:dj 9 (a0::a1::a2::a3::a4::a5::a6::a7::a8::some w::l)=ret w.peek:=(bh 9).trans rfl
theorem vv10:dj 10 (a0::a1::a2::a3::a4::a5::a6::a7::a8::a9::some w::l)=ret w.peek:=(bh 10).trans rfl
theorem vv11:dj 11 (a0::a1::a2::a3::a4::a5::a6::a7::a8::a9::a10::some w::l)=ret w.peek:=(bh 11).trans rfl
theorem vv12:dj 12 (a0::a1::a2::a3::a4::a5::a6::a7::a8::a9::a10::a11::some w::l)=ret w.peek:=(bh 12).trans rfl
theorem vv13:dj 13 (a0::a1::a2::a3::a4::a5::a6::a7::a8::a9::a10::a11::a12::some w::l)=ret w.peek:=(bh 13).trans rfl
theorem vv14:dj 14 (a0::a1::a2::a3::a4::a5::a6::a7::a8::a9::a10::a11::a12::a13::some w::l)=ret w.peek:=(bh 14).trans rfl
theorem vv15:dj 15 (a0::a1::a2::a3::a4::a5::a6::a7::a8::a9::a10::a11::a12::a13::a14::some w::l)=ret w.peek:=(bh 15).trans rfl
theorem vv16:dj 16 (a0::a1::a2::a3::a4::a5::a6::a7::a8::a9::a10::a11::a12::a13::a14::a15::some w::l)=ret w.peek:=(bh 16).trans rfl
theorem vv17:dj 17 (a0::a1::a2::a3::a4::a5::a6::a7::a8::a9::a10::a11::a12::a13::a14::a15::a16::some w::l)=ret w.peek:=(bh 17).trans rfl
theorem vv18:dj 18 (a0::a1::a2::a3::a4::a5::a6::a7::a8::a9::a10::a11::a12::a13::a14::a15::a16::a17::some w::l)=ret w.peek:=(bh 18).trans rfl
theorem vv19:dj 19 (a0::a1::a2::a3::a4::a5::a6::a7::a8::a9::a10::a11::a12::a13::a14::a15::a16::a17::a18::some w::l)=ret w.peek:=(bh 19).trans rfl
end
section
variable{f1 f2 f3 f4 f5 f6 f7 f8 f9:TV}{fs:Ca}{ρ:En}
theorem vk1:ay f1 jN ρ=BZ (f1 ρ) fun w1=>ret [w1.fz]:=nr rfl
theorem vk2:(ay f1 (ay f2 jN)) ρ=BZ (f1 ρ) fun w1=>BZ (f2 ρ) fun w2=>ret [w1.fz,w2.fz]:=nr rfl
theorem vk3:(ay f1 (ay f2 (ay f3 jN))) ρ=BZ (f1 ρ) fun w1=>BZ (f2 ρ) fun w2=>BZ (f3 ρ) fun w3=>ret [w1.fz,w2.fz,w3.fz]:=nr rfl
theorem vk4:(ay f1 (ay f2 (ay f3 (ay f4 jN)))) ρ=BZ (f1 ρ) fun w1=>BZ (f2 ρ) fun w2=>BZ (f3 ρ) fun w3=>BZ (f4 ρ) fun w4=>ret [w1.fz,w2.fz,w3.fz,w4.fz]:=nr rfl
theorem vk5:(ay f1 (ay f2 (ay f3 (ay f4 (ay f5 jN))))) ρ=BZ (f1 ρ) fun w1=>BZ (f2 ρ) fun w2=>BZ (f3 ρ) fun w3=>BZ (f4 ρ) fun w4=>BZ (f5 ρ) fun w5=>ret [w1.fz,w2.fz,w3.fz,w4.fz,w5.fz]:=nr rfl
theorem vk6:(ay f1 (ay f2 (ay f3 (ay f4 (ay f5 (ay f6 jN)))))) ρ=BZ (f1 ρ) fun w1=>BZ (f2 ρ) fun w2=>BZ (f3 ρ) fun w3=>BZ (f4 ρ) fun w4=>BZ (f5 ρ) fun w5=>BZ (f6 ρ) fun w6=>ret [w1.fz,w2.fz,w3.fz,w4.fz,w5.fz,w6.fz]:=nr rfl
theorem vk7:(ay f1 (ay f2 (ay f3 (ay f4 (ay f5 (ay f6 (ay f7 jN))))))) ρ=BZ (f1 ρ) fun w1=>BZ (f2 ρ) fun w2=>BZ (f3 ρ) fun w3=>BZ (f4 ρ) fun w4=>BZ (f5 ρ) fun w5=>BZ (f6 ρ) fun w6=>BZ (f7 ρ) fun w7=>ret [w1.fz,w2.fz,w3.fz,w4.fz,w5.fz,w6.fz,w7.fz]:=nr rfl
theorem vk8:(ay f1 (ay f2 (ay f3 (ay f4 (ay f5 (ay f6 (ay f7 (ay f8 jN)))))))) ρ=BZ (f1 ρ) fun w1=>BZ (f2 ρ) fun w2=>BZ (f3 ρ) fun w3=>BZ (f4 ρ) fun w4=>BZ (f5 ρ) fun w5=>BZ (f6 ρ) fun w6=>BZ (f7 ρ) fun w7=>BZ (f8 ρ) fun w8=>ret [w1.fz,w2.fz,w3.fz,w4.fz,w5.fz,w6.fz,w7.fz,w8.fz]:=nr rfl
theorem vk9:(ay f1 (ay f2 (ay f3 (ay f4 (ay f5 (ay f6 (ay f7 (ay f8 (ay f9 fs))))))))) ρ=BZ (f1 ρ) fun w1=>BZ (f2 ρ) fun w2=>BZ (f3 ρ) fun w3=>BZ (f4 ρ) fun w4=>BZ (f5 ρ) fun w5=>BZ (f6 ρ) fun w6=>BZ (f7 ρ) fun w7=>BZ (f8 ρ) fun w8=>BZ (ay f9 fs ρ) fun ws=>ret (w1.fz::w2.fz::w3.fz::w4.fz::w5.fz::w6.fz::w7.fz::w8.fz::ws):=nr rfl
theorem vk0:jN ρ=ret []:=nr rfl
end
noncomputable def yK:=C8 @bnd_tt (C8 @bnd_ret (C8 @bnd_bnd (C8 @bnd_grd (C8 @bnd_stk (C8 @bnd_ite (C8 @bnd_opt (C8 @opt_some (C8 @opt_none (C8 @grd_T (C8 @sq_nx (C8 @sq_rt (C8 @sq_bk (C8 @sq_ct (C8 @sq_grd (C8 @sq_stk (C8 @sq_ite (C8 @sq_sq (@kc_ap))))))))))))))))))
noncomputable def yN:=C8 @ite_nx (C8 @ite_rt (C8 @ite_retd (C8 @ite_retb (C8 @ite_rets (C8 @ite_cons (C8 @ite_some (C8 @ite_d (C8 @ite_pi (C8 @ite_pb (C8 @itb_tt (C8 @itb_ff (C8 @itb_ft (C8 @itb_tf (@ite_self.{1}))))))))))))))
noncomputable def yQ:=C8 @m_vC (C8 @m_vOp (C8 @m_gI (C8 @m_gI0 (C8 @m_vNeg (C8 @m_vTest (C8 @m_gEqD (C8 @m_gInD (C8 @m_vAnd (C8 @m_vOr (C8 @m_vNot (C8 @m_vAndV (C8 @m_vOrV (C8 @m_vNotV (C8 @m_vIf (C8 @m_vTup (C8 @m_vLst (C8 @m_gIx (C8 @m_vCall (C8 @m_gAbs (C8 @m_gLen (C8 @m_gRepr (C8 @m_gIsi (@m_gStrI)))))))))))))))))))))))
noncomputable def yP:=C8 @m_gTupO (C8 @m_gLstO (C8 @m_gIsB (C8 @m_gIsN (C8 @m_gI2 (C8 @m_gDivmod (C8 @m_gInt1 (C8 @m_oNo (C8 @m_oIt (C8 @m_vSlL (C8 @m_vSlA (C8 @m_gCatD (C8 @m_gCatA (C8 @m_vChain (C8 @m_vLR1 (C8 @m_vLR2 (C8 @m_vTR1 (C8 @m_iL (C8 @m_iT (C8 @m_iR1 (C8 @m_iR2 (C8 @m_iZb (C8 @m_vUse (@m_vUseL)))))))))))))))))))))))
noncomputable def yO:=C8 @m_gAll (C8 @m_gRepT (C8 @m_gRepL (C8 @m_vRevT (C8 @m_vRevL (C8 @m_gEqS (C8 @m_vTGet (C8 @m_gSrtT (C8 @m_comp (C8 @m_gLenS (C8 @m_gIxS (C8 @m_vSlS (C8 @m_hLst (C8 @m_vML (C8 @m_gCountB (@m_gNotB)))))))))))))))
noncomputable def yD:=C8 @s_next (C8 @s_seq (C8 @s_drop (C8 @s_ret (C8 @s_retN (C8 @s_ifS (C8 @s_set (C8 @s_setZ (C8 @s_never (C8 @s_asg (C8 @s_par (C8 @s_par3 (C8 @s_aug (C8 @s_augL (C8 @s_frz (C8 @s_mut (C8 @s_retO (C8 @s_appPop (C8 @s_for (C8 @bdy_ap (C8 @s_while (C8 @s_newR (C8 @m_hName (@m_hNil_n)))))))))))))))))))))))
noncomputable def yC:=C8 @m_hCons_c (C8 @m_hTup (C8 @m_gApp (@m_gExt)))
noncomputable def yG:=C8 @pk_sc (C8 @fz_sc (C8 @arg_sc (C8 @isPk_sc (C8 @asI_d (C8 @asB_d (C8 @asS_d (C8 @asD_d (C8 @asT_d (C8 @asL_d (C8 @asL_ml (C8 @asL_pk (C8 @asQ_d (C8 @asQ_ml (C8 @asQ_pk (C8 @lstD_l (C8 @tupD_t (C8 @toI_i (C8 @toI_b (C8 @isiT_t (C8 @asM_ml (C8 @asSc_s (C8 @two_d (@fz_d)))))))))))))))))))))))
noncomputable def yF:=C8 @fz_ml (C8 @fz_pk (C8 @fz_reel (C8 @fz_vv (C8 @pk_d (C8 @pk_ml (C8 @pk_reel (C8 @pk_vv (C8 @dat_d (C8 @dat_ml (C8 @dat_pk (C8 @isPk_d (C8 @isPk_ml (C8 @isPk_reel (C8 @dats_nil (C8 @dats_d (C8 @arg_d (C8 @arg_reel (C8 @item_l (C8 @item_t (C8 @len_l (C8 @len_t (C8 @seq_l (@seq_t)))))))))))))))))))))))
noncomputable def yE:=C8 @at0 (C8 @at1 (C8 @blsD_map (C8 @tup2 (C8 @fo_nil (C8 @fo_cons (C8 @nR_nil (C8 @nR_r (C8 @nR_n (C8 @nR_d (C8 @nR_ml (C8 @nR_sc (C8 @le_nil (C8 @le_cn (C8 @le_cs (C8 @end_d (C8 @end_ml (C8 @end_nx (@un_law))))))))))))))))))
noncomputable def yM:=C8 @Ep.{0,0} (C8 @IE.{0,0} (C8 @DP.{0} (C8 @Gk.{0} (C8 @List.set_nil.{0} (C8 @List.cons_append.{0} (C8 @List.nil_append.{0} (C8 @List.all_cons.{0} (C8 @List.all_nil.{0} (C8 @List.head?_cons.{0} (C8 @Bool.and_true (C8 @J_.injEq.{0} (C8 @Option.map_some.{0,0} (C8 @G8.{0,0} (C8 @Option.bind_none.{0,0} (C8 @Option.join_some.{0} (C8 @Option.join_none.{0} (C8 @Fw (C8 @and_self (C8 @and_true (C8 @true_and (C8 @shaped_i (C8 @eqv_ii (@shaped_b)))))))))))))))))))))))
noncomputable def yL:=C8 @Bool.true_and (C8 @Bool.and_self (C8 @Bool.not_true (C8 @Bool.not_false (C8 @Di.{0,0} (C8 @Fi (C8 @Bool.true_eq_false (C8 @decide_true (C8 @decide_false (C8 @List.isEmpty_cons.{0} (C8 @List.isEmpty_nil.{0} (@List.isEmpty_map.{0,0})))))))))))
noncomputable def yJ:=C8 @gt0 (C8 @gt1 (C8 @gt2 (C8 @gt3 (C8 @gt4 (C8 @gt5 (C8 @gt6 (C8 @gt7 (C8 @gt8 (C8 @gt9 (C8 @gt10 (C8 @gt11 (C8 @gt12 (C8 @gt13 (C8 @gt14 (C8 @gt15 (C8 @gt16 (C8 @gt17 (C8 @gt18 (C8 @gt19 (C8 @st0 (C8 @st1 (C8 @st2 (@st3)))))))))))))))))))))))
noncomputable def yI:=C8 @st4 (C8 @st5 (C8 @st6 (C8 @st7 (C8 @st8 (C8 @st9 (C8 @st10 (C8 @st11 (C8 @st12 (C8 @st13 (C8 @st14 (C8 @st15 (C8 @st16 (C8 @st17 (C8 @st18 (C8 @st19 (C8 @vv0 (C8 @vv1 (C8 @vv2 (C8 @vv3 (C8 @vv4 (C8 @vv5 (C8 @vv6 (@vv7)))))))))))))))))))))))
noncomputable def yH:=C8 @vv8 (C8 @vv9 (C8 @vv10 (C8 @vv11 (C8 @vv12 (C8 @vv13 (C8 @vv14 (C8 @vv15 (C8 @vv16 (C8 @vv17 (C8 @vv18 (C8 @vv19 (C8 @vk0 (C8 @vk1 (C8 @vk2 (C8 @vk3 (C8 @vk4 (C8 @vk5 (C8 @vk6 (C8 @vk7 (C8 @vk8 (@vk9)))))))))))))))))))))
section
variable{α β:Type}
end
noncomputable def kC:CK:=E1 "cells"
noncomputable def kA:CK:=E1 "at"
noncomputable def kL:CK:=E1 "left"
noncomputable def kT:CK:=E1 "turn"
theorem yb:¬kC=kA:=by decide +kernel
theorem ya:¬kC=kL:=by decide +kernel
theorem x_:¬kC=kT:=by decide +kernel
theorem wC:¬kA=kL:=by decide +kernel
theorem wB:¬kA=kT:=by decide +kernel
theorem wA:¬kL=kT:=by decide +kernel
noncomputable def aP(c:Addr)(a l t:Int):List (CK×V):=[(kC,.ref c),(kA,.int a),(kL,.int l),(kT,.int t)]
theorem bf{p:CK×V}{r:List (CK×V)}{k:CK}(e:¬p.1=k):fM (p::r) k=fM r k:=by
 unfold fM;rw[EB];simp[e]
theorem uO(c:Addr)(a l t:Int):fM (aP c a l t) kC=some (.ref c):=cc rfl
theorem uP(c:Addr)(a l t:Int):fM (aP c a l t) kA=some (.int a):=by unfold aP;rw[bf yb];exact cc rfl
theorem uN(c:Addr)(a l t:Int):fM (aP c a l t) kL=some (.int l):=by unfold aP;rw[bf ya,bf wC];exact cc rfl
theorem uM(c:Addr)(a l t:Int):fM (aP c a l t) kT=some (.int t):=by unfold aP;rw[bf x_,bf wB,bf wA];exact cc rfl
theorem BC{a b:CK}(h:¬a=b):¬b=a:=fun e=>h e.symm
theorem xQ(c:Addr)(a l t n:Int):dL (aP c a l t) kA (.int n)=aP c n l t:=by
 unfold dL aP;rw[if_pos (by simp)];simp[yb,BC wC,BC wB]
theorem xP(c:Addr)(a l t n:Int):dL (aP c a l t) kL (.int n)=aP c a n t:=by
 unfold dL aP;rw[if_pos (by simp)];simp[ya,wC,BC wA]
theorem xO(c:Addr)(a l t n:Int):dL (aP c a l t) kT (.int n)=aP c a l n:=by
 unfold dL aP;rw[if_pos (by simp)];simp[x_,wB,wA]
theorem ReelOk.kv(h:ReelOk F H r):∃(c:Addr)(ns:List Int)(a l t:Int),H r=some (.dK (aP c a l t))/\F c=some (.lst (ns.map V.int))/\ns.length<=63/\0<=a/\0<=l/\0<=t:=by
 obtain⟨o,e,c,ns,a,l,t,rfl,q⟩:=h.ex;exact⟨c,ns,a,l,t,e,q⟩
theorem Co.put{K:W.Frag}{c:Addr}{a l t:Int}(R:VR K rl F₀ H₀ F H σ ρ)(e:rl=some r)(h:F c=some (.lst (ns.map V.int))/\ns.length<=63/\0<=a/\0<=l/\0<=t) :
 VR K rl F₀ H₀ F (upd H r (.dK (aP c a l t))) σ ρ:=by
 have fr:F r=none:=(R.reel r e).1;have neF:∀b u,F b=some u->b≠r:=fun b u q z=>by subst z;rw[fr]at q;cases q
 have g:Grow rl F H F (upd H r (.dK (aP c a l t))):=by
  refine⟨fun b o q n=>by rw[ae (fun z=>n (by rw[z];exact e))];exact q,.refl F,fun b o q=>by rw[ae (neF b o q)];exact R.sub b o q,fun _ _ _=>rfl,fun y z=>?_⟩;have:y=r:=DX (z.symm.trans e);subst this;exact⟨fr,⟨_,aj,c,ns,a,l,t,rfl,h⟩⟩
 exact R.grow g
section
variable{X:Cx}{rl:Option Addr}{e:Expr}{fa:TV}{pos p p1 p2:Pos}
noncomputable def AV(i:Nat):TV:=fun ρ Q=>ρ[i]?=some (some .reel)/\∀n:Int,0<=n->Q (.d (.int n))
noncomputable def AW(i:Nat):TV:=fun ρ Q=>ρ[i]?=some (some .reel)/\∀ns:List Int,ns.length<=63->Q (.d (.list (ns.map .int)))
theorem gW{K:W.Frag}{F:Hp}:∀ns:List Int,Reps K F (ns.map V.int) (ns.map DZ)
 | []=>.nil
 | n::ns=>.cons (.int n) (gW ns)
theorem cW{k:Str}{j}(hr:Room 0 X.A)(hk:(E1 k:CK)=kA\/(E1 k:CK)=kL\/(E1 k:CK)=kT)(hN:autoParam (X.N[i]?=some x) æa._auto_1)(hv:autoParam (B8 X.env.scope x) æc._auto_1)
 (hd:autoParam ((x==("__debug__" : Str))=false) æb._auto_1)(hcd:autoParam ((x==("__classdict__" : Str))=false) æb._auto_1)(hs:autoParam (pY (.Constant (.str k) j p2)) æh._auto_1):PV X rl (.Subscript (.Name x p1) (.Constant (.str k) j p2) pos) (AV i):=by
 refine⟨_,lH (sr hr) (bB hN hv hd hcd) dF hs,fun{F₀ H₀ F H σ ρ} R Qd Q ⟨e1,q⟩ h=>?_⟩;obtain⟨v,s1,⟨r,er,ev⟩,_⟩:=R.sl i _ e1;subst ev;obtain⟨_,ok⟩:=R.reel r er;obtain⟨c,ns,a,l,t,hH,_,_,b1,b2,b3⟩:=ok.kv
 have go:∀n:Int,0<=n->fM (aP c a l t) (E1 k)=some (.int n)->uE (xv i) (tC (.str k)) σ H Q:=fun n hn e=>by
  refine⟨.ref r,s1,r,.int n,rfl,?_,h _ (.d _) F H (Grow.refl R.sub R.reel) (.int n) trivial (q n hn)⟩;have g:=wM.k (k:=(E1 k:CK)) hH;rw[e]at g;exact g
 rcases hk with hk|hk|hk
 · exact go a b1 (by rw[hk];exact uP c a l t)
 · exact go l b2 (by rw[hk];exact uN c a l t)
 · exact go t b3 (by rw[hk];exact uM c a l t)
theorem nz{j}(hr:Room 0 X.A)(hN:autoParam (X.N[i]?=some x) æa._auto_1)(hv:autoParam (B8 X.env.scope x) æc._auto_1)
 (hd:autoParam ((x==("__debug__" : Str))=false) æb._auto_1)(hcd:autoParam ((x==("__classdict__" : Str))=false) æb._auto_1)(hs:autoParam (pY (.Constant (.str "cells") j p2)) æh._auto_1):PV X rl (.Subscript (.Name x p1) (.Constant (.str "cells") j p2) pos) (AW i):=by
 refine⟨_,lH (sr hr) (bB hN hv hd hcd) dF hs,fun{F₀ H₀ F H σ ρ} R Qd Q ⟨e1,q⟩ h=>?_⟩;obtain⟨v,s1,⟨r,er,ev⟩,_⟩:=R.sl i _ e1;subst ev;obtain⟨_,ok⟩:=R.reel r er;obtain⟨c,ns,a,l,t,hH,hc,hl,_⟩:=ok.kv;refine⟨.ref r,s1,r,.ref c,rfl,?_,h _ (.d _) F H (Grow.refl R.sub R.reel) (Rep.lst hc (gW ns)) trivial (q ns hl)⟩;have g:=wM.k (k:=kC) hH;rw[uO]at g;exact g
noncomputable def ug(i:Nat)(fa:TV):Cb:=fun D ρ=>fa ρ fun w=>∃n,w = .d (.int n)/\0<=n/\ρ[i]?=some (some .reel)/\D.nx ρ
theorem fG{k:Str}{j}(hr:Room 0 X.A)(hk:(E1 k:CK)=kA\/(E1 k:CK)=kL\/(E1 k:CK)=kT)(ha:PV X rl e fa)(hN:autoParam (X.N[i]?=some x) æa._auto_1)(hv:autoParam (B8 X.env.scope x) æc._auto_1)
 (hd:autoParam ((x==("__debug__" : Str))=false) æb._auto_1)(hcd:autoParam ((x==("__classdict__" : Str))=false) æb._auto_1)(hsw:autoParam (ET e (some (.Subscript (.Name x p1) (.Constant (.str k) j p2) pos')) pos.line X.env=pure false) æa._auto_1) :
 Cw X rl (.Assign [.Subscript (.Name x p1) (.Constant (.str k) j p2) pos'] e pos) (ug i fa):=by
 obtain⟨t,p3,kk⟩:=ha;refine⟨_,rh (sr hr) (bB hN hv hd hcd) dF p3 hsw,fun{F₀ H₀ F H σ ρ} R Dv D ok q=>kk R _ _ q fun v w F1 H1 g1 r1 n1 ⟨n,ew,hn,e1,q1⟩=>?_⟩;subst ew;have ev:=aY r1;subst ev;have R1:=R.grow g1;obtain⟨v,s1,⟨r,er,ev⟩,_⟩:=R1.sl i _ e1;subst ev;obtain⟨_,okr⟩:=R1.reel r er;obtain⟨c,ns,a,l,t,hH,hc,hl,b1,b2,b3⟩:=okr.kv;refine⟨.ref r,s1,r,_,rfl,yB.k (k:=(E1 k:CK)) hH (lf (by show 4<=1000;decide)),?_⟩
 have go:∀a' l' t':Int,0<=a'->0<=l'->0<=t'->dL (aP c a l t) (E1 k) (.int n)=aP c a' l' t'->D.nx σ (upd H1 r (.dK (dL (aP c a l t) (E1 k) (.int n)))):=fun a' l' t' x1 x2 x3 e=>by
  rw[e];exact ok.nx _ _ _ _ g1.fs (Co.put R1 er ⟨hc,hl,x1,x2,x3⟩) q1
 rcases hk with hk|hk|hk
 · exact go n l t hn b2 b3 (by rw[hk];exact xQ c a l t n)
 · exact go a n t b1 hn b3 (by rw[hk];exact xP c a l t n)
 · exact go a l n b1 b2 hn (by rw[hk];exact xO c a l t n)
end
theorem jX(c:Addr):d6 [] [(kC,V.ref c),(kA,.int 0),(kL,.int 0),(kT,.int 0)]=aP c 0 0 0:=by
 unfold d6 aP;simp only[II,List.foldl_nil];have p0:dL ([]:List (CK×V)) kC (V.ref c)=[(kC,V.ref c)]:=rfl;rw[p0];unfold dL;simp[yb,ya,x_,wC,wB,wA]
section
variable{X:Cx}{rl:Option Addr}{e:Expr}{fa:TV}{pos p p1 p2:Pos}{ρ:En}
noncomputable def B4:W->Option Unit
 | .reel=>some ()
 | _=>none
theorem gA:B4 .reel=some ():=rfl
theorem zx:(((ρ[i]?).join).bind B4=some ())↔ρ[i]?=some (some .reel):=by
 constructor
 · intro h
   cases q:ρ[i]? with
   | none=>rw[q]at h;cases h
   | some o=>rw[q]at h;cases o with
     | none=>cases h
     | some w=>cases w<;>first|rfl|cases h
 · intro h;rw[h];rfl
theorem uH{β:Type}{k:Unit->Mo β}{Q:β->Prop}:ar (((ρ[i]?).join).bind B4) k Q↔ρ[i]?=some (some .reel)/\k () Q:=by
 rw[ag];exact⟨fun⟨u,a,q⟩=>⟨zx.mp a,q⟩,fun⟨a,q⟩=>⟨(),zx.mpr a,q⟩⟩
theorem fY(i:Nat):AV i ρ=ar (((ρ[i]?).join).bind B4) fun _=>BZ (anyM fun n:Int=>0<=n) fun n=>ret (.d (.int n)):=af fun Q=>(Iff.intro (fun⟨a,q⟩=>uH.mpr ⟨a,fun n h=>q n h⟩) fun h=>⟨(uH.mp h).1,fun n hn=>(uH.mp h).2 n hn⟩)
theorem fZ(i:Nat):AW i ρ=ar (((ρ[i]?).join).bind B4) fun _=>BZ (anyM fun ns:List Int=>ns.length<=63) fun ns=>ret (.d (sY ns)):=af fun Q=>(Iff.intro (fun⟨a,q⟩=>uH.mpr ⟨a,fun n h=>q n h⟩) fun h=>⟨(uH.mp h).1,fun n hn=>(uH.mp h).2 n hn⟩)
theorem cX(i:Nat):mS (ug i fa) ρ=BZ (fa ρ) fun w=>ar (asI w) fun n=>BR (0<=n) (ar (((ρ[i]?).join).bind B4) fun _=>ret (.nx ρ)):=by
 show(BZ (fa ρ) fun w=>fun(Q:Fl->Prop)=>∃n,w = .d (.int n)/\0<=n/\ρ[i]?=some (some .reel)/\Q (.nx ρ))=_;congr 1;funext w;refine af fun Q=>?_;simp only[ag (o:=asI w),bD,BR,uH,ret]
end
theorem c9(xs:List Int):pH (sY xs)=some xs.length:=by show some (xs.map DZ).length=_;rw[Di]
theorem ci(xs:List Int)(i:Int):itemAt (sY xs) i=(atI xs i).map .int:=gw _ _ _
noncomputable def fr(q:Rat):Da:=.tuple [.int q.num,.int q.den]
theorem pM{q r:Rat}(h:fr q=fr r):q=r:=by
 simp only[fr,Ex,DI,Ip,and_true]at h;exact Rat.ext h.1 (by omega)
theorem jl(n:Int)(d:Nat)(h:d≠0):xZ n d=fr (Ij n d h):=by
 unfold xZ fr;rw[Rat.normalize_eq];have g:(FJ n d:Int)=((n.natAbs.gcd d:Nat):Int):=by simp[FJ]
 have gp:0<n.natAbs.gcd d:=Nat.gcd_pos_of_pos_right _ (by omega);have e1:n.fdiv (FJ n d)=n / ((n.natAbs.gcd d:Nat):Int):=by rw[g,Hs _ (by omega)]
 have e2:(d:Int).fdiv (FJ n d)=((d / n.natAbs.gcd d:Nat):Int):=by rw[g,Hs _ (by omega),Int.natCast_ediv]
 rw[e1,e2]
theorem lT{a b:Int}(hb:0<b):xZ a b=fr ((a:Rat) / (b:Rat)):=by
 obtain⟨d,rfl⟩:=FW (show 0<=b by omega);rw[jl a d (by omega)];congr 1;have:(Ij a d (by omega))=mkRat a d:=by rw[Rat.normalize_eq_mkRat]
 rw[this,Rat.mkRat_eq_div];rfl
theorem wa(q r:Rat):decide (q.num*r.den<r.num*q.den)=decide (q<r):=by
 rw[decide_eq_decide];exact(Rat.lt_iff q r).symm
noncomputable def Bt(n:Nat)(q:Rat):Prop:=q.num.natAbs<2^n/\q.den<2^n
theorem Bt.mono{m:Nat}{q:Rat}(h:Bt n q)(hm:n<=m):Bt m q:=⟨Dk h.1 (DQ (by decide) hm),Dk h.2 (DQ (by decide) hm)⟩
theorem mX{i:Int}(h:i.natAbs<2^2000):C3 i:=Dk h (DQ (by decide) (by decide))
theorem Bt.bn{q:Rat}(h:Bt 2000 q):C3 q.num:=mX h.1
theorem Bt.bd{q:Rat}(h:Bt 2000 q):C3 (q.den:Int):=mX (by rw[HC];exact h.2)
inductive Sd where
 | to (t:Rat)|from(a b:Rat)|round (a b:Rat)
noncomputable def Sd.last:Sd->Rat
 | .to t=>t | .from _ b=>b | .round _ b=>b
noncomputable def Bo:Sd->Da
 | .to t=>.tuple [.str "to", fr t]
 | .from a b=>.tuple [.str "from", fr a,fr b]
 | .round a b=>.tuple [.str "round", fr a,fr b]
noncomputable def mx(q r:Rat):Rat:=if q<r then r else q
noncomputable def mn(q r:Rat):Rat:=if q<r then q else r
theorem fr0:pr 0 1=fr 0:=rfl
theorem fr1:pr 1 1=fr 1:=rfl
theorem Aj:Bt 60 0:=⟨by decide,by decide⟩
theorem rO{n:Int}{d k:Nat}(hd:d≠0)(h1:n.natAbs<2^k)(h2:d<2^k):Bt k (Ij n d hd):=by
 rw[Rat.normalize_eq];refine⟨?_,E5 (Nat.div_le_self _ _) h2⟩;show(n / ((n.natAbs.gcd d:Nat):Int)).natAbs<2^k;have hdv:((n.natAbs.gcd d:Nat):Int)∣n:=Int.ofNat_dvd_left.mpr (Nat.gcd_dvd_left _ _);rw[Int.natAbs_ediv_of_dvd hdv,HC];exact E5 (Nat.div_le_self _ _) h1
noncomputable def pS(ss:List Sd):Da:=.tuple (ss.map Bo)
noncomputable def ptD(qs:List Rat):Da:=.tuple (qs.map fr)
noncomputable def yA(n:Nat)(qs:List Rat):Prop:=qs.length=n/\∀q∈qs,Bt 60 q
noncomputable def ptsQ(ps:List (List Rat)):Da:=.tuple (ps.map ptD)
noncomputable def nj(n:Nat)(ps:List (List Rat)):Prop:=1<=ps.length/\ps.length<=40/\∀p∈ps,yA n p
theorem at_last2{α:Type}(x y:α):L2.atI [x,y] (-1)=some y:=rfl
theorem at_last3{α:Type}(x y z:α):L2.atI [x,y,z] (-1)=some z:=rfl
theorem i6{α β:Type}(f:α->Da)(g:β->Da):∀(xs:List α)(ys:List β),i8 (xs.map f) (ys.map g)=(xs.zip ys).map fun p=>.tuple [f p.1,g p.2]
 | [],_=>by simp[i8]
 | _::_,[]=>by simp[i8]
 | x::xs,y::ys=>by
   show ER [f x,g y]::i8 (xs.map f) (ys.map g)=_;rw[i6 f g xs ys];rfl
theorem pN{α:Type}(p:α->Bool)(f:α->Da):∀xs:List α,(xs.filterMap fun x=>if p x=true then some (f x)else none).length=(xs.filter p).length
 | []=>rfl
 | x::xs=>by
   have ih:=pN p f xs;cases h:p x<;>simp[h,ih]
theorem gf:∀qs:List Rat,Ec (qs.map fr)=true
 | []=>rfl
 | q::qs=>by simp[Ec,EY,fr,gf qs]
theorem mL:∀qs:List Rat,Ed (qs.map fr)<=3
 | []=>by simp[Ed]
 | q::qs=>by
   have:=mL qs;simp[Ed,Fz,fr]at this ⊢;omega
theorem at_last1{α:Type}(x:α):L2.atI [x] (-1)=some x:=rfl
theorem gB{q r:Rat}:fr q=fr r↔q=r:=⟨pM,fun h=>by rw[h]⟩
theorem cF{s t:Sd}:Bo s=Bo t↔s=t:=by
 constructor
 · intro h;have n1:¬(Et "from" = Et "round"):=by decide +kernel
   cases s<;>cases t<;>simp[Bo,gB,n1,Fm n1]at h ⊢ <;> first|exact h|exact(n1 h.1.symm).elim|exact(n1 h.1).elim
 · rintro rfl;rfl
theorem cG{a b:List Rat}:ptD a=ptD b↔a=b:=by
 unfold ptD;rw[Ex,bM fun _ _=>gB]
theorem bS{a b:List Sd}:pS a=pS b↔a=b:=by
 unfold pS;rw[Ex,bM fun _ _=>cF]
theorem bP{a b:List (List Rat)}:ptsQ a=ptsQ b↔a=b:=by
 unfold ptsQ;rw[Ex,bM fun _ _=>cG]
theorem cS{a b:List Rat}:a.map fr=b.map fr↔a=b:=bM fun _ _=>gB
theorem item_fr0(q:Rat):itemAt (fr q) 0=some (.int q.num):=rfl
theorem item_fr1(q:Rat):itemAt (fr q) 1=some (.int q.den):=rfl
theorem tupD_pt(a:List Rat):tupD (ptD a)=some (a.map fr):=rfl
theorem seqD_pt(a:List Rat):dX (ptD a)=some (a.map fr):=rfl
theorem lenD_pt(a:List Rat):pH (ptD a)=some a.length:=by show some (a.map fr).length=_;rw[Di]
theorem item_pt(a:List Rat)(i:Int):itemAt (ptD a) i=(atI a i).map fr:=gw _ _ _
theorem tupD_bx(a:List Sd):tupD (pS a)=some (a.map Bo):=rfl
theorem seqD_bx(a:List Sd):dX (pS a)=some (a.map Bo):=rfl
theorem lenD_bx(a:List Sd):pH (pS a)=some a.length:=by show some (a.map Bo).length=_;rw[Di]
theorem item_bx(a:List Sd)(i:Int):itemAt (pS a) i=(atI a i).map Bo:=gw _ _ _
theorem tupD_ps(a:List (List Rat)):tupD (ptsQ a)=some (a.map ptD):=rfl
theorem seqD_ps(a:List (List Rat)):dX (ptsQ a)=some (a.map ptD):=rfl
theorem lenD_ps(a:List (List Rat)):pH (ptsQ a)=some a.length:=by show some (a.map ptD).length=_;rw[Di]
theorem item_ps(a:List (List Rat))(i:Int):itemAt (ptsQ a) i=(atI a i).map ptD:=gw _ _ _
theorem kind_pt(a:List Rat):cI (ptD a)=cI (.tuple []):=rfl
theorem kind_bx(a:List Sd):cI (pS a)=cI (.tuple []):=rfl
noncomputable def qd(a b:Int):Rat:=(a:Rat) / (b:Rat)
theorem vI{a b:Int}(hb:0<b):ER [.int (a.fdiv (FJ a b)),.int (b.fdiv (FJ a b))]=fr (qd a b):=lT hb
theorem uU{a b:Int}{k:Nat}(hb:0<b)(h1:a.natAbs<2^k)(h2:b.natAbs<2^k):Bt k (qd a b):=by
 obtain⟨d,rfl⟩:=FW (show 0<=b by omega);have hd:d≠0:=by omega
 have e:qd a d=Ij a d hd:=pM (by rw[<- jl,lT (by omega)];rfl);rw[e];exact rO _ h1 (by simpa using h2)
theorem wb{q:Rat}(h:Bt n q)(hn:n<=1000):Sm 2 2 (fr q) :=
 Sm.pair (Dk h.1 (DQ (by decide) hn)) (by rw[HC];exact Dk h.2 (DQ (by decide) hn))
theorem oF(q:Rat):d8 (fr q)=false:=rfl
theorem lX:∀ps:List (List Rat),Ec (ps.map ptD)=true
 | []=>rfl
 | p::ps=>by simp[Ec,EY,ptD,gf,lX ps]
theorem mK:∀ps:List (List Rat),Ed (ps.map ptD)<=5
 | []=>by simp[Ed]
 | p::ps=>by
   have:=mK ps;have:=mL p;simp[Ed,Fz,ptD]at *;omega
theorem jQ(ps:List (List Rat)):D4 (.list (ps.map ptD))=true:=by
 have:=mK ps;simp[D4,EY,Fz,lX];omega
noncomputable def sV(qs:List Rat):Prop:=∀q∈qs,0<=q/\q<1
noncomputable def kr(ps:List (List Rat)):Prop:=∀p∈ps,sV p
theorem sV.snoc{qs:List Rat}{r:Rat}(h:sV qs)(hr:0<=r/\r<1):sV (qs++[r]):=fun q hq=>by
 rcases Ez.mp hq with h'|h'
 · exact h q h'
 · simp at h';rw[h'];exact hr
theorem kr.snoc{ps:List (List Rat)}{r:List Rat}(h:kr ps)(hr:sV r):kr (ps++[r]):=fun q hq=>by
 rcases Ez.mp hq with h'|h'
 · exact h q h'
 · simp at h';rw[h'];exact hr
theorem xM{a b:Int}(hb:0<b)(h:0<=a):0<=qd a b:=by
 unfold qd;have h1:(0:Rat)<=(a:Rat):=by exact_mod_cast h
 have h2:(0:Rat)<(b:Rat):=by exact_mod_cast hb
 rw[Rat.div_def];exact Rat.mul_nonneg h1 (Rat.le_of_lt (Rat.inv_pos.mpr h2))
theorem uV{a b:Int}(hb:0<b)(h:a<b):qd a b<1:=by
 unfold qd;have h1:(a:Rat)<(b:Rat):=by exact_mod_cast h
 have h2:(0:Rat)<(b:Rat):=by exact_mod_cast hb
 exact(Rat.div_lt_iff h2).mpr (by rw[Rat.one_mul];exact h1)
noncomputable def C5:=C8 @item_fr0 (C8 @item_fr1 (C8 @tupD_pt (C8 @seqD_pt (C8 @lenD_pt (C8 @item_pt (C8 @tupD_bx (C8 @seqD_bx (C8 @lenD_bx (C8 @item_bx (C8 @tupD_ps (C8 @seqD_ps (C8 @lenD_ps (C8 @item_ps (C8 @at_last1 (C8 @at_last2 (C8 @at_last3 (C8 @kind_pt (C8 @kind_bx (C8 @fr0 (@fr1))))))))))))))))))))
section
variable{X:Cx}{rl:Option Addr}{e:Expr}{fa:TV}{pos dpos q1 q2 q3 q4:Pos}{ρ:En}{j1 j2 j3 j4:Nat}{a b x y:Str}
end
theorem gP(q:Rat):D4 (fr q)=true:=by
 simp[D4,fr,EY,Ec,Fz,Ed]
noncomputable def q9:Rat:=⟨999999999998,999999999999,by decide,by decide⟩
end L2.VL
namespace L2
noncomputable def C7(h:Heap)(a:Addr)(C:Dc)(d:Option Addr)(T:Addr)(fl:Dc):Prop :=
 ∃oe vs oT ts,h.get? a=some oe/\oe.cls=C/\oe.dict=d/\oe.data = .fields vs/\vs[1]?=some (.ref T)/\T≠a/\h.get? T=some oT/\oT.data = .fields ts/\ts[3]?=some fl
noncomputable def zO(h:Heap)(a:Addr)(C:Dc)(d:Option Addr):Prop:=∃oe vs,h.get? a=some oe/\oe.cls=C/\oe.dict=d/\oe.data = .fields vs/\vs[1]?=some .none
structure But (fs l:List Addr) (h h':Heap):Prop where
 keep:∀b o,b∉l->b∉fs->h.get? b=some o->h'.get? b=some o
 slot:∀b o,b∉l->b∈fs->h.get? b=some o->∃sl,h'.get? b=some {o with slots:=sl}
 there:∀b o,h.get? b=some o->∃o',h'.get? b=some o'
theorem But.trans{fs l:List Addr}{h1 h2:Heap}(x:But fs l h h1)(y:But fs l h1 h2):But fs l h h2 :=
 ⟨fun b o n m e=>y.keep b o n m (x.keep b o n m e),fun b o n m e=>by
  obtain⟨s1,e1⟩:=x.slot b o n m e;obtain⟨s2,e2⟩:=y.slot b _ n m e1
  exact⟨s2,e2⟩,fun b o e=>by obtain⟨o1,e1⟩:=x.there b o e;exact y.there b o1 e1⟩
theorem But.more{fs l l':List Addr}(x:But fs l h h')(s:∀b,b∈l->b∈l'):But fs l' h h' :=
 ⟨fun b o n m e=>x.keep b o (fun z=>n (s b z)) m e,fun b o n m e=>x.slot b o (fun z=>n (s b z)) m e,x.there⟩
section
variable{M:JZ}{A:DM}{E:Dc->Dd->Prop}{s:Dd}{base:Heap}{env:Env}{outer:List Env}{L a T:Addr}{C:Dc}{d:Option Addr}{Q:Unit->Dd->Prop}
theorem mJ(f:Array Dc->Array Dc)(o:Obj):(FX f o).dict=o.dict:=by
 obtain⟨_,_,dt,_⟩:=o;cases dt<;>rfl
theorem pQ{oe:Obj}{vs:Array Dc}{head:Dc}{hadNext:Bool}(hfr:A.frames=some (env::outer))(hl:s.heap.FunFrames base (env::outer))(hf:env.frame=some L)(he:s.heap.get? a=some oe)(hd:oe.data = .fields vs)(hz:1<vs.size)
 (h:∀h' T,s.heap.get? T=none->C7 h' a oe.cls oe.dict T (Gj L)->But (frs (env::outer)) [a] s.heap h'->Q () {s with heap:=h' }) :
 Dr M A (do let f <- frameOf env;let pl <- entryPlaceOf L hadNext;let b <- Ji head f .none (Gj L) .none pl;setField (.ref a) 1 b) Q E s:=by
 have na:a∉frs (env::outer):=fun hm=>by
  obtain⟨_,o,ho,hn⟩:=hl.mem hm;rw[he]at ho;cases ho;exact hn vs hd
 refine C9 (wpAny_frameOf_fun hfr hl hf fun h1 z1=>C9 (wpAny_entryPlaceOf fun pl hpl=>?_));unfold Ji newFields;refine C9 (DT ?_ (hpl.sizeOk5 _ _ _ _ _));have e1:h1.get? a=some oe:=(z1.2.1 a na).trans he;generalize hob:({cls:=.type "traceback", dict:=none,data:=.fields ([head,.ref L,.none,Gj L,.none]++(if pl.isEmpty then Ej 6 D3 else pl)).toArray}:Obj)=ob;have e2:(h1.push ob).get? a=some oe:=Db _ e1;refine Gw e2 hd hz (h _ h1.objs.size ?_ ?_ ?_)
 · cases q:s.heap.get? h1.objs.size with
   | none=>rfl
   | some o =>
     obtain⟨sl,e⟩:=z1.2.2 _ o q;exact absurd (Df e) (D_ _)
 · have ne:h1.objs.size≠a:=Em (Df e1);have d3:=E7 hd (·.setIfInBounds 1 (Dn h1.objs.size));have e3:=Eh (FX (·.setIfInBounds 1 (Dn h1.objs.size))) e2 (FA d3)
   have e4:((h1.push ob).update a (FX (·.setIfInBounds 1 (Dn h1.objs.size)))).get? h1.objs.size=some ob :=
    (Eo _ _ (Fm ne)).trans (Do h1 (by rw[<- hob];rfl))
   refine⟨_,_,ob,_,e3,Obj.cls_mapFields _ _,mJ _ _,d3,by simp[hz],ne,e4,by rw[<- hob],?_⟩
   first|(simp;done)|(rcases hpl with rfl|⟨_,_,_,_,_,_,_,rfl⟩<;>simp)
 · have kk:∀b o,b≠a->h1.get? b=some o->((h1.push ob).update a (FX (·.setIfInBounds 1 (Dn h1.objs.size)))).get? b=some o:=fun b o nb e=>by
     rw[Eo _ _ (Fm nb)];exact Db _ e
   refine⟨fun b o n m e=>kk b o (by simpa using n) ((z1.2.1 b m).trans e),fun b o n m e=>?_,fun b o e=>?_⟩
   · obtain⟨sl,q⟩:=z1.2.2 b o e;exact⟨sl,kk b _ (by simpa using n) q⟩
   · by_cases hb:b=a
     · subst hb;exact⟨_,Eh _ e2 (FA (E7 hd _))⟩
     · obtain⟨sl,q⟩:=z1.2.2 b o e;exact⟨_,kk b _ hb q⟩
theorem vD(hfr:A.frames=some (env::outer))(hl:s.heap.FunFrames base (env::outer))(hf:env.frame=some L)(b:zO s.heap a C d)
 (h:∀h' T,s.heap.get? T=none->C7 h' a C d T (Gj L)->But (frs (env::outer)) [a] s.heap h'->Q () {s with heap:=h' }):Dr M A (GN (.ref a) env) Q E s:=by
 obtain⟨oe,vs,he,rfl,rfl,hd,h1⟩:=b;unfold GN;simp only[hf];refine C9 (D8 he hd h1 ?_);rw[if_neg (by decide)];exact pQ hfr hl hf he hd (Fp.mp h1).1 h
theorem vB(hfr:A.frames=some (env::outer))(hl:s.heap.FunFrames base (env::outer))(hf:env.frame=some L)(b:C7 s.heap a C d T .none)
 (h:∀h' T',s.heap.get? T'=none->C7 h' a C d T' (Gj L)->But (frs (env::outer)) [a,T] s.heap h'->Q () {s with heap:=h' }):Dr M A (GN (.ref a) env) Q E s:=by
 obtain⟨oe,vs,oT,ts,he,rfl,rfl,hd,h1,nT,hT,dT,h3⟩:=b;unfold GN;simp only[hf];refine C9 (D8 he hd h1 ?_);rw[if_pos (show(Dn T != D3)=true from by simp)];refine C9 (D8 hT dT h3 ?_);rw[if_neg (show ¬((D3==Gj L)=true)from by simp[Gj])];refine C9 (Gw hT dT (Fp.mp h3).1 ?_);have oth:∀b,b≠T->(s.heap.update T (FX (·.setIfInBounds 3 D3))).get? b=s.heap.get? b:=fun b n=>Eo _ _ (Fm n)
 have ntT:∀b o,s.heap.get? b=some o->(∀vs,o.data ≠ .fields vs)->b≠T:=fun b o e n q=>by
  rw[q,hT]at e;cases e;exact n ts dT
 have B0:But (frs (env::outer)) [a,T] s.heap (s.heap.update T (FX (·.setIfInBounds 3 D3))):=⟨fun b o n _ e=>(oth b (fun z=>n (by simp[z]))).trans e,fun b o n _ e=>⟨o.slots,(oth b (fun z=>n (by simp[z]))).trans e⟩,fun b o e=>by
  by_cases q:b=T
  · subst q;exact⟨_,Eh _ e (by rw[hT]at e;cases e;exact FA (E7 dT _))⟩
  · exact⟨o,(oth b q).trans e⟩⟩
 refine pQ (s:={s with heap:=_}) hfr (hl.of_keeps fun b o e n=>⟨o,(oth b (ntT b o e n)).trans e,rfl⟩) hf ((oth a (Fm nT)).trans he) hd (Fp.mp h1).1 fun h' T' n' air bt=>?_;refine h h' T' ?_ air (B0.trans (bt.more fun b z=>by simp at z;simp[z]))
 cases q:s.heap.get? T' with
 | none=>rfl
 | some o=>obtain⟨o',e'⟩:=B0.there _ o q;rw[n']at e';cases e'
theorem yp{fl:Dc}(b:C7 s.heap a C d T fl)(h:∀h',C7 h' a C d T .none->(∀b,b≠T->h'.get? b=s.heap.get? b)->(∃o,h'.get? T=some o)->Q () {s with heap:=h' }):Dr M A (setFlight (.ref a) none) Q E s:=by
 obtain⟨oe,vs,oT,ts,he,rfl,rfl,hd,h1,nT,hT,dT,h3⟩:=b;have z3:3<ts.size:=(Fp.mp h3).1;unfold setFlight;refine C9 (D8 he hd h1 ?_);rw[if_pos (show(Dn T != D3)=true from by simp)];have oth:∀b,b≠T->(s.heap.update T (FX (·.setIfInBounds 3 ((none:Option Addr).elim D3 fun f=>Gj f)))).get? b=s.heap.get? b:=fun b n=>Eo _ _ (Fm n);have eT:=Eh (FX (·.setIfInBounds 3 ((none:Option Addr).elim D3 fun f=>Gj f))) hT (FA (E7 dT _));exact Gw hT dT z3 (h _ ⟨oe,vs,_,_,(oth a (Fm nT)).trans he,rfl,rfl,hd,h1,nT,eT,E7 dT _,by simp[z3]⟩ oth ⟨_,eT⟩)
theorem iO{fs:List Addr}(k:∀b,b≠T->h'.get? b=h.get? b)(t:∃o,h'.get? T=some o):But fs [T] h h' :=
 ⟨fun b o n _ e=>(k b (by simpa using n)).trans e,fun b o n _ e=>⟨o.slots,(k b (by simpa using n)).trans e⟩,fun b o e=>by
  by_cases q:b=T
  · subst q;exact t
  · exact⟨o,(k b q).trans e⟩⟩
theorem rV(hfr:A.frames=some (env::outer))(hl:s.heap.FunFrames base (env::outer))(hf:env.frame=some L)(b:zO s.heap a C d)
 (h:∀h' T,s.heap.get? T=none->C7 h' a C d T .none->But (frs (env::outer)) [a] s.heap h'->Q () {s with heap:=h' }):Dr M A (leaving env (.ref a)) Q E s:=by
 unfold leaving;refine C9 (vD hfr hl hf b fun h1 T n1 air bt=>?_);refine yp air fun h2 air2 k2 t2=>h h2 T n1 air2 ?_;have b2:But (frs (env::outer)) [T] h1 h2:=iO k2 t2;refine⟨fun c o n m e=>b2.keep c o ?_ m (bt.keep c o n m e),fun c o n m e=>?_,fun c o e=>by obtain⟨o1,e1⟩:=bt.there c o e;exact b2.there c o1 e1⟩
 · intro z;have:c=T:=by simpa using z
   subst this;rw[n1]at e;cases e
 · obtain⟨sl,e1⟩:=bt.slot c o n m e;refine b2.slot c _ ?_ m e1 |>.imp fun sl' e2=>e2;intro z;have:c=T:=by simpa using z
   subst this;rw[n1]at e;cases e
end
noncomputable def B1:List Dc:=[.type "ValueError", .type "Exception", .type "BaseException", .type "object"]
noncomputable def nh(K:W.Frag)(C:Addr):Bool:=match K.lookup C with
 | some ⟨.type "type", _,.cls cd,sl⟩=>(match cd.mro,sl.toList with
   | .ref C'::bm,[_,_,_,_,some (.builtin n),_]=>C'==C&&n == "ValueError.__new__" && !cd.hasDel&&cd.hasDict&&W.tailIn K B1 bm&&W.nsOkIn K cd.ns
   | _,_=>false)
 | _=>false
theorem gC{K:W.Frag}(X:K.In h)(q:nh K C=true):∃nm qn N bs bm sn sub ab col dd k0 k1 k2 k3 k5,
 K.lookup C=some (excClassObj nm qn C N bs bm true sn sub ab col dd k0 k1 k2 k3 k5 "ValueError.__new__")/\OwnTail h B1 bm:=by
 unfold nh at q;split at q
 · rename_i dd cd sl ho;split at q
   · rename_i C' bm k0 k1 k2 k3 n k5 hm hs;simp only[Iq,beq_iff_eq,Bool.not_eq_true']at q;obtain⟨⟨⟨⟨⟨c1,c2⟩,c3⟩,c4⟩,c5⟩,c6⟩:=q;obtain⟨nm,bs,mro,ns,qn,hd,sn,sub,ab,col,del⟩:=cd;dsimp only at hm c3 c4 c6
     have hsl:sl = #[k0,k1,k2,k3,some (.builtin n),k5]:=by
      obtain⟨l⟩:=sl;simp only at hs;rw[hs]
     subst hsl hm c1 c2 c3 c4;exact⟨nm,qn,ns,bs,bm,sn,sub,ab,col,dd,k0,k1,k2,k3,k5,ho,W.tail_of_in X c5⟩
   · cases q
 · cases q
abbrev cq(C t:Addr)(d:Option Addr):Obj:={cls:=.ref C,dict:=d,data:=.fields #[.ref t,.none,.none,.none,.bool false,.none]}
abbrev bx(h:Heap)(C:Addr)(us:List Dc):Heap:=(h.push {cls:=.type "tuple", data:=.seq us.toArray}).push (cq C h.objs.size none)
section
variable{prog:Dq}{w:DN}{A:DM}{E:Dc->Dd->Prop}{s:Dd}{K:W.Frag}{C f:Addr}{us:List Dc}
theorem kf(X:K.In s.heap)(q:nh K C=true)(hi:W.findIn K (.ref C) "__init__" = some (some (.ref f)))(hf:W.typeIn K (.ref f)=some (.type "function"))(hz:us.length<=sizeLine)
 (h:Dr (Dw prog w) (A.under (.builtin "type.__call__" ⟨.ref C::us,[]⟩)) (call (.ref f) (.ref (s.heap.objs.size+1)::us)) (fun r s'=>r = .none/\Q (.ref (s.heap.objs.size+1)) s') E {s with heap:=bx s.heap C us}) :
 Dr (Dw prog w) A (call (.ref C) us) Q E s:=by
 obtain⟨nm,qn,N,bs,bm,sn,sub,ab,col,dd,k0,k1,k2,k3,k5,lk,T⟩:=gC X q;obtain⟨hp,g,d,t,os⟩:=s;have hC:=X _ _ lk;have F:=Ht;have f1:=tc_lookup;have f2:=tc_bind (.ref C);have hT:(⟨hp,g,d,t,os⟩:Dd).TypeIs (.ref C) "type" := ⟨_,hC,rfl⟩;refine Jy (Hl ?_);show Dr _ _ (callAny (.ref C) _) _ _ _
 repeat (any_goals (first|assumption|(with_reducible refine FQ hC ?_)|wp_step))
 refine⟨rfl,?_⟩;refine codeAny_call_builtin_at (HD _ (by decide +kernel)) entry_typeCall (wpAny_check_type_call_sub hC ?_)
 repeat (first|(with_reducible refine FQ hC ?_)|(with_reducible refine wpAny_madeBy_exc hC ?_)|wp_step)
 refine codeAny_call_builtin_code (HD _ F.quiet) (wpAny_check_new_subT F T hC ?_);refine codeAny_exc_new_subT F T hC ?_ hz;show Dr _ _ _ _ _ _;have kk:∀b o,hp.get? b=some o->(bx hp C us).get? b=some o:=fun b o e=>Db _ (Db _ e);have hC1:=kk _ _ hC;have X1:K.In (bx hp C us):=X.keeps kk;have hg:(bx hp C us).get? (hp.objs.size+1)=some (cq C hp.objs.size none):=by heap_get
 have hcC:(Dn C::bm).contains (.ref C)=true:=by simp
 unfold IT
 repeat (first|(with_reducible refine FQ hg ?_)|((with_reducible refine Hm hC1 ?_);rw[hcC])|wp_step)
 refine Hm hC1 ?_;rw[hcC]
 repeat (first|(with_reducible refine FQ hg ?_)|wp_step)
 show Dr _ _ (Jz (.ref C) _) _ _ _;refine W.Looks.here (s:=⟨bx hp C us,g,d,t,os⟩) (W.looks_findIn X1 hi) ?_;refine FY (C9 (W.Looks.here (s:=⟨bx hp C us,g,d,t,os⟩) (W.bind_fn X1 _ hf) ?_));refine C9 (DC h (fun r s' hr=>?_) fun _ _ x=>x);obtain⟨rfl,hQ⟩:=hr
 wp_walk
 exact hQ
end
open Builtin Builtin.ObjectAttr
theorem nN(self:Dc){l:List Dc}(T:OwnTail h B1 l):refuseLoop self "__setattr__" l=pure ():=by
 induction T with
 | base=>exact HX.passes self
 | own _ _ _ _ ih=>rw[refuseLoop_ref];exact ih
section
variable{prog:Dq}{w:DN}{A:DM}{E:Dc->Dd->Prop}{s:Dd}{K:W.Frag}{C a t:Addr}{d:Option Addr}{name:Str}{v:Dc}{mA:Str->Option Dc}{ns:List Str}
theorem xF{Q:Unit->Dd->Prop}(X:K.In s.heap)(q:nh K C=true)(hs:W.findIn K (.ref C) "__setattr__" = some (some (.builtin "object.__setattr__")))(hn:W.findIn K (.ref C) name=some none)
 (ha:s.heap.get? a=some (cq C t d))(hm:(d=none/\∀n,mA n=none)\/∃dx,d=some dx/\dx≠a/\s.heap.Ns1 dx mA)(hw:PySem.Within mA ns)(hz:ns.length<=sizeLine)
 (h:∀h' tk dx,h'.get? a=some (cq C t (some dx))->h'.Ns1 dx (fun y=>if y=name then some v else mA y)->dx≠a->(d=some dx\/(d=none/\s.heap.objs.size<=dx)) ->
  (∀b o,b≠a->b≠dx->s.heap.get? b=some o->h'.get? b=some o)->Q () {s with heap:=h',toks:=tk}):Dr (Dw prog w) A (setAttr (.ref a) name v) Q E s:=by
 obtain⟨nm,qn,N,bs,bm,sn,sub,ab,col,dd,k0,k1,k2,k3,k5,lk,T⟩:=gC X q;have hC:=X _ _ lk;have SF:=HX
 obtain⟨od,I⟩:∃od,W.InstAt s.heap a (cq C t d) C od:=by
  rcases hm with⟨rfl,_⟩|⟨dx,rfl,_,⟨o,es,ep,ho,_⟩⟩
  · exact⟨none,ha,rfl,rfl,trivial⟩
  · exact⟨some o,ha,rfl,rfl,ho⟩
 refine W.set_plain X I hs ?_;obtain⟨hp,g,dr,tk,os⟩:=s
 have hc:W.clsIn K C=some {name:=nm,bases:=bs,mro:=.ref C::bm,ns:=N,qualname:=qn,hasDict:=true,slotNames:=sn,subclasses:=sub,abstract:=ab,collection:=col,hasDel:=false}:=by
  unfold W.clsIn;rw[lk]
 have hmr:W.Looks (Dw prog w) hp (mroOf (.ref C)) (.ref C::bm):=(W.looks_clsIn X hc).andThen .now
 have sb:W.Looks (Dw prog w) hp (IT (.ref a) (.type "object")) true:=I.type.andThen (W.looks_mroIn X (by
  unfold W.mroIn
  rw[hc,G8,if_neg (by simp),GP,T.hasType (X := "object") (b:=true) (by decide +kernel),IJ]))
 refine Gs SF.slot.plain SF.entry (@W.check_slot (Dw prog w) _ _ ⟨hp,g,dr,tk+1,os⟩ "object.__setattr__" "object" "__setattr__" (.ref a) [.str name tk,v] [] _ SF.kind SF.split sb (SF.args (.ref a) (.str name tk) v) ?_);rw[W.osa_eq,refuse_eq];refine C9 (C9 (W.Looks.here (s:=⟨hp,g,dr,tk+1,os⟩) I.type (C9 (W.Looks.here (s:=⟨hp,g,dr,tk+1,os⟩) hmr ?_))));rw[refuseLoop_ref,nN _ T];refine De (C9 (W.Looks.here (s:=⟨hp,g,dr,tk+1,os⟩) I.type (C9 (W.Looks.here (s:=⟨hp,g,dr,tk+1,os⟩) (W.looks_findIn X hn) ?_))));refine C9 (De ?_);show Dr _ _ (storeInOwnDict _ _ _ _ _ _) _ _ _;rcases hm with⟨rfl,hmA⟩|⟨dx,rfl,hne,hns⟩
 · have hC':=hC;refine C9 (De (C9 (C9 (HI (s:=⟨hp,g,dr,tk+1,os⟩) ha (C9 (W.Looks.here (s:=⟨hp,g,dr,tk+1,os⟩) (W.looks_clsIn X hc) ?_))))));have ha1:(hp.push {cls:=.type "dict", data:=.dict #[]}).get? a=some (cq C t none):=Db _ ha;have nas:a≠hp.objs.size:=DB (Df ha);refine C9 (wpAny_alloc' ?_);refine C9 (wpAny_update' ha1 (De ?_))
   have hgd:((hp.push {cls:=.type "dict", data:=.dict #[]}).update a fun o=>{o with dict:=some hp.objs.size}).get? hp.objs.size=some {cls:=.type "dict", data:=.dict #[]} :=
    (Jj _ _ _ _ nas.symm).trans (Heap.get?_push_at rfl rfl)
   have hnd:((hp.push {cls:=.type "dict", data:=.dict #[]}).update a fun o=>{o with dict:=some hp.objs.size}).Ns hp.objs.size (fun _=>none):=⟨_,#[],_,hgd,rfl,fun e he=>absurd he (by simp),fun _=>rfl⟩;have hga:((hp.push {cls:=.type "dict", data:=.dict #[]}).update a fun o=>{o with dict:=some hp.objs.size}).get? a=some (cq C t (some hp.objs.size)):=Eh _ ha1 rfl;show Dr _ _ (storeInDict hp.objs.size (.str name tk) name v) _ _ _;unfold storeInDict newKeyGuard;refine C9 (De (C9 (wpAny_nsSet1 (Heap.Ns1.of_empty hnd) fun h' hn' hs'=>?_)));obtain⟨oD,esD,epD,hoD,hdD,hcD⟩:=hn'.count (Within.cons name v Within.nil);refine C9 (wpAny_lookBehind hoD (by rw[hdD];exact pastItsLine_dict (Ef hcD (by rw[DP,Gk,GU];omega))) (De ?_));refine h h' _ hp.objs.size ((hs'.2 a nas).trans hga) ?_ nas.symm (.inr ⟨rfl,Dm _⟩) fun b o n1 n2 e=>(hs'.2 b n2).trans ((Jj _ _ _ _ n1).trans (Db _ e));obtain⟨o',es,ep,e1,e2,e3,eu,e4⟩:=hn';exact⟨o',es,ep,e1,e2,e3,eu,fun y=>by rw[e4 y];by_cases hy:y=name<;>simp[hy,hmA]⟩
 · refine C9 (De (C9 (C9 (HI (s:=⟨hp,g,dr,tk+1,os⟩) ha (C9 (W.Looks.here (s:=⟨hp,g,dr,tk+1,os⟩) (W.looks_clsIn X hc) ?_))))));refine De (a:=some dx) ?_;show Dr _ _ (storeInDict dx (.str name tk) name v) _ _ _;unfold storeInDict newKeyGuard;refine C9 (De (C9 (wpAny_nsSet1 (s:=⟨hp,g,dr,tk+1,os⟩) hns fun h' hn' hs'=>?_)));obtain⟨oD,esD,epD,hoD,hdD,hcD⟩:=hn'.count (Within.cons name v hw);refine C9 (wpAny_lookBehind hoD (by rw[hdD];exact pastItsLine_dict (Ef hcD (by rw[DP];omega))) (De ?_));exact h h' _ dx ((hs'.2 a hne.symm).trans ha) hn' hne (.inl rfl) fun b o n1 n2 e=>(hs'.2 b n2).trans e
end
open Builtin Builtin.ObjectAttr
theorem cH{M:JZ}{g:Array GenState}{d:Drawn}{tk:Nat}{os:OsState}{t:Sem α}{r:α}{Q:α->Dd->Prop}(x:W.Looks M h t r)(q:Q r ⟨h,g,d,tk,os⟩):Dr M A t Q E ⟨h,g,d,tk,os⟩:=x.here (s:=⟨h,g,d,tk,os⟩) q
section
variable{prog:Dq}{w:DN}{A:DM}{E:Dc->Dd->Prop}{s:Dd}{K:W.Frag}{C a dx:Addr}{name:Str}{v:Dc}{mA:Str->Option Dc}{oe:Obj}{vs:Array Dc}
theorem yi{expr:Bool}(X:K.In s.heap)(q:nh K C=true)(hg:W.findIn K (.ref C) "__getattribute__" = some (some (.builtin "BaseException.__getattribute__")))(hh:W.findIn K (.ref C) "__getattr__" = some none)
 (hn:W.findIn K (.ref C) name=some none)(ha:s.heap.get? a=some oe)(hc:oe.cls = .ref C)(hd:oe.dict=some dx)(hv:oe.data = .fields vs)(ns:s.heap.Ns1 dx mA)(hm:mA name=some v)(hv':W.handedIn v=true)
 (h:Q v {s with toks:=s.toks+1}):Dr (Dw prog w) A (getAttr (.ref a) name expr) Q E s:=by
 obtain⟨nm,qn,N,bs,bm,sn,sub,ab,col,dd,k0,k1,k2,k3,k5,lk,T⟩:=gC X q;have hC:=X _ _ lk;have F:=Ht;have FB:=Hn;obtain⟨od,ho,hl⟩:=lW ns;have I:W.InstAt s.heap a oe C (some od):=⟨ha,hc,by unfold W.notCls;rw[hv],by rw[hd];exact ho⟩
 have hc':W.clsIn K C=some {name:=nm,bases:=bs,mro:=.ref C::bm,ns:=N,qualname:=qn,hasDict:=true,slotNames:=sn,subclasses:=sub,abstract:=ab,collection:=col,hasDel:=false}:=by
  unfold W.clsIn;rw[lk]
 have hf:W.findObj K C (some od) name=some (.value v):=W.findObj_own (by unfold W.hasDictIn;rw[hc'];rfl) hn rfl (by rw[hl,hm]);obtain⟨hp,g,dr,tk,os⟩:=s;have L0:=I.type (M:=Dw prog w);have L1:=W.looks_find (M:=Dw prog w) X I hf;have L2:=W.looks_findIn (M:=Dw prog w) X hg;have L3:=W.looks_findIn (M:=Dw prog w) X hh;have f3:=FB.ga.bind (.ref a);have hx0:(expr&&JW (Fb "BaseException.__getattribute__"))=false:=by cases expr<;>rfl
 have hx2:(Fb "BaseException.__getattribute__" == Fb "object.__getattribute__")=false:=by decide +kernel
 have hx1:(JW (Dn C)&&Fb "BaseException.__getattribute__" == Fb "object.__getattribute__")=false:=by rw[hx2];rfl
 have sb:W.Looks (Dw prog w) hp (IT (.ref a) (.type "BaseException")) true:=I.type.andThen (W.looks_mroIn X (by
  unfold W.mroIn
  rw[hc',G8,if_neg (by simp),GP,T.hasType (X := "BaseException") (b:=true) (by decide +kernel),IJ]))
 have hk:builtinKind "BaseException.__getattribute__" = some .slot:=by decide +kernel
 have hsplit:splitId "BaseException.__getattribute__" = some ("BaseException", "__getattribute__"):=by decide +kernel
 unfold getAttr getAttrBy
 repeat (any_goals (first|assumption|(with_reducible refine cH L0 ?_)|(with_reducible refine cH L2 ?_)|(with_reducible refine cH L3 ?_)|wp_step))
 refine Gs FB.ga.plain IK (@W.check_slot (Dw prog w) _ _ ⟨hp,g,dr,tk+1,os⟩ "BaseException.__getattribute__" "BaseException" "__getattribute__" (.ref a) [.str name tk] [] _ hk hsplit sb (I0 (.ref a) (.str name tk)) ?_);unfold Builtin.«object.__getattribute__»
 repeat (any_goals (first|assumption|(with_reducible refine cH L0 ?_)|(with_reducible refine cH L1 ?_)|wp_step))
 refine cH (r:=v) (.of_pure (W.handedOut_of hv')) ?_;exact h
end
open Builtin Builtin.ObjectAttr
structure XCls (K:W.Frag) (C:Addr):Prop where
 xc:nh K C=true
 sa:W.findIn K (.ref C) "__setattr__" = some (some (.builtin "object.__setattr__"))
 ga:W.findIn K (.ref C) "__getattribute__" = some (some (.builtin "BaseException.__getattribute__"))
 gh:W.findIn K (.ref C) "__getattr__" = some none
 ca:W.findIn K (.ref C) "__class__" = some (some (.builtin "object.__class__"))
 cg:W.specialIn K (.builtin "object.__class__") "__get__" = some (some (.builtin "getset_descriptor.__get__"))
 ct:W.takesIn K (.builtin "object.__class__")=some true
 ob:W.mroIn K C (.type "object")=some true
theorem XCls.cls{K:W.Frag}(c:XCls K C):∃cd,W.clsIn K C=some cd:=by
 have q:=c.xc;unfold nh at q;unfold W.clsIn;split at q
 · rename_i ho;rw[ho];exact⟨_,rfl⟩
 · cases q
section
variable{prog:Dq}{w:DN}{A:DM}{E:Dc->Dd->Prop}{s:Dd}{K:W.Frag}{C a dx:Addr}{ox od:Obj}
theorem sM{Q:Option Dc->Dd->Prop}(c:XCls K C)(X:K.In s.heap)(I:W.InstAt s.heap a ox C (some od))(h:Q (some (.ref C)) {s with toks:=s.toks+1}):Dr (Dw prog w) A (JN (.ref a) "__class__") Q E s:=by
 obtain⟨nm,qn,N,bs,bm,sn,sub,ab,col,dd,k0,k1,k2,k3,k5,lk,T⟩:=gC X c.xc;have hC:=X _ _ lk;have FB:=Hn
 have hc':W.clsIn K C=some {name:=nm,bases:=bs,mro:=.ref C::bm,ns:=N,qualname:=qn,hasDict:=true,slotNames:=sn,subclasses:=sub,abstract:=ab,collection:=col,hasDel:=false}:=by
  unfold W.clsIn;rw[lk]
 have hf:W.findObj K C (some od) "__class__" = some (.bind (.builtin "getset_descriptor.__get__") (.builtin "object.__class__")):=W.findObj_data (by rw[hc'];rfl) c.ca c.cg c.ct
 have cg:∀{A:DM}{R:IC->Dd->Prop}{s':Dd},s'.heap=s.heap->R (.ok (.ret (.ref C))) s'->EW (Dw prog w) A (.call (.builtin "getset_descriptor.__get__") ⟨[.builtin "object.__class__", .ref a,.ref C],[]⟩) R s':=fun{A R s'} e z=>by
  obtain⟨h1,g1,d1,t1,o1⟩:=s';cases e;exact W.class_get (s:=⟨s.heap,g1,d1,t1,o1⟩) (ox:=ox) (od:=some od) X I c.ob z
 obtain⟨hp,g,dr,tk,os⟩:=s;have L0:=I.type (M:=Dw prog w);have L1:=W.looks_find (M:=Dw prog w) X I hf;have L2:=W.looks_findIn (M:=Dw prog w) X c.ga;have L3:=W.looks_findIn (M:=Dw prog w) X c.gh;have f3:=FB.ga.bind (.ref a);have hx2:(Fb "BaseException.__getattribute__" == Fb "object.__getattribute__")=false:=by decide +kernel
 have hx1:(JW (Dn C)&&Fb "BaseException.__getattribute__" == Fb "object.__getattribute__")=false:=by rw[hx2];rfl
 have hx0:(false&&JW (Fb "BaseException.__getattribute__"))=false:=rfl
 have sb:W.Looks (Dw prog w) hp (IT (.ref a) (.type "BaseException")) true:=I.type.andThen (W.looks_mroIn X (by
  unfold W.mroIn
  rw[hc',G8,if_neg (by simp),GP,T.hasType (X := "BaseException") (b:=true) (by decide +kernel),IJ]))
 have hk:builtinKind "BaseException.__getattribute__" = some .slot:=by decide +kernel
 have hsplit:splitId "BaseException.__getattribute__" = some ("BaseException", "__getattribute__"):=by decide +kernel
 unfold JN getAttrBy? getAttrBy
 repeat (any_goals (first|assumption|(with_reducible refine cH L0 ?_)|(with_reducible refine cH L2 ?_)|(with_reducible refine cH L3 ?_)|wp_step))
 refine Gs FB.ga.plain IK (@W.check_slot (Dw prog w) _ _ ⟨hp,g,dr,tk+1,os⟩ "BaseException.__getattribute__" "BaseException" "__getattribute__" (.ref a) [.str "__class__" tk] [] _ hk hsplit sb (I0 (.ref a) (.str "__class__" tk)) ?_);unfold Builtin.«object.__getattribute__»
 repeat (any_goals (first|assumption|(with_reducible refine cH L0 ?_)|(with_reducible refine cH L1 ?_)|wp_step))
 exact cg rfl (De (De (De h)))
theorem pI(c:XCls K C):W.KitX K (.ref a) (.ref C) (fun h=>∃ox od,W.InstAt h a ox C (some od)) where
 ty:=fun _ _ _ ⟨_,_,I⟩=>I.type
 it:=fun _ _ X _=>by
  obtain⟨cd,hc⟩:=c.cls;unfold W.clsIn at hc;split at hc
  · rename_i ho;intro A' Q' E' s' k q;unfold isType loadHead;exact C9 (HI (k _ _ (X _ _ ho)) (De q))
  · cases hc
 ne:=fun h tp dd its n sl X htp=>by
  obtain⟨cd,hc⟩:=c.cls;refine Bool.eq_false_iff.mpr fun q=>?_;have e:C=tp:=Dn.inj (beq_iff_eq.mp q);subst e;unfold W.clsIn at hc;split at hc
  · rename_i ho;have z:=(X _ _ ho).symm.trans htp;cases z
  · cases hc
 ca:=fun X ⟨_,_,I⟩ k=>sM c X I k
end
abbrev aW(a C:Addr)(d:Option Addr):Heap->Prop:=fun h=>∃t,h.get? a=some (cq C t d)
theorem mW{t:Addr}{d:Option Addr}(e:h.get? a=some (cq C t d)):aK P w H h a (.ext (aW a C d)) :=
 ⟨⟨t,e⟩,⟨_,e⟩,fun _ _ ⟨u,z⟩ k=>⟨u,k _ z⟩⟩
section
variable{X:Cx}{pins:List (Addr×Obj)}{σ:St}{H:Hp}{s:Dd}{a C dx:Addr}{f:Str}{v:V}{A:DM}{E:Dc->Dd->Prop}
theorem qM{Q:Unit->Dd->Prop}(I:Inv X pins σ H s)(e:H a=some (.ext (aW a C none)))(c:XCls X.K C)(n:df X.K C f)(r:RelV v u)
 (h:∀s' dx,H dx=none->dx≠a->Inv X pins σ (upd (upd H a (.ext (aW a C (some dx)))) dx (.xd [(f,v)])) s'->Q () s'):Dr (Dw X.prog X.w) A (setAttr (.ref a) f u) Q E s:=by
 obtain⟨⟨t,ea⟩,_,_⟩:=(show aK X.prog X.w H s.heap a (.ext (aW a C none))from I.hok a _ e);refine xF (mA:=fun _=>none) (ns:=[]) I.kIn c.xc c.sa n ea (.inl ⟨rfl,fun _=>rfl⟩) Within.nil (DG _) fun h' tk dx e1 e2 ne hdx kk=>?_
 obtain hz:s.heap.objs.size<=dx:=by
  rcases hdx with z|⟨_,z⟩
  · cases z
  · exact z
 have fr:H dx=none:=I.hok.fresh hz;have lt:∀b o,s.heap.get? b=some o->b≠dx:=fun b o q=>DB (Dk (Df q) hz);have ltH:∀b o,H b=some o->b≠dx:=fun b o q=>aq q fr;have nea:∀b,H b=none->b≠a:=fun b q z=>by rw[z,e]at q;cases q
 have up:∀b o,b≠a->H b=some o->upd (upd H a (.ext (aW a C (some dx)))) dx (.xd [(f,v)]) b=some o:=fun b o n q=>by
  rw[ae (ltH b o q),ae n];exact q
 refine h _ dx fr ne (I.un (h':=h') (t':=tk) ⟨fun b o q n _ _=>kk b o (nea b n) (lt b o q) q,fun b o q n _ _=>⟨o.slots,kk b o (nea b n) (lt b o q) q⟩,fun b o q n _=>?_,fun b o q _=>?_,fun b xs q=>up b _ ?_ q,fun b o u q=>up b _ ?_ q,fun b ps q=>⟨#[],by rw[up b _ (du q e (fun z=>nomatch z)) q];simp⟩⟩ fun b o q=>?_)
 · rw[ae (lt b o q),ae (nea b n)];exact n
 · by_cases hb:b=a
   · subst hb;exact⟨_,e1⟩
   · exact⟨o,kk b o hb (lt b o q) q⟩
 · exact du q e (fun z=>nomatch z)
 · exact du q e (fun z=>nomatch z)
 · by_cases hd:b=dx
   · subst hd;rw[aj]at q;cases q;refine⟨_,e2,fun g=>?_⟩;by_cases hg:g=f
     · subst hg;have hb:(g==g)=true:=by simp
       simp only[Ik,hb,if_true];exact r
     · have hb:(g==f)=false:=beq_eq_false_iff_ne.mpr hg;simp only[Ik,hb,if_neg hg];exact Gc
   · rw[ae hd]at q;by_cases hb:b=a
     · subst hb;rw[aj]at q;cases q;exact mW e1
     · rw[ae hb]at q;refine(I.hok b o q).stay (fun c u hc z=>kk c u ?_ (lt c u z) z) (fun c z=>up c _ (du z e (fun y=>nomatch y)) z) fun c xs z=>up c _ (du z e (fun y=>nomatch y)) z;rcases hc with rfl|hc
       · exact hb
       · exact du hc e (fun y=>nomatch y)
end
section
variable{M:JZ}{A:DM}{E:Dc->Dd->Prop}{s:Dd}{env:Env}{K:W.Frag}
theorem qP{x:Sem Dc}{Q:Flow->Dd->Prop}(hh:A.handled=none)
 (h:Dr M A x (fun v s1=>∃a C t d,v = .ref a/\K.In s1.heap/\nh K C=true/\s1.heap.get? a=some (cq C t d)/\E (.ref a) s1) E s):Dr M A (raiseStmt env (some x) none) Q E s:=by
 unfold raiseStmt;refine C9 (DC h (fun v s1 ⟨a,C,t,d,ev,X,q,ea,z⟩=>?_) fun _ _ y=>y);subst ev;obtain⟨nm,qn,N,bs,bm,sn,sub,ab,col,dd,k0,k1,k2,k3,k5,lk,T⟩:=gC X q;have hC:=X _ _ lk;have hcB:(Dn C::bm).contains (.type "BaseException")=true:=by rw[GP,T.hasType (X := "BaseException") (b:=true) (by decide +kernel),IJ]
 obtain⟨hp,g,dr,tk,os⟩:=s1;have hx:hp.get? a=some {cls:=.ref C,dict:=d,data:=.fields #[.ref t,.none,.none,.none,.bool false,.none]}:=ea
 repeat (first|(with_reducible refine FQ hx ?_)|(with_reducible refine FQ hC ?_)|((with_reducible refine Hm hC ?_);rw[hcB])|wp_step)
 exact wpAny_raiseNew_none hh z
end
structure XMk (K:W.Frag) (C f:Addr):Prop where
 cl:XCls K C
 init:W.findIn K (.ref C) "__init__" = some (some (.ref f))
 fn:W.isFn K (.ref f)=true
 kp:W.keepIn K (.ref C)=true
noncomputable def Bk(K:W.Frag)(n:Str):Sp:=fun vs H Q _=>∃a C y,vs=[.ref a,y]/\XCls K C/\df K C n/\H a=some (.ext (aW a C none))/\∀dx,H dx=none->dx≠a->Q .non (upd (upd H a (.ext (aW a C (some dx)))) dx (.xd [(n,y)]))
noncomputable def Bp(K:W.Frag)(ta tv:TE)(n:Str):TS:=fun D σ H=>tv σ H fun y H1=>ta σ H1 fun x H2=>∃a C,x = .ref a/\XCls K C/\df K C n/\H2 a=some (.ext (aW a C none)) /\
 ∀dx,H2 dx=none->dx≠a->D.nx σ (upd (upd H2 a (.ext (aW a C (some dx)))) dx (.xd [(n,y)]))
section
variable{X:Cx}{o value:Expr}{n:Str}{pos pos':Pos}{ta tv:TE}
theorem xR(ha:PE X o ta)(hv:PE X value tv)(hs:autoParam (ET value (some (.Attribute o n pos')) pos.line X.env=pure false) æa._auto_1):PS X (.Assign [.Attribute o n pos'] value pos) (Bp X.K ta tv n):=by
 intro pins s σ H D I h;refine plainObj_wpAny_Assign_Attribute (A8 (hv pins s σ H _ I h) fun u s1 ⟨y,H1,I1,ry,q⟩=>A8 (ha pins s1 σ H1 _ I1 q) fun ov s2 ⟨x,H2,I2,rx,a,C,ex,c,na,ea,q2⟩=>?_) hs;subst ex;obtain rfl:ov=Dn a:=rx;exact qM I2 ea c na ry fun s3 dx hd ne I3=>⟨σ,_,I3,q2 dx hd ne⟩
end
section
variable{X:Cx}{k:Nat}{f C:Addr}{fd:Fv}{ps:List Str}{x n:Str}{p pos rpos:Pos}{e:Expr}{t:TA}
theorem ll(M:XMk X.K C f)(na:df X.K C n)(F:FnOk X.prog X.w X.K X.mg X.base C2 k f fd ps (Bk X.K n))(hr:Room (k+1) X.A)(hb:Binds X.K fd ps [])
 (I:Inv X pins σ H s)(r:RelV v u)
 (h:∀s' a dx,H a=none->H dx=none->dx≠a->X.s₀.heap.objs.size<=a->Inv X pins σ (upd (upd H a (.ext (aW a C (some dx)))) dx (.xd [(n,v)])) s'->Q (.ref a) s') :
 Dr (Dw X.prog X.w) X.A (call (.ref C) [u]) Q X.xe s:=by
 refine kf I.kIn M.cl.xc M.init (beq_iff_eq.mp M.fn) (by size_fits) ?_;have kk:∀b o,s.heap.get? b=some o->(bx s.heap C [u]).get? b=some o:=fun b o e=>Db _ (Db _ e);have hg:(bx s.heap C [u]).get? (s.heap.objs.size+1)=some (cq C s.heap.objs.size none):=by heap_get
 have I2:Inv X pins σ (upd H (s.heap.objs.size+1) (.ext (aW (s.heap.objs.size+1) C none))) {s with heap:=bx s.heap C [u]}:=I.laid (t':=s.toks) kk (Jk _) (mW hg);have fa:H (s.heap.objs.size+1)=none:=I.hok.fresh (Jk _);have r2:bT [V.ref (s.heap.objs.size+1),v] [Dn (s.heap.objs.size+1),u]:=.cons rfl (.cons r .nil)
 have hq:Bk X.K n [V.ref (s.heap.objs.size+1),v] (upd H (s.heap.objs.size+1) (.ext (aW (s.heap.objs.size+1) C none))) (fun y H'=>y = .non/\∃dx,H dx=none/\dx≠s.heap.objs.size+1/\H'=upd (upd H (s.heap.objs.size+1) (.ext (aW (s.heap.objs.size+1) C (some dx)))) dx (.xd [(n,v)])) E0 :=
  ⟨_,C,v,rfl,M.cl,na,aj,fun dx hd ne=>⟨rfl,dx,by rw[ae ne]at hd;exact hd,ne,by rw[qB]⟩⟩
 have hl:([Dn (s.heap.objs.size+1),u]++([]:List Dc)).length=ps.length:=by
  have z:=r2.length;rw[F.len _ _ _ _ hq]at z;exact z.symm
 have hb2:=hb {s with heap:=bx s.heap C [u]} [Dn (s.heap.objs.size+1),u] I2.kIn hl;rw[EA]at hb2;refine Jy (FR (F.run _ X.stack _ _ ⟨[Dn (s.heap.objs.size+1),u],[]⟩ [Dn (s.heap.objs.size+1),u] _ _ E0 (hr.make C [u] []) (I2.env0.make C [u] []) hb2 r2 hq) fun r s' hq'=>?_)
 cases r with
 | error e=>exact hq'.elim
 | ok fl =>
   cases fl with
   | ret y =>
     obtain⟨z,H',I3,rv,ev,dx,hd,ne,eH⟩:=I2.after hq';subst ev eH;have ey:y=D3:=rv
     exact⟨ey,h _ _ dx fa hd ne (Ef I.sz (Jk _)) I3⟩
   | next=>exact D9 hq'
   | brk=>exact D9 hq'
   | cont=>exact D9 hq'
noncomputable def uC(C:Addr)(n:Str)(XE:Addr->Addr->V->Hp->Prop)(t:TA):TS:=fun _ σ H=>t σ H fun vs H1=>∃v,vs=[v]/\∀a dx,H1 a=none->H1 dx=none->dx≠a->XE a dx v (upd (upd H1 a (.ext (aW a C (some dx)))) dx (.xd [(n,v)]))
theorem nU{XE:Addr->Addr->V->Hp->Prop}(M:XMk X.K C f)(na:df X.K C n)(F:FnOk X.prog X.w X.K X.mg X.base C2 k f fd ps (Bk X.K n))(hr:Room (k+1) X.A)(hb:Binds X.K fd ps [])(hg:Gl X x)(hm:X.mg x=some (.ref C))
 (pa:PA X [e] t)(hx:∀pins σ H s a dx v,Inv X pins σ H s->X.s₀.heap.objs.size<=a->dx≠a->H a=some (.ext (aW a C (some dx)))->H dx=some (.xd [(n,v)])->XE a dx v H->X.xe (.ref a) s)
 (hdb:autoParam ((x==("__debug__" : Str))=false) æb._auto_1)(hs:autoParam (Dh [e] X.env=(false,eval e X.env)::Dh [] X.env) æa._auto_1):PS X (.Raise (some (.Call (.Name x p) [e] [] pos)) none rpos) (uC C n XE t):=by
 intro pins s σ H D I h;rw[arm_exec_Raise];refine C9 (ED (qP (K:=X.K) hr.hd ?_));refine C9 (DC (E4 (gc I hg hm ?_ hdb)) (fun v s3 (h3:∃a C t d,v = .ref a/\X.K.In s3.heap/\nh X.K C=true/\s3.heap.get? a=some (cq C t d)/\X.xe (.ref a) s3)=>C9 (ED (De h3))) fun _ _ y=>y);refine W.callWith_K (h₀:=X.base) I.ok.mod.kin M.kp (A8 (pa pos pins s σ H _ I h) fun us s1 ⟨vs,H1,I1,r,v,ev,q⟩=>⟨I1.kIn,?_⟩) hs rfl;subst ev
 cases r with
 | cons r1 r2 =>
   cases r2;refine ll M na F hr hb I1 r1 fun s' a dx ha hd ne sz I3=>?_;have ea:upd (upd H1 a (.ext (aW a C (some dx)))) dx (.xd [(n,v)]) a=some (.ext (aW a C (some dx))):=by rw[ae (Fm ne),aj]
   obtain⟨⟨t,e3⟩,_,_⟩:=(show aK X.prog X.w _ s'.heap a (.ext (aW a C (some dx)))from I3.hok a _ ea);exact⟨a,C,t,some dx,rfl,I3.kIn,M.cl.xc,e3,hx pins σ _ s' a dx v I3 sz ne ea aj (q a dx ha hd ne)⟩
end
theorem d0{o:HO}(x:aK P w H h a o):∃ob,h.get? a=some ob:=by
 cases o with
 | lst xs=>obtain⟨_,_,_,_,e⟩:=x;exact⟨_,e⟩
 | tup xs=>obtain⟨_,_,_,⟨_,e,_⟩⟩:=x;exact⟨_,e⟩
 | dK kvs=>obtain⟨_,_,_,_,o,_,_,e,_⟩:=x;exact⟨_,e⟩
 | dT kvs=>obtain⟨_,_,_,_,o,_,_,e,_⟩:=x;exact⟨_,e⟩
 | set S n=>obtain⟨o,_,_,_,e,_⟩:=x;exact⟨_,e⟩
 | ins C dx fs=>obtain⟨_,_,_,e,_⟩:=x;exact⟨_,e⟩
 | own y=>exact x
 | xd fs=>obtain⟨_,⟨_,_,_,e,_⟩,_⟩:=x;exact⟨_,e⟩
 | rng lo hi=>obtain⟨_,_,_,e⟩:=x;exact⟨_,e⟩
 | frz ob u=>obtain⟨e,_⟩:=x;exact⟨_,e⟩
 | tbl ps=>exact⟨_,(show h.get? a=some _ from x)⟩
 | met f y=>exact⟨_,(show h.get? a=some _ from x)⟩
 | ext φ=>obtain⟨_,e,_⟩:=x;exact e
noncomputable def dM(H:Hp)(a:Addr):Hp:=fun b=>if b=a then none else H b
theorem cD:dM H a a=none:=by unfold dM;rw[if_pos rfl]
theorem js(n:b≠a):dM H a b=H b:=by unfold dM;rw[if_neg n]
noncomputable def C1(P:Dq)(w:DN):CZ:=fun outer H s E e s'=>∃a C dx T H',e = .ref a/\s'.os=s.os/\Ib s'.gens/\Un (frs outer) [] H H' s.heap s'.heap/\CW P w H' s'.heap/\C7 s'.heap a (.ref C) (some dx) T .none /\
 H' a=none/\H' T=none/\s.heap.get? a=none/\s.heap.get? T=none/\E (.ref C) (some dx) H'
section
variable{P:Dq}{w:DN}{K:W.Frag}{mg:Str->Option Dc}{base:Heap}{N:List Str}{qual:Str}{scope:Scope}{f:Addr}{cd:Dc}{A:DM}{outer:List Env}{s s1:Dd}{H H1:Hp}{E:XK}{pins:List (Addr×Obj)}{σ:St}{a C dx:Addr}
theorem qc(I:Inv (jC (C1 P w) P w K mg base N qual scope f cd A outer s H E) pins σ H1 s1)(sz:s.heap.objs.size<=a)(ne:dx≠a)(ea:H1 a=some (.ext (aW a C (some dx))))(q:E (.ref C) (some dx) (dM H1 a)) :
 (jC (C1 P w) P w K mg base N qual scope f cd A outer s H E).xe (.ref a) s1:=by
 obtain⟨⟨t,e1⟩,_,_⟩:=(show aK P w H1 s1.heap a (.ext (aW a C (some dx)))from I.hok a _ ea);refine rV I.ok.frames I.stack rfl ⟨_,_,e1,rfl,rfl,rfl,rfl⟩ fun h' T nT air bt=>?_;have B:=I.base;have fra:s.heap.get? a=none:=IU sz;have nea:∀b o,s.heap.get? b=some o->b≠a:=fun b o e z=>by rw[z,fra]at e;cases e
 have nfr:∀b o,s.heap.get? b=some o->b∉frs outer->b∉frs (Hz qual scope s.heap.objs.size f cd::outer):=fun b o e n z=>by
  unfold frs at z;rw[FT]at z;rcases DS.mp z with y|y
  · exact absurd (Df e) (by rw[y];exact D_ _)
  · exact n y
 have infr:∀b,b∈frs outer->b∈frs (Hz qual scope s.heap.objs.size f cd::outer):=fun b z=>by
  unfold frs;rw[FT];exact Dl _ z
 have un1:∀b,b≠a->dM H1 a b=H1 b:=fun b n=>js n;refine⟨a,C,dx,T,dM H1 a,rfl,I.os,I.bare,⟨fun b o e n m _=>?_,fun b o e n m _=>?_,fun b o e n _=>?_,fun b o e _=>?_,fun b xs e=>?_,fun b o u e=>?_,fun b ps e=>?_⟩,fun b o e=>?_,air,cD,?_,fra,?_,q⟩
 · exact bt.keep b o (by simpa using nea b o e) (nfr b o e m) (B.keep b o e n m (fun z=>nomatch z))
 · obtain⟨sl,e2⟩:=B.slot b o e n m (fun z=>nomatch z);obtain⟨sl',e3⟩:=bt.slot b _ (by simpa using nea b o e) (infr b m) e2;exact⟨sl',e3⟩
 · rw[un1 b (nea b o e)];exact B.free b o e n (fun z=>nomatch z)
 · obtain⟨o1,e2⟩:=B.there b o e (fun z=>nomatch z);exact bt.there b o1 e2
 · have z:=B.tups b xs e;rw[un1 b (du z ea (fun y=>nomatch y))];exact z
 · have z:=B.frzs b o u e;rw[un1 b (du z ea (fun y=>nomatch y))];exact z
 · obtain⟨m,z⟩:=B.tbls b ps e;exact⟨m,by rw[un1 b (du z ea (fun y=>nomatch y))];exact z⟩
 · have hb:b≠a:=fun z=>by rw[z,cD]at e;cases e
   rw[un1 b hb]at e;refine(I.hok b o e).stay (fun c u hc z=>?_) (fun c z=>by rw[un1 c (du z ea (fun y=>nomatch y))];exact z) fun c xs z=>by rw[un1 c (du z ea (fun y=>nomatch y))];exact z
   have hH:∃o',H1 c=some o':=by
    rcases hc with rfl|hc
    · exact⟨_,e⟩
    · exact⟨_,hc⟩
   have hca:c≠a:=by
    rcases hc with rfl|hc
    · exact hb
    · exact du hc ea (fun y=>nomatch y)
   refine bt.keep c u (by simpa using hca) (fun m=>?_) z;obtain⟨o',hH⟩:=hH;rw[I.stkFree c m]at hH;cases hH
 · by_cases hT:T=a
   · rw[hT];exact cD
   · rw[un1 T hT]
     cases z:H1 T with
     | none=>rfl
     | some o =>
       obtain⟨o',e'⟩:=d0 (I.hok T o z);rw[nT]at e';cases e'
 · cases z:s.heap.get? T with
   | none=>rfl
   | some o =>
     obtain⟨o1,e2⟩:=B.there T o z (fun y=>nomatch y);rw[nT]at e2;cases e2
end
theorem PA.nox{t:TA}(h:PA X.nox es t):PA X es t:=fun pos pins s σ H Q I hw =>
 DC (h pos pins s σ H Q (I.wish _) hw) (fun _ _ ⟨v,H',I',r,q⟩=>⟨v,H',I'.unwish,r,q⟩) fun _ _ z=>D9 z
namespace VL
abbrev XQ:=Str->List (Str×Da)->Prop
abbrev B7(K:W.Frag)(rl:Option Addr)(F H Fs:Hp)(E:XK)(c:Str)(fs:List (Str×Da)):Prop:=∀C dx F' H' us,Grow rl F H F' H'->aR Fs F'->W.nsIn K Ds c=some (some (.ref C))->H' dx=some (.xd us)->H dx=none->F' dx=none->CL K F' us fs->E (.ref C) (some dx) H'
abbrev sT(K:W.Frag)(rl:Option Addr)(F H Fs:Hp)(E:XK)(QE:XQ):Prop:=∀c fs,QE c fs->B7 K rl F H Fs E c fs
theorem sT.on{K:W.Frag}{Fs Fs':Hp}{E:XK}{QE:XQ}(l:sT K rl F H Fs E QE)(s:aR Fs Fs'):sT K rl F H Fs' E QE:=fun c fs z C dx F' H' us g m=>l c fs z C dx F' H' us g (s.trans m)
noncomputable def zS(K:W.Frag)(rl:Option Addr)(P:List W->(Da->Prop)->XQ->Prop):Sp:=fun vs H Q E=>∃F ws,aR F H/\Co rl F H/\dN K rl F H vs ws/\ws.all cU=true/\P ws (fun d=>∀v F' H',Grow rl F H F' H'->Rep K F' v d->Q v H') (B7 K rl F H F E)
noncomputable def tw(X:Cx)(rl:Option Addr)(E:XK)(body:List Stmt)(t:VEnds->XQ->En->Prop):Prop:=∃T,Cv X body T/\∀{F₀ H₀ F H:Hp}{σ:St}{ρ:En},VR X.K rl F₀ H₀ F H σ ρ->∀Dv D QE,EndsOk X.K rl F₀ H₀ F Dv D->sT X.K rl F₀ H₀ F E QE->t Dv QE ρ->T D σ H
section
variable{X:Cx}{rl:Option Addr}{E:XK}{st:Stmt}{rest body:List Stmt}{t:Cb}{u:VEnds->XQ->En->Prop}{c e:Expr}{f:TB}{fs:Ca}{pos:Pos}
theorem PB.nox(h:PB X.nox rl c f):PB X rl c f:=let ⟨t,p,k⟩:=h;⟨t,p.nox,k⟩
theorem il.nox(h:il X.nox rl body t):il X rl body t:=let ⟨T,p,k⟩:=h;⟨T,p.nox,k⟩
theorem Cr.nox{es:List Expr}(h:Cr X.nox rl es fs):Cr X rl es fs:=let ⟨T,p,k⟩:=h;⟨T,p.nox,k⟩
noncomputable def AO(t:Cb):VEnds->XQ->En->Prop:=fun Dv _ ρ=>t Dv ρ
theorem Ar(h:il X.nox rl body t):tw X rl E body (AO t):=by
 obtain⟨T,p,k⟩:=h.nox;exact⟨T,p,fun R Dv D _ ok _ q=>k R Dv D ok q⟩
structure XOne (P:Dq) (w:DN) (K:W.Frag) (mg:Str->Option Dc) (base:Heap) (x n:Str) (C:Addr):Prop where
 at_:W.nsIn K Ds x=some (some (.ref C))
 mg_:mg x=some (.ref C)
 no:df K C n
 ex:∃f fd ps,XMk K C f/\Binds K fd ps []/\FnOk P w K mg base C2 1 f fd ps (Bk K n)
noncomputable def AQ(f:TB)(x n:Str)(fs:Ca)(u:VEnds->XQ->En->Prop):VEnds->XQ->En->Prop:=fun Dv QE ρ=>f ρ fun b=>if b=true then fs ρ fun ws=>∃d,ws=[.d d]/\QE x [(n,d)]else u Dv QE ρ
theorem As{n:Str}{p rpos:Pos}(hxe:∀pins σ H s a C dx,Inv X pins σ H s->X.s₀.heap.objs.size<=a->dx≠a->H a=some (.ext (aW a C (some dx)))->E (.ref C) (some dx) (dM H a)->X.xe (.ref a) s)
 (hr:Room 2 X.A)(xo:XOne X.prog X.w X.K X.mg X.base x n C)(hc:PB X.nox rl c f)(ha:Cr X.nox rl [e] fs)(h2:tw X rl E rest u)(hg:autoParam (Gl X x) æa._auto_1)(hdb:autoParam ((x==("__debug__" : Str))=false) æb._auto_1)
 (hs:autoParam (Dh [e] X.env=(false,eval e X.env)::Dh [] X.env) æa._auto_1) :
 tw X rl E (.If c [.Raise (some (.Call (.Name x p) [e] [] cpos)) none rpos] [] pos::rest) (AQ f x n fs u):=by
 obtain⟨t0,p0,k0⟩:=hc.nox;obtain⟨t1,p1,k1⟩:=ha.nox;obtain⟨T2,p2,k2⟩:=h2;obtain⟨fa,fd,ps,M,hb,F⟩:=xo.ex;have pr:=nU (p:=p) (pos:=cpos) (rpos:=rpos) (XE:=fun a dx _ H=>E (.ref C) (some dx) (dM H a)) M xo.no F hr hb hg xo.mg_ p1 (fun pins σ H s a dx v I sz ne ea _ q=>hxe pins σ H s a C dx I sz ne ea q) hdb hs;refine⟨_,fV (u6 p0 (dZ pr) ly) p2,fun{F₀ H₀ F H σ ρ} R Dv D QE ok l q=>k0 R _ _ q fun b F1 H1 g1 q1=>?_⟩
 cases b with
 | true =>
   have q1:fs ρ fun ws=>∃d,ws=[.d d]/\QE x [(n,d)]:=q1;refine k1 (R.grow g1) _ _ q1 fun vs ws F2 H2 g2 r2 ⟨d,ew,qe⟩=>?_;subst ew
   cases r2 with
   | @cons v _ vs' _ r r' =>
     cases r';refine⟨v,rfl,fun a dx na nd ne=>?_⟩
     have eh:dM (upd (upd H2 a (.ext (aW a C (some dx)))) dx (.xd [(n,v)])) a=upd H2 dx (.xd [(n,v)]):=by
      funext b;by_cases hb:b=a
      · subst hb;rw[cD,ae (Fm ne)];exact na.symm
      · rw[js hb];by_cases hd:b=dx
        · subst hd;rw[aj,aj]
        · rw[ae hd,ae hb,ae hd]
     show E _ _ (dM _ _);rw[eh];have g3:=(R.g.trans g1).trans g2
     exact l x _ qe C dx F2 _ [(n,v)] (g3.trans (Grow.laid g2.sub g2.reel nd)) (g1.fs.trans g2.fs) xo.at_ aj (g3.freeB nd) (g2.sub.free nd) (.cons ⟨rfl,r⟩ .nil)
 | false=>exact k2 (R.grow g1) Dv D QE (ok.on g1.fs) (sT.on l g1.fs) q1
end
structure DfnE (P:Dq) (w:DN) (K:W.Frag) (mg:Str->Option Dc) (base:Heap) (rl:Option Addr) (x:Str) (ps:List Str) (k:Nat) (Pd:List W->(Da->Prop)->XQ->Prop):Prop where
 mono:∀ws Q Q' R R',(∀d,Q d->Q' d)->(∀c fs,R c fs->R' c fs)->Pd ws Q R->Pd ws Q' R'
 ex:∃f fd,mg x=some (.ref f)/\W.keepIn K (.ref f)=true/\Binds K fd ps []/\FnOk P w K mg base (C1 P w) k f fd ps (zS K rl Pd)
section
variable{P:Dq}{w:DN}{K:W.Frag}{mg:Str->Option Dc}{base:Heap}{rl:Option Addr}{x:Str}{st:Stmt}{N ps:List Str}{k:Nat}{Pd:List W->(Da->Prop)->XQ->Prop}{t:VEnds->XQ->En->Prop}
theorem DfnE.of(Fn:FnIn K mg x st ps)(S:FnScope N ps (defScope st))(mono:∀ws Q Q' R R',(∀d,Q d->Q' d)->(∀c fs,R c fs->R' c fs)->Pd ws Q R->Pd ws Q' R')(len:∀ws Q R,Pd ws Q R->ws.length=ps.length)
 (hbody:∀{f:Addr}(cdv:Dc)(A:DM)(outer:List Env)(s:Dd)(H:Hp)(E:XK),Room k (A.deeper (Hz x (defScope st) s.heap.objs.size f cdv)) ->
  (∀pins σ H1 s1 a C dx,Inv (jC (C1 P w) P w K mg base N x (defScope st) f cdv A outer s H E) pins σ H1 s1->s.heap.objs.size<=a->dx≠a->H1 a=some (.ext (aW a C (some dx)))->E (.ref C) (some dx) (dM H1 a) ->
   (jC (C1 P w) P w K mg base N x (defScope st) f cdv A outer s H E).xe (.ref a) s1) ->
  tw (jC (C1 P w) P w K mg base N x (defScope st) f cdv A outer s H E) rl E (defBody st) t)
 (hread:∀ws Q R,Pd ws Q R->t (ip Q) R (bU N ws)):DfnE P w K mg base rl x ps (k+1) Pd:=by
 obtain⟨f,fd,hm,F,hb⟩:=Fn.ex;refine⟨mono,f,fd,hm,F.kp,hb,?_⟩;obtain⟨oc,od,kV,doc,pm,an,cdv,ct,osl,rfl,lk,hcd⟩:=F.ex;refine wc lk hcd S (fun vs H Q E ⟨F,ws,_,_,r,_,q⟩=>(EH r).trans (len ws _ _ q)) fun A outer s H vs Q E hr h=>?_;obtain⟨F,ws,sm,ra,r,ok,q⟩:=h;obtain⟨T,p,kk⟩:=hbody cdv A outer s H E hr (fun pins σ H1 s1 a C dx I sz ne ea q=>qc I sz ne ea q);refine⟨T,p,kk (fH sm ra r ok) (ip _) _ _ ⟨?_,?_,fun _ _ _ _ _ _ z=>D9 z,fun _ _ _ _ _ _ z=>D9 z⟩ (fun c fs z=>z) (hread ws _ _ q)⟩
 · intro F1 H1 σ1 ρ1 _ R1 q1;exact q1 .non F1 H1 R1.g .non
 · rintro v w1 F1 H1 g1 r1 n1 ⟨d,ed,q1⟩;obtain⟨F2,g2,s2,r2⟩:=cE.fz g1 r1 n1;rw[ed]at r2;exact q1 v F2 H1 g2 r2
end
end VL
theorem po{fs l:List Addr}{h1 h2:Heap}(u:Un fs [] H H' h h1)(bt:But fs l h1 h2)(fr:∀b∈l,h.get? b=none):Un fs [] H H' h h2:=by
 have nl:∀b o,h.get? b=some o->b∉l:=fun b o e z=>by rw[fr b z]at e;cases e
 refine⟨fun b o e n m x=>bt.keep b o (nl b o e) m (u.keep b o e n m x),fun b o e n m x=>?_,u.free,fun b o e x=>?_,u.tups,u.frzs,u.tbls⟩
 · obtain⟨sl,e1⟩:=u.slot b o e n m x;obtain⟨sl',e2⟩:=bt.slot b _ (nl b o e) m e1;exact⟨sl',e2⟩
 · obtain⟨o1,e1⟩:=u.there b o e x;exact bt.there b o1 e1
theorem mj{fs l:List Addr}{h1 h2:Heap}(ok:CW P w H h1)(bt:But fs l h1 h2)(fr:∀b∈l,H b=none)(ff:∀b∈fs,H b=none):CW P w H h2:=fun b o e=>by
 have nt:∀c u,H c=some u->c∉l/\c∉fs:=fun c u q=>⟨fun z=>(by rw[fr c z]at q;cases q),fun z=>(by rw[ff c z]at q;cases q)⟩;refine(ok b o e).stay (fun c u hc z=>?_) (fun _ q=>q) fun _ _ q=>q;rcases hc with rfl|hc
 · exact bt.keep c u (nt c _ e).1 (nt c _ e).2 z
 · exact bt.keep c u (nt c _ hc).1 (nt c _ hc).2 z
theorem ur{fs:List Addr}{h1:Heap}{o:HO}(u:Un fs [] H H' h h1)(na:H' a=none)(fa:h.get? a=none):Un fs [] H (upd H' a o) h h1:=by
 have nea:∀b o,h.get? b=some o->b≠a:=fun b o e z=>by rw[z,fa]at e;cases e
 refine⟨u.keep,u.slot,fun b o e n x=>?_,u.there,fun b xs e=>?_,fun b o u' e=>?_,fun b ps e=>?_⟩
 · rw[ae (nea b o e)];exact u.free b o e n x
 · have z:=u.tups b xs e;rw[ae (aq z na)];exact z
 · have z:=u.frzs b o u' e;rw[ae (aq z na)];exact z
 · obtain⟨m,z⟩:=u.tbls b ps e;exact⟨m,by rw[ae (aq z na)];exact z⟩
theorem su{o:HO}(ok:CW P w H h)(na:H a=none)(new:aK P w (upd H a o) h a o):CW P w (upd H a o) h:=fun b u e=>by
 by_cases hb:b=a
 · subst hb;rw[aj]at e;cases e;exact new
 · rw[ae hb]at e;exact(ok b u e).stay (fun _ _ _ z=>z) (fun c q=>by rw[ae (aq q na)];exact q) fun c xs q=>by rw[ae (aq q na)];exact q
section
variable{X:Cx}{pins:List (Addr×Obj)}{σ:St}{H:Hp}{s:Dd}
theorem mw{M:JZ}{n:Str}{Q:Unit->Dd->Prop}(I:Inv X pins σ H s)(hN:X.N.Nodup)(hi:X.N[i]?=some n)(hk:X.env.scope.names.lookup n=some .local)
 (h:∀s',Inv X pins (σ.set i none) H s'->Q () s'):Dr M A (do JK X.env n .none;unbindBehindTheSuite X.env n pos) Q E s:=by
 obtain⟨m,hn,hl⟩:=id I.loc;obtain⟨oL,_,_,hoL,_⟩:=id hn;refine wpAny_nameGoes_keeps hk hn (by rw[I.ok.kind];rfl) fun h' v hn' hs=>?_;have low:∀b o,X.s₀.heap.get? b=some o->b≠X.env.locals:=fun b o e=>DB (Dk (Df e) I.ok.above);refine h _ ⟨I.ok,I.os,I.bare,⟨fun b o e n hb hx=>(hs.2 b (low b o e)).trans (I.base.keep b o e n hb hx),fun b o e n hb hx=>?_,I.base.free,fun b o e hx=>?_,I.base.tups,I.base.frzs,I.base.tbls⟩,⟨_,hn',fun j y v' e1 e2 e3=>?_⟩,fun y c e=>?_,I.free,I.freeC,fun p hp=>?_,fun b o e=>?_,by simpa using I.len⟩
 · obtain⟨sl,e1⟩:=I.base.slot b o e n hb hx;exact⟨sl,(hs.2 b (low b o e)).trans e1⟩
 · obtain⟨o',e1⟩:=I.base.there b o e hx;exact⟨o',(hs.2 b (low b o e)).trans e1⟩
 · have hj:i≠j:=fun z=>by
     subst z;rw[DU]at e2;split at e2
     · split at e2<;>cases e2
     · rename_i q;exact q rfl
   rw[Dp hj]at e2
   have hy:y≠n:=fun z=>by
    subst z;exact hj (fX hN hi e1)
   obtain⟨u,ru,l⟩:=hl j y v' e1 e2 e3;refine⟨u,ru,?_⟩;rcases l with⟨k,z⟩|⟨k,c,e,o,ho,hd⟩
   · exact .inl ⟨k,by show(if y=n then v else m y)=_;rw[if_neg hy];exact z⟩
   · exact .inr ⟨k,c,e,o,(hs.2 c (I.cne y c e)).trans ho,hd⟩
 · obtain⟨v',o,ho,hd⟩:=I.cell y c e;exact⟨v',o,(hs.2 c (I.cne y c e)).trans ho,hd⟩
 · obtain⟨e,z,ne,nf,d⟩:=I.pin p hp;exact⟨(hs.2 p.1 ne).trans e,z,ne,nf,d⟩
 · refine(I.hok b o e).stay (fun c w' hc q=>(hs.2 c ?_).trans q) (fun _ q=>q) fun _ _ q=>q;rintro rfl;rcases hc with rfl|hc
   · rw[I.free]at e;cases e
   · rw[I.free]at hc;cases hc
end
structure XOver (K:W.Frag) (C B:Addr):Prop where
 sub:W.mroIn K C (.ref B)=some true
 exc:W.mroIn K B (.type "BaseException")=some true
 ty:W.typeIn K (.ref B)=some (.type "type")
section
variable{M:JZ}{A:DM}{E:Dc->Dd->Prop}{s:Dd}{K:W.Frag}{C B a:Addr}{oe:Obj}
theorem we{Q:Bool->Dd->Prop}(X:K.In s.heap)(o:XOver K C B)(ha:s.heap.get? a=some oe)(hc:oe.cls = .ref C)(h:Q true s):Dr M A (excMatches (.ref a) (.ref B)) Q E s:=by
 have L1:W.Looks M s.heap (IT (.ref B) (.type "tuple")) false:=(W.looks_typeIn X o.ty).andThen (.of_pure (by rw[isSubtype_type];kernel_rfl))
 have hcl:∃cd,W.clsIn K B=some cd:=by
  have z:=o.exc;unfold W.mroIn at z
  cases q:W.clsIn K B with
  | none=>rw[q]at z;cases z
  | some cd=>exact⟨cd,rfl⟩
 obtain⟨cd,hcd⟩:=hcl;have L2:W.Looks M s.heap (isSubtype (.ref B) (.type "BaseException")) true:=W.looks_mroIn X o.exc;have L3:W.Looks M s.heap (isSubtype (.ref C) (.ref B)) true:=W.looks_mroIn X o.sub
 have L4:W.Looks M s.heap (isType (.ref B)) true:=by
  unfold W.clsIn at hcd;split at hcd
  · rename_i ho;intro A' Q' E' s' k q;unfold isType loadHead;exact C9 (HI (k _ _ (X _ _ ho)) (De q))
  · cases hcd
 have L5:W.Looks M s.heap (typeOf (.ref a)) (.ref C):=hc▸(W.Looks.ld ha).andThen .now;obtain⟨hp,g,d,tk,os⟩:=s;unfold excMatches isExcClass
 repeat (first|(with_reducible refine cH L1 ?_)|(with_reducible refine cH L2 ?_)|(with_reducible refine cH L3 ?_)|(with_reducible refine cH L4 ?_)|(with_reducible refine cH L5 ?_)|wp_step)
 exact h
end
end L2
variable{Pd:List L2.VL.W->(Da->Prop)->L2.VL.XQ->Prop}
namespace L2.VL
theorem wf{dx T:Addr}{fl:Dc}(z:C7 h a (.ref C) (some dx) T fl):aK P w H h a (.ext (cV a C dx)):=by
 obtain⟨oe,vs,_,_,e,c,d,f,_⟩:=z;exact⟨⟨oe,vs,e,c,d,f⟩,⟨_,e⟩,fun _ _ ⟨oe,vs,e,q⟩ k=>⟨oe,vs,k _ e,q⟩⟩
theorem xK{us:List (Str×V)}(h:RO F (.xd us)):False:=by
 unfold RO at h;simp at h
section
variable{X:Cx}{rl:Option Addr}{E:XK}{e:Expr}{es:List Expr}{fs:Ca}{pos p:Pos}
noncomputable def zi(i:Nat)(Pd:List W->(Da->Prop)->XQ->Prop)(fs:Ca):VEnds->XQ->En->Prop:=fun Dv QE ρ=>fs ρ fun ws=>ws.all cU=true/\Pd ws (fun d=>Dv.nx (ρ.set i (some (.d d)))) QE
theorem yr(i:Nat){y:Str}{k:Nat}(hx:fE (C1 X.prog X.w) X E)(hN:X.N.Nodup)(D:DfnE X.prog X.w X.K X.mg X.base rl x ps k Pd)(hr:Room k X.A)(ha:Cr X rl (e::es) fs)(hg:autoParam (Gl X x) æa._auto_1)
 (hi:autoParam (X.N[i]?=some y) æa._auto_1)(hy:autoParam (Loc X.env.scope y) æe._auto_1)(hdb:autoParam ((x==("__debug__" : Str))=false) æb._auto_1)
 (he:autoParam (Dh (e::es) X.env=(false,eval e X.env)::Dh es X.env) æa._auto_1)(hpl:autoParam ((ES pos (Dh es X.env)).any (·.1)=false) æa._auto_1)
 (hs:autoParam (ET (.Call (.Name x p) (e::es) [] pos) (some (.Name y pos')) apos.line X.env=pure false) æa._auto_1)(hf:autoParam (X.fn y=true\/X.env.scope.names.lookup y=some .local) æf._auto_1) :
 tw X rl E [.Assign [.Name y pos'] (.Call (.Name x p) (e::es) [] pos) apos] (zi i Pd fs):=by
 obtain⟨f,fd,hm,hk,hb,F⟩:=D.ex;obtain⟨t,p1,kk⟩:=ha;refine⟨_,dZ (eY hN hi hy (iG (ds:=[]) (dvs:=[]) F hr hg hm hk hb .nil hx p1 hdb he hpl) hs hf),fun{F₀ H₀ F H σ ρ} R Dv D' QE ok l q=>kk R _ _ q fun vs ws F1 H1 g1 r1 ⟨ao,q1⟩=>?_⟩;refine⟨F1,ws,g1.sub,g1.reel,by rw[EA];exact r1,ao,?_⟩;refine D.mono ws _ _ _ _ (fun d qd v F2 H2 g2 r2=>?_) (fun c fs z C dx F' H' us g sm n hd nd fd kd=>?_) q1
 · exact ok.nx _ _ _ _ (g1.fs.trans g2.fs) (R.set (g1.trans g2) (w:=.d d) r2 trivial (fun xs z=>by cases z) i) qd
 · exact l c fs z C dx F' H' us ((R.g.trans g1).trans g) (g1.fs.trans sm) n hd ((R.g.trans g1).freeB nd) fd kd
end
theorem VR.unset{K:W.Frag}(r:VR K rl F₀ H₀ F H σ ρ)(i:Nat):VR K rl F₀ H₀ F H (σ.set i none) (ρ.set i none):=by
 have nd:∀(j:Nat)(y:W),(ρ.set i none)[j]?=some (some y)->i≠j/\ρ[j]?=some (some y):=fun j y z=>by
  by_cases hj:i=j
  · subst hj;rw[DU]at z;split at z
    · split at z<;>cases z
    · rename_i q;exact absurd rfl q
  · rw[Dp hj]at z;exact⟨hj,z⟩
 refine⟨r.g,fun j w z=>?_,fun j k x y v hjk e1 e2 o1 o2 s1 s2=>?_,fun j xs z=>r.np j xs (nd j _ z).2,by simp[r.len]⟩
 · obtain⟨hj,z'⟩:=nd j w z;obtain⟨v,h1,h2⟩:=r.sl j w z';exact⟨v,by rw[Dp hj];exact h1,h2⟩
 · obtain⟨hj,z1⟩:=nd j x e1;obtain⟨hk,z2⟩:=nd k y e2;rw[Dp hj]at s1;rw[Dp hk]at s2;exact r.ap j k x y v hjk z1 z2 o1 o2 s1 s2
noncomputable def zj(i:Nat)(cs:List Str)(tb:VEnds->XQ->En->Prop)(ts:Cb):Cb:=fun Dv ρ=>tb Dv (fun c fs=>c∈cs/\ts ⟨fun ρ'=>Dv.nx (ρ'.set i none),Dv.rt,fun _=>False,fun _=>False⟩ ((Ej ρ.length none).set i (some (.xc c fs)))) ρ
section
variable{X:Cx}{rl:Option Addr}{tb:VEnds->XQ->En->Prop}{ts:Cb}{st b₀:Stmt}{suite:List Stmt}{cb n:Str}{cs:List Str}{B:Addr}{np hpos pos:Pos}
abbrev Cx.caughtIn(X:Cx)(a:Addr):Cx:={X with A:=X.A.mark (some (.ref a)),calm:=false,xe:=fun _ _=>False}
theorem Cx.Ok.caughtIn{X:Cx}(ok:X.Ok)(a:Addr):(Cx.caughtIn X a).Ok :=
 ⟨ok.mod,ok.kind,ok.glob,ok.blt,ok.above,ok.inj,ok.has,ok.cab,(fun z=>nomatch z),ok.frames,ok.stk,ok.exf,ok.bs,ok.bsz,ok.noex,ok.exfs,ok.funs,ok.frf⟩
theorem Inv.caughtIn{pins:List (Addr×Obj)}{σ:St}{H:Hp}{s:Dd}(I:Inv X pins σ H s)(a:Addr):Inv (Cx.caughtIn X a) pins σ H s:=⟨Cx.Ok.caughtIn I.ok a,I.os,I.bare,I.base,I.loc,I.cell,I.free,I.freeC,I.pin,I.hok,I.len⟩
theorem Inv.uncaught(ok:X.Ok)(I:Inv (Cx.caughtIn X a) pins σ H s):Inv X pins σ H s:=⟨ok,I.os,I.bare,I.base,I.loc,I.cell,I.free,I.freeC,I.pin,I.hok,I.len⟩
abbrev Cx.held(X:Cx)(pn:List (Addr×Obj))(XE:Dc->Dd->Prop):Cx:={X with pn:=pn,xe:=XE}
theorem Inv.held(I:Inv X pins σ H s)(XE:Dc->Dd->Prop):Inv (Cx.held X (X.pn++pins) XE) [] σ H s:=by
 have ok:=I.ok;exact⟨⟨ok.mod,ok.kind,ok.glob,ok.blt,ok.above,ok.inj,ok.has,ok.cab,ok.hd,ok.frames,ok.stk,ok.exf,ok.bs,ok.bsz,ok.noex,ok.exfs,ok.funs,ok.frf⟩,I.os,I.bare,I.base,I.loc,I.cell,I.free,I.freeC,fun p hp=>I.pin p (by simpa using hp),I.hok,I.len⟩
theorem Inv.unheld{pins':List (Addr×Obj)}{XE:Dc->Dd->Prop}(ok:X.Ok)(I:Inv (Cx.held X (X.pn++pins) XE) pins' σ H s):Inv X pins σ H s :=
 ⟨ok,I.os,I.bare,I.base,I.loc,I.cell,I.free,I.freeC,fun p hp=>I.pin p (G9 _ hp),I.hok,I.len⟩
theorem tE(i:Nat)(hst:X.stack=X.env::X.outer)(hfl:X.env.frame=some X.env.locals)(hN:X.N.Nodup)(hi:X.N[i]?=some n)(hn:X.env.scope.names.lookup n=some .local)(hmb:X.mg cb=some (.ref B))
 (hcs:∀c∈cs,∀C,W.nsIn X.K Ds c=some (some (.ref C))->XOver X.K C B)
 (hb:∀pn XE E,fE (C1 X.prog X.w) (Cx.held X pn XE) E->tw (Cx.held X pn XE) rl E [st] tb)
 (hs:∀a:Addr,il (Cx.caughtIn X a) rl (b₀::suite) ts)(hg:autoParam (Gl X cb) æa._auto_1)(hdb:autoParam ((cb==("__debug__" : Str))=false) æb._auto_1) :
 Cw X rl (.Try [st] [.ExceptHandler (some (.Name cb np)) (some n) (b₀::suite) hpos] [] [] pos) (zj i cs tb ts):=by
 refine⟨fun D σ H=>∀pins s,Inv X pins σ H s->Dr (Dw X.prog X.w) X.A (exec (.Try [st] [.ExceptHandler (some (.Name cb np)) (some n) (b₀::suite) hpos] [] [] pos) X.env) (SP X pins D) X.xe s,fun pins s σ H D I h=>h pins s I,fun{F₀ H₀ F H σ ρ} R Dv D ok q pins s I=>?_⟩;refine wpAny_Try_except ?_;generalize hXE:(fun e s₁=>Dr (Dw X.prog X.w) X.A (GN e X.env) (fun _ s₂=>Dr (Dw X.prog X.w) X.A (setFlight e none) (fun _ s₃=>Dr (Dw X.prog X.w) X.A (handleBy e X.env [.ExceptHandler (some (.Name cb np)) (some n) (b₀::suite) hpos]) (SP X pins D) X.xe s₃) X.xe s₂) X.xe s₁:Dc->Dd->Prop)=XE;have I':=Inv.held I XE;generalize hQE:(fun c fs=>c∈cs/\ts ⟨fun ρ'=>Dv.nx (ρ'.set i none),Dv.rt,fun _=>False,fun _=>False⟩ ((Ej ρ.length none).set i (some (.xc c fs))):XQ)=QE;have q:tb Dv QE ρ:=by rw[<- hQE];exact q
 let E:XK:=fun cls d H'=>∃C dx F' us c fs,cls = .ref C/\d=some dx/\Grow rl F₀ H₀ F' H'/\aR F F'/\W.nsIn X.K Ds c=some (some (.ref C))/\H' dx=some (.xd us)/\H₀ dx=none/\F' dx=none/\CL X.K F' us fs/\QE c fs
 have pass:fE (C1 X.prog X.w) (Cx.held X (X.pn++pins) XE) E:=by
  rintro pins2 σ2 H2 s2 e s' J ⟨a,C,dx,T,H',rfl,hos,bare,un,hok,air,na,nT,fa,fT,⟨C',dx',F',us,c,fs,eC,ed,g,smF,ns,hxd,hd0,fd0,kd,qe⟩⟩;cases eC;cases ed;have okX:=I.ok;have J0:Inv X pins σ2 H2 s2:=Inv.unheld okX J;have J1:Inv X pins σ2 H' s':=J0.call' hos un hok bare (fun _ z=>nomatch z);have hfr:X.A.frames=some (X.env::X.outer):=by rw[<- hst];exact okX.frames
  have hst1:s'.heap.FunFrames X.base (X.env::X.outer):=by rw[<- hst];exact J1.stack
  show XE (.ref a) s';rw[<- hXE];refine vB hfr hst1 hfl air fun h3 T' nT' air3 bt3=>yp (s:={s' with heap:=h3}) air3 fun h4 air4 k4 t4=>?_;rw[<- hst]at bt3;have bt4:But (frs X.stack) [a,T,T'] s'.heap h4:=(bt3.more fun b z=>by simp at z;rcases z with z|z<;>simp[z]).trans ((iO k4 t4).more fun b z=>by simp at z;simp[z])
  have sT':s2.heap.get? T'=none:=by
   cases z:s2.heap.get? T' with
   | none=>rfl
   | some o=>obtain⟨o',e'⟩:=un.there T' o z (fun y=>nomatch y);rw[nT']at e';cases e'
  have hT':H' T'=none:=by
   cases z:H' T' with
   | none=>rfl
   | some o=>obtain⟨o',e'⟩:=d0 (hok T' o z);rw[nT']at e';cases e'
  have f1:∀b∈[a,T,T'],s2.heap.get? b=none:=fun b z=>by
   simp at z;rcases z with rfl|rfl|rfl
   · exact fa
   · exact fT
   · exact sT'
  have f2:∀b∈[a,T,T'],H' b=none:=fun b z=>by
   simp at z;rcases z with rfl|rfl|rfl
   · exact na
   · exact nT
   · exact hT'
  have J4:Inv X pins σ2 H' {s' with heap:=h4}:=J0.call' hos (po un bt4 f1) (mj hok bt4 f2 J1.stkFree) bare (fun _ z=>nomatch z);have hq:c∈cs/\ts ⟨fun ρ'=>Dv.nx (ρ'.set i none),Dv.rt,fun _=>False,fun _=>False⟩ ((Ej ρ.length none).set i (some (.xc c fs))):=by rw[<- hQE]at qe;exact qe
  obtain⟨oe,vs,oT,tts,ea,ec,edx,ef,_⟩:=id air4;refine wpAny_handleBy_cons (codeAny_handlers_test (gc (Inv.caughtIn J4 a) hg hmb ?_ hdb)) (by intro z;cases z);refine we J4.kIn (hcs c hq.1 C ns) ea ec ?_;refine codeAny_handlers_suite_as (yp (s:={s' with heap:=h4}) air4 fun h5 air5 k5 t5=>?_);have bt5:But (frs X.stack) [a,T,T'] s'.heap h5:=bt4.trans ((iO k5 t5).more fun b z=>by simp at z;simp[z])
  have J5:Inv X pins σ2 (upd H' a (.ext (cV a C dx))) {s' with heap:=h5} :=
   J0.call' hos (ur (po un bt5 f1) na fa) (su (mj hok bt5 f2 J1.stkFree) na (wf air5)) bare (fun _ z=>nomatch z)
  have J6:Inv X pins (Ej σ2.length none) (upd H' a (.ext (cV a C dx))) {s' with heap:=h5}:=J5.weak (by simp) fun j v z=>by
   rw[EI]at z;split at z<;>cases z
  refine cB J6 hN hi (.inl hn) (show RelV (.ref a) (.ref a)from rfl) (fun s7 J7=>?_) (.inr hn);obtain⟨Ts,ps,ks⟩:=hs a;have ned:dx≠a:=fun z=>by rw[z,na]at hxd;cases hxd
  have hla:H₀ a=none:=g.freeB na;have Fa:F' a=none:=g.sub.free na
  have rld:rl≠some dx:=fun z=>by
   obtain⟨_,⟨o2,e2,e3⟩⟩:=g.reel dx z;rw[hxd]at e2;cases e2;exact xK e3
  have g1:Grow rl F₀ H₀ (upd F' dx (.xd us)) H':=g.freeze hd0 hxd fd0 rld;have g2:Grow rl F₀ H₀ (upd (upd F' dx (.xd us)) a (.ext (cV a C dx))) (upd H' a (.ext (cV a C dx))):=g1.trans (Grow.data g1.sub g1.reel na)
  have sm:aR F' (upd (upd F' dx (.xd us)) a (.ext (cV a C dx))):=fun b o z=>by
   rw[ae (aq z Fa),ae (aq z fd0)];exact z
  have hlen:ρ.length=σ2.length:=by rw[R.len,I.len];exact J0.len.symm
  have rx:cE X.K rl (upd (upd F' dx (.xd us)) a (.ext (cV a C dx))) (upd H' a (.ext (cV a C dx))) (.ref a) (.xc c fs) :=
   ⟨a,dx,us,C,rfl,ns,aj,by rw[ae ned,aj],D0.mapP kd fun _ _ z=>⟨z.1,z.2.mono sm⟩⟩
  have R0:VR X.K rl F₀ H₀ (upd (upd F' dx (.xd us)) a (.ext (cV a C dx))) (upd H' a (.ext (cV a C dx))) (Ej σ2.length none) (Ej ρ.length none) :=
   ⟨g2,fun j w z=>(by rw[EI]at z;split at z<;>cases z),fun j k x y v _ z=>(by rw[EI]at z;split at z<;>cases z),fun j xs z=>(by rw[EI]at z;split at z<;>cases z),by simp[hlen]⟩
  have R7:=R0.set (Grow.refl R0.sub R0.reel) rx trivial (fun xs z=>nomatch z) i;refine DC (ps pins s7 _ _ ⟨fun σ' H6=>D.nx (σ'.set i none) H6,D.rt,fun _ _=>False,fun _ _=>False⟩ (Inv.caughtIn J7 a) (ks R7 ⟨fun ρ'=>Dv.nx (ρ'.set i none),Dv.rt,fun _=>False,fun _=>False⟩ _ ⟨fun F6 H6 σ6 ρ6 s6 R6 z=>ok.nx F6 H6 _ _ ((smF.trans sm).trans s6) (R6.unset i) z,ok.rt,fun _ _ _ _ _ _ z=>z,fun _ _ _ _ _ _ z=>z⟩ hq.2)) (fun fl s8 h8=>?_) fun _ _ z=>z.elim
  cases fl with
  | next =>
    obtain⟨σ8,H8,J8,z⟩:=h8
    exact mw (Inv.uncaught okX J8) hN hi hn fun s9 J9=>⟨_,H8,J9,z⟩
  | ret u =>
    obtain⟨v,σ8,H8,J8,r8,z⟩:=h8
    exact mw (Inv.uncaught okX J8) hN hi hn fun s9 J9=>⟨v,_,H8,J9,r8,z⟩
  | brk=>obtain⟨_,_,_,z⟩:=h8;exact D9 z
  | cont=>obtain⟨_,_,_,z⟩:=h8;exact D9 z
 obtain⟨T',p',k'⟩:=hb (X.pn++pins) XE E pass;refine DC (p' [] s σ H D I' (k' R Dv D QE ok (fun c fs z C dx F' H' us g sm n hx hd fd kd=>⟨C,dx,F',us,c,fs,rfl,rfl,g,sm,n,hx,hd,fd,kd,z⟩) q)) (fun fl s1 h1=>?_) (fun e s1 z=>?_)
 · cases fl with
   | next =>
     obtain⟨σ1,H1,J1,z⟩:=h1
     exact GG ⟨σ1,H1,Inv.unheld I.ok J1,z⟩
   | ret u =>
     obtain⟨v,σ1,H1,J1,r1,z⟩:=h1
     exact⟨v,σ1,H1,Inv.unheld I.ok J1,r1,z⟩
   | brk=>obtain⟨σ1,H1,J1,z⟩:=h1;exact⟨σ1,H1,Inv.unheld I.ok J1,z⟩
   | cont=>obtain⟨σ1,H1,J1,z⟩:=h1;exact⟨σ1,H1,Inv.unheld I.ok J1,z⟩
 · exact z
end
theorem rZ{K:W.Frag}{us:List (Str×V)}{fs:List (Str×Da)}(r:CL K F us fs){n:Str}(e:fs.lookup n=some d):∃v,us.lookup n=some v/\Rep K F v d:=by
 induction r with
 | nil=>cases e
 | @cons p q us fs h _ ih =>
   obtain⟨k,v⟩:=p;obtain⟨k',d'⟩:=q;obtain⟨h1,h2⟩:=h;dsimp only at h1 h2;subst h1;by_cases hk:(n==k)=true
   · simp only[Ik,hk]at e ⊢;cases e;exact⟨v,rfl,h2⟩
   · simp only[Ik,Bool.not_eq_true _▸hk]at e ⊢;exact ih e
theorem nn{c:Str}{fs:List (Str×Da)}(I:Inv X pins σ H s)(R:VR X.K rl F₀ H₀ F H σ ρ)(e:ρ[i]?=some (some (.xc c fs))) :
 ∃a dx us C,σ[i]?=some (some (.ref a))/\W.nsIn X.K Ds c=some (some (.ref C))/\cV a C dx s.heap/\H dx=some (.xd us)/\CL X.K F us fs:=by
 obtain⟨v,s1,⟨a,dx,us,C,ev,n,h1,h2,kd⟩,_⟩:=R.sl i _ e;subst ev;obtain⟨z,_⟩:=(show aK X.prog X.w H s.heap a (.ext (cV a C dx))from I.hok a _ (R.sub _ _ h1));exact⟨a,dx,us,C,s1,n,z,R.sub _ _ h2,kd⟩
theorem jz{dx:Addr}{us:List (Str×V)}(z:cV a C dx h)(ok:CW P w H h)(e:H dx=some (.xd us)):∃ox od,W.InstAt h a ox C (some od):=by
 obtain⟨oe,vs,h1,h2,h3,h4⟩:=z;obtain⟨mA,⟨od,es,ep,ho,_⟩,_⟩:=(show aK P w H h dx (.xd us)from ok dx _ e);exact⟨oe,od,h1,h2,by unfold W.notCls;rw[h4],by rw[h3];exact ho⟩
section
variable{X:Cx}{rl:Option Addr}{pos p p1:Pos}{c n x:Str}
noncomputable def AT(i:Nat)(c n:Str):TV:=fun ρ Q=>∃fs d,ρ[i]?=some (some (.xc c fs))/\fs.lookup n=some d/\Q (.d d)
theorem tZ(i:Nat)(hx:∀C,W.nsIn X.K Ds c=some (some (.ref C))->XCls X.K C/\df X.K C n)(hN:autoParam (X.N[i]?=some x) æa._auto_1)(hv:autoParam (B8 X.env.scope x) æc._auto_1)
 (hd:autoParam ((x==("__debug__" : Str))=false) æb._auto_1)(hcd:autoParam ((x==("__classdict__" : Str))=false) æb._auto_1)(hb:autoParam (FU (.Name x p1) n X.env (eval (.Name x p1) X.env)=eval (.Name x p1) X.env) æa._auto_1) :
 PV X rl (.Attribute (.Name x p1) n pos) (AT i c n):=by
 refine⟨fun σ H Q=>∀pins s,Inv X pins σ H s->Dr (Dw X.prog X.w) X.A (eval (.Attribute (.Name x p1) n pos) X.env) (EP X pins σ Q) X.xe s,fun pins s σ H Q I h=>h pins s I,fun{F₀ H₀ F H σ ρ} R Qd Q ⟨fs,d,e,l,q⟩ k pins s I=>?_⟩;obtain⟨v,s1,⟨a,dx,us,C,ev,ns,h1,h2,kd⟩,_⟩:=R.sl i _ e;subst ev;obtain⟨xc,na⟩:=hx C ns;obtain⟨v,lv,rv⟩:=rZ kd l;refine sN hb (A8 (bB hN hv hd hcd pins s σ H (fun y H1=>y = .ref a/\H1=H) I ⟨_,s1,rfl,rfl⟩) fun u s2 ⟨y,H1,I1,ry,ey,eH⟩=>?_);subst ey eH;obtain rfl:u=Dn a:=ry;obtain⟨⟨oe,vs,z1,z2,z3,z4⟩,_⟩:=(show aK X.prog X.w H1 s2.heap a (.ext (cV a C dx))from I1.hok a _ (R.sub _ _ h1));obtain⟨mA,hns,hr⟩:=(show aK X.prog X.w H1 s2.heap dx (.xd us)from I1.hok dx _ (R.sub _ _ h2));obtain⟨u,hu,ru⟩:=tm.some_of (v:=v) (o:=mA n) (by rw[<- lv];exact hr n);exact yi I1.kIn xc.xc xc.ga xc.gh na z1 z2 z3 z4 hns hu (mv ru) ⟨v,H1,I1.tok _,ru,k v (.d d) F H1 (Grow.refl R.sub R.reel) rv trivial q⟩
noncomputable def uj(i:Nat)(c:Str)(b:Bool):TV:=fun ρ Q=>∃fs,ρ[i]?=some (some (.xc c fs))/\Q (.d (.bool b))
theorem pg(i:Nat){e2:Expr}{b:Bool}(hm:X.mg "isinstance" = none)(hx:∀C,W.nsIn X.K Ds c=some (some (.ref C))->XCls X.K C/\W.kitOne X.K (.ref C) u=some b)(h2:PE X e2 (tC v))(hu:∀u',RelV v u'->u'=u)
 (hN:autoParam (X.N[i]?=some x) æa._auto_1)(hv:autoParam (B8 X.env.scope x) æc._auto_1)(hd:autoParam ((x==("__debug__" : Str))=false) æb._auto_1)(hcd:autoParam ((x==("__classdict__" : Str))=false) æb._auto_1)
 (hg:autoParam (Gl X "isinstance") æa._auto_1)(he:autoParam (Dh [.Name x p1,e2] X.env=(false,eval (.Name x p1) X.env)::Dh [e2] X.env) æa._auto_1)(he2:autoParam (Dh [e2] X.env=(false,eval e2 X.env)::Dh [] X.env) æa._auto_1)(hpl:autoParam ((ES pos (Dh [e2] X.env)).any (·.1)=false) æa._auto_1) :
 PV X rl (.Call (.Name "isinstance" p) [.Name x p1,e2] [] pos) (uj i c b):=by
 refine⟨fun σ H Q=>∀pins s,Inv X pins σ H s->Dr (Dw X.prog X.w) X.A (eval (.Call (.Name "isinstance" p) [.Name x p1,e2] [] pos) X.env) (EP X pins σ Q) X.xe s,fun pins s σ H Q I h=>h pins s I,fun{F₀ H₀ F H σ ρ} R Qd Q ⟨fs,e,q⟩ k pins s I=>?_⟩;have pa:=cP (bB (pos:=p1) hN hv hd hcd) (cP h2 hJ he2) he;obtain⟨a,dx,us,C,s1,ns,z,ed,kd⟩:=nn I R e;obtain⟨xc,kit⟩:=hx C ns;refine E4 (cK I hg hm (show Fu "isinstance" = some (.builtin "isinstance") by rfl) ?_);refine FS (A8 (pa pos pins s σ H (fun vs H1=>vs=[.ref a,v]/\H1=H) I ⟨_,s1,rfl,rfl⟩) fun us' s2 ⟨vs,H1,I1,r,ev,eH⟩=>?_) he hpl;subst ev eH
 cases r with
 | cons r1 r2 =>
   cases r2 with
   | cons r2 r3 =>
     cases r3;cases(show _=Dn a from r1);cases hu _ r2;obtain⟨a',dx',us2,C',s1',ns',z',ed',kd'⟩:=nn I1 R e;rw[s1]at s1';cases s1';rw[ns]at ns';cases ns';exact W.kia_one (pI xc) I1.kIn (jz z' I1.hok ed') kit (fun y=>nomatch y) fun tk=>⟨.bl b,H1,I1.tok tk,rfl,k (.bl b) (.d (.bool b)) F H1 (Grow.refl R.sub R.reel) (.bl b) trivial q⟩
theorem qO{Cs:List Addr}:∀{l:List Dc},D0 RelV (Cs.map V.ref) l->l=Cs.map Dn:=by
 induction Cs with
 | nil=>intro l rv;cases rv;rfl
 | cons C0 Cs ih =>
   intro l rv
   cases rv with
   | cons r0 r' =>
     cases(show _=Dn C0 from r0);rw[ih r'];rfl
noncomputable def A9(vs:List V):TA:=fun _ H Q=>Q vs H
theorem rF:PA X [] (A9 []):=hJ
theorem bV{y:Str}{B:Addr}{py:Pos}(hm:X.mg y=some (.ref B))(h:PA X es (A9 vs))(hg:autoParam (Gl X y) æa._auto_1)(hd:autoParam ((y==("__debug__" : Str))=false) æb._auto_1)(hs:autoParam (Dh (.Name y py::es) X.env=(false,eval (.Name y py) X.env)::Dh es X.env) æa._auto_1) :
 PA X (.Name y py::es) (A9 (.ref B::vs)):=cP (iF (v:=.ref B) hg hm rfl hd) h hs
theorem t7(i:Nat){Cs:List Addr}{b:Bool}{x1}{tpos:Pos}(hm:X.mg "isinstance" = none)(hx:∀C,W.nsIn X.K Ds c=some (some (.ref C))->XCls X.K C/\W.kitAny X.K (.ref C) (Cs.map Dn)=some b)(h2:PA X es (A9 (Cs.map V.ref)))(hz:Cs.length<=sizeLine)
 (hN:autoParam (X.N[i]?=some x) æa._auto_1)(hv:autoParam (B8 X.env.scope x) æc._auto_1)(hd:autoParam ((x==("__debug__" : Str))=false) æb._auto_1)(hcd:autoParam ((x==("__classdict__" : Str))=false) æb._auto_1)
 (hg:autoParam (Gl X "isinstance") æa._auto_1)(he:autoParam (Dh [.Name x p1,.Tuple es x1 tpos] X.env=(false,eval (.Name x p1) X.env)::Dh [.Tuple es x1 tpos] X.env) æa._auto_1)(he2:autoParam (Dh [.Tuple es x1 tpos] X.env=(false,eval (.Tuple es x1 tpos) X.env)::Dh [] X.env) æa._auto_1)(hpl:autoParam ((ES pos (Dh [.Tuple es x1 tpos] X.env)).any (·.1)=false) æa._auto_1) :
 PV X rl (.Call (.Name "isinstance" p) [.Name x p1,.Tuple es x1 tpos] [] pos) (uj i c b):=by
 refine⟨fun σ H Q=>∀pins s,Inv X pins σ H s->Dr (Dw X.prog X.w) X.A (eval (.Call (.Name "isinstance" p) [.Name x p1,.Tuple es x1 tpos] [] pos) X.env) (EP X pins σ Q) X.xe s,fun pins s σ H Q I h=>h pins s I,fun{F₀ H₀ F H σ ρ} R Qd Q ⟨fs,e,q⟩ k pins s I=>?_⟩;have pa:=cP (bB (pos:=p1) hN hv hd hcd) (cP (pD (x1:=x1) (pos:=tpos) h2) hJ he2) he;obtain⟨a,dx,us,C,s1,ns,z,ed,kd⟩:=nn I R e;obtain⟨xc,kit⟩:=hx C ns;refine E4 (cK I hg hm (show Fu "isinstance" = some (.builtin "isinstance") by rfl) ?_);refine FS (A8 (pa pos pins s σ H (fun vs H1=>∃t,vs=[.ref a,.ref t]/\H t=none/\H1=upd H t (.tup (Cs.map V.ref))) I ⟨_,s1,by rw[Di];exact hz,fun t ht=>⟨t,rfl,ht,rfl⟩⟩) fun us' s2 ⟨vs,H1,I1,r,t,ev,ht,eH⟩=>?_) he hpl;subst ev eH;have g1:Grow rl F H F (upd H t (.tup (Cs.map V.ref))):=Grow.laid R.sub R.reel ht
 cases r with
 | cons r1 r2 =>
   cases r2 with
   | cons r2 r3 =>
     cases r3;cases(show _=Dn a from r1);cases(show _=Dn t from r2);obtain⟨a',dx',us2,C',s1',ns',z',ed',kd'⟩:=nn I1 (R.grow g1) e;rw[s1]at s1';cases s1';rw[ns]at ns';cases ns';obtain⟨_,its,rv,⟨⟨oc,od,oda,osl⟩,t1,t2,⟨m,t3⟩,t4⟩⟩:=(show aK X.prog X.w _ s2.heap t (.tup (Cs.map V.ref))from I1.hok t _ aj);dsimp only at t2 t3 t4;subst t2 t3 t4;have ei:its=Cs.map Dn:=qO rv;subst ei;exact W.kia_tup (pI xc) I1.kIn (jz z' I1.hok ed') t1 kit (fun y=>nomatch y) fun tk=>⟨.bl b,_,I1.tok tk,rfl,k (.bl b) (.d (.bool b)) F _ g1 (.bl b) trivial q⟩
end
structure XCl (K:W.Frag) (mg:Str->Option Dc) (c n b qual:Str) (st:Stmt) (ps os:List Str):Prop where
 ex:∃C B f fd Cs,W.nsIn K Ds c=some (some (.ref C))/\mg c=some (.ref C)/\mg b=some (.ref B)/\XMk K C f/\df K C n/\XOver K C B/\Fun K "__init__" qual st f fd/\Binds K fd ps []/\D0 (fun x D=>mg x=some (.ref D)) os Cs /\
  W.kitAny K (.ref C) (Cs.map Dn)=some false/\W.kitOne K (.ref C) (.ref C)=some true/\W.kitOne K (.ref C) (.type "ValueError")=some true/\mg "ValueError" = none
theorem XCl.one{K:W.Frag}{c n b:Str}{st:Stmt}{os:List Str}(x:XCl K mg c n b qual st ps os)(hi:∀f fd,Fun K "__init__" qual st f fd->FnOk P w K mg base C2 1 f fd ps (Bk K n)):∃C,XOne P w K mg base c n C:=by
 obtain⟨C,B,f,fd,Cs,h1,h2,h3,h4,h5,h6,h7,h8,_⟩:=x.ex;exact⟨C,h1,h2,h5,f,fd,ps,h4,h8,hi f fd h7⟩
noncomputable def wS(K:W.Frag)(C B f:Addr)(n:Str)(Cs:List Addr):Bool :=
 nh K C&&(W.findIn K (.ref C) "__setattr__" == some (some (.builtin "object.__setattr__")))&&(W.findIn K (.ref C) "__getattribute__" == some (some (.builtin "BaseException.__getattribute__"))) &&
 (W.findIn K (.ref C) "__getattr__" == some none)&&(W.findIn K (.ref C) "__class__" == some (some (.builtin "object.__class__")))&&(W.specialIn K (.builtin "object.__class__") "__get__" == some (some (.builtin "getset_descriptor.__get__"))) &&
 (W.takesIn K (.builtin "object.__class__")==some true)&&(W.mroIn K C (.type "object")==some true)&&W.isFn K (.ref f)&&W.keepIn K (.ref C)&&(W.findIn K (.ref C) n==some none) &&
 (W.mroIn K C (.ref B)==some true)&&(W.mroIn K B (.type "BaseException")==some true)&&(W.typeIn K (.ref B)==some (.type "type")) &&
 (W.kitAny K (.ref C) (Cs.map Dn)==some false)&&(W.kitOne K (.ref C) (.ref C)==some true)&&(W.kitOne K (.ref C) (.type "ValueError")==some true)
theorem XCl.mk'{K:W.Frag}{c n b:Str}{st:Stmt}{os:List Str}{B:Addr}{Cs:List Addr}(h1:W.nsIn K Ds c=some (some (.ref C)))(h2:mg c=some (.ref C))(h3:mg b=some (.ref B))
 (hi:W.findIn K (.ref C) "__init__" = some (some (.ref f)))(hf:Fun K "__init__" qual st f fd)(hb:Binds K fd ps [])(ho:D0 (fun x D=>mg x=some (.ref D)) os Cs)(hv:mg "ValueError" = none)(hx:wS K C B f n Cs=true):XCl K mg c n b qual st ps os:=by
 unfold wS at hx;simp only[Iq,beq_iff_eq]at hx;obtain⟨⟨⟨⟨⟨⟨⟨⟨⟨⟨⟨⟨⟨⟨⟨⟨x1,x2⟩,x3⟩,x4⟩,x5⟩,x6⟩,x7⟩,x8⟩,x9⟩,x10⟩,x11⟩,x12⟩,x13⟩,x14⟩,x15⟩,x16⟩,x17⟩:=hx;exact⟨C,B,f,fd,Cs,h1,h2,h3,⟨⟨x1,x2,x3,x4,x5,x6,x7,x8⟩,hi,x9,x10⟩,x11,⟨x12,x13,x14⟩,hf,hb,ho,x15,x16,x17,hv⟩
theorem wQ{f:TB}{n:Str}{fs:Ca}{u:VEnds->XQ->En->Prop}{D:VEnds}{R:XQ}(d:Da)(h:f ρ=VL.ret true)(hf:fs ρ=VL.ret [.d d])(q:R x [(n,d)]):AQ f x n fs u D R ρ:=by
 show f ρ _;rw[h];show fs ρ _;rw[hf];exact⟨d,rfl,q⟩
theorem wR{f:TB}{n:Str}{fs:Ca}{u:VEnds->XQ->En->Prop}{D:VEnds}{R:XQ}(h:f ρ=VL.ret false)(q:u D R ρ):AQ f x n fs u D R ρ:=by
 show f ρ _;rw[h];exact q
noncomputable def gL(c n:Str)(Pd:List W->(Da->Prop)->XQ->Prop):List W->(Da->Prop)->Prop:=fun ws Q=>(∃a b,ws=[.d a,.d b])/\Pd ws Q (fun c' fs=>c'=c/\∃d,fs=[(n,d)]/\Q (.tuple [.str "no", d]))
noncomputable def uv(c n:Str)(Pd:List W->(Da->Prop)->XQ->Prop):Cb :=
 uc (sW 2 (vC .none)) (uc (zj 3 [c] (zi 2 Pd (ay (dj 0) (ay (dj 1) jN)))
  (uc (sW 4 (nB (uj 3 c false))) (sW 2 (A0 (uq (io (uj 3 c true)) (uq (io (uj 3 c true)) (io (dj 4)))) (wu (ay (vC (.str "no")) (ay (AT 3 c n) jN))) (vC (.str "other"))))))
  (xa (dj 2)))
theorem k6{c n:Str}(hN:N.length=5)(mono:∀ws Q Q' R R',(∀d,Q d->Q' d)->(∀c fs,R c fs->R' c fs)->Pd ws Q R->Pd ws Q' R'):∀ws Q,gL c n Pd ws Q->uv c n Pd (ip Q) (bU N ws):=by
 rintro ws Q ⟨⟨a,b,rfl⟩,h⟩
 have es:bU N [.d a,.d b]=[some (.d a),some (.d b),none,none,none]:=by
  unfold bU;rw[hN];rfl
 rw[es];refine⟨rfl,?_⟩;refine⟨.d a,rfl,.d b,rfl,rfl,mono _ _ _ _ _ (fun d q=>⟨.d d,rfl,d,rfl,q⟩) (fun c' fs z=>?_) h⟩;obtain⟨rfl,d,rfl,q⟩:=z;refine⟨FC.mpr rfl,⟨_,rfl,false,rfl,rfl,?_⟩⟩;refine⟨_,rfl,true,rfl,⟨_,rfl,true,rfl,⟨.d (.bool true),rfl,true,rfl,?_⟩⟩⟩;refine⟨_,d,rfl,by simp[Ik],[.str "no", d],rfl,by rw[GU];exact(by decide:2<=16777216),rfl,⟨.d (.tuple [.str "no", d]),rfl,_,rfl,q⟩⟩
theorem gL.mono{c n:Str}{Pd:List W->(Da->Prop)->XQ->Prop}(mono:∀ws Q Q' R R',(∀d,Q d->Q' d)->(∀c fs,R c fs->R' c fs)->Pd ws Q R->Pd ws Q' R'):∀ws Q Q',(∀d,Q d->Q' d)->gL c n Pd ws Q->gL c n Pd ws Q' :=
 fun ws Q Q' h ⟨e,q⟩=>⟨e,mono _ _ _ _ _ h (fun c' fs ⟨z,d,y,q⟩=>⟨z,d,y,h _ q⟩) q⟩
theorem gL.len{c n:Str}:∀ws Q,gL c n Pd ws Q->ws.length=2:=fun ws Q ⟨⟨a,b,e⟩,_⟩=>by subst e;rfl
section
variable{X:Cx}{rl:Option Addr}{iter:Expr}{scope:Scope}{fi:En->(List Da->Prop)->Prop}{xk xl xh f:Str}{ps:List Str}{k:Nat}{Pd:List W->(Da->Prop)->Prop}{pk p1 p2 p3 p4 p5 p6 p7 p8 p9 p10 ap pc rp:Pos}
end
end L2.VL
namespace L2
theorem j_{prog:Dq}{kx vx target:Expr}{it:Dc}(I:Nat->Dd->Prop)
 (turn:∀n s,I n s->Dr (Dw prog w) A (G1 it) (fun r s₁=>(r=none/\R (.ok .next) s₁)\/∃v,r=some v /\
  Dr (Dw prog w) A (E2 target it v) (fun _ s₂=>Dr (Dw prog w) A (G_ target env v) (fun _ s₃=>Dr (Dw prog w) A (cM ifs env) (fun ok s₄ =>
   if ok=true then Dr (Dw prog w) A (eval kx env) (fun x s₅=>Dr (Dw prog w) A (eval vx env) (fun y s₆=>Dr (Dw prog w) A (dictSet D x y) (fun _ s₇=>∃m,m<n/\I m s₇) (fun _ _=>False) s₆) (fun _ _=>False) s₅) (fun _ _=>False) s₄
   else ∃m,m<n/\I m s₄) (fun _ _=>False) s₃) (fun _ _=>False) s₂) (fun _ _=>False) s₁) (fun _ _=>False) s)
 (n:Nat)(h:I n s):EW (Dw prog w) A (.compLoop (.DictComp kx vx [⟨target,iter,ifs,0⟩] scope pos) 0 it (.ref D) env) R s:=by
 refine IF rfl I (fun n s hI=>?_) n h;show Dr _ A ((Ju (.DictComp kx vx [⟨target,iter,ifs,0⟩] scope pos) 0 it (.ref D) env).onRaise (fun x=>do GN x env;Hh x)) _ _ s;refine Jg ?_;rw[compTurn_dict];refine C9 (ED (C9 (DC (turn n s hI) (fun r s₁ h₁=>?_) fun _ _ h'=>h'.elim)));rcases h₁ with⟨rfl,h₁⟩|⟨v,rfl,h₁⟩
 · exact De h₁
 · refine C9 (DC h₁ (fun _ s₂ h₂=>C9 (DC h₂ (fun _ s₃ h₃=>C9 (DC h₃ (fun ok s₄ h₄=>?_) fun _ _ z=>z.elim)) fun _ _ z=>z.elim)) fun _ _ z=>z.elim)
   cases ok with
   | false=>exact De ⟨rfl,h₄⟩
   | true=>exact C9 (C9 (DC h₄ (fun x s₅ h₅=>C9 (FY (DC h₅ (fun y s₆ h₆=>C9 (ED (FY (DC h₆ (fun _ s₇ h₇=>De ⟨rfl,h₇⟩) fun _ _ z=>z.elim)))) fun _ _ z=>z.elim))) fun _ _ z=>z.elim))
section
variable{X:Cx}{kx vx tg iter:Expr}{ifs:List Expr}{scope:Scope}{pos:Pos}{wi:TI}{g:CompA->TG}{tt:CompA->TT}{tk te:CompA->TE}
end
section
variable{prog:Dq}{w:DN}{A:DM}{E:Dc->Dd->Prop}
end
section
variable{X:Cx}
end
end L2
namespace L2.VL
section
variable{K:W.Frag}{F:Hp}{us:List (CK×V)}{kvs:List (CK×Da)}
end
section
variable{X:Cx}{rl:Option Addr}{kx vx tg iter:Expr}{ifs:List Expr}{scope:Scope}{pos:Pos}{fi:En->(List Da->Prop)->Prop}{g:Ce}{ft:TB}{fk fe:TV}
end
section
variable{α:Type}{b:Da->Mo (Option (CK×Da))}
end
section
variable{X:Cx}{rl:Option Addr}{a c e o i:Expr}{es:List Expr}{fa fb:TV}{fs:Ca}{pos p kpos:Pos}{ρ:En}
end
end L2.VL
namespace L2
end L2
namespace L2.VL
section
variable{X:Cx}{rl:Option Addr}{tg:Expr}{fa:TV}{ρ:En}
end
end L2.VL
namespace L2.ZP
section
variable{prog:Dq}{w:DN}{A:DM}{E:Dc->Dd->Prop}{s:Dd}{z it a:Addr}{k:Nat}{xs:Array Dc}{x p:Dc}{b:Bool}
abbrev e2(h:Heap)(b:Bool)(a:Addr):Heap:=(y1 h b a).push {cls:=.type "enumerate", data:=.fields #[.none,.bool false,.ref h.objs.size,Gj 0,.none,.none]}
end
end L2.ZP
namespace L2
open PySem PySem.Spec PyProof.Rows L2.ZP
section
variable{X:Cx}{e1:Expr}{ta:TA}{elts:List Expr}{kt:Nat}{pt p pos:Pos}
end
end L2
namespace L2.VL
section
variable{X:Cx}{rl:Option Addr}{a:Expr}{elts:List Expr}{kt:Nat}{pt p pos:Pos}{fs:Ca}
end
section
variable{α β:Type}{b:Da->Mo (Option Da)}
end
theorem GlK.int{K:W.Frag}{x:Str}{a:Int}{t:Tok}(h1:W.nsIn K Ds x=some (some (.int a t))):GlK K x (.int a):=⟨.int a,.int a t,h1,⟨t,rfl⟩,fun F=>.int a⟩
end L2.VL
namespace L2
abbrev BH(elt t1 i1:Expr)(f1:List Expr)(t2 i2:Expr)(f2:List Expr)(scope:Scope)(pos:Pos):Expr:=.ListComp elt [⟨t1,i1,f1,0⟩,⟨t2,i2,f2,0⟩] scope pos
theorem qD(elt t1 i1:Expr)(f1:List Expr)(t2 i2:Expr)(f2:List Expr)(scope:Scope)(pos:Pos)(it acc:Dc)(env:Env) :
 Ju (BH elt t1 i1 f1 t2 i2 f2 scope pos) 0 it acc env=(Jw i1.pos >>= fun _=>G1 it >>= fun r=>match r with
  | none=>pure (.done .next)
  | some v=>E2 t1 it v >>= fun _=>G_ t1 env v >>= fun _=>cM f1 env >>= fun ok=>(if ok=true then
      (eval i2 env >>= fun x=>Jw i2.pos >>= fun _=>DL i2 env x >>= fun x=>Jx [x] (Jq x) >>= fun y=>runOwn (.compStart (BH elt t1 i1 f1 t2 i2 f2 scope pos) 1 y acc env) env >>= fun _=>again (.compLoop (BH elt t1 i1 f1 t2 i2 f2 scope pos) 0 it acc env))
      else again (.compLoop (BH elt t1 i1 f1 t2 i2 f2 scope pos) 0 it acc env))):=by rfl
theorem qC(elt t1 i1:Expr)(f1:List Expr)(t2 i2:Expr)(f2:List Expr)(scope:Scope)(pos:Pos)(it acc:Dc)(env:Env) :
 Ju (BH elt t1 i1 f1 t2 i2 f2 scope pos) 1 it acc env=(Jw i2.pos >>= fun _=>G1 it >>= fun r=>match r with
  | none=>pure (.done .next)
  | some v=>E2 t2 it v >>= fun _=>G_ t2 env v >>= fun _=>cM f2 env >>= fun ok=>(if ok=true then
      ((eval elt env >>= fun x=>call (.builtin "list.append") [acc,x] >>= fun _=>pure ()) >>= fun _=>again (.compLoop (BH elt t1 i1 f1 t2 i2 f2 scope pos) 1 it acc env))
      else again (.compLoop (BH elt t1 i1 f1 t2 i2 f2 scope pos) 1 it acc env))):=by rfl
section
variable{prog:Dq}{w:DN}{A:DM}{R:IC->Dd->Prop}{s:Dd}{elt t1 i1 t2 i2:Expr}{f1 f2:List Expr}{scope:Scope}{pos:Pos}{it acc:Dc}{env:Env}
theorem rT(I:Nat->Dd->Prop)(hs:∀x,DL i2 env x=pure x)
 (turn:∀n s,I n s->Dr (Dw prog w) A (G1 it) (fun r s₁=>(r=none/\R (.ok .next) s₁)\/∃v,r=some v /\
  Dr (Dw prog w) A (E2 t1 it v) (fun _ s₂=>Dr (Dw prog w) A (G_ t1 env v) (fun _ s₃=>Dr (Dw prog w) A (cM f1 env) (fun ok s₄ =>
   if ok=true then Dr (Dw prog w) A (eval i2 env) (fun x s₅=>Dr (Dw prog w) A (Jq x) (fun y s₆=>EW (Dw prog w) A (.compStart (BH elt t1 i1 f1 t2 i2 f2 scope pos) 1 y acc env) (fun r s₇=>r = .ok .next/\∃m,m<n/\I m s₇) s₆) (fun _ _=>False) s₅) (fun _ _=>False) s₄
   else ∃m,m<n/\I m s₄) (fun _ _=>False) s₃) (fun _ _=>False) s₂) (fun _ _=>False) s₁) (fun _ _=>False) s)
 (n:Nat)(h:I n s):EW (Dw prog w) A (.compLoop (BH elt t1 i1 f1 t2 i2 f2 scope pos) 0 it acc env) R s:=by
 refine IF rfl I (fun n s hI=>?_) n h;show Dr _ A ((Ju (BH elt t1 i1 f1 t2 i2 f2 scope pos) 0 it acc env).onRaise (fun x=>do GN x env;Hh x)) _ _ s;refine Jg ?_;rw[qD];refine C9 (ED (C9 (DC (turn n s hI) (fun r s₁ h₁=>?_) fun _ _ h'=>h'.elim)));rcases h₁ with⟨rfl,h₁⟩|⟨v,rfl,h₁⟩
 · exact De h₁
 · refine C9 (DC h₁ (fun _ s₂ h₂=>C9 (DC h₂ (fun _ s₃ h₃=>C9 (DC h₃ (fun ok s₄ h₄=>?_) fun _ _ z=>z.elim)) fun _ _ z=>z.elim)) fun _ _ z=>z.elim)
   cases ok with
   | false=>exact De ⟨rfl,h₄⟩
   | true =>
     refine C9 (DC h₄ (fun x s₅ h₅=>C9 (ED (C9 (Ie (hs x) (C9 (FY (DC h₅ (fun y s₆ h₆=>?_) fun _ _ z=>z.elim))))))) fun _ _ z=>z.elim);refine C9 (wpAny_runOwn (FR h₆ fun r s₇ ⟨hr,h₇⟩=>?_));subst hr;exact De ⟨rfl,h₇⟩
theorem rS(I:Nat->Dd->Prop)
 (turn:∀n s,I n s->Dr (Dw prog w) A (G1 it) (fun r s₁=>(r=none/\R (.ok .next) s₁)\/∃v,r=some v /\
  Dr (Dw prog w) A (E2 t2 it v) (fun _ s₂=>Dr (Dw prog w) A (G_ t2 env v) (fun _ s₃=>Dr (Dw prog w) A (cM f2 env) (fun ok s₄ =>
   if ok=true then Dr (Dw prog w) A (eval elt env) (fun x s₅=>Dr (Dw prog w) A (call (.builtin "list.append") [acc,x]) (fun _ s₆=>∃m,m<n/\I m s₆) (fun _ _=>False) s₅) (fun _ _=>False) s₄
   else ∃m,m<n/\I m s₄) (fun _ _=>False) s₃) (fun _ _=>False) s₂) (fun _ _=>False) s₁) (fun _ _=>False) s)
 (n:Nat)(h:I n s):EW (Dw prog w) A (.compLoop (BH elt t1 i1 f1 t2 i2 f2 scope pos) 1 it acc env) R s:=by
 refine IF rfl I (fun n s hI=>?_) n h;show Dr _ A ((Ju (BH elt t1 i1 f1 t2 i2 f2 scope pos) 1 it acc env).onRaise (fun x=>do GN x env;Hh x)) _ _ s;refine Jg ?_;rw[qC];refine C9 (ED (C9 (DC (turn n s hI) (fun r s₁ h₁=>?_) fun _ _ h'=>h'.elim)));rcases h₁ with⟨rfl,h₁⟩|⟨v,rfl,h₁⟩
 · exact De h₁
 · refine C9 (DC h₁ (fun _ s₂ h₂=>C9 (DC h₂ (fun _ s₃ h₃=>C9 (DC h₃ (fun ok s₄ h₄=>?_) fun _ _ z=>z.elim)) fun _ _ z=>z.elim)) fun _ _ z=>z.elim)
   cases ok with
   | false=>exact De ⟨rfl,h₄⟩
   | true=>exact C9 (C9 (DC h₄ (fun x s₅ h₅=>C9 (DC h₅ (fun _ s₆ h₆=>De (De ⟨rfl,h₆⟩)) fun _ _ z=>z.elim)) fun _ _ z=>z.elim))
theorem nJ
 (h0:EW (Dw prog w) A (.compLoop (BH elt t1 i1 f1 t2 i2 f2 scope pos) 1 it acc env) R s)
 (h:Dr (Dw prog w) A (Jq it) (fun it' s'=>EW (Dw prog w) A (.compLoop (BH elt t1 i1 f1 t2 i2 f2 scope pos) 1 it' acc env) R s') (notedBy (Dw prog w) A env fun x s'=>R (.error x) s') s) :
 EW (Dw prog w) A (.compStart (BH elt t1 i1 f1 t2 i2 f2 scope pos) 1 it acc env) R s:=by
 refine Hl ?_;show Dr _ _ ((compStart (BH elt t1 i1 f1 t2 i2 f2 scope pos) 1 it acc env).onRaise (fun x=>do GN x env;Jw theWindowsPlace)) _ _ s;refine wpAny_notedAt ?_;unfold compStart;show Dr _ _ (ask >>= _) _ _ s;refine C9 (wpAny_askSetting (wpAny_ite ?_));split
 · first
     | exact C9 (De (De (C8 rfl h0)))
     | exact De (C8 rfl h0)
 · first
     | exact C9 (Hb (C9 (ED (C9 (DC h (fun it' s' h'=>De (C8 rfl h')) fun _ _ x=>x)))))
     | (refine C9 (Hb ?_);show Dr _ _ (Jw i2.pos >>= _) _ _ s;exact C9 (ED (C9 (DC h (fun it' s' h'=>De (C8 rfl h')) fun _ _ x=>x))))
end
noncomputable def Bd(wi:TI)(g:TG)(tt:TT)(te:TE)(D:Addr)(acc:List V)(σ:St)(H:Hp)(R:List V->St->Hp->Prop):Prop:=wi σ H fun J H1=>∃Wv:Nat->Nat->List V->St->Hp->Prop,(∃m,Wv 0 m acc σ H1) /\
 ∀ i m acc σc H,Wv i m acc σc H->(J.stop i H/\R acc σc H)\/(J.go i H/\∀x H',J.yld i H x H'->g x σc H' fun σ2 H2=>tt σ2 H2 fun b H3 =>
   if b=true then te σ2 H3 fun y H4=>H4 D=some (.lst acc)/\acc.length<sizeLine/\∃m',m'<m/\Wv (i+1) m' (acc++[y]) σ2 (upd H4 D (.lst (acc++[y])))else ∃m',m'<m/\Wv (i+1) m' acc σ2 H3)
section
variable{Y:Cx}{elt t1 i1 t2 i2:Expr}{f1 f2:List Expr}{scope:Scope}{pos:Pos}{wi:TI}{g:TG}{tt:TT}{te:TE}{D:Addr}
theorem vU(hc:Y.calm=true)(hx:Y.xe=fun _ _=>False)(hi:PI Y t2 i2 wi)(hg:PG Y t2 g)(ht:Cu Y f2 tt)(he:PE Y elt te){acc:List V}{R:List V->St->Hp->Prop}{Rp:Dd->Prop}
 (I:Inv Y pins σ H s)(q:Bd wi g tt te D acc σ H R)(fin:∀acc σ5 H5 s5,Inv Y pins σ5 H5 s5->R acc σ5 H5->Rp s5) :
 Dr (Dw Y.prog Y.w) Y.A (eval i2 Y.env) (fun x s₅=>Dr (Dw Y.prog Y.w) Y.A (Jq x) (fun y s₆=>EW (Dw Y.prog Y.w) Y.A (.compStart (BH elt t1 i1 f1 t2 i2 f2 scope pos) 1 y (.ref D) Y.env) (fun r s₇=>r = .ok .next/\Rp s₇) s₆) (fun _ _=>False) s₅) (fun _ _=>False) s:=by
 have hi':=hi pins s σ H _ I q;rw[hx]at hi';refine A8 hi' fun v s1 h1=>A8 h1 fun itv s2 h2=>?_;obtain⟨it,fp,tn,J,H2,e,I2,T,st2,f2',Wv,⟨m0,w0⟩,turn⟩:=h2;subst e;have stat:∀{H':Hp},(∀b∈fp,H' b=none)->∀b∈fp,i4 Y pins H' b:=fun hn b hb=>⟨hn b hb,(f2' b hb).2⟩
 have loop:EW (Dw Y.prog Y.w) Y.A (.compLoop (BH elt t1 i1 f1 t2 i2 f2 scope pos) 1 (.ref it) (.ref D) Y.env) (fun r s₇=>r = .ok .next/\Rp s₇) s2:=by
  refine rS (fun n s'=>∃i acc σ' H',Inv Y pins σ' H' s'/\tn i s'.heap/\(∀b∈fp,H' b=none)/\Wv i n acc σ' H') ?_ m0 ⟨0,acc,σ,H2,I2,st2,fun b hb=>(f2' b hb).1,w0⟩;rintro n s4 ⟨i,acc,σ4,H4,I4,st4,fr4,w4⟩;rcases turn i n acc σ4 H4 w4 with⟨stop,qn⟩|⟨go,step⟩
  · exact A8 (T.done Y rfl rfl rfl hc i pins s4 σ4 H4 (fun _ _=>False) I4 (stat fr4) st4 stop) fun r s5 ⟨hr,I5⟩=>.inl ⟨hr,rfl,fin acc σ4 H4 s5 I5 qn⟩
  · refine A8 (T.item Y rfl rfl rfl hc i pins s4 σ4 H4 (fun _ _=>False) I4 (stat fr4) st4 go) fun r s5 ⟨u,hr,h5⟩=>.inr ⟨u,hr,?_⟩;refine A8 h5 fun _ s6 ⟨x,H6,I6,r6,y6,st6,fr6⟩=>?_;have I6':=I6.pinned (stat fr6) (T.obj _ _ st6)
    have again:∀{σ7:St}{H7:Hp}{s7:Dd},Inv Y (pins++dE fp s6.heap) σ7 H7 s7->∀{acc':List V}{m':Nat},m'<n->Wv (i+1) m' acc' σ7 H7 ->
     ∃m,m<n/\∃i acc σ' H',Inv Y pins σ' H' s7/\tn i s7.heap/\(∀b∈fp,H' b=none)/\Wv i m acc σ' H':=fun{σ7 H7 s7} I7 {acc' m'} hm w7=>by
     refine⟨m',hm,i+1,acc',σ7,H7,I7.unpinned,T.keep _ _ _ st6 fun b hb o e=>(I7.pin (b,o) (Dt _ (Dt _ (aQ hb e)))).1,fun b hb=>?_,w7⟩;obtain⟨o,e,d⟩:=T.obj _ _ st6 b hb;exact(I7.pin (b,o) (Dt _ (Dt _ (aQ hb e)))).2.1
    have h7:=hg _ s6 σ4 H6 x u _ I6' r6 (step x H6 y6);rw[hx]at h7;refine A8 h7 fun _ s7 ⟨σ7,H7,I7,q7⟩=>?_;have h8:=ht _ s7 σ7 H7 _ I7 q7;rw[hx]at h8;refine A8 h8 fun ok s8 ⟨H8,I8,q8⟩=>?_
    cases ok with
    | false =>
      rw[if_neg DJ]at q8 ⊢;obtain⟨m',hm,w8⟩:=q8
      exact again I8 hm w8
    | true =>
      rw[if_pos rfl]at q8 ⊢;have h9:=he _ s8 σ7 H8 _ I8 q8;rw[hx]at h9;refine A8 h9 fun y s9 ⟨yv,H9,I9,r9,eD,hl,m',hm,w9⟩=>?_;have h10:=d4 (X:=Y) _ s9 σ7 H9 (.ref D) [yv] (.ref D) [y] (fun _ H'=>H'=upd H9 D (.lst (acc++[yv]))) I9 rfl (.cons r9 .nil) ⟨D,acc,yv,rfl,rfl,eD,hl,rfl⟩;rw[hx]at h10;exact A8 h10 fun _ s10 ⟨_,H10,I10,_,e10⟩=>by subst e10;exact again I10 hm w9
 exact nJ loop (T.self Y.A 0 _ _ _ st2 loop)
end
noncomputable def lc(wi:TI)(fr:List (Option Nat))(g:CompA->TG)(tt:CompA->TT)(wj:CompA->TI)(g2:CompA->TG)(tt2:CompA->TT)(te:CompA->TE):TE:=fun σ H Q=>wi σ H fun J H1=>∀D,H1 D=none->∃Wv:Nat->Nat->List V->St->Hp->Prop,(∃m,Wv 0 m [] (kD fr σ) (upd H1 D (.lst []))) /\
 ∀ (z:CompA) i m acc σc H,Wv i m acc σc H->(J.stop i H/\Q (.ref D) H)\/(J.go i H/\∀x H',J.yld i H x H'->g z x σc H' fun σ2 H2=>tt z σ2 H2 fun b H3 =>
   if b=true then Bd (wj z) (g2 z) (tt2 z) (te z) D acc σ2 H3 fun acc' σ5 H5=>∃m',m'<m/\Wv (i+1) m' acc' σ5 H5 else ∃m',m'<m/\Wv (i+1) m' acc σ2 H3)
section
variable{Y:Cx}{elt t1 i1 t2 i2:Expr}{f1 f2:List Expr}{scope:Scope}{pos:Pos}{wj:TI}{g g2:TG}{tt tt2:TT}{te:TE}{D:Addr}
theorem pE(hc:Y.calm=true)(hx:Y.xe=fun _ _=>False)(hg:PG Y t1 g)(ht:Cu Y f1 tt)(hj:PI Y t2 i2 wj)(hg2:PG Y t2 g2)(ht2:Cu Y f2 tt2)(he:PE Y elt te)(hs:∀x,DL i2 Y.env x=pure x)
 {J:It}{Q:VK}(T:Turn Y.prog Y.w Y.K t1 J fp it tn)(I:Inv Y [] σ H s)(st0:tn 0 s.heap)(fp0:∀b∈fp,H b=none)(stat:∀{H':Hp},(∀b∈fp,H' b=none)->∀b∈fp,i4 Y [] H' b)
 {Wv:Nat->Nat->List V->St->Hp->Prop}{m0:Nat}(w0:Wv 0 m0 [] σ H)
 (turn:∀i m acc σc H,Wv i m acc σc H->(J.stop i H/\Q (.ref D) H)\/(J.go i H/\∀x H',J.yld i H x H'->g x σc H' fun σ2 H2=>tt σ2 H2 fun b H3 =>
  if b=true then Bd wj g2 tt2 te D acc σ2 H3 fun acc' σ5 H5=>∃m',m'<m/\Wv (i+1) m' acc' σ5 H5 else ∃m',m'<m/\Wv (i+1) m' acc σ2 H3)) :
 EW (Dw Y.prog Y.w) Y.A (.compStart (BH elt t1 i1 f1 t2 i2 f2 scope pos) 0 (.ref it) (.ref D) Y.env) (fun r s5=>r = .ok .next/\∃σ5 H4,Inv Y [] σ5 H4 s5/\Q (.ref D) H4) s:=by
 have loop:EW (Dw Y.prog Y.w) Y.A (.compLoop (BH elt t1 i1 f1 t2 i2 f2 scope pos) 0 (.ref it) (.ref D) Y.env) (fun r s5=>r = .ok .next/\∃σ5 H4,Inv Y [] σ5 H4 s5/\Q (.ref D) H4) s:=by
  refine rT (fun n s'=>∃i acc σ' H',Inv Y [] σ' H' s'/\tn i s'.heap/\(∀b∈fp,H' b=none)/\Wv i n acc σ' H') hs ?_ m0 ⟨0,[],_,_,I,st0,fp0,w0⟩;rintro n s4 ⟨i,acc,σ4,H4,I4,st4,fr4,w4⟩;rcases turn i n acc σ4 H4 w4 with⟨stop,qn⟩|⟨go,step⟩
  · exact A8 (T.done Y rfl rfl rfl hc i [] s4 σ4 H4 (fun _ _=>False) I4 (stat fr4) st4 stop) fun r s5 ⟨hr,I5⟩=>.inl ⟨hr,rfl,σ4,H4,I5,qn⟩
  · refine A8 (T.item Y rfl rfl rfl hc i [] s4 σ4 H4 (fun _ _=>False) I4 (stat fr4) st4 go) fun r s5 ⟨u,hr,h5⟩=>.inr ⟨u,hr,?_⟩;refine A8 h5 fun _ s6 ⟨x,H6,I6,r6,y6,st6,fr6⟩=>?_;have I6':=I6.pinned (stat fr6) (T.obj _ _ st6)
    have again:∀{σ7:St}{H7:Hp}{s7:Dd},Inv Y ([]++dE fp s6.heap) σ7 H7 s7->∀{acc':List V}{m':Nat},m'<n->Wv (i+1) m' acc' σ7 H7 ->
     ∃m,m<n/\∃i acc σ' H',Inv Y [] σ' H' s7/\tn i s7.heap/\(∀b∈fp,H' b=none)/\Wv i m acc σ' H':=fun{σ7 H7 s7} I7 {acc' m'} hm w7=>by
     refine⟨m',hm,i+1,acc',σ7,H7,I7.unpinned,T.keep _ _ _ st6 fun b hb o e=>(I7.pin (b,o) (Dt _ (Dt _ (aQ hb e)))).1,fun b hb=>?_,w7⟩;obtain⟨o,e,d⟩:=T.obj _ _ st6 b hb;exact(I7.pin (b,o) (Dt _ (Dt _ (aQ hb e)))).2.1
    have h7:=hg _ s6 σ4 H6 x u _ I6' r6 (step x H6 y6);rw[hx]at h7;refine A8 h7 fun _ s7 ⟨σ7,H7,I7,q7⟩=>?_;have h8:=ht _ s7 σ7 H7 _ I7 q7;rw[hx]at h8;refine A8 h8 fun ok s8 ⟨H8,I8,q8⟩=>?_
    cases ok with
    | false =>
      rw[if_neg DJ]at q8 ⊢;obtain⟨m',hm,w8⟩:=q8
      exact again I8 hm w8
    | true =>
      rw[if_pos rfl]at q8 ⊢;exact vU hc hx hj hg2 ht2 he I8 q8 fun acc' σ9 H9 s9 I9 ⟨m',hm,w9⟩=>again I9 hm w9
 exact Iy loop (T.self Y.A 0 _ _ _ st0 loop)
end
section
variable{X:Cx}{elt t1 i1 t2 i2:Expr}{f1 f2:List Expr}{scope:Scope}{pos:Pos}{wi:TI}{wj:CompA->TI}{g g2:CompA->TG}{tt tt2:CompA->TT}{te:CompA->TE}
theorem ni.get{scope scX:Scope}(hsc:ni scope scX=true):scope.kind = .function/\(∀y∈scope.names,y.2 = .cell->scope.names.lookup y.1=some .cell)/\(∀y∈scope.names,y.2 = .local->scope.names.lookup y.1=some .local) /\
 ∀y∈scope.names,y.2 = .free->scX.names.lookup y.1=some .cell\/scX.names.lookup y.1=some .free:=by
 obtain⟨sk,sn⟩:=Dj.mp hsc;have hall:=Fq.mp sn;refine⟨of_decide_eq_true sk,fun y hy hl=>?_,fun y hy hl=>?_,fun y hy hl=>?_⟩
 · rcases DH.mp (Dj.mp (Dj.mp (hall y hy)).1).1 with z|z
   · exact absurd hl (of_decide_eq_true z)
   · exact of_decide_eq_true z
 · rcases DH.mp (Dj.mp (Dj.mp (hall y hy)).1).2 with z|z
   · exact absurd hl (of_decide_eq_true z)
   · exact of_decide_eq_true z
 · rcases DH.mp (Dj.mp (hall y hy)).2 with z|z
   · exact absurd hl (of_decide_eq_true z)
   · exact(DH.mp z).imp of_decide_eq_true of_decide_eq_true
theorem lG(N':List Str)(fr:List (Option Nat))(hc:X.calm=true)(hi:PI X t1 i1 wi)(hfr:mG fr N' X.N scope X.env.scope=true)(hsc:ni scope X.env.scope=true)
 (hg:∀y,PG (blk X N' scope y) t1 (g y))(ht:∀y,Cu (blk X N' scope y) f1 (tt y))(hj:∀y,PI (blk X N' scope y) t2 i2 (wj y))(hg2:∀y,PG (blk X N' scope y) t2 (g2 y))(ht2:∀y,Cu (blk X N' scope y) f2 (tt2 y))(he:∀y,PE (blk X N' scope y) elt (te y))
 (hs:autoParam (∀x,DL i1 X.env x=pure x) æd._auto_1)(hs2:autoParam (∀y x,DL i2 (blk X N' scope y).env x=pure x) æi._auto_1):PE X (BH elt t1 i1 f1 t2 i2 f2 scope pos) (lc wi fr g tt wj g2 tt2 te):=by
 intro pins s σ H Q I h;obtain⟨hkind,hcell,hnames,hfree⟩:=ni.get hsc;obtain⟨frl,frg⟩:=mG.get hfr;obtain⟨cl,hclos,cl1,cl2⟩:=bR (env:=X.env) (scope:=scope) fun y hy hl=>I.ok.has y.1 (hfree y hy hl);rw[eval_ListComp];refine E6 (use:=none) rfl hs hclos hkind hnames (A8 (hi pins s σ H _ I h) fun v s1 h1=>A8 h1 fun itv s2 h2=>?_);obtain⟨it,fp,tn,J,H2,e,I2,T,st2,f2,q2⟩:=h2;subst e;refine DT ?_;have hD:H2 s2.heap.objs.size=none:=I2.hok.fresh (Dm _)
 have I3:Inv X pins σ (upd H2 s2.heap.objs.size (.lst [])) {s2 with heap:=s2.heap.push {cls:=.type "list", data:=.seq ([]:List Dc).toArray}} :=
  I2.laid (t':=s2.toks) (fun b u e=>Db _ e) (Dm _) ⟨by show 0<=sizeLine;exact DG _,[],0,.nil,Do _ rfl⟩
 obtain⟨Wv,⟨m0,w0⟩,turn⟩:=q2 _ hD;have tn3:tn 0 (s2.heap.push {cls:=.type "list", data:=.seq ([]:List Dc).toArray}):=T.keep _ _ _ st2 fun b _ o e=>Db _ e
 have fpD:∀b∈fp,(upd H2 s2.heap.objs.size (.lst [])) b=none:=fun b hb=>by
  obtain⟨o,e,_⟩:=T.obj _ _ st2 b hb;rw[ae (DB (Df e))];exact(f2 b hb).1
 have fp3:∀b∈fp,b<(s2.heap.push {cls:=.type "list", data:=.seq ([]:List Dc).toArray}).objs.size:=fun b hb=>by
  obtain⟨o,e,_⟩:=T.obj _ _ tn3 b hb;exact Df e
 exact cn N' fr hc hkind hcell hfree frl frg cl1 cl2 I3 T tn3 fpD fp3 (fun b hb=>(f2 b hb).2)
  (fun s' IY tY stat=>pE (Y:=blk X N' scope ⟨cl,fp,X.pn++pins,_,_⟩) hc rfl (hg ⟨cl,fp,X.pn++pins,_,_⟩) (ht ⟨cl,fp,X.pn++pins,_,_⟩) (hj ⟨cl,fp,X.pn++pins,_,_⟩) (hg2 ⟨cl,fp,X.pn++pins,_,_⟩) (ht2 ⟨cl,fp,X.pn++pins,_,_⟩) (he ⟨cl,fp,X.pn++pins,_,_⟩) (hs2 ⟨cl,fp,X.pn++pins,_,_⟩) T IY tY fpD stat w0 (turn ⟨cl,fp,X.pn++pins,_,_⟩))
  (Rp:=JL (Dw X.prog X.w) X.A X.xe none (EP X pins σ Q) (.ref s2.heap.objs.size)) fun s5 H4 m hn k _ qn=>⟨m,hn,fun h' hs'=>⟨.ref _,H4,k h' hs',rfl,qn⟩⟩
theorem iE{b:Bool}{spos:Pos}{ix:Nat}(N':List Str)(fr:List (Option Nat))(hc:X.calm=true)(hi:PI X t1 i1 wi)(hfr:mG fr N' X.N scope X.env.scope=true)(hsc:ni scope X.env.scope=true)
 (hg:∀y,PG (blk X N' scope y) t1 (g y))(ht:∀y,Cu (blk X N' scope y) f1 (tt y))(hj:∀y,PI (blk X N' scope y) t2 i2 (wj y))(hg2:∀y,PG (blk X N' scope y) t2 (g2 y))(ht2:∀y,Cu (blk X N' scope y) f2 (tt2 y))(he:∀y,PE (blk X N' scope y) elt (te y))
 (hN:X.N.Nodup)(hix:X.N[ix]?=some x)(hx:Loc X.env.scope x)(hf:X.fn x=true\/X.env.scope.names.lookup x=some .local)(hsw:ET (BH elt t1 i1 f1 t2 i2 f2 scope pos) (some (.Name x px)) spos.line X.env=pure b)
 (hs:∀x,DL i1 X.env x=pure x)(hs2:∀y x,DL i2 (blk X N' scope y).env x=pure x):PS X (.Assign [.Name x px] (BH elt t1 i1 f1 t2 i2 f2 scope pos) spos) (xE (lc wi fr g tt wj g2 tt2 te) (iN ix)):=by
 cases b with
 | false=>exact eY hN hix hx (lG N' fr hc hi hfr hsc hg ht hj hg2 ht2 he hs hs2) hsw hf
 | true =>
 intro pins s σ H DD I h;obtain⟨hkind,hcell,hnames,hfree⟩:=ni.get hsc;obtain⟨frl,frg⟩:=mG.get hfr;obtain⟨cl,hclos,cl1,cl2⟩:=bR (env:=X.env) (scope:=scope) fun y hy hl=>I.ok.has y.1 (hfree y hy hl);rw[IL _ _ _ _ hsw];refine C9 (ED (C9 ?_));show Dr _ X.A (do let _ <- comprehension (BH elt t1 i1 f1 t2 i2 f2 scope pos) scope X.env _ (newList []) false (eval i1 X.env) (some (G_ (.Name x px) X.env))) _ _ s
 refine C9 (DC (E6 (use:=some (G_ (.Name x px) X.env)) (Q:=fun _ s'=>SP X pins DD .next s') rfl hs hclos hkind hnames
  (A8 (hi pins s σ H _ I h) fun v s1 h1=>A8 h1 fun itv s2 h2=>?_)) (fun _ s' hq=>De (De hq)) fun _ _ e=>e)
 obtain⟨it,fp,tn,J,H2,e,I2,T,st2,f2,q2⟩:=h2;subst e;refine DT ?_;have hD:H2 s2.heap.objs.size=none:=I2.hok.fresh (Dm _)
 have I3:Inv X pins σ (upd H2 s2.heap.objs.size (.lst [])) {s2 with heap:=s2.heap.push {cls:=.type "list", data:=.seq ([]:List Dc).toArray}} :=
  I2.laid (t':=s2.toks) (fun b u e=>Db _ e) (Dm _) ⟨by show 0<=sizeLine;exact DG _,[],0,.nil,Do _ rfl⟩
 obtain⟨Wv,⟨m0,w0⟩,turn⟩:=q2 _ hD;have tn3:tn 0 (s2.heap.push {cls:=.type "list", data:=.seq ([]:List Dc).toArray}):=T.keep _ _ _ st2 fun b _ o e=>Db _ e
 have fpD:∀b∈fp,(upd H2 s2.heap.objs.size (.lst [])) b=none:=fun b hb=>by
  obtain⟨o,e,_⟩:=T.obj _ _ st2 b hb;rw[ae (DB (Df e))];exact(f2 b hb).1
 have fp3:∀b∈fp,b<(s2.heap.push {cls:=.type "list", data:=.seq ([]:List Dc).toArray}).objs.size:=fun b hb=>by
  obtain⟨o,e,_⟩:=T.obj _ _ tn3 b hb;exact Df e
 refine cn (Q:=fun v H1=>iN ix v σ H1 DD.nx) N' fr hc hkind hcell hfree frl frg cl1 cl2 I3 T tn3 fpD fp3 (fun b hb=>(f2 b hb).2)
  (fun s' IY tY stat=>pE (Y:=blk X N' scope ⟨cl,fp,X.pn++pins,_,_⟩) (Q:=fun v H1=>iN ix v σ H1 DD.nx) hc rfl (hg ⟨cl,fp,X.pn++pins,_,_⟩) (ht ⟨cl,fp,X.pn++pins,_,_⟩) (hj ⟨cl,fp,X.pn++pins,_,_⟩) (hg2 ⟨cl,fp,X.pn++pins,_,_⟩) (ht2 ⟨cl,fp,X.pn++pins,_,_⟩) (he ⟨cl,fp,X.pn++pins,_,_⟩) (hs2 ⟨cl,fp,X.pn++pins,_,_⟩) T IY tY fpD stat w0 (turn ⟨cl,fp,X.pn++pins,_,_⟩))
  (Rp:=JL (Dw X.prog X.w) X.A X.xe (some (G_ (.Name x px) X.env)) (fun _ s'=>SP X pins DD .next s') (.ref s2.heap.objs.size)) fun s5 H4 m hn k fpo qn=>?_
 show Dr _ X.A (G_ (.Name x px) X.env (.ref s2.heap.objs.size)) _ _ s5;have I5:Inv X pins σ H4 s5:=k s5.heap (GZ _ _);obtain⟨f0,f1,f2',f3,f4,f5⟩:=fpo;refine HR (dW I5 hN hix hx (v:=.ref s2.heap.objs.size) rfl (fun s6 I6 sb=>?_) hf);obtain⟨a,sb,ha⟩:=sb
 have hne:(s2.heap.push {cls:=.type "list", data:=.seq ([]:List Dc).toArray}).objs.size≠a:=by
  rcases ha with rfl|ha
  · exact f1
  · exact fun z=>f4 x a ha z.symm
 refine⟨m,hn.at' fun o e=>sb.extBut _ o hne e,fun h' hs'=>?_⟩;exact⟨_,H4,I6.turned (t':=s6.toks) (fun b o hb e=>hs'.extBut b o hb e) f0 f1 f3 f4 f5,qn⟩
end
end L2
namespace L2.VL
noncomputable def nD(ρ0:En)(g:Ce)(ft:TB)(fj:En->(List Da->Prop)->Prop)(g2:Ce)(ft2:TB)(fe:TV):List Da->List Da->(List Da->Prop)->Prop
 | [],acc,Q=>Q acc
 | x::xs,acc,Q=>g x ρ0 fun ρ2=>Le ρ0 ρ2/\ft ρ2 fun b=>if b=true then fj ρ2 fun ys=>kB ρ2 g2 ft2 fe ys acc fun acc'=>nD ρ0 g ft fj g2 ft2 fe xs acc' Q else nD ρ0 g ft fj g2 ft2 fe xs acc Q
noncomputable def kX(fi:En->(List Da->Prop)->Prop)(fr:List (Option Nat))(g:Ce)(ft:TB)(fj:En->(List Da->Prop)->Prop)(g2:Ce)(ft2:TB)(fe:TV):TV:=fun ρ Q=>fi ρ fun xs=>nD (dh fr ρ) g ft fj g2 ft2 fe xs [] fun ds=>Q (.ml ds)
section
variable{X:Cx}{rl:Option Addr}{elt t1 i1 t2 i2:Expr}{f1 f2:List Expr}{scope:Scope}{pos:Pos}{fi fj:En->(List Da->Prop)->Prop}{g g2:Ce}{ft ft2:TB}{fe:TV}
theorem oq{wi:TI}(fr:List (Option Nat))(k0:∀{F₀ H₀ F H:Hp}{σ:St}{ρ:En},VR X.K rl F₀ H₀ F H σ ρ->∀(Qd:List Da->Prop)(R:It->Hp->Prop),fi ρ Qd ->
 (∀J xs F' H',Grow rl F H F' H'->VIt X.K rl F' J xs->Qd xs->R J H')->wi σ H R)
 (hg:∀y,CD (blk X N' scope y) rl t1 g)(ht:∀y,kF (blk X N' scope y) rl f1 ft)(hj:∀y,CA (blk X N' scope y) rl t2 i2 fj)(hg2:∀y,CD (blk X N' scope y) rl t2 g2)(ht2:∀y,kF (blk X N' scope y) rl f2 ft2)(he:∀y,PV (blk X N' scope y) rl elt fe)
 (R:VR X.K rl F₀ H₀ F H σ ρ)(Qd:W->Prop)(Q:VK)(q:kX fi fr g ft fj g2 ft2 fe ρ Qd)
 (k:∀v w F' H',Grow rl F H F' H'->cE X.K rl F' H' v w->dg H v w->Qd w->Q v H') :
 lc wi fr (fun y=>DW (hg y)) (fun y=>DW (ht y)) (fun y=>DW (hj y)) (fun y=>DW (hg2 y)) (fun y=>DW (ht2 y)) (fun y=>DW (he y)) σ H Q:=by
 refine k0 R _ _ q fun J xs F1 H1 g1 vi q1=>?_;intro D hD;have rD:rl≠some D:=fun e=>by obtain⟨o,z⟩:=g1.reel.live e;rw[hD]at z;cases z
 have FD:F1 D=none:=g1.sub.free hD;have gD:Grow rl F1 H1 F1 (upd H1 D (.lst [])):=Grow.laid g1.sub g1.reel hD;have R1:=R.grow g1;have n0:ko (dh fr ρ):=cC;have keepD:∀{acc:List V}{Fc Hc Fx Hx:Hp},Hc D=some (.lst acc)->Fc D=none->Grow rl Fc Hc Fx Hx->Hx D=some (.lst acc)/\Fx D=none:=fun hDc fDc gx=>⟨gx.same D _ hDc rD,by rw[gx.old D _ hDc];exact fDc⟩
 refine⟨fun i m acc σc Hc=>m=xs.length-i/\i<=xs.length/\∃Fc ds,VR X.K rl F1 H1 Fc Hc σc (dh fr ρ)/\Hc D=some (.lst acc)/\Fc D=none/\Reps X.K Fc acc ds/\nD (dh fr ρ) g ft fj g2 ft2 fe (xs.drop i) ds (fun ds=>Qd (.ml ds)),
  ⟨xs.length,by simp,DG _,F1,[],dO R1 gD,aj,FD,.nil,by simpa using q1⟩,?_⟩
 rintro z i m acc σc Hc ⟨rfl,hi,Fc,ds,Rc,hDc,fDc,rs,q2⟩;have sH:aR F1 Hc:=Rc.g.fs.trans Rc.sub;by_cases hlt:i<xs.length
 · have ei:xs[i]?=some xs[i]:=by simp[hlt]
   have ed:xs.drop i=xs[i]::xs.drop (i+1):=Ek hlt;rw[ed]at q2;refine .inr ⟨vi.go i Hc _ ei sH,fun v H' y=>?_⟩;obtain⟨Fy,gy,rv⟩:=vi.yld i Hc v H' _ Fc ei Rc.g.fs Rc.sub Rc.reel y;refine(Dg (hg z)).2 (Rc.grow gy) v _ _ _ rv q2 fun F3 H3 σ3 ρ3 g3 n3 R3 ⟨le3,q3⟩=>?_;refine(Dg (ht z)).2 R3 _ _ q3 fun b F4 H4 g4 q4=>?_;have R4:=R3.grow g4;have g34:=(gy.trans g3).trans g4;have nm3:ko ρ3:=n3 n0
   cases b with
   | false=>exact⟨xs.length-(i+1),by omega,rfl,hlt,F4,ds,R4.le le3,(keepD hDc fDc g34).1,(keepD hDc fDc g34).2,rs.mono g34.fs,q4⟩
   | true =>
     refine(Dg (hj z)).2 R4 _ _ q4 fun J2 ys F5 H5 g5 vi2 q5=>?_;have g35:=g34.trans g5
     refine⟨fun j m acc σe He=>m=ys.length-j/\j<=ys.length/\∃Fe es,VR X.K rl F1 H1 Fe He σe ρ3/\aR F5 Fe/\He D=some (.lst acc)/\Fe D=none/\Reps X.K Fe acc es /\
      kB ρ3 g2 ft2 fe (ys.drop j) es (fun es=>nD (dh fr ρ) g ft fj g2 ft2 fe (xs.drop (i+1)) es (fun ds=>Qd (.ml ds))),
      ⟨ys.length,by simp,DG _,F5,ds,R4.grow g5,.refl _,(keepD hDc fDc g35).1,(keepD hDc fDc g35).2,rs.mono g35.fs,by simpa using q5⟩,?_⟩
     rintro j m acc2 σe He ⟨rfl,hj',Fe,es,Re,s5,hDe,fDe,res,q6⟩;have sHe:aR F5 He:=s5.trans Re.sub;by_cases hlt2:j<ys.length
     · have ej:ys[j]?=some ys[j]:=by simp[hlt2]
       have edj:ys.drop j=ys[j]::ys.drop (j+1):=Ek hlt2;rw[edj]at q6;refine .inr ⟨vi2.go j He _ ej sHe,fun v2 H2' y2=>?_⟩;obtain⟨Fy2,gy2,rv2⟩:=vi2.yld j He v2 H2' _ Fe ej s5 Re.sub Re.reel y2;refine(Dg (hg2 z)).2 (Re.grow gy2) v2 _ _ _ rv2 q6 fun F7 H7 σ7 ρ7 g7 n7 R7 ⟨le7,q7⟩=>?_;refine(Dg (ht2 z)).2 R7 _ _ q7 fun b2 F8 H8 g8 q8=>?_;have R8:=R7.grow g8;have g78:=(gy2.trans g7).trans g8
       cases b2 with
       | false=>exact⟨ys.length-(j+1),by omega,rfl,hlt2,F8,es,R8.le le7,s5.trans g78.fs,(keepD hDe fDe g78).1,(keepD hDe fDe g78).2,res.mono g78.fs,q8⟩
       | true =>
         refine(Dg (he z)).2 R8 _ _ q8 fun v9 w9 F9 H9 g9 r9 n9 ⟨d,ed9,hl,q9⟩=>?_;obtain⟨F10,g10,s10,r10⟩:=cE.fz g9 r9 n9;rw[ed9]at r10;have g710:=g78.trans g10;refine⟨(keepD hDe fDe g710).1,by rw[res.length];exact hl,ys.length-(j+1),by omega,rfl,hlt2,F10,es++[d],((R8.grow g10).le le7).other nm3 hD (keepD hDe fDe g710).2 rD,s5.trans g710.fs,aj,(keepD hDe fDe g710).2,(res.mono g710.fs).snoc r10,q9⟩
     · have e:j=ys.length:=by omega
       subst e;rw[Ga]at q6;exact .inl ⟨vi2.stop _ He (Dm _) sHe,xs.length-(i+1),by omega,rfl,hlt,Fe,es,Re.le le3,hDe,fDe,res,q6⟩
 · have e:i=xs.length:=by omega
   subst e;rw[Ga]at q2;refine .inl ⟨vi.stop _ Hc (Dm _) sH,k _ (.ml ds) Fc Hc (g1.trans Rc.g) ⟨D,acc,rfl,fDc,rD,hDc,rs⟩ (fun a ea=>by cases ea;exact g1.freeB hD) q2⟩
theorem im(i:Nat){b:Bool}{spos:Pos}(hN:X.N.Nodup)(N':List Str)(fr:List (Option Nat))(hc:X.calm=true)(hi:CA X rl t1 i1 fi)
 (hg:∀y,CD (blk X N' scope y) rl t1 g)(ht:∀y,kF (blk X N' scope y) rl f1 ft)(hj:∀y,CA (blk X N' scope y) rl t2 i2 fj)(hg2:∀y,CD (blk X N' scope y) rl t2 g2)(ht2:∀y,kF (blk X N' scope y) rl f2 ft2)(he:∀y,PV (blk X N' scope y) rl elt fe)
 (hsw:autoParam (ET (.ListComp elt [⟨t1,i1,f1,0⟩,⟨t2,i2,f2,0⟩] scope pos) (some (.Name x px)) spos.line X.env=pure b) æa._auto_1)
 (hix:autoParam (X.N[i]?=some x) æa._auto_1)(hx:autoParam (Loc X.env.scope x) æe._auto_1)(hf:autoParam (X.fn x=true\/X.env.scope.names.lookup x=some .local) æf._auto_1)
 (hfr:autoParam (mG fr N' X.N scope X.env.scope=true) æa._auto_1)(hsc:autoParam (ni scope X.env.scope=true) æa._auto_1)
 (hs:autoParam (∀x,DL i1 X.env x=pure x) æd._auto_1)(hs2:autoParam (∀y x,DL i2 (blk X N' scope y).env x=pure x) æi._auto_1) :
 Cw X rl (.Assign [.Name x px] (.ListComp elt [⟨t1,i1,f1,0⟩,⟨t2,i2,f2,0⟩] scope pos) spos) (qz i (kX fi fr g ft fj g2 ft2 fe)):=by
 obtain⟨wi,p0,k0⟩:=hi
 refine⟨_,iE N' fr hc p0 hfr hsc (fun y=>(Dg (hg y)).1) (fun y=>(Dg (ht y)).1) (fun y=>(Dg (hj y)).1) (fun y=>(Dg (hg2 y)).1) (fun y=>(Dg (ht2 y)).1) (fun y=>(Dg (he y)).1) hN hix hx hf hsw hs hs2,
  fun R Dv D ok q=>oq fr k0 hg ht hj hg2 ht2 he R _ _ q fun v w F1 H1 g1 r1 n1 ⟨d,ed,q1⟩=>?_⟩
 obtain⟨F2,g2,s2,r2⟩:=cE.fz g1 r1 n1;rw[ed]at r2;exact ok.nx _ _ _ _ g2.fs (R.set g2 r2 trivial (fun xs z=>by cases z) i) q1
end
noncomputable def pJ(ρ0:En)(g:Ce)(ft:TB)(fj:En->(List Da->Prop)->Prop)(g2:Ce)(ft2:TB)(fe:TV)(x:Da)(acc:List Da):Mo (List Da) :=
 BZ (g x ρ0) fun ρ2=>BR (Le ρ0 ρ2) (BZ (ft ρ2) fun b=>if b=true then BZ (fj ρ2) fun ys=>bv (BL ρ2 g2 ft2 fe) ys acc else ret acc)
noncomputable def de(b:Da->List Da->Mo (List Da)):List Da->List Da->Mo (List Da)
 | [],acc=>ret acc
 | x::xs,acc=>BZ (b x acc) (de b xs)
theorem jE(ρ0:En)(g:Ce)(ft:TB)(fj:En->(List Da->Prop)->Prop)(g2:Ce)(ft2:TB)(fe:TV):∀(xs acc:List Da),nD ρ0 g ft fj g2 ft2 fe xs acc=de (pJ ρ0 g ft fj g2 ft2 fe) xs acc
 | [],acc=>rfl
 | x::xs,acc=>by
   refine af fun Q=>?_;show(g x ρ0 fun ρ2=>Le ρ0 ρ2/\ft ρ2 fun b=>if b=true then fj ρ2 fun ys=>kB ρ2 g2 ft2 fe ys acc fun acc'=>nD ρ0 g ft fj g2 ft2 fe xs acc' Q else nD ρ0 g ft fj g2 ft2 fe xs acc Q)↔(BZ (pJ ρ0 g ft fj g2 ft2 fe x acc) (de (pJ ρ0 g ft fj g2 ft2 fe) xs)) Q;simp only[jE ρ0 g ft fj g2 ft2 fe xs,iS]
   have:∀(ρ2:En)(b:Bool),(if b=true then fj ρ2 fun ys=>bv (BL ρ2 g2 ft2 fe) ys acc fun acc'=>de (pJ ρ0 g ft fj g2 ft2 fe) xs acc' Q else de (pJ ρ0 g ft fj g2 ft2 fe) xs acc Q)
    = (BZ (if b=true then BZ (fj ρ2) fun ys=>bv (BL ρ2 g2 ft2 fe) ys acc else ret acc) (de (pJ ρ0 g ft fj g2 ft2 fe) xs)) Q:=by
    intro ρ2 b;cases b<;>rfl
   simp only[this];exact G7
theorem m_comp2(fi:En->(List Da->Prop)->Prop)(fr:List (Option Nat))(g:Ce)(ft:TB)(fj:En->(List Da->Prop)->Prop)(g2:Ce)(ft2:TB)(fe:TV)(ρ:En) :
 kX fi fr g ft fj g2 ft2 fe ρ=BZ (fi ρ) fun xs=>BZ (de (pJ (dh fr ρ) g ft fj g2 ft2 fe) xs []) fun ds=>ret (.ml ds):=by
 refine af fun Q=>?_;show(fi ρ fun xs=>nD (dh fr ρ) g ft fj g2 ft2 fe xs [] fun ds=>Q (.ml ds))↔_;simp only[jE];exact G7
section
variable{α β:Type}{b:Da->Mo (Option Da)}
theorem iU{c:Da->List Da->Mo (List Da)}{xs:List α}{enc:α->Da}(F:α->List Da)(h:∀x∈xs,∀acc:List Da,acc.length+(F x).length<=sizeLine->c (enc x) acc=ret (acc++F x)) :
 ∀acc:List Da,acc.length+(xs.flatMap F).length<=sizeLine->de c (xs.map enc) acc=ret (acc++xs.flatMap F):=by
 induction xs with
 | nil=>intro acc _;show ret acc=_;simp
 | cons x xs ih =>
   intro acc hl;rw[EX,DK]at hl;show BZ (c (enc x) acc) _=_;rw[h x Dx acc (by omega),bnd_ret,ih (fun y my=>h y (Dl _ my)) (acc++F x) (by rw[DK];omega),EX,GW]
theorem yu{γ:Type}{c:Da->List Da->Mo (List Da)}{k:List Da->Mo γ}{Q:γ->Prop}{xs:List α}{enc:α->Da}(F:α->List Da)(hx:xs'=xs.map enc)
 (h:∀x∈xs,∀acc:List Da,acc.length+(F x).length<=sizeLine->c (enc x) acc=ret (acc++F x))(hl:(xs.flatMap F).length<=sizeLine)(fin:k (xs.flatMap F) Q):BZ (de c xs' []) k Q:=by
 subst hx;rw[iU F h [] (by simpa using hl),bnd_ret];simpa using fin
end
noncomputable def C6:=C8 @m_comp2 (@bnd_ret)
end L2.VL
namespace L2
theorem DAt.stab{h1 h2:Heap}(p:VL.DAt a xs h1)(k:∀o,h1.get? a=some o->h2.get? a=some o):VL.DAt a xs h2:=by
 obtain⟨o,es,ep,h,r⟩:=p;exact⟨o,es,ep,k o h,r⟩
theorem fy(p:VL.DAt a xs h):aK P w H h a (.ext (VL.DAt a xs)) :=
 ⟨p,(let ⟨o,_,_,e,_⟩:=p;⟨o,e⟩),fun _ _ q k=>DAt.stab q k⟩
noncomputable def cy(K:W.Frag)(H:Hp)(xs:List (List Int×Addr×Dc)):Prop:=∀x∈xs,Cg K H x.2.1 (x.1.map V.int)
section
variable{X:Cx}{pins:List (Addr×Obj)}{σ:St}{H:Hp}{s:Dd}{a b:Addr}{xs:List (List Int×Addr×Dc)}{k:List Int}{A:DM}{E:Dc->Dd->Prop}
theorem items_int{prog:Dq}{w:DN}:∀{ks:List Int}{its:List Dc},bT (ks.map V.int) its->ItemsAre (E9 prog w) ks its
 | [],_,.nil=>.nil
 | i::ks,_,.cons h r=>by
   obtain⟨t,rfl⟩:=(show ∃t,_=F0 i t from h);exact .cons (by simp[E9,JO]) (items_int r)
theorem c_(I:Inv X pins σ H s)(sq:Cg X.K H b (k.map V.int)):(Ee (E9 X.prog X.w)).is s.heap k b:=by
 obtain⟨its,rv,⟨o,h1,h2,n,h3⟩,_⟩:=I.tuple sq;exact⟨o,its.toArray,n,h1,h2,h3,by simpa using items_int rv⟩
theorem fv(I:Inv X pins σ H s)(e:H a=some (.ext (VL.DAt a xs)))(ks:cy X.K H xs):s.heap.DictOfH (Ee (E9 X.prog X.w)) a xs/\(a==Fh)=false/\xs.length<=sizeLine:=by
 obtain⟨⟨o,es,ep,h1,h2,h3,h4,h5,h6,h7⟩,_⟩:=(show aK X.prog X.w H s.heap a (.ext (VL.DAt a xs))from I.hok a _ e);exact⟨⟨o,es,ep,h1,h2,h3,h4 _ _,fun x hx=>c_ I (ks x hx),h5⟩,h6,h7⟩
theorem oJ{P':Dq}{w':DN}(x:List Int×Addr×Dc):Jv (Ee (E9 P w)) x=Jv (Ee (E9 P' w')) x:=rfl
theorem jB(d:h.DictOfH (Ee (E9 P w)) a xs)(h6:(a==Fh)=false)(h7:xs.length<=sizeLine):VL.DAt a xs h:=by
 obtain⟨o,es,ep,h1,h2,h3,h4,_,h5⟩:=d;exact⟨o,es,ep,h1,h2,h3,fun P' w'=>by rw[h4];exact FZ fun x _=>oJ x,h5,h6,h7⟩
theorem bY(xs:List (List Int×Addr×Dc))(k:List Int)(b:Addr)(u:Dc):(FV xs k b u).length<=xs.length+1:=by
 unfold FV;split<;>simp
noncomputable def xu(K:W.Frag)(td ty:TE):TE:=fun σ H Q=>td σ H fun x H1=>ty σ H1 fun y H2=>∃a xs b k p v,x = .ref a/\H2 a=some (.ext (VL.DAt a xs))/\cy K H2 xs/\y = .ref b/\Cg K H2 b (k.map V.int)/\IW xs k=some p/\RelV v p.2/\Q v H2
noncomputable def xG(K:W.Frag)(td ty tv:TE):TS:=fun D σ H=>tv σ H fun v H1=>td σ H1 fun x H2=>ty σ H2 fun y H3 =>
 ∃a xs b k,x = .ref a/\H3 a=some (.ext (VL.DAt a xs))/\cy K H3 xs/\y = .ref b/\Cg K H3 b (k.map V.int)/\xs.length<sizeLine/\∀r,RelV v r->D.nx σ (upd H3 a (.ext (VL.DAt a (FV xs k b r))))
end
section
variable{X:Cx}{o i e f value:Expr}{pos pos' apos cpos:Pos}{td ty tz tv:TE}
theorem rA(hu:X.A.units+1<Gu)(ho:PE X o td)(hi:PE X i ty)(hs:pY i):PE X (.Subscript o i pos) (xu X.K td ty):=by
 intro pins s σ H Q I h;refine iu Gv.lookup hs (A8 (ho pins s σ H _ I h) fun u s1 ⟨x,H1,I1,rx,q1⟩=>A8 (hi pins s1 σ H1 _ I1 q1) fun iv s2 ⟨y,H2,I2,ry,a,xs,b,k,p,v,ex,e,ks,ey,sq,at',rv,q2⟩=>?_);subst ex ey;obtain rfl:u=Dn a:=rx;cases(show iv=Dn b from ry);obtain⟨dd,hd,_⟩:=fv I2 e ks;refine⟨dd.typeIs,GL (EJ hu) (c_ I2 sq) dd at' ?_⟩;exact⟨v,H2,I2.tok _,rv,q2⟩
theorem q0(hu:X.A.units+1<Gu)(ho:PE X o td)(hi:PE X i ty)(hv:PE X value tv)(hs:ET value (some (.Subscript o i pos')) pos.line X.env=pure false) :
 PS X (.Assign [.Subscript o i pos'] value pos) (xG X.K td ty tv):=by
 intro pins s σ H D I h;refine Iw (A8 (hv pins s σ H _ I h) fun r s1 ⟨v,H1,I1,rv,q1⟩=>A8 (ho pins s1 σ H1 _ I1 q1) fun u s2 ⟨x,H2,I2,rx,q2⟩=>A8 (hi pins s2 σ H2 _ I2 q2) fun iv s3 ⟨y,H3,I3,ry,a,xs,b,k,ex,ea,ks,ey,sq,hl,q3⟩=>?_) hs;subst ex ey;obtain rfl:u=Dn a:=rx;cases(show iv=Dn b from ry);obtain⟨dd,hd,hz⟩:=fv I3 ea ks;refine HB (hsz:=hz) (EJ hu) (c_ I3 sq) dd fun h' dd' hsb=>⟨σ,_,?_,q3 r rv⟩;have lz:=bY xs k b r;have at':=jB dd' hd (by omega);exact cT I3 (by rw[ea];exact Gc) hsb (let ⟨o,_,_,e,_⟩:=at';⟨o,e⟩) (fy at')
end
end L2
namespace L2.VL
noncomputable def kQ(kvs:List (List Int×Da))(k:List Int):Option Da:=(kvs.find? fun kv=>decide (kv.1=k)).map (·.2)
noncomputable def cN(kvs:List (List Int×Da))(k:List Int)(x:Da):List (List Int×Da) :=
 if(kvs.any fun kv=>decide (kv.1=k))=true then kvs.map (fun kv=>if kv.1=k then(kv.1,x)else kv)else kvs++[(k,x)]
theorem KX.keys{K:W.Frag}{F:Hp}:∀{xs:List (List Int×Addr×Dc)}{kvs:List (List Int×Da)},KX K F xs kvs->cy K F xs
 | _,_,.nil,x,m=>by cases m
 | _,_,.cons h t,x,m=>by
   rcases DS.mp m with rfl|m
   · rw[h.1]at *;exact h.2.1
   · exact KX.keys t x m
theorem KX.at{K:W.Frag}{F:Hp}{xs:List (List Int×Addr×Dc)}{kvs:List (List Int×Da)}(r:KX K F xs kvs)(k:List Int):(IW xs k=none/\kQ kvs k=none)\/∃p v d,IW xs k=some p/\kQ kvs k=some d/\RelV v p.2/\Rep K F v d:=by
 induction r with
 | nil=>exact .inl ⟨rfl,rfl⟩
 | @cons p q ps qs h t ih =>
   unfold IW kQ at *;rw[EB,EB,h.1];by_cases e:q.1=k
   · simp only[e,decide_true];obtain⟨_,_,v,rv,rp⟩:=h;exact .inr ⟨p.2,v,q.2,rfl,rfl,rv,rp⟩
   · simp only[e,decide_false];exact ih
theorem KX.put{K:W.Frag}(r:KX K F xs kvs)(k:List Int)(sq:Cg K F b (k.map V.int))(rv:RelV v u)(rp:Rep K F v d):KX K F (FV xs k b u) (cN kvs k d):=by
 have any:(IW xs k).isSome=kvs.any fun kv=>decide (kv.1=k):=by
  induction r with
  | nil=>rfl
  | @cons p q ps qs h t ih =>
    unfold IW at *;rw[EB,Ic,h.1];by_cases e:q.1=k
    · simp[e]
    · simp only[e,decide_false,Bool.false_or];exact ih
 unfold FV cN;rw[any];by_cases c:(kvs.any fun kv=>decide (kv.1=k))=true
 · rw[if_pos c,if_pos c];clear any c
   induction r with
   | nil=>exact .nil
   | @cons p q ps qs h t ih =>
     refine .cons ?_ ih;show(putAt k u p).1=(if q.1=k then(q.1,d)else q).1/\Cg K F (putAt k u p).2.1 ((putAt k u p).1.map V.int)/\∃v,RelV v (putAt k u p).2.2/\Rep K F v (if q.1=k then(q.1,d)else q).2;unfold putAt;by_cases e:q.1=k
     · rw[if_pos e,if_pos (h.1.trans e)];exact⟨h.1,h.2.1,v,rv,rp⟩
     · rw[if_neg e,if_neg (fun z=>e (h.1.symm.trans z))];exact h
 · rw[if_neg c,if_neg c];exact JS r ⟨rfl,sq,v,rv,rp⟩
section
variable{X:Cx}{rl:Option Addr}{e:Expr}{pos px apos cpos:Pos}{ρ:En}
theorem VR.ownX{K:W.Frag}{ρ:En}(r:VR K rl F₀ H₀ F H σ ρ){xs ys:List (List Int×Da)}{us:List (List Int×Addr×Dc)}(e:ρ[i]?=some (some (.xm xs)))(es:σ[i]?=some (some (.ref a)))(rs:KX K F us ys) :
 VR K rl F₀ H₀ F (upd H a (.ext (DAt a us))) σ (ρ.set i (some (.xm ys))):=by
 obtain⟨v,h1,h2,h3⟩:=r.sl i _ e;rw[es]at h1;cases h1;obtain⟨a',vs,ev,f,hr,hh,q⟩:=(show i3 K rl F H (.ref a) xs from h2);cases ev;have n0:H₀ a=none:=h3 a rfl;have hi:i<ρ.length:=(Du.mp e).1;have neF:∀b u,F b=some u->b≠a:=fun b u q z=>by subst z;rw[f]at q;cases q
 have g:Grow rl F₀ H₀ F (upd H a (.ext (DAt a us))):=by
  refine⟨fun b o q1 n=>by rw[ae (aq q1 n0)];exact r.g.same b o q1 n,r.g.fs,fun b o q1=>by rw[ae (neF b o q1)];exact r.sub b o q1,r.g.old,fun y z=>?_⟩;obtain⟨z1,⟨u,h1,h2⟩⟩:=r.reel y z;exact⟨z1,⟨u,by rw[ae (fun q=>hr (by rw[<- q];exact z))];exact h1,h2⟩⟩
 refine⟨g,fun j w e1=>?_,fun j k ys' zs u hjk e1 e2 w1 w2 s1 s2=>?_,fun j ys' z=>?_,by simp[r.len]⟩
 · by_cases hj:i=j
   · subst hj;rw[Dz hi]at e1;cases e1;exact⟨_,es,⟨a,us,rfl,f,hr,aj,rs⟩,h3⟩
   · rw[Dp hj]at e1;obtain⟨u,g1,g2,g3⟩:=r.sl j w e1;refine⟨u,g1,?_,g3⟩
     cases w with
     | d x=>exact g2
     | reel=>exact g2
     | vv u=>exact g2
     | ml zs =>
       obtain⟨b,us',eb,f1,f2,f3,f4⟩:=(show fF K rl F H u zs from g2);have ne:b≠a:=fun z=>r.ap i j _ _ (.ref a) hj e e1 rfl rfl es (by rw[g1,eb,z])
       exact⟨b,us',eb,f1,f2,by rw[ae ne];exact f3,f4⟩
     | pk zs=>exact absurd e1 (r.np j zs)
     | md zs =>
       obtain⟨b,us',eb,f1,f2,f3,f4⟩:=(show pX K rl F H u zs from g2);have ne:b≠a:=fun z=>r.ap i j _ _ (.ref a) hj e e1 rfl rfl es (by rw[g1,eb,z])
       exact⟨b,us',eb,f1,f2,by rw[ae ne];exact f3,f4⟩
     | mk zs =>
       obtain⟨b,us',eb,f1,f2,f3,f4⟩:=(show pW K rl F H u zs from g2);have ne:b≠a:=fun z=>r.ap i j _ _ (.ref a) hj e e1 rfl rfl es (by rw[g1,eb,z])
       exact⟨b,us',eb,f1,f2,by rw[ae ne];exact f3,f4⟩
     | xm zs =>
       obtain⟨b,us',eb,f1,f2,f3,f4⟩:=(show i3 K rl F H u zs from g2);have ne:b≠a:=fun z=>r.ap i j _ _ (.ref a) hj e e1 rfl rfl es (by rw[g1,eb,z])
       exact⟨b,us',eb,f1,f2,by rw[ae ne];exact f3,f4⟩
     | nt ds=>exact g2
     | lk=>trivial
     | sc _=>exact g2
     | fd _=>exact g2
     | xr _=>exact g2
     | fw _=>exact g2
     | ft _=>exact g2
     | xc _ _=>exact g2
     | dp _ _=>exact g2
 · have nd:∀(j:Nat)(z:W),(ρ.set i (some (W.xm ys)))[j]?=some (some z)->z.own=true->∃z',ρ[j]?=some (some z')/\z'.own=true:=fun j zs z o=>by
     by_cases hj:i=j
     · subst hj;exact⟨_,e,rfl⟩
     · rw[Dp hj]at z;exact⟨zs,z,o⟩
   obtain⟨_,d1,o1⟩:=nd j _ e1 w1;obtain⟨_,d2,o2⟩:=nd k _ e2 w2;exact r.ap j k _ _ u hjk d1 d2 o1 o2 s1 s2
 · rw[DU]at z;split at z
   · first|cases z|(split at z<;>cases z)
   · exact r.np j ys' z
noncomputable def gn:List Da->Option (List Int)
 | []=>some []
 | .int i::ds=>(gn ds).map (i :: ·)
 | _::_=>none
noncomputable def keyI:Da->Option (List Int)
 | .tuple ds=>gn ds
 | _=>none
theorem jq:∀{ds:List Da}{k:List Int},gn ds=some k->ds=k.map .int
 | [],k,h=>by cases h;rfl
 | .int i::ds,k,h=>by
   simp only[gn,Gd]at h;obtain⟨k',h1,rfl⟩:=h
   rw[jq h1];rfl
 | .none::_,_,h=>by cases h
 | .bool _::_,_,h=>by cases h
 | .str _::_,_,h=>by cases h
 | .list _::_,_,h=>by cases h
 | .tuple _::_,_,h=>by cases h
 | .dict _::_,_,h=>by cases h
theorem cw:∀k:List Int,gn (k.map .int)=some k
 | []=>rfl
 | i::k=>by show(gn (k.map .int)).map (i :: ·)=_;rw[cw k];rfl
theorem rY{k:List Int}(h:keyI d=some k):d = .tuple (k.map .int):=by
 unfold keyI at h;split at h
 · rw[jq h]
 · cases h
theorem l9{K:W.Frag}{k:List Int}(h:Rep K F v d)(e:keyI d=some k):∃b,v = .ref b/\Cg K F b (k.map V.int):=by
 rw[rY e]at h
 cases h with
 | @tup a vs ds sq rs =>
   rw[dP rs]at sq;exact⟨a,rfl,sq⟩
end
section
variable{X:Cx}{rl:Option Addr}{a b c o e:Expr}{es:List Expr}{fa fb:TV}{fs:Ca}{pos p apos cpos:Pos}{ρ:En}
end
end L2.VL
namespace L2.TI
section
variable{prog:Dq}{w:DN}{A:DM}{E:Dc->Dd->Prop}{s:Dd}{t:Addr}{vs:List Dc}{ns:List Int}{k:Int}{tok:Tok}{j:Nat}
theorem iM:∀{vs:List Dc}{ns:List Int}{i:Nat}{n:Int},Jf vs ns->ns[i]?=some n->∃u,vs[i]?=some (.int n u)
 | _,_,_,_,.nil,e=>by simp at e
 | _,_,0,_,.cons n t r,e=>by simp at e;subst e;exact⟨t,rfl⟩
 | _,_,i+1,_,.cons n t r,e=>by
   obtain⟨u,h⟩:=iM (i:=i) r (by simpa using e);exact⟨u,by simpa using h⟩
theorem scan{Q:Option Fin×Unit->Dd->Prop}(hI:Jf vs ns)(hj:ns[j]?=some k)(hno:∀m,m<j->ns[m]?≠some k)(q:Q (some (.done (.ret (.int j s.toks))),()) {s with toks:=s.toks+1}) :
 ∀ len start:Nat,start<=j->j<start+len->Dr (Dw prog w) A (forIn (List.range' start len) ((none,()):Option Fin×Unit) fun(i:Nat)(_:Option Fin×Unit) =>
   match vs.toArray[i]? with
   | some y=>do
     let b <- eqBool y (F0 k tok)
     if b=true then do
      let r <- retInt (i:Int)
      pure (ForInStep.done (some r,()))
     else pure (Gm (none,()))
   | _=>pure (Gm (none,()))) Q E s
 | 0,start,h1,h2=>by omega
 | len+1,start,h1,h2=>by
   rw[List.range'_succ,GM];have hl:start<ns.length:=by have:=(Du.mp hj).1;omega
   obtain⟨u,hu⟩:=iM (i:=start) (n:=ns[start]) hI (DF hl);have hv:vs.toArray[start]?=some (.int ns[start] u):=by simpa using hu
   refine C9 ?_;rw[hv];refine C9 (wpAny_eqBool_int ?_);by_cases e:ns[start]=k
   · have es:start=j:=by
       rcases Nat.lt_or_eq_of_le h1 with z|z
       · exact absurd (by rw[DF hl,e]) (hno start z)
       · exact z
     subst es;rw[if_pos (by simpa using e)];exact C9 (C9 (wpAny_mkInt (De (De (De q)))))
   · rw[if_neg (by simpa using e)];refine De ?_;have ne:start≠j:=fun z=>by subst z;rw[DF hl]at hj;exact e (DX hj)
     exact scan hI hj hno q len (start+1) (by omega) (by omega)
theorem body(tp:IsTup s.heap t vs.toArray)(hI:Jf vs ns)(hj:ns[j]?=some k)(hno:∀m,m<j->ns[m]?≠some k)
 (q:R (.ok (.ret (.int j s.toks))) {s with toks:=s.toks+1}) :
 Dr (Dw prog w) A.in1 (Builtin.«tuple.index» ⟨[.ref t,.int k tok],[]⟩) (fun fin s'=>match fin with | .done f=>R (.ok f) s' | .again c'=>c'.quiet=true/\EW (Dw prog w) A c' R s') (fun e s'=>R (.error e) s') s:=by
 unfold Builtin.«tuple.index»;show Dr _ _ (do let z <- Builtin.Tuple.tupleItemsOf (.ref t);_) _ _ s;refine C9 (tupleItemsOf_ tp ?_);refine C9 (De (C9 (De ?_)));dsimp only;rw[Std.Legacy.Range.forIn_eq_forIn_range']
 have hl:j<vs.toArray.size:=by
  have h1:=(Du.mp hj).1;have h2:=hI.length;simp only[DA];omega
 refine C9 (scan hI hj hno ?_ _ 0 (DG _) ?_)
 · exact De q
 · show j<0+Std.Legacy.Range.size _;simp[Std.Legacy.Range.size];simpa using hl
end
end L2.TI
namespace L2
section
variable{X:Cx}
end
end L2
namespace L2.VL
noncomputable def tv(b:Int)(ds:List Int):Int:=ds.foldl (fun t d=>t*b+d) 0
noncomputable def ix(p:List Int)(f:Int):Int:=(p.idxOf f:Int)
noncomputable def Fx(b:Int)(N:Nat)(q:Rat):Prop:=∃(T:Int)(k:Nat),q=qd T (b^k)/\0<=T/\T<b^k/\b^k<2^N
end L2.VL
namespace L2
noncomputable def insAt{α:Type}(xs:List α)(k:Nat)(y:α):List α:=xs.take k++y::xs.drop k
theorem bT.insAt{xs:List V}{its:List Dc}{y:V}{u:Dc}(r:bT xs its)(ry:RelV y u)(k:Nat):bT (L2.insAt xs k y) (L2.insAt its k u):=by
 unfold L2.insAt
 induction r generalizing k with
 | nil=>simp;exact .cons ry .nil
 | cons h t ih =>
   cases k with
   | zero=>exact .cons ry (.cons h t)
   | succ k=>exact .cons h (ih k)
variable{X:Cx}
noncomputable def lr:V->List V->Hp->VK->Prop:=fun x vs H Q=>∃l xs i y,x = .ref l/\vs=[.int i,y]/\H l=some (.lst xs)/\0<=i/\i<=xs.length/\xs.length<sizeLine/\Q .non (upd H l (.lst (insAt xs i.toNat y)))
theorem lN:CI X "list.insert" lr:=by
 intro pins s σ H x vs v us Q I rx rv h;obtain⟨l,xs,i,y,rfl,rfl,hH,h0,h1,hz,q⟩:=h;cases rx;obtain⟨u,u2,rfl,⟨t,rfl⟩,ru⟩:=vals2 rv;obtain⟨z,its,n,r,hl,e⟩:=I.lstM hH;have len:xs.length=its.length:=r.length;have sz:=DV;have fit:Hu i=true:=by simp[Hu];omega
 refine JA F.slot_list_insert ⟨_,e,rfl⟩ F.entry_list_insert (F.args_list_insert_3 _ _ _) (PySem.AutoSeq1.list_insert_list_int_val_1 l its.toArray n i t u2 (by simp[fit]) (by rw[DA];omega)) ⟨e,?_⟩;refine⟨.non,_,I.lset (its':=insAt its i.toNat u2) hH e ?_ (r.insAt ru _) ?_,rfl,q⟩
 · have hn:¬i<0:=by omega
   have hm:min i.toNat its.length=i.toNat:=by omega
   simp only[hn,if_false,DA,hm];unfold insAt;simp[List.extract_eq_drop_take];rw[D1 (by rw[G5];omega)]
 · unfold insAt;rw[DK,DP,Ev,G5];omega
end L2
namespace L2.VL
section
variable{X:Cx}{rl:Option Addr}{a e:Expr}{es:List Expr}{fs:Ca}{pos:Pos}
theorem Reps.insAt{K:W.Frag}{F:Hp}{vs:List V}{ds:List Da}{v:V}{d:Da}(r:Reps K F vs ds)(h:Rep K F v d)(k:Nat):Reps K F (L2.insAt vs k v) (L2.insAt ds k d):=by
 unfold L2.insAt;exact(r.take k).append (.cons h (r.drop k))
noncomputable def wE:List Da->List W->(List Da->Prop)->Prop:=fun xs ws Q=>∃i x,eK ws=some [.int i,x]/\0<=i/\i<=xs.length/\xs.length<sizeLine/\Q (insAt xs i.toNat x)
theorem tL{K:W.Frag}:wK K rl lr wE:=fun{F H a vs args xs ws} Qn Q s ha rs ra ⟨i,x,e,h0,h1,z,q⟩ k=>by
 have r2:=ck ra e
 cases r2 with
 | cons ri r3 =>
   cases r3 with
   | cons rx r4 =>
     cases r4;have ei:=aY ri;subst ei;exact⟨a,vs,i,_,rfl,rfl,ha,h0,by rw[rs.length];exact h1,by rw[rs.length];exact z,k _ _ (rs.insAt rx _) q⟩
theorem tF(i:Nat)(ha:Cr X rl [a,e] fs)(hN:autoParam (X.N[i]?=some x) æa._auto_1)(hv:autoParam (B8 X.env.scope x) æc._auto_1)
 (hd:autoParam ((x==("__debug__" : Str))=false) æb._auto_1)(hcd:autoParam ((x==("__classdict__" : Str))=false) æb._auto_1)
 (hbase:autoParam (FU (.Name x px) "insert" X.env (eval (.Name x px) X.env)=eval (.Name x px) X.env) æa._auto_1)
 (hfew:autoParam (((ES cpos (Dh [a,e] X.env)).all (fun x=>!x.1)&&(Jt cpos (Hg [] X.env)).all (fun x=>x.1.isSome)
  && decide (([a,e]).length+([]:List G4).length+(if([]:List G4).isEmpty then 0 else 1)<30))=true) æa._auto_1)
 (hline:autoParam ((apos.endLine==cpos.line)=true) æa._auto_1)(hs:autoParam (Dh [a,e] X.env=(false,eval a X.env)::Dh [e] X.env) æa._auto_1)(hplain:autoParam ((ES cpos (Dh [e] X.env)).any (·.1)=false) æa._auto_1)
 (hsw:autoParam (ET (.Call (.Attribute (.Name x px) "insert" apos) [a,e] [] cpos) none pos.line X.env=pure false) æa._auto_1) :
 Cw X rl (.Expr (.Call (.Attribute (.Name x px) "insert" apos) [a,e] [] cpos) pos) (sX i wE fs) :=
 kK i PySem.F.slot_list_insert PySem.F.type_list_insert lN tL ha hN hv hd hcd hbase hfew hline hs hplain hsw
noncomputable def insW(ws:List W):Option (Int×Da):=match eK ws with
 | some [.int i,x]=>some (i,x)
 | _=>none
theorem insW_d(i:Int)(x:Da):insW [.d (.int i),.d x]=some (i,x):=rfl
theorem so{ws:List W}{p:Int×Da}:insW ws=some p↔eK ws=some [.int p.1,p.2]:=by
 constructor
 · intro h;unfold insW at h;split at h
   · rename_i i x e;cases h;exact e
   · cases h
 · intro h;unfold insW;rw[h]
theorem m_gIns(xs:List Da)(ws:List W):wE xs ws=ar (insW ws) fun p=>BR (0<=p.1) (BR (p.1<=xs.length) (BR (xs.length<sizeLine) (ret (insAt xs p.1.toNat p.2)))):=by
 refine af fun Q=>?_;simp only[wE,ag,so,BR,ret];exact⟨fun⟨i,x,e,a,b,c,q⟩=>⟨(i,x),e,a,b,c,q⟩,fun⟨p,e,a,b,c,q⟩=>⟨p.1,p.2,e,a,b,c,q⟩⟩
theorem hW{β:Type}(f:α->β)(xs:List α)(k:Nat)(y:α):insAt (xs.map f) k (f y)=(insAt xs k y).map f:=by
 unfold insAt;rw[EM,Ep,List.map_take,List.map_drop]
theorem vT{xs:List α}{k:Nat}{y z:α}:z∈insAt xs k y↔z=y\/z∈xs:=by
 unfold insAt;rw[Ez,DS];constructor
 · rintro(h|h|h)
   · exact .inr (I_ h)
   · exact .inl h
   · exact .inr (List.mem_of_mem_drop h)
 · rintro(h|h)
   · exact .inr (.inl h)
   · rw[<- List.take_append_drop k xs,Ez]at h;exact h.imp id .inr
theorem hX{xs:List α}{k:Nat}{y:α}:(insAt xs k y).length=xs.length+1:=by
 unfold insAt;rw[DK,DP,Ev,G5];omega
noncomputable def C4:=C8 @m_gIns (@insW_d)
end
end L2.VL
namespace L2
section
variable{prog:Dq}{w:DN}{A:DM}{E:Dc->Dd->Prop}{s:Dd}
end
section
variable{X:Cx}
end
end L2
namespace L2.VL
section
variable{X:Cx}{rl:Option Addr}{e:Expr}{fa:TV}{pos:Pos}{ρ:En}
end
section
variable{X:Cx}{rl:Option Addr}{a b e:Expr}{fa fb:TV}{pos:Pos}{ρ:En}
end
end L2.VL
namespace L2
section
variable{X:Cx}
theorem iM{its:List Dc}(r:bT (ns.map V.int) its){v:Dc}(e:its[i]?=some v):∃t,v = .int (ns.getD i 0) t:=by
 have hl:=r.length;rw[Di]at hl;have hi:i<ns.length:=by have:=(Du.mp e).1;omega
 have hb:(ns.map V.int)[i]?=some (.int ns[i]):=by simp[hi]
 obtain⟨u,hu,ru⟩:=r.get hb;rw[e]at hu;cases hu;have:ns.getD i 0=ns[i]:=by simp[List.getD,hi]
 rw[this];exact ru
end
end L2
namespace L2.VL
section
variable{X:Cx}{rl:Option Addr}{a:Expr}{fs:Ca}{pos p:Pos}
end
end L2.VL
namespace L2
section
variable{X:Cx}
end
end L2
namespace L2.VL
section
variable{X:Cx}{rl:Option Addr}{a e:Expr}{fs:Ca}{pos p:Pos}
noncomputable def sj:Da->Option (List Int)
 | .tuple xs=>gr xs
 | _=>none
theorem oG:sj d=some ns↔d = .tuple (ns.map .int):=by
 constructor
 · intro h
   cases d with
   | tuple xs=>rw[gq h]
   | _=>cases h
 · rintro rfl;exact b9 _
theorem si(ns:List Int):sj (.tuple (ns.map .int))=some ns:=b9 ns
end
section
variable{X:Cx}{rl:Option Addr}{a b c o e:Expr}{es:List Expr}{fa fb:TV}{fs:Ca}{pos p px apos cpos:Pos}{ρ:En}
end
end L2.VL
namespace L2
section
variable{X:Cx}{o e f:Expr}{apos cpos:Pos}{td ty tx:TE}
end
end L2
namespace L2.VL
section
variable{X:Cx}{rl:Option Addr}{a b c o e:Expr}{es:List Expr}{fa fb:TV}{fs:Ca}{pos p px apos cpos:Pos}{ρ:En}
noncomputable def eP(w:W):Option (List Int):=w.dat.bind sj
theorem yx{w:W}{g:List Int}:eP w=some g↔w.dat=some (.tuple (g.map .int)):=by
 unfold eP
 cases w.dat with
 | none=>simp
 | some d=>simp[oG]
theorem wo(g:List Int):eP (.d (.tuple (g.map .int)))=some g:=si g
end
end L2.VL
namespace L2
theorem sK{u:List (List Int×Addr×Dc)×Obj}(p:VL.DAtO a u h):aK P w H h a (.ext (VL.DAtO a u)) :=
 ⟨p,⟨_,p.2⟩,fun _ _ q k=>⟨DAt.stab q.1 k,k _ q.2⟩⟩
theorem sJ{u:List (List Int×Addr×Dc)×Obj}(I:Inv X pins σ H s)(e:H a=some (.ext (VL.DAtO a u))):VL.DAtO a u s.heap :=
 (show aK X.prog X.w H s.heap a (.ext (VL.DAtO a u))from I.hok a _ e).1
noncomputable def xI(i:Nat)(T:TS):TS:=fun D σ H=>∃a us,σ[i]?=some (some (.ref a))/\H a=some (.ext (VL.DAt a us))/\∀o,T D σ (upd H a (.ext (VL.DAtO a (us,o))))
theorem rf{st:Stmt}{T:TS}(i:Nat)(h:PS X st T):PS X st (xI i T):=fun pins s σ H D I q=>by
 obtain⟨a,us,e1,e2,k⟩:=q;obtain⟨p,⟨o,ho⟩,_⟩:=(show aK X.prog X.w H s.heap a (.ext (VL.DAt a us))from I.hok a _ e2);have I1:Inv X pins σ (upd H a (.ext (VL.DAtO a (us,o)))) s:=cT (t':=s.toks) I (by rw[e2];exact Gc) (GZ _ _) ⟨o,ho⟩ (sK ⟨p,ho⟩);exact h pins s σ _ D I1 (k o)
end L2
namespace L2.VL
section
variable{rl:Option Addr}
theorem VR.frzX{K:W.Frag}(r:VR K rl F₀ H₀ F H σ ρ){xs:List (List Int×Da)}{us:List (List Int×Addr×Dc)}{ob:Obj}(e:ρ[i]?=some (some (.xm xs)))(es:σ[i]?=some (some (.ref a)))(hH:H a=some (.ext (DAt a us)))(rs:KX K F us xs) :
 aR F (upd F a (.ext (DAtO a (us,ob))))/\VR K rl F₀ H₀ (upd F a (.ext (DAtO a (us,ob)))) (upd H a (.ext (DAtO a (us,ob)))) σ (ρ.set i (some (.xr xs))):=by
 obtain⟨v,h1,h2,h3⟩:=r.sl i _ e;rw[es]at h1;cases h1;obtain⟨a',vs,ev,f,hr,hh,q⟩:=(show i3 K rl F H (.ref a) xs from h2);cases ev;have n0:H₀ a=none:=h3 a rfl;have hi:i<ρ.length:=(Du.mp e).1;have neF:∀b u,F b=some u->b≠a:=fun b u q z=>by subst z;rw[f]at q;cases q
 have fsm:aR F (upd F a (.ext (DAtO a (us,ob)))):=fun b u z=>by rw[ae (neF b u z)];exact z
 have g:Grow rl F₀ H₀ (upd F a (.ext (DAtO a (us,ob)))) (upd H a (.ext (DAtO a (us,ob)))):=by
  refine⟨fun b o q1 n=>by rw[ae (aq q1 n0)];exact r.g.same b o q1 n,r.g.fs.trans fsm,fun b o q1=>?_,fun b o q1=>by rw[ae (aq q1 n0)];exact r.g.old b o q1,fun y z=>?_⟩
  · by_cases hb:b=a
    · subst hb;rw[aj]at q1 ⊢;exact q1
    · rw[ae hb]at q1 ⊢;exact r.sub b o q1
  · obtain⟨z1,⟨u,h1,h2⟩⟩:=r.reel y z;have ny:y≠a:=fun q=>hr (by rw[<- q];exact z);exact⟨by rw[ae ny];exact z1,⟨u,by rw[ae ny];exact h1,RO.mono fsm h2⟩⟩
 refine⟨fsm,g,fun j w e1=>?_,fun j k ys' zs u hjk e1 e2 w1 w2 s1 s2=>?_,fun j ys' z=>?_,by simp[r.len]⟩
 · by_cases hj:i=j
   · subst hj;rw[Dz hi]at e1;cases e1;exact⟨_,es,⟨a,(us,ob),rfl,aj,rs.mono fsm⟩,trivial⟩
   · rw[Dp hj]at e1;obtain⟨u,g1,g2,g3⟩:=r.sl j w e1;refine⟨u,g1,?_,g3⟩;have ap:w.own=true->∀b,u = .ref b->b≠a:=fun ow b eb z=>r.ap i j _ _ (.ref a) hj e e1 rfl ow es (by rw[g1,eb,z])
     cases w with
     | d x=>exact Rep.mono fsm g2
     | ml zs=>obtain⟨b,us',eb,f1,f2,f3,f4⟩:=(show fF K rl F H u zs from g2);exact⟨b,us',eb,by rw[ae (ap rfl b eb)];exact f1,f2,by rw[ae (ap rfl b eb)];exact f3,f4.mono fsm⟩
     | md zs=>obtain⟨b,us',eb,f1,f2,f3,f4⟩:=(show pX K rl F H u zs from g2);exact⟨b,us',eb,by rw[ae (ap rfl b eb)];exact f1,f2,by rw[ae (ap rfl b eb)];exact f3,D0.mapP f4 fun _ _ z=>⟨z.1,z.2.mono fsm⟩⟩
     | mk zs=>obtain⟨b,us',eb,f1,f2,f3,f4⟩:=(show pW K rl F H u zs from g2);exact⟨b,us',eb,by rw[ae (ap rfl b eb)];exact f1,f2,by rw[ae (ap rfl b eb)];exact f3,D0.mapP f4 fun _ _ z=>⟨z.1,z.2.mono fsm⟩⟩
     | xm zs=>obtain⟨b,us',eb,f1,f2,f3,f4⟩:=(show i3 K rl F H u zs from g2);exact⟨b,us',eb,by rw[ae (ap rfl b eb)];exact f1,f2,by rw[ae (ap rfl b eb)];exact f3,KX.mono f4 fsm⟩
     | pk zs=>exact absurd e1 (r.np j zs)
     | reel=>exact g2
     | vv u=>exact g2
     | lk=>trivial
     | nt ds=>obtain⟨b,us,eb,f1,f2⟩:=g2;exact⟨b,us,eb,fsm _ _ f1,f2.mono fsm⟩
     | sc ns=>obtain⟨b,eb,f1⟩:=g2;exact⟨b,eb,lh fsm f1⟩
     | fd kvs=>obtain⟨b,us,eb,f1,f2⟩:=g2;exact⟨b,us,eb,fsm _ _ f1,D0.mapP f2 fun _ _ z=>⟨z.1,z.2.mono fsm⟩⟩
     | xr kvs=>obtain⟨b,us,eb,f1,f2⟩:=g2;exact⟨b,us,eb,fsm _ _ f1,KX.mono f2 fsm⟩
     | fw kvs=>obtain⟨b,us,o,eb,f1,f2⟩:=g2;exact⟨b,us,o,eb,fsm _ _ f1,D0.mapP f2 fun _ _ z=>⟨z.1,z.2.mono fsm⟩⟩
     | ft kvs=>obtain⟨b,us,o,eb,f1,f2⟩:=g2;exact⟨b,us,o,eb,fsm _ _ f1,D0.mapP f2 fun _ _ z=>⟨z.1,z.2.mono fsm⟩⟩
     | xc _ _=>obtain⟨b,dx,us,C,eb,n,f1,f3,f2⟩:=g2;exact⟨b,dx,us,C,eb,n,fsm _ _ f1,fsm _ _ f3,D0.mapP f2 fun _ _ z=>⟨z.1,z.2.mono fsm⟩⟩
     | dp _ _=>obtain⟨c,b,us,u,o,eb,f1,f3,f2,z⟩:=g2;exact⟨c,b,us,u,o,eb,fsm _ _ f1,fsm _ _ f3,D0.mapP f2 fun _ _ z=>⟨z.1,z.2.mono fsm⟩,z.mono fsm⟩
 · have nd:∀(j:Nat)(y:W),(ρ.set i (some (W.xr xs)))[j]?=some (some y)->y.own=true->ρ[j]?=some (some y):=fun j y z o=>by
     by_cases hj:i=j
     · subst hj;rw[Dz hi]at z;cases z;cases o
     · rw[Dp hj]at z;exact z
   exact r.ap j k _ _ u hjk (nd j _ e1 w1) (nd k _ e2 w2) w1 w2 s1 s2
 · rw[DU]at z;split at z
   · first|cases z|(split at z<;>cases z)
   · exact r.np j ys' z
end
section
variable{X:Cx}{rl:Option Addr}{st:Stmt}{body:List Stmt}{t:Cb}{e:Expr}{pos p px apos cpos:Pos}{ρ:En}
noncomputable def qA(i:Nat)(t:Cb):Cb:=fun D ρ=>∃xs,ρ[i]?=some (some (.xm xs))/\t D (ρ.set i (some (.xr xs)))
theorem ql(i:Nat)(h:Cw X rl st t):Cw X rl st (qA i t):=by
 obtain⟨T,p,k⟩:=h;refine⟨_,rf i p,fun R Dv D ok ⟨xs,e,q⟩=>?_⟩;obtain⟨v,h1,h2,h3⟩:=R.sl i _ e;obtain⟨a,us,rfl,f,hr,hh,rs⟩:=(show i3 X.K rl _ _ v xs from h2);refine⟨a,us,h1,hh,fun o=>?_⟩;obtain⟨s1,R1⟩:=R.frzX (ob:=o) e h1 hh rs;exact k R1 Dv D (ok.on s1) q
theorem cE.keyF{rl:Option Addr}{K:W.Frag}{w:W}{g:List Int}(r:cE K rl F H v w)(e:eP w=some g):∃b,v = .ref b/\Cg K F b (g.map V.int):=by
 have e:=yx.mp e
 cases w with
 | d x=>cases e;exact l9 r (by show gn (g.map .int)=_;exact cw g)
 | nt ds =>
   obtain⟨a,vs,rfl,h,q⟩:=r;cases e;rw[dP q]at h
   exact⟨a,rfl,.inl (.inl h)⟩
 | ml xs=>cases e
 | pk xs=>cases e
 | _=>cases e
theorem cE.keyI{rl:Option Addr}{K:W.Frag}{w:W}{g:List Int}(s:aR F H)(r:cE K rl F H v w)(e:eP w=some g):∃b,v = .ref b/\Cg K H b (g.map V.int):=l9 (cE.dat s r (yx.mp e)) (by show gn (g.map .int)=_;exact cw g)
noncomputable def qw(i:Nat)(fk:TV):TV:=fun ρ Q=>∃kvs,ρ[i]?=some (some (.xr kvs))/\fk ρ fun wk=>∃(g:List Int)(x:Da),eP wk=some g/\kQ kvs g=some x/\Q (.d x)
theorem wn{X:Cx}{u:List (List Int×Addr×Dc)×Obj}(I:Inv X pins σ H s)(e:H a=some (.ext (DAtO a u)))(ks:cy X.K H u.1):s.heap.DictOfH (Ee (E9 X.prog X.w)) a u.1:=by
 obtain⟨⟨o,es,ep,h1,h2,h3,h4,h5,h6,h7⟩,_⟩:=sJ I e;exact⟨o,es,ep,h1,h2,h3,h4 _ _,fun x hx=>c_ I (ks x hx),h5⟩
noncomputable def uA(K:W.Frag)(td ty:TE):TE:=fun σ H Q=>td σ H fun x H1=>ty σ H1 fun y H2=>∃a u b k p v,x = .ref a/\H2 a=some (.ext (DAtO a u))/\cy K H2 u.1/\y = .ref b/\Cg K H2 b (k.map V.int)/\IW u.1 k=some p/\RelV v p.2/\Q v H2
theorem nW{o i:Expr}{td ty:TE}{pos:Pos}(hu:X.A.units+1<Gu)(ho:PE X o td)(hi:PE X i ty)(hs:pY i):PE X (.Subscript o i pos) (uA X.K td ty):=by
 intro pins s σ H Q I h;refine iu Gv.lookup hs (A8 (ho pins s σ H _ I h) fun u s1 ⟨x,H1,I1,rx,q1⟩=>A8 (hi pins s1 σ H1 _ I1 q1) fun iv s2 ⟨y,H2,I2,ry,a,xs,b,k,p,v,ex,e,ks,ey,sq,at',rv,q2⟩=>?_);subst ex ey;obtain rfl:u=Dn a:=rx;cases(show iv=Dn b from ry);have dd:=wn I2 e ks;refine⟨dd.typeIs,GL (EJ hu) (c_ I2 sq) dd at' ?_⟩;exact⟨v,H2,I2.tok _,rv,q2⟩
theorem tX(i:Nat){fk:TV}(hu:X.A.units+64<Gu)(hk:PV X rl e fk)(hN:autoParam (X.N[i]?=some x) æa._auto_1)(hv:autoParam (B8 X.env.scope x) æc._auto_1)
 (hd:autoParam ((x==("__debug__" : Str))=false) æb._auto_1)(hcd:autoParam ((x==("__classdict__" : Str))=false) æb._auto_1)(hs:autoParam (pY e) æh._auto_1) :
 PV X rl (.Subscript (.Name x px) e pos) (qw i fk):=by
 obtain⟨t,p1,k1⟩:=hk;refine⟨_,nW (by omega) (bB hN hv hd hcd) p1 hs,fun{F₀ H₀ F H σ ρ} R Qd Q ⟨kvs,e1,q⟩ h=>?_⟩;obtain⟨v,h1,h2,h3⟩:=R.sl i _ e1;obtain⟨a,xs,rfl,hh,rs⟩:=(show ∃a us,v = .ref a/\F a=some (.ext (DAtO a us))/\KX X.K F us.1 kvs from h2);refine⟨.ref a,h1,k1 R _ _ q fun v1 w1 F1 H1 g1 r1 n1 q1=>?_⟩;obtain⟨gs,d,e2,ed,q1⟩:=q1;obtain⟨b,rfl,sq⟩:=r1.keyI g1.sub e2;have rs2:=rs.mono g1.fs;rcases rs2.at gs with⟨z1,z2⟩|⟨p,v3,d3,z1,z2,z3,z4⟩
 · rw[z2]at ed;cases ed
 · rw[z2]at ed;cases ed;exact⟨a,xs,b,gs,p,v3,rfl,g1.sub _ _ (g1.fs _ _ hh),fun x m=>bA g1.sub (rs2.keys x m),rfl,sq,z1,z3,h _ (.d _) _ _ g1 z4 trivial q1⟩
noncomputable def qv(i:Nat)(fk fx:TV):Cb:=fun D ρ=>∃kvs,ρ[i]?=some (some (.xm kvs))/\fx ρ fun wx=>fk ρ fun wk=>∃(g:List Int)(x:Da),eP wk=some g/\wx = .d x/\kvs.length<sizeLine/\D.nx (ρ.set i (some (.xm (cN kvs g x))))
theorem qh(i:Nat){f:Expr}{fk fx:TV}(hu:X.A.units+64<Gu)(hk:PV X rl e fk)(hx:PV X rl f fx)(hN:autoParam (X.N[i]?=some x) æa._auto_1)(hv:autoParam (B8 X.env.scope x) æc._auto_1)
 (hd:autoParam ((x==("__debug__" : Str))=false) æb._auto_1)(hcd:autoParam ((x==("__classdict__" : Str))=false) æb._auto_1)(hs:autoParam (ET f (some (.Subscript (.Name x px) e pos')) pos.line X.env=pure false) æa._auto_1) :
 Cw X rl (.Assign [.Subscript (.Name x px) e pos'] f pos) (qv i fk fx):=by
 obtain⟨t,p1,k1⟩:=hk;obtain⟨t2,p2,k2⟩:=hx;refine⟨_,q0 (by omega) (bB hN hv hd hcd) p1 p2 hs,fun{F₀ H₀ F H σ ρ} R Dv D ok ⟨kvs,e1,q⟩=>?_⟩;obtain⟨v,h1,h2,h3⟩:=R.sl i _ e1;obtain⟨a,xs,rfl,f0,hr,hh,rs⟩:=(show i3 X.K rl F H v kvs from h2);refine k2 R _ _ q fun v2 w2 F2 H2 g2 r2 n2 q2=>⟨.ref a,h1,k1 (R.grow g2) _ _ q2 fun v1 w1 F1 H1 g1 r1 n1 q3=>?_⟩;obtain⟨gs,d,e2,rfl,hz,q3⟩:=q3;obtain⟨b,rfl,sq⟩:=r1.keyI g1.sub e2;have g:=g2.trans g1;have rs1:=rs.mono g.fs;have hl:xs.length=kvs.length:=EH rs
 have sqF:Cg X.K F1 b (gs.map V.int):=by
  have:=r1.keyF e2;obtain⟨b',eb,sq'⟩:=this;cases eb;exact sq'
 refine⟨a,xs,b,gs,rfl,g.same a _ hh hr,fun x m=>bA g1.sub (rs1.keys x m),rfl,sq,by omega,fun r rv=>?_⟩;exact ok.nx _ _ _ _ g.fs ((R.grow g).ownX e1 h1 (rs1.put gs sqF rv (Rep.mono g1.fs r2))) q3
end
end L2.VL
namespace L2
section
variable{X:Cx}{e:Expr}{tg:Expr}{te:TE}
end
end L2
namespace L2.VL
section
variable{X:Cx}{rl:Option Addr}{a b e o i':Expr}{es:List Expr}{fa fb:TV}{fs:Ca}{pos p px apos cpos:Pos}{ρ:En}{st:Stmt}{t:Cb}
end
section
variable{X:Cx}{rl:Option Addr}{kx vx tg iter:Expr}{ifs:List Expr}{scope:Scope}{pos:Pos}{fi:En->(List Da->Prop)->Prop}{g:Ce}{ft:TB}{fk fe:TV}
end
abbrev CY:=List (CK×Da)×Da
section
variable{P:Dq}{w:DN}{K:W.Frag}{mg:Str->Option Dc}{base:Heap}{rl:Option Addr}{x:Str}{st:Stmt}{N ps:List Str}{k:Nat}{Pd:List W->(CY->Prop)->Prop}{t:Cb}
end
section
variable{X:Cx}{rl:Option Addr}{e:Expr}{es:List Expr}{fs:Ca}{pos p:Pos}{ρ:En}
end
section
variable{X:Cx}{rl:Option Addr}{a b c o e:Expr}{es:List Expr}{fa fb:TV}{fs:Ca}{pos p apos cpos:Pos}{ρ:En}
end
end L2.VL
namespace L2
noncomputable def jL(h:Heap)(a:Addr)(es:Array Gh)(ep:Nat):Prop:=∃ob,h.get? a=some ob/\ob.ExactDict/\ob.data = .dict es ep
section
variable{P:Dq}{w:DN}{A:DM}{E:Dc->Dd->Prop}{s:Dd}{d v it:Addr}{es:Array Gh}{ep i:Nat}
theorem jL.ty(r:jL s.heap d es ep):s.TypeIs (.ref d) "dict" := let ⟨ob,q,x,_⟩:=r;⟨ob,q,x.1⟩
end
section
variable{X:Cx}{o:Expr}{tg:Expr}{te:TE}{apos cpos:Pos}
structure M0 (X:Cx) (o:Expr) (m:Str) (apos:Pos) (cpos:Pos):Prop where
 base:FU o m X.env (eval o X.env)=eval o X.env
 few:((ES cpos (Dh [] X.env)).all (fun x=>!x.1)&&(Jt cpos (Hg [] X.env)).all (fun x=>x.1.isSome)
  && decide (([]:List Expr).length+([]:List G4).length+(if([]:List G4).isEmpty then 0 else 1)<30))=true
 line:(apos.endLine==cpos.line)=true
 trees:ES cpos (Dh [] X.env)=[]
end
end L2
namespace L2.VL
section
variable{X:Cx}{rl:Option Addr}{a b e o i':Expr}{es:List Expr}{fa fb:TV}{fs:Ca}{pos p px apos cpos:Pos}{ρ:En}{st:Stmt}{t:Cb}
end
end L2.VL
namespace L2
section
variable{P:Dq}{w:DN}{A:DM}{E:Dc->Dd->Prop}{s:Dd}{d v it:Addr}{es:Array Gh}{ep i:Nat}
end
open PySem PySem.Spec PyProof.Rows PySem.W
section
variable{P:Dq}{w:DN}{A:DM}{E:Dc->Dd->Prop}{s:Dd}{d:Addr}{es:Array Gh}{ep:Nat}
theorem jL.at'(r:jL h d es ep)(k:∀o,h.get? d=some o->h'.get? d=some o):jL h' d es ep:=let ⟨o,e,c⟩:=r;⟨o,k o e,c⟩
theorem jL.lt(r:jL h d es ep):d<h.objs.size:=let ⟨_,e,_⟩:=r;Df e
end
theorem mM{P:Dq}{w:DN}(p:VL.DAt a xs h):∃(es:Array Gh)(ep:Nat),jL h a es ep/\es.size=xs.length/\(∀i:Nat,(es[i]?).map (·.key)=(xs[i]?).map fun u=>Dn u.2.1)/\(a==Fh)=false/\xs.length<=sizeLine:=by
 obtain⟨o,es,ep,h1,h2,h3,h4,h5,h6,h7⟩:=p;have e:=h4 P w;refine⟨es,ep,⟨o,h1,h2,h3⟩,by rw[<- Gz,e,Di],fun i=>?_,h6,h7⟩;rw[<- IM,e,DY,Option.map_map];rfl
end L2
namespace L2.VL
noncomputable def kI(k:List Int):Da:=.tuple (k.map .int)
section
variable{X:Cx}{rl:Option Addr}{a b c o e:Expr}{es:List Expr}{fa fb fk fx:TV}{fs:Ca}{pos p px apos cpos:Pos}{ρ:En}
noncomputable def iY:W->Option (List (List Int×Da))
 | .xr kvs=>some kvs
 | _=>none
theorem sP{w:W}:iY w=some kvs↔w = .xr kvs:=by cases w<;>simp[iY]
noncomputable def iZ:W->Option (List (List Int×Da))
 | .xm kvs=>some kvs
 | _=>none
theorem sQ{w:W}:iZ w=some kvs↔w = .xm kvs:=by cases w<;>simp[iZ]
noncomputable def Bl(ρ:En)(i:Nat):Option (List (List Int×Da)):=((ρ[i]?).join).bind iZ
theorem gO:Bl ρ i=some kvs↔ρ[i]?=some (some (.xm kvs)):=by
 unfold Bl;rcases ρ[i]? with _|_|w<;>simp[sQ]
noncomputable def iy(ρ:En)(i:Nat):Option (List (List Int×Da)):=((ρ[i]?).join).bind iY
theorem qL:iy ρ i=some kvs↔ρ[i]?=some (some (.xr kvs)):=by
 unfold iy;rcases ρ[i]? with _|_|w<;>simp[sP]
theorem bH(i:Nat):qw i fk ρ=ar (iy ρ i) fun kvs=>BZ (fk ρ) fun wk=>ar (eP wk) fun g=>ar (kQ kvs g) fun x=>ret (.d x):=by
 refine af fun Q=>?_;simp only[qw,ag,qL,BZ,ret];refine exists_congr fun kvs=>and_congr_right fun _=>?_;constructor
 · intro h;refine cast ?_ h;congr 1;funext x;exact propext ⟨fun⟨a,b,c,d,e⟩=>⟨a,c,b,d,e⟩,fun⟨a,c,b,d,e⟩=>⟨a,b,c,d,e⟩⟩
 · intro h;refine cast ?_ h;congr 1;funext x;exact propext ⟨fun⟨a,c,b,d,e⟩=>⟨a,b,c,d,e⟩,fun⟨a,b,c,d,e⟩=>⟨a,c,b,d,e⟩⟩
theorem bE(i:Nat):mS (qv i fk fx) ρ=ar (Bl ρ i) fun kvs=>BZ (fx ρ) fun wx=>BZ (fk ρ) fun wk=>ar (eP wk) fun g=>ar (asD wx) fun x=>BR (kvs.length<sizeLine) (ret (.nx (ρ.set i (some (.xm (cN kvs g x)))))):=by
 refine af fun Q=>?_;simp only[mS,qv,ag,gO,BZ,ret,fD,BR];refine exists_congr fun kvs=>and_congr_right fun _=>?_;constructor
 · intro h;refine cast ?_ h;congr 1;funext x;congr 1;funext y;exact propext ⟨fun⟨a,b,c,d,e,f⟩=>⟨a,c,b,d,e,f⟩,fun⟨a,c,b,d,e,f⟩=>⟨a,b,c,d,e,f⟩⟩
 · intro h;refine cast ?_ h;congr 1;funext x;congr 1;funext y;exact propext ⟨fun⟨a,c,b,d,e,f⟩=>⟨a,b,c,d,e,f⟩,fun⟨a,b,c,d,e,f⟩=>⟨a,c,b,d,e,f⟩⟩
theorem bG(i:Nat){t:Cb}:mS (qA i t) ρ=ar (Bl ρ i) fun xs=>mS t (ρ.set i (some (.xr xs))):=by
 refine af fun Q=>?_;simp only[mS,qA,ag,gO]
end
end L2.VL
namespace L2
section
variable{P:Dq}{w:DN}{A:DM}{E:Dc->Dd->Prop}{s:Dd}
theorem vE:Jz (Gb "list") (Et "keys")=pure none:=by rw[typeLookup_type,builtinLookup_eq_fast];kernel_rfl
theorem vh:Manifest.owners.lookup (String.ofList ['t','s','i','l'].reverse)=some Manifest.sig_list:=by kernel_rfl
theorem o8(a b:Dc):argsOk "list.__getattribute__" ⟨[a,b],[]⟩:=by
 unfold argsOk;rw[signature?_of (id := "list.__getattribute__") (n:=['_','_','e','t','u','b','i','r','t','t','a','t','e','g','_','_']) (o:=['t','s','i','l']) (by kernel_rfl) vh];kernel_rfl
theorem lP{l:Addr}{xs:Array Dc}{k:Nat}{Q:Option Dc->Dd->Prop}(hh:A.handled=none)(hl:s.heap.get? l=some o)(hc:o.cls = .type "list")(hd:o.data = .seq xs k)(hn:o.dict=none)
 (h:∀h' tk,(∀b o,s.heap.get? b=some o->h'.get? b=some o)->Q none {s with heap:=h',toks:=tk}) :
 Dr (Dw P w) A (JN (.ref l) (Et "keys")) Q E s:=by
 obtain⟨oc,odt,odi,osl⟩:=o;cases hc;cases hd;cases hn;unfold JN getAttrBy? getAttrBy getAttrByItsOwn callGetattribute boundAndCalled hookBefore;have tl:=F.slot_list_getattribute.lookup;have ng:=am_list_getattr_none;have sa:isSubtype (.type "AttributeError") (.type "AttributeError")=pure true:=by kernel_rfl
 have ty:s.TypeIs (.ref l) "list" := ⟨_,hl,rfl⟩
 wp_walk
 refine Ie (F.slot_list_getattribute.bind _) ?_;refine JA F.slot_list_getattribute ⟨_,hl,rfl⟩ am_entry_list_getattribute (o8 _ _) (meets_getattribute_miss_list l xs k osl (Et "keys") _ vE (by decide +kernel) (by decide +kernel)) ⟨hl,by simpa using hh,fun h' tk e ne=>?_⟩;obtain⟨t,u,ge⟩:=ne.there;have ke:=ne.keeps;show Dr _ _ (getattributeRaised _ _ _ _ _ _ _) _ _ _;unfold getattributeRaised hookBehind hookOrError;have te:GQ {s with heap:=h',toks:=tk} (.ref e) "AttributeError" := ⟨_,ge,rfl⟩
 wp_walk
 exact h h' tk ke
theorem ia:entryFor table "dict.update.loop" = some Builtin.«dict.update.loop»:=entryFor_of_tree (by kernel_rfl)
theorem cZ:plainId "dict.update.loop" = true:=by decide +kernel
abbrev Pe:=List Int×Addr×Addr×Dc
noncomputable def tq(P:Dq)(w:DN)(h:Heap)(x:Pe):Prop:=(∃o n,h.get? x.2.2.1=some o/\o.cls = .type "tuple" /\ o.data = .seq #[.ref x.2.1,x.2.2.2] n)/\(Ee (E9 P w)).is h x.1 x.2.1
theorem sf{k:List Int}(x:(Ee (E9 P w)).is h k b)(e:∀o,h.get? b=some o->h'.get? b=some o):(Ee (E9 P w)).is h' k b:=by
 obtain⟨o,its,n,h1,h2⟩:=x;exact⟨o,its,n,e o h1,h2⟩
theorem tq.keep{x:Pe}(p:tq P w h x)(e:∀b o,b=x.2.1\/b=x.2.2.1->h.get? b=some o->h'.get? b=some o):tq P w h' x:=by
 obtain⟨⟨o,n,h1,h2,h3⟩,h4⟩:=p;exact⟨⟨o,n,e _ o (.inr rfl) h1,h2,h3⟩,sf h4 fun o h=>e _ o (.inl rfl) h⟩
noncomputable def gt(xs:List (List Int×Addr×Dc))(es:List Pe):List (List Int×Addr×Dc):=es.foldl (fun xs x=>FV xs x.1 x.2.1 x.2.2.2) xs
theorem dU(xs:List (List Int×Addr×Dc))(k:List Int)(b:Addr)(u:Dc):(FV xs k b u).length<=xs.length+1:=by
 unfold FV;split<;>simp
theorem iw{k:List Int}{y:List Int×Addr×Dc}(m:y∈FV xs k b u):y.2.1=b\/∃x∈xs,y.2.1=x.2.1:=by
 unfold FV at m;split at m
 · obtain⟨x,mx,rfl⟩:=Eg.mp m;refine .inr ⟨x,mx,?_⟩;unfold putAt;split<;>rfl
 · rcases Ez.mp m with m|m
   · exact .inr ⟨y,m,rfl⟩
   · cases FC.mp m;exact .inl rfl
theorem iQ(x:FE (Ee (E9 P w)) h D xs)(k:∀o,h.get? D=some o->h'.get? D=some o)(ks:∀x∈xs,(Ee (E9 P w)).is h' x.1 x.2.1):FE (Ee (E9 P w)) h' D xs:=by
 obtain⟨o,es,ep,h1,h2,h3,h4,h5,h6⟩:=x;exact⟨o,es,ep,k o h1,h2,h3,h4,ks,h6⟩
theorem wl(x:FE (Ee (E9 P w)) h D xs):∀x∈xs,(Ee (E9 P w)).is h x.1 x.2.1:=by
 obtain⟨o,es,ep,h1,h2,h3,h4,h5,h6⟩:=x;exact h5
theorem sC{I:Addr}{wr:List Addr}{Pv:Nat->Dc->Prop}{St:Nat->Heap->Prop}(hu:A.units+1<Gu)(W:Walks P w A.in1 I fp wr n Pv St)(hS:D∉fp)(es:List Pe)(hn:es.length=n)(hv:∀i v,Pv i v->∃x,es[i]?=some x/\v = .ref x.2.2.1)
 (hd:∀x∈es,x.2.1∉D::wr/\x.2.2.1∉D::wr)(hb:n<=sizeLine) :
 ∀ (k i:Nat)(s:Dd)(xs:List (List Int×Addr×Dc)),n-i=k->i<=n->St i s.heap->xs.length<=i->FE (Ee (E9 P w)) s.heap D xs->(∀x∈xs,x.2.1∉D::wr)->(∀x∈es,tq P w s.heap x) ->
   (∀s':Dd,s'.gens=s.gens->s'.drawn=s.drawn->s'.os=s.os->(∀b o,b∉D::wr->s.heap.get? b=some o->s'.heap.get? b=some o)->FE (Ee (E9 P w)) s'.heap D (gt xs (es.drop i))->R (.ok (.ret .none)) s') ->
   EW (Dw P w) A (.builtin "dict.update.loop" ⟨[.ref D,.ref I,Gj i,.none],[]⟩) R s:=by
 have hw:D∉wr:=fun h=>hS (W.sub _ h);intro k
 induction k with
 | zero =>
   intro i s xs hk hi st lk hs hx hp hR;have e:i=n:=by omega
   subst e;refine Fo ia ?_;rw[EO cZ _];show Dr _ A.in1 (G1 (.ref I) >>= _) _ _ s;refine C9 (W.done s _ _ st fun h' tk hk'=>?_);show Dr _ A.in1 (HY D [] >>= fun _=>ret D3) _ _ _;unfold HY
   wp_walk
   refine hR {s with heap:=h',toks:=tk} rfl rfl rfl (fun b o hb e=>hk' b o (fun m=>hb (Dl _ m)) e) ?_;rw[List.drop_of_length_le (by omega)]
   exact iQ hs (fun o e=>hk' D o hw e) fun x mx=>sf (wl hs x mx) fun o e=>hk' _ o (fun m=>hx x mx (Dl _ m)) e
 | succ k ih =>
   intro i s xs hk hi st lk hs hx hp hR;have lt:i<n:=by omega
   refine Fo ia ?_;rw[EO cZ _];show Dr _ A.in1 (G1 (.ref I) >>= _) _ _ s;refine C9 (W.item i s _ _ lt st fun v h' tk pv st' hk'=>?_);obtain⟨x,ex,rfl⟩:=hv i v pv;have mx:x∈es:=Ew ex
   have ed:es.drop i=x::es.drop (i+1):=by
    have hlt:i<es.length:=by omega
    rw[Ek hlt];rw[DF hlt]at ex;cases ex;rfl
   have keepP:∀y∈es,tq P w h' y:=fun y my=>(hp y my).keep fun b o hb' e=>hk' b o (fun m=>by
    rcases hb' with rfl|rfl
    · exact(hd y my).1 (Dl _ m)
    · exact(hd y my).2 (Dl _ m)) e
   obtain⟨⟨o,n',g1,g2,g3⟩,kx⟩:=keepP x mx;show Dr _ A.in1 (Jx [Dn x.2.2.1] _ >>= _) _ _ _;refine C9 (FY ?_);refine C9 (wpAny_tryCatch ?_);unfold Builtin.Dict.pairItems;have ty:GQ {s with heap:=h',toks:=tk} (.ref x.2.2.1) "tuple" := ⟨o,g1,g2⟩
   wp_walk
   rw[g3];refine De (De ?_);show Dr _ A.in1 (Jx [Dn x.2.1,x.2.2.2] (dictSet D (.ref x.2.1) x.2.2.2)) _ _ _;refine FY ?_;have hs':FE (Ee (E9 P w)) h' D xs:=iQ hs (fun o e=>hk' D o hw e) fun x mx=>sf (wl hs x mx) fun o e=>hk' _ o (fun m=>hx x mx (Dl _ m)) e;refine wpAny_dictSet_heap (s:={s with heap:=h',toks:=tk}) (EJ hu) kx hs' (fun h2 dd sb=>?_) (by omega);have lz:=dU xs x.1 x.2.1 x.2.2.2;refine De ⟨Gr cZ _,?_⟩;refine ih (i+1) _ _ (by omega) lt (W.frame _ _ _ st' fun b hb o e=>?_) (by omega) dd (fun y my=>?_) (fun y my=>(keepP y my).keep fun b o hb' e=>?_) fun s' a b c d e=>hR s' a b c (fun b' o' hb' e'=>d b' o' hb' ?_) ?_
   · show h2.get? b=some o;rw[sb.2 b fun h:b=D=>hS (h▸hb)];exact e
   · rcases iw my with e|⟨z,mz,e⟩
     · rw[e];exact(hd x mx).1
     · rw[e];exact hx z mz
   · show h2.get? b=some o
     have nb:b∉D::wr:=by
      rcases hb' with rfl|rfl
      · exact(hd y my).1
      · exact(hd y my).2
     rw[sb.2 b fun h:b=D=>nb (h▸Dx)];exact e
   · show h2.get? b'=some o';rw[sb.2 b' fun h:b'=D=>hb' (h▸Dx)];exact hk' b' o' (fun m=>hb' (Dl _ m)) e'
   · rw[ed];exact e
theorem kj{l:Addr}{vs:Array Dc}{k:Nat}{es:List Pe}(hu:A.units+8<Gu)(hh:A.handled=none)(hl:s.heap.get? l=some o)(hc:o.cls = .type "list")(hd:o.data = .seq vs k)(hn:o.dict=none)
 (hv:∀(i:Nat) v,vs[i]?=some v->∃x,es[i]?=some x/\v=Dn x.2.2.1)(hz:es.length=vs.size)(hp:∀x∈es,tq P w s.heap x)(hb:es.length<=sizeLine)
 (h:∀h' tk,FE (Ee (E9 P w)) h' s.heap.objs.size (gt [] es)->(∀b o,s.heap.get? b=some o->h'.get? b=some o)->Q (.ref s.heap.objs.size) {s with heap:=h',toks:=tk}) :
 Dr (Dw P w) A (call (.type "dict") [.ref l]) Q E s:=by
 obtain⟨c,tl,mro⟩:=F.kt_called_dict.mro;have made:=F.kt_called_dict.made;have sub:=F.kt_called_dict.sub;refine Jy (Hl ?_);show Dr _ _ (callAny (.type "dict") _) _ _ _;refine De ⟨HD _ (by decide +kernel),Fo F.entry_type_call ?_⟩;rw[DM.under_plain (weight_type_call_type "dict" [.ref l] []) rfl];have h1:=F.kt_called_dict.notType;have h2:=F.kt_called_dict.canCreate;have ct:=F.kt_typeCall_dict_1 (.ref l)
 repeat (any_goals (first|assumption|wp_step))
 refine FR (kt_code_dict_new (E:=E) (Dn l) (Q₁:=fun obj s1=>obj=Dn s.heap.objs.size/\s1={s with heap:=s.heap.push {cls:=.type "dict", data:=.dict #[]}}) ⟨rfl,rfl⟩) fun r s1 hr=>?_
 cases r with
 | error e=>exact hr
 | ok fl =>
   cases fl with
   | ret obj =>
     obtain⟨rfl,rfl⟩:=hr;have HS:FE (Ee (E9 P w)) (s.heap.push {cls:=.type "dict", data:=.dict #[]}) s.heap.objs.size []:=FE.new s.heap;have gS:(s.heap.push {cls:=.type "dict", data:=.dict #[]}).get? s.heap.objs.size=some {cls:=.type "dict", data:=.dict #[]}:=Do _ rfl;have ty:GQ {s with heap:=s.heap.push {cls:=.type "dict", data:=.dict #[]}} (.ref s.heap.objs.size) "dict" := ⟨_,gS,rfl⟩;have li:=F.kt_called_dict.init.lookup;have bi:=F.kt_called_dict.init.bind (.ref s.heap.objs.size)
     repeat (any_goals (first|assumption|wp_step))
     refine FR (Gs (R:=wants (fun r s2=>r = .none/\∃h' tk,s2={s with heap:=h',toks:=tk}/\FE (Ee (E9 P w)) h' s.heap.objs.size (gt [] es)/\(∀b o,s.heap.get? b=some o->h'.get? b=some o)) E)
      F.kt_called_dict.init.plain F.entry_dict_init (F.kt_called_dict.init.check _ _ _ _ _ _ _ _ ty (F.args_dict_init_2 _ _) ?_)) fun r2 s2 hr2=>?_
     · have hl1:(s.heap.push {cls:=.type "dict", data:=.dict #[]}).get? l=some o:=Db _ hl;have tl1:GQ {s with heap:=s.heap.push {cls:=.type "dict", data:=.dict #[]}} (.ref l) "list" := ⟨o,hl1,hc⟩;have llt:l<s.heap.objs.size:=Df hl;have ne:(Gb "list" != Gb "dict")=true:=by decide
       have ne0:(Gb "dict" != Gb "dict")=false:=by decide
       unfold Builtin.«dict.__init__» Builtin.Dict.selfAndRest Builtin.Dict.notOrdered Builtin.Dict.updateCommon Builtin.Dict.updateFrom;generalize hPI:Jq=PI;generalize hGA:JN=GA
       wp_walk
       subst hGA;refine lP (by simp[hh]) hl1 hc hd hn fun h2 tk2 k2=>?_
       wp_walk
       subst hPI;have gD:h2.get? s.heap.objs.size=some {cls:=.type "dict", data:=.dict #[]}:=k2 _ _ gS;have hl2:h2.IsList l vs:=⟨o,k2 _ _ hl1,hc,k,hd⟩;refine HU hl2 ?_
       wp_walk
       refine⟨Gr cZ _,?_⟩;have lt2:∀b,b<s.heap.objs.size->b<h2.objs.size:=fun b hb=>Dk hb (Gi (Df gD));have sD:s.heap.objs.size<h2.objs.size:=Df gD;have nI:l≠h2.objs.size:=DB (lt2 _ llt)
       have nS:s.heap.objs.size∉[h2.objs.size,l]:=by
        simp only[DS,Gy,or_false,not_or];exact⟨DB sD,Em llt⟩
       have pe:∀x∈es,x.2.1<s.heap.objs.size/\x.2.2.1<s.heap.objs.size:=fun x mx=>by
        obtain⟨⟨o1,n1,g1,_⟩,o2,its,n2,g2,_⟩:=hp x mx;exact⟨Df g2,Df g1⟩
       have nd:∀b,b<s.heap.objs.size->b∉s.heap.objs.size::[h2.objs.size]:=fun b hb=>by
        have:=lt2 b hb;simp only[DS,Gy,or_false,not_or];exact⟨DB hb,DB this⟩
       refine sC (n:=vs.size) (by simp;omega) (Walks.list (by simp[hh]) _ l nI vs) nS es hz hv (fun x mx=>⟨nd _ (pe x mx).1,nd _ (pe x mx).2⟩) (by omega) _ 0 _ [] rfl (DG _)
        ⟨⟨_,Do _ rfl,rfl,rfl⟩,(hl2.push _)⟩ (Dm _) (iQ HS (fun o e=>Db _ (k2 _ _ e)) fun x m=>(by cases m)) (fun x m=>(by cases m)) (fun x mx=>(hp x mx).keep fun b o hb e=>Db _ (k2 _ _ (Db _ e))) fun s' a b c d e=>?_
       obtain⟨h',g',d',tk',os'⟩:=s';have a:g'=s.gens:=a;have b:d'=s.drawn:=b;have c:os'=s.os:=c;subst a;subst b;subst c;refine⟨rfl,h',tk',rfl,e,fun b o hb=>?_⟩;have lb:=Df hb;exact d b o (nd b lb) (Db _ (k2 _ _ (Db _ hb)))
     · cases r2 with
       | error e=>exact hr2
       | ok fl2 =>
         cases fl2 with
         | ret r =>
           obtain⟨rfl,h',tk,rfl,hS',hk'⟩:=hr2
           repeat (any_goals (first|assumption|wp_step))
           exact h _ _ hS' hk'
         | _=>exact hr2.elim
   | _=>exact hr.elim
end
section
variable{X:Cx}{e:Expr}{tg:Expr}{te:TE}
end
end L2
namespace L2.VL
section
variable{X:Cx}{rl:Option Addr}{a e:Expr}{es:List Expr}{fa:TV}{fs:Ca}{pos p:Pos}{ρ:En}
noncomputable def fW(p:List Int×Da):Da:=.tuple [kI p.1,p.2]
noncomputable def lx(kvs:List (List Int×Da)):List (List Int×Da):=kvs.foldl (fun ks p=>cN ks p.1 p.2) []
noncomputable def oP:List W->(W->Prop)->Prop:=fun ws Q=>∃kvs:List (List Int×Da),ws=[.d (.list (kvs.map fW))]/\Q (.xm (lx kvs))
end
end L2.VL
namespace L2
abbrev Qe:=List Int×Addr×V
noncomputable def yy(K:W.Frag)(H:Hp)(v:V)(q:Qe):Prop:=∃t,v = .ref t/\Cg K H t [.ref q.2.1,q.2.2]/\Cg K H q.2.1 (q.1.map V.int)
noncomputable def Cq(e:Pe)(q:Qe):Prop:=e.1=q.1/\e.2.1=q.2.1/\RelV q.2.2 e.2.2.2
theorem ki(hu:X.A.units+64<Gu)(hc:X.calm=true):eG X (.type "dict") (fun xs H Q=>∃l vs qs,xs=[.ref l]/\H l=some (.lst vs)/\D0 (yy X.K H) vs qs /\
 ∀p us,H p=none->(∃es:List Pe,us=gt [] es/\D0 Cq es qs)->Q (.ref p) (upd H p (.ext (VL.DAt p us)))):=by
 intro pins s σ H xs vs Q I r ⟨l,us,qs,ex,e,pr,q⟩;subst ex;obtain⟨u,rfl,rx⟩:=vals1 r;cases rx;obtain⟨h5,its,n,h6,lz,h1⟩:=I.lstM e
 have key:∀{us:List V}{qs:List Qe}{is:List Dc},D0 (yy X.K H) us qs->bT us is->∃es:List Pe,(∀x∈es,tq X.prog X.w s.heap x)/\is=es.map (fun x=>Dn x.2.2.1)/\D0 Cq es qs:=by
  intro us qs is pr
  induction pr generalizing is with
  | nil=>intro vv;cases vv;exact⟨[],fun x m=>(by cases m),rfl,.nil⟩
  | @cons v q ps qs hh t ih =>
    intro vv
    cases vv with
    | cons rv vv =>
      obtain⟨es,e1,e2,e3⟩:=ih vv;obtain⟨tt,rfl,st,sb⟩:=hh;cases rv;obtain⟨its,rv,⟨o,g1,g2,n,g3⟩,_⟩:=I.tuple st
      cases rv with
      | cons ra rv =>
        cases rv with
        | cons rb rv =>
          cases rv;cases ra;refine⟨(q.1,q.2.1,tt,_)::es,fun x m=>?_,by rw[e2];rfl,.cons ⟨rfl,rfl,rb⟩ e3⟩;rcases DS.mp m with rfl|m
          · exact⟨⟨o,n,g1,g2,by simpa using g3⟩,c_ I sb⟩
          · exact e1 x m
 obtain⟨es,k1,k2,k3⟩:=key pr h6;have lz2:es.length=its.length:=by rw[k2,Di]
 refine kj (es:=es) (by omega) (I.ok.hd hc) h1 rfl rfl rfl (fun i v ev=>?_) (by rw[DA];exact lz2) k1 (by omega) fun h' tk dd kp=>?_
 · rw[List.getElem?_toArray,k2,DY]at ev
   cases ee:es[i]? with
   | none=>rw[ee]at ev;cases ev
   | some x=>rw[ee]at ev;cases ev;exact⟨x,rfl,rfl⟩
 · have fl:∀(es:List Pe)(xs:List (List Int×Addr×Dc)),(gt xs es).length<=xs.length+es.length:=by
     intro es
     induction es with
     | nil=>intro xs;exact Dm _
     | cons x es ih =>
       intro xs;have:=ih (FV xs x.1 x.2.1 x.2.2.2);have:=dU xs x.1 x.2.1 x.2.2.2;show(gt (FV xs x.1 x.2.1 x.2.2.2) es).length<=_;rw[DP];omega
   have f0:=fl es [];have dat:=jB dd (beq_eq_false_iff_ne.mpr (Fm (DB I.big))) (by simp at f0;omega);exact⟨.ref s.heap.objs.size,_,I.laid (t':=tk) (o:=.ext (VL.DAt s.heap.objs.size (gt [] es))) kp (Dm _) (fy dat),rfl,q _ _ (I.hok.fresh (Dm _)) ⟨es,rfl,k3⟩⟩
end L2
namespace L2.VL
section
variable{X:Cx}{rl:Option Addr}{a e:Expr}{es:List Expr}{fa:TV}{fs:Ca}{pos p:Pos}{ρ:En}
noncomputable def Cp(K:W.Frag)(F:Hp)(q:Qe)(p:List Int×Da):Prop:=q.1=p.1/\Cg K F q.2.1 (q.1.map V.int)/\Rep K F q.2.2 p.2
theorem pairs_at{K:W.Frag}{F:Hp}:∀{vs:List V}{kvs:List (List Int×Da)},Reps K F vs (kvs.map fW)->∃qs:List Qe,D0 (yy K F) vs qs/\D0 (Cp K F) qs kvs
 | [],[],_=>⟨[],.nil,.nil⟩
 | v::vs,p::kvs,r=>by
   cases r with
   | cons h t =>
     obtain⟨qs,e1,e2⟩:=pairs_at t
     cases h with
     | @tup tt ws ds sq rs =>
       cases rs with
       | cons r1 rs =>
         cases rs with
         | cons r2 rs =>
           cases rs
           cases r1 with
           | @tup b is ds sb ri =>
             rw[dP ri]at sb;exact⟨(p.1,b,_)::qs,.cons ⟨tt,rfl,sq,sb⟩ e1,.cons ⟨rfl,sb,r2⟩ e2⟩
theorem rX{K:W.Frag}{es:List Pe}{qs:List Qe}(r:D0 Cq es qs) :
 ∀{kvs:List (List Int×Da)}{xs:List (List Int×Addr×Dc)}{ks:List (List Int×Da)},D0 (Cp K F) qs kvs->KX K F xs ks->KX K F (gt xs es) (kvs.foldl (fun ks p=>cN ks p.1 p.2) ks):=by
 induction r with
 | nil=>intro kvs xs ks t k;cases t;exact k
 | @cons e q es qs h t ih =>
   intro kvs xs ks t2 k
   cases t2 with
   | @cons _ p _ kvs h2 t2 =>
     show KX K F (gt (FV xs e.1 e.2.1 e.2.2.2) es) (kvs.foldl (fun ks p=>cN ks p.1 p.2) (cN ks p.1 p.2));refine ih t2 ?_;have e1:e.1=p.1:=h.1.trans h2.1;have sq:=h2.2.1;rw[<- h.2.1,h2.1]at sq;rw[e1];exact k.put p.1 sq h.2.2 h2.2.2
theorem qu(hu:X.A.units+64<Gu)(hc:X.calm=true)(hm:X.mg "dict" = none)(ha:Cr X rl [a] fs)(hg:autoParam (Gl X "dict") æa._auto_1)(he:autoParam (Dh [a] X.env=(false,eval a X.env)::Dh [] X.env) æa._auto_1)(hpl:autoParam ((ES pos (Dh [] X.env)).any (·.1)=false) æa._auto_1) :
 PV X rl (.Call (.Name "dict" p) [a] [] pos) (eL oP fs):=by
 refine jc (ki hu hc) (fun{F H vs ws} Qd Q s ra r ⟨kvs,ew,q⟩ k=>?_) hm (by rfl) ha hg (by decide) (by decide) he hpl;subst ew;obtain⟨v,rfl,rv⟩:=nM r
 cases(show Rep X.K F v (.list (kvs.map fW))from rv)with
 | @lst l us ds hl rs =>
   obtain⟨qs,e1,e2⟩:=pairs_at rs;refine⟨l,us,qs,rfl,s _ _ hl,D0.mapP e1 fun v q ⟨t,ev,st,sb⟩=>⟨t,ev,bA s st,bA s sb⟩,fun p us' hp ⟨es,eu,pe⟩=>?_⟩;subst eu;refine k _ (.xm (lx kvs)) _ _ (Grow.laid s ra hp) ⟨p,_,rfl,s.free hp,fun e=>?_,aj,rX pe e2 .nil⟩ (fun a ea=>by cases ea;exact hp) q;obtain⟨o,z⟩:=ra.live e;rw[hp]at z;cases z
theorem rQ(w:W)(kvs:List (List Int×Da))(h:w = .d (.list (kvs.map fW))):oP [w]=ret (.xm (lx kvs)):=by
 subst h;refine af fun Q=>?_;simp only[oP,ret,DI,and_true,W.d.injEq,GY];constructor
 · rintro⟨ks,e,q⟩
   have:ks=kvs:=by
    have inj:∀{a b:List (List Int×Da)},a.map fW=b.map fW->a=b:=fun{a b}=>by
     induction a generalizing b with
     | nil=>intro e;cases b with
       | nil=>rfl
       | cons y b=>cases e
     | cons x a ih =>
       intro e
       cases b with
       | nil=>cases e
       | cons y b =>
         rw[Ep,Ep,DI]at e;obtain⟨e1,e2⟩:=e;rw[ih e2];congr 1;simp only[fW,kI,Ex,DI,and_true]at e1;have:=congrArg gn e1.1;rw[cw,cw]at this;exact Prod.ext (DX this) e1.2
    exact inj e.symm
   rw[this]at q;exact q
 · exact fun q=>⟨kvs,rfl,q⟩
end
end L2.VL
namespace L2
noncomputable def k_(K:W.Frag)(wi:TI)(fr:List (Option Nat))(g:CompA->TG)(tt:CompA->TT)(tk te:CompA->TE):TE:=fun σ H Q=>wi σ H fun J H1=>∀D,H1 D=none->∃Wv:Nat->Nat->List (List Int×Addr×Dc)->St->Hp->Prop,(∃m,Wv 0 m [] (kD fr σ) (upd H1 D (.ext (VL.DAt D [])))) /\
 ∀ (z:CompA) i m acc σc H,Wv i m acc σc H->(J.stop i H/\Q (.ref D) H)\/(J.go i H/\∀x H',J.yld i H x H'->g z x σc H' fun σ2 H2=>tt z σ2 H2 fun b H3 =>
   if b=true then tk z σ2 H3 fun ky H4=>te z σ2 H4 fun y H5=>∃(k:List Int)(kb:Addr),ky = .ref kb/\H5 D=some (.ext (VL.DAt D acc))/\cy K H5 acc/\Cg K H5 kb (k.map V.int)/\acc.length<sizeLine/\∃m',m'<m/\∀u,RelV y u->Wv (i+1) m' (FV acc k kb u) σ2 (upd H5 D (.ext (VL.DAt D (FV acc k kb u))))else ∃m',m'<m/\Wv (i+1) m' acc σ2 H3)
theorem et{kx vx:Expr}{g:TG}{tt:TT}{tk te:TE}{H3:Hp}{s3:Dd}{J:It}{Q:VK}
 (N':List Str)(fr:List (Option Nat))(hu:X.A.units+64<Gu)(hc:X.calm=true)(hkind:scope.kind = .function)(hcell:∀y∈scope.names,y.2 = .cell->scope.names.lookup y.1=some .cell)
 (hfree:∀y∈scope.names,y.2 = .free->X.env.kindOf y.1=some .cell\/X.env.kindOf y.1=some .free)(frl:fr.length=N'.length)
 (frg:∀(i j:Nat),fr[i]?=some (some j)->∃x,N'[i]?=some x/\X.N[j]?=some x/\scope.names.lookup x=some .free/\(X.env.scope.names.lookup x=some .cell\/X.env.scope.names.lookup x=some .free))
 (cl1:∀x c,cl.lookup x=some c->X.env.cells.lookup x=some c)(cl2:∀x,(x,D5)∈scope.names->(cl.lookup x).isSome=true)
 (I3:Inv X pins σ H3 s3)(T:Turn X.prog X.w X.K tg J fp it tn)(tn3:tn 0 s3.heap)(fpD:∀b∈fp,H3 b=none)(fp3:∀b∈fp,b<s3.heap.objs.size)
 (fpk:∀b∈fp,b≠X.env.locals/\b∉X.fs/\(b∈X.ex\/X.s₀.heap.objs.size<=b)/\(∀x c,X.env.cells.lookup x=some c->c≠b)/\∀p∈X.pn++pins,p.1≠b)
 (hg:PG (aD X N' scope cl fp (X.pn++pins) s3 H3) tg g)(ht:Cu (aD X N' scope cl fp (X.pn++pins) s3 H3) ifs tt)(hk:PE (aD X N' scope cl fp (X.pn++pins) s3 H3) kx tk)(he:PE (aD X N' scope cl fp (X.pn++pins) s3 H3) vx te)
 {Wv:Nat->Nat->List (List Int×Addr×Dc)->St->Hp->Prop}{m0:Nat}(w0:Wv 0 m0 [] (kD fr σ) H3)
 (turn:∀i m acc σc H,Wv i m acc σc H->(J.stop i H/\Q (.ref D) H)\/(J.go i H/\∀x H',J.yld i H x H'->g x σc H' fun σ2 H2=>tt σ2 H2 fun b H3 =>
  if b=true then tk σ2 H3 fun ky H4=>te σ2 H4 fun y H5=>∃(k:List Int)(kb:Addr),ky = .ref kb/\H5 D=some (.ext (VL.DAt D acc))/\cy X.K H5 acc/\Cg X.K H5 kb (k.map V.int)/\acc.length<sizeLine/\∃m',m'<m/\∀u,RelV y u->Wv (i+1) m' (FV acc k kb u) σ2 (upd H5 D (.ext (VL.DAt D (FV acc k kb u))))else ∃m',m'<m/\Wv (i+1) m' acc σ2 H3))
 (fin:∀s5 H4 m,s5.heap.Ns s3.heap.objs.size m->(∀h',EQ s3.heap.objs.size s5.heap h'->Inv X pins σ H4 {s5 with heap:=h' })->i4 X pins H4 s3.heap.objs.size->Q (.ref D) H4->Rp s3.heap.objs.size (.ok .next) s5) :
 Dr (Dw X.prog X.w) X.A (G0 scope X.env.globals cl [] X.env.qual none .none (some X.env)) (fun cenv s₄ =>
  EW (Dw X.prog X.w) X.A (.compStart (.DictComp kx vx [⟨tg,iter,ifs,0⟩] scope pos) 0 (.ref it) (.ref D) {cenv with scope:=J3 scope X.env})
   (Rp cenv.locals) s₄) X.xe s3:=by
 refine cn N' fr hc hkind hcell hfree frl frg cl1 cl2 I3 T tn3 fpD fp3 fpk (fun s' IY tY stat=>?_) fin
 have loop:EW (Dw X.prog X.w) X.A (.compLoop (.DictComp kx vx [⟨tg,iter,ifs,0⟩] scope pos) 0 (.ref it) (.ref D) (aD X N' scope cl fp (X.pn++pins) s3 H3).env)
  (fun r s5=>r = .ok .next/\∃σ5 H4,Inv (aD X N' scope cl fp (X.pn++pins) s3 H3) [] σ5 H4 s5/\Q (.ref D) H4) s':=by
  refine j_ (fun n s'=>∃i acc σ' H',Inv (aD X N' scope cl fp (X.pn++pins) s3 H3) [] σ' H' s'/\tn i s'.heap/\(∀b∈fp,H' b=none)/\Wv i n acc σ' H') ?_ m0
   ⟨0,[],_,_,IY,tY,fpD,w0⟩
  rintro n s4 ⟨i,acc,σ4,H4,I4,st4,fr4,w4⟩;rcases turn i n acc σ4 H4 w4 with⟨stop,qn⟩|⟨go,step⟩
  · exact A8 (T.done (aD X N' scope cl fp (X.pn++pins) s3 H3) rfl rfl rfl hc i [] s4 σ4 H4 (fun _ _=>False) I4 (stat fr4) st4 stop) fun r s5 ⟨hr,I5⟩=>.inl ⟨hr,rfl,σ4,H4,I5,qn⟩
  · refine A8 (T.item (aD X N' scope cl fp (X.pn++pins) s3 H3) rfl rfl rfl hc i [] s4 σ4 H4 (fun _ _=>False) I4 (stat fr4) st4 go) fun r s5 ⟨u,hr,h5⟩=>.inr ⟨u,hr,?_⟩;refine A8 h5 fun _ s6 ⟨x,H6,I6,r6,y6,st6,fr6⟩=>?_;have I6':=I6.pinned (stat fr6) (T.obj _ _ st6)
    have again:∀{σ7:St}{H7:Hp}{s7:Dd},Inv (aD X N' scope cl fp (X.pn++pins) s3 H3) ([]++dE fp s6.heap) σ7 H7 s7->∀{acc':List (List Int×Addr×Dc)}{m':Nat},m'<n->Wv (i+1) m' acc' σ7 H7 ->
     ∃m,m<n/\∃i acc σ' H',Inv (aD X N' scope cl fp (X.pn++pins) s3 H3) [] σ' H' s7/\tn i s7.heap/\(∀b∈fp,H' b=none)/\Wv i m acc σ' H':=fun{σ7 H7 s7} I7 {acc' m'} hm w7=>by
     refine⟨m',hm,i+1,acc',σ7,H7,I7.unpinned,T.keep _ _ _ st6 fun b hb o e=>(I7.pin (b,o) (Dt _ (Dt _ (aQ hb e)))).1,fun b hb=>?_,w7⟩;obtain⟨o,e,d⟩:=T.obj _ _ st6 b hb;exact(I7.pin (b,o) (Dt _ (Dt _ (aQ hb e)))).2.1
    refine A8 (hg _ s6 σ4 H6 x u _ I6' r6 (step x H6 y6)) fun _ s7 ⟨σ7,H7,I7,q7⟩=>?_;refine A8 (ht _ s7 σ7 H7 _ I7 q7) fun ok s8 ⟨H8,I8,q8⟩=>?_
    cases ok with
    | false =>
      rw[if_neg DJ]at q8 ⊢;obtain⟨m',hm,w8⟩:=q8
      exact again I8 hm w8
    | true =>
      rw[if_pos rfl]at q8 ⊢;refine A8 (hk _ s8 σ7 H8 _ I8 q8) fun ku s9 ⟨ky,H9,I9,rk,q9⟩=>?_;refine A8 (he _ s9 σ7 H9 _ I9 q9) fun y s10 ⟨yv,H10,I10,r10,k,kb,ek,eD,ks,sq,hl,m',hm,w10⟩=>?_;subst ek;obtain rfl:ku=Dn kb:=rk;obtain⟨dd,hd,hz⟩:=fv I10 eD ks;have ru:(Ee (E9 (aD X N' scope cl fp (X.pn++pins) s3 H3).prog (aD X N' scope cl fp (X.pn++pins) s3 H3).w)).room (aD X N' scope cl fp (X.pn++pins) s3 H3).A:=(show X.A.units<Gu by omega);refine wpAny_dictSet_heap (hsz:=hz) ru (c_ I10 sq) dd fun h' dd' hs=>?_;have lz:=bY acc k kb y;have at':=jB dd' hd (by omega);exact again (cT (t':=s10.toks+_) I10 (by rw[eD];exact Gc) hs (let ⟨o,_,_,e,_⟩:=at';⟨o,e⟩) (fy at')) hm (w10 y r10)
 exact codeAny_compStart_dict loop (T.self X.A 0 _ _ _ tY loop)
section
variable{X:Cx}{kx vx tg iter:Expr}{ifs:List Expr}{scope:Scope}{pos:Pos}{wi:TI}{g:CompA->TG}{tt:CompA->TT}{tk te:CompA->TE}
theorem lI(N':List Str)(fr:List (Option Nat))(hu:X.A.units+64<Gu)(hc:X.calm=true)(hi:PI X tg iter wi)(hfr:mG fr N' X.N scope X.env.scope=true)(hsc:ni scope X.env.scope=true)
 (hg:∀y,PG (blk X N' scope y) tg (g y))(ht:∀y,Cu (blk X N' scope y) ifs (tt y))(hk:∀y,PE (blk X N' scope y) kx (tk y))(he:∀y,PE (blk X N' scope y) vx (te y))
 (hs:autoParam (∀x,DL iter X.env x=pure x) æd._auto_1):PE X (.DictComp kx vx [⟨tg,iter,ifs,0⟩] scope pos) (k_ X.K wi fr g tt tk te):=by
 intro pins s σ H Q I h;obtain⟨sk,sn⟩:=Dj.mp hsc;have hkind:scope.kind = .function:=of_decide_eq_true sk;have hall:=Fq.mp sn
 have hcell:∀y∈scope.names,y.2 = .cell->scope.names.lookup y.1=some .cell:=fun y hy hl=>by
  rcases DH.mp (Dj.mp (Dj.mp (hall y hy)).1).1 with z|z
  · exact absurd hl (of_decide_eq_true z)
  · exact of_decide_eq_true z
 have hnames:∀y∈scope.names,y.2 = .local->scope.names.lookup y.1=some .local:=fun y hy hl=>by
  rcases DH.mp (Dj.mp (Dj.mp (hall y hy)).1).2 with z|z
  · exact absurd hl (of_decide_eq_true z)
  · exact of_decide_eq_true z
 have hfree:∀y∈scope.names,y.2 = .free->X.env.kindOf y.1=some .cell\/X.env.kindOf y.1=some .free:=fun y hy hl=>by
  rcases DH.mp (Dj.mp (hall y hy)).2 with z|z
  · exact absurd hl (of_decide_eq_true z)
  · exact(DH.mp z).imp of_decide_eq_true of_decide_eq_true
 obtain⟨frl,frg⟩:=mG.get hfr;obtain⟨cl,hclos,cl1,cl2⟩:=bR (env:=X.env) (scope:=scope) fun y hy hl=>I.ok.has y.1 (hfree y hy hl);rw[arm_eval_DictComp];refine E6 (use:=none) rfl hs hclos hkind hnames (A8 (hi pins s σ H _ I h) fun v s1 h1=>A8 h1 fun itv s2 h2=>?_);obtain⟨it,fp,tn,J,H2,e,I2,T,st2,f2,q2⟩:=h2;subst e;refine DT ?_;have hD:H2 s2.heap.objs.size=none:=I2.hok.fresh (Dm _)
 have I3:Inv X pins σ (upd H2 s2.heap.objs.size (.ext (VL.DAt s2.heap.objs.size []))) {s2 with heap:=s2.heap.push {cls:=.type "dict", data:=.dict #[]}} :=
  I2.laid (t':=s2.toks) (fun b u e=>Db _ e) (Dm _) (fy ⟨_,#[],0,Do _ rfl,⟨rfl,rfl,rfl⟩,rfl,fun _ _=>rfl,Jb,beq_eq_false_iff_ne.mpr (Fm (DB I2.big)),DG _⟩)
 obtain⟨Wv,⟨m0,w0⟩,turn⟩:=q2 _ hD;have tn3:tn 0 (s2.heap.push {cls:=.type "dict", data:=.dict #[]}):=T.keep _ _ _ st2 fun b _ o e=>Db _ e
 have fpD:∀b∈fp,(upd H2 s2.heap.objs.size (.ext (VL.DAt s2.heap.objs.size []))) b=none:=fun b hb=>by
  obtain⟨o,e,_⟩:=T.obj _ _ st2 b hb;rw[ae (DB (Df e))];exact(f2 b hb).1
 have fp3:∀b∈fp,b<(s2.heap.push {cls:=.type "dict", data:=.dict #[]}).objs.size:=fun b hb=>by
  obtain⟨o,e,_⟩:=T.obj _ _ tn3 b hb;exact Df e
 exact et N' fr hu hc hkind hcell hfree frl frg cl1 cl2 I3 T tn3 fpD fp3 (fun b hb=>(f2 b hb).2) (hg ⟨cl,fp,X.pn++pins,_,_⟩) (ht ⟨cl,fp,X.pn++pins,_,_⟩) (hk ⟨cl,fp,X.pn++pins,_,_⟩) (he ⟨cl,fp,X.pn++pins,_,_⟩) w0 (turn ⟨cl,fp,X.pn++pins,_,_⟩)
  (Rp:=JL (Dw X.prog X.w) X.A X.xe none (EP X pins σ Q) (.ref s2.heap.objs.size)) fun s5 H4 m hn k _ qn=>⟨m,hn,fun h' hs'=>⟨.ref _,H4,k h' hs',rfl,qn⟩⟩
theorem g_{b:Bool}{spos:Pos}{ix:Nat}(N':List Str)(fr:List (Option Nat))(hu:X.A.units+64<Gu)(hc:X.calm=true)(hi:PI X tg iter wi)(hfr:mG fr N' X.N scope X.env.scope=true)(hsc:ni scope X.env.scope=true)
 (hg:∀y,PG (blk X N' scope y) tg (g y))(ht:∀y,Cu (blk X N' scope y) ifs (tt y))(hk:∀y,PE (blk X N' scope y) kx (tk y))(he:∀y,PE (blk X N' scope y) vx (te y))(hN:X.N.Nodup)(hix:X.N[ix]?=some x)(hx:Loc X.env.scope x)
 (hf:X.fn x=true\/X.env.scope.names.lookup x=some .local)(hsw:ET (.DictComp kx vx [⟨tg,iter,ifs,0⟩] scope pos) (some (.Name x px)) spos.line X.env=pure b)
 (hs:∀x,DL iter X.env x=pure x):PS X (.Assign [.Name x px] (.DictComp kx vx [⟨tg,iter,ifs,0⟩] scope pos) spos) (xE (k_ X.K wi fr g tt tk te) (iN ix)):=by
 cases b with
 | false=>exact eY hN hix hx (lI N' fr hu hc hi hfr hsc hg ht hk he hs) hsw hf
 | true =>
 intro pins s σ H DD I h;obtain⟨sk,sn⟩:=Dj.mp hsc;have hkind:scope.kind = .function:=of_decide_eq_true sk;have hall:=Fq.mp sn
 have hcell:∀y∈scope.names,y.2 = .cell->scope.names.lookup y.1=some .cell:=fun y hy hl=>by
  rcases DH.mp (Dj.mp (Dj.mp (hall y hy)).1).1 with z|z
  · exact absurd hl (of_decide_eq_true z)
  · exact of_decide_eq_true z
 have hnames:∀y∈scope.names,y.2 = .local->scope.names.lookup y.1=some .local:=fun y hy hl=>by
  rcases DH.mp (Dj.mp (Dj.mp (hall y hy)).1).2 with z|z
  · exact absurd hl (of_decide_eq_true z)
  · exact of_decide_eq_true z
 have hfree:∀y∈scope.names,y.2 = .free->X.env.kindOf y.1=some .cell\/X.env.kindOf y.1=some .free:=fun y hy hl=>by
  rcases DH.mp (Dj.mp (hall y hy)).2 with z|z
  · exact absurd hl (of_decide_eq_true z)
  · exact(DH.mp z).imp of_decide_eq_true of_decide_eq_true
 obtain⟨frl,frg⟩:=mG.get hfr;obtain⟨cl,hclos,cl1,cl2⟩:=bR (env:=X.env) (scope:=scope) fun y hy hl=>I.ok.has y.1 (hfree y hy hl);rw[IL _ _ _ _ hsw];refine C9 (ED (C9 ?_));show Dr _ X.A (do let _ <- comprehension (.DictComp kx vx [⟨tg,iter,ifs,0⟩] scope pos) scope X.env _ newDict false (eval iter X.env) (some (G_ (.Name x px) X.env))) _ _ s
 refine C9 (DC (E6 (use:=some (G_ (.Name x px) X.env)) (Q:=fun _ s'=>SP X pins DD .next s') rfl hs hclos hkind hnames
  (A8 (hi pins s σ H _ I h) fun v s1 h1=>A8 h1 fun itv s2 h2=>?_)) (fun _ s' hq=>De (De hq)) fun _ _ e=>e)
 obtain⟨it,fp,tn,J,H2,e,I2,T,st2,f2,q2⟩:=h2;subst e;refine DT ?_;have hD:H2 s2.heap.objs.size=none:=I2.hok.fresh (Dm _)
 have I3:Inv X pins σ (upd H2 s2.heap.objs.size (.ext (VL.DAt s2.heap.objs.size []))) {s2 with heap:=s2.heap.push {cls:=.type "dict", data:=.dict #[]}} :=
  I2.laid (t':=s2.toks) (fun b u e=>Db _ e) (Dm _) (fy ⟨_,#[],0,Do _ rfl,⟨rfl,rfl,rfl⟩,rfl,fun _ _=>rfl,Jb,beq_eq_false_iff_ne.mpr (Fm (DB I2.big)),DG _⟩)
 obtain⟨Wv,⟨m0,w0⟩,turn⟩:=q2 _ hD;have tn3:tn 0 (s2.heap.push {cls:=.type "dict", data:=.dict #[]}):=T.keep _ _ _ st2 fun b _ o e=>Db _ e
 have fpD:∀b∈fp,(upd H2 s2.heap.objs.size (.ext (VL.DAt s2.heap.objs.size []))) b=none:=fun b hb=>by
  obtain⟨o,e,_⟩:=T.obj _ _ st2 b hb;rw[ae (DB (Df e))];exact(f2 b hb).1
 have fp3:∀b∈fp,b<(s2.heap.push {cls:=.type "dict", data:=.dict #[]}).objs.size:=fun b hb=>by
  obtain⟨o,e,_⟩:=T.obj _ _ tn3 b hb;exact Df e
 refine et (Q:=fun v H1=>iN ix v σ H1 DD.nx) N' fr hu hc hkind hcell hfree frl frg cl1 cl2 I3 T tn3 fpD fp3 (fun b hb=>(f2 b hb).2) (hg ⟨cl,fp,X.pn++pins,_,_⟩) (ht ⟨cl,fp,X.pn++pins,_,_⟩) (hk ⟨cl,fp,X.pn++pins,_,_⟩) (he ⟨cl,fp,X.pn++pins,_,_⟩) w0 (turn ⟨cl,fp,X.pn++pins,_,_⟩)
  (Rp:=JL (Dw X.prog X.w) X.A X.xe (some (G_ (.Name x px) X.env)) (fun _ s'=>SP X pins DD .next s') (.ref s2.heap.objs.size)) fun s5 H4 m hn k fpo qn=>?_
 show Dr _ X.A (G_ (.Name x px) X.env (.ref s2.heap.objs.size)) _ _ s5;have I5:Inv X pins σ H4 s5:=k s5.heap (GZ _ _);obtain⟨f0,f1,f2',f3,f4,f5⟩:=fpo;refine HR (dW I5 hN hix hx (v:=.ref s2.heap.objs.size) rfl (fun s6 I6 sb=>?_) hf);obtain⟨a,sb,ha⟩:=sb
 have hne:(s2.heap.push {cls:=.type "dict", data:=.dict #[]}).objs.size≠a:=by
  rcases ha with rfl|ha
  · exact f1
  · exact fun z=>f4 x a ha z.symm
 refine⟨m,hn.at' fun o e=>sb.extBut _ o hne e,fun h' hs'=>?_⟩;exact⟨_,H4,I6.turned (t':=s6.toks) (fun b o hb e=>hs'.extBut b o hb e) f0 f1 f3 f4 f5,qn⟩
end
end L2
namespace L2.VL
theorem nP(kvs:List (List Int×Da))(k:List Int)(x:Da):(cN kvs k x).length<=kvs.length+1:=by
 unfold cN;split<;>simp
noncomputable def pj(ρ0:En)(g:Ce)(ft:TB)(fk fe:TV):List Da->List (List Int×Da)->(List (List Int×Da)->Prop)->Prop
 | [],acc,Q=>Q acc
 | x::xs,acc,Q=>g x ρ0 fun ρ2=>Le ρ0 ρ2/\ft ρ2 fun b=>if b=true then fk ρ2 fun wk=>∃k,eP wk=some k/\fe ρ2 fun w=>∃d,w.fz = .d d/\acc.length<sizeLine/\pj ρ0 g ft fk fe xs (cN acc k d) Q else pj ρ0 g ft fk fe xs acc Q
noncomputable def iq(fi:En->(List Da->Prop)->Prop)(fr:List (Option Nat))(g:Ce)(ft:TB)(fk fe:TV):TV:=fun ρ Q=>fi ρ fun xs=>pj (dh fr ρ) g ft fk fe xs [] fun kvs=>Q (.xm kvs)
noncomputable def ma(ρ0:En)(g:Ce)(ft:TB)(fk fe:TV)(x:Da):Mo (Option (List Int×Da)):=BZ (g x ρ0) fun ρ2=>BR (Le ρ0 ρ2) (BZ (ft ρ2) fun b=>if b=true then BZ (fk ρ2) fun wk=>ar (eP wk) fun k=>BZ (fe ρ2) fun w=>ar (asD w.fz) fun d=>ret (some (k,d))else ret none)
noncomputable def bW(b:Da->Mo (Option (List Int×Da))):List Da->List (List Int×Da)->Mo (List (List Int×Da))
 | [],acc=>ret acc
 | x::xs,acc=>BZ (b x) fun o=>match o with
   | some d=>BR (acc.length<sizeLine) (bW b xs (cN acc d.1 d.2))
   | none=>bW b xs acc
theorem jD(ρ0:En)(g:Ce)(ft:TB)(fk fe:TV):∀(xs:List Da)(acc:List (List Int×Da)),pj ρ0 g ft fk fe xs acc=bW (ma ρ0 g ft fk fe) xs acc
 | [],acc=>rfl
 | x::xs,acc=>by
   refine af fun Q=>?_;show(g x ρ0 fun ρ2=>Le ρ0 ρ2/\ft ρ2 fun b=>if b=true then fk ρ2 fun wk=>∃k,eP wk=some k/\fe ρ2 fun w=>∃d,w.fz = .d d/\acc.length<sizeLine/\pj ρ0 g ft fk fe xs (cN acc k d) Q else pj ρ0 g ft fk fe xs acc Q)↔(BZ (ma ρ0 g ft fk fe x) _) Q;simp only[jD ρ0 g ft fk fe xs]
   have:∀(ρ2:En)(b:Bool),(if b=true then fk ρ2 fun wk=>∃k,eP wk=some k/\fe ρ2 fun w=>∃d,w.fz = .d d/\acc.length<sizeLine/\bW (ma ρ0 g ft fk fe) xs (cN acc k d) Q else bW (ma ρ0 g ft fk fe) xs acc Q)=(BZ (if b=true then BZ (fk ρ2) fun wk=>ar (eP wk) fun k=>BZ (fe ρ2) fun w=>ar (asD w.fz) fun d=>ret (some (k,d))else ret none) fun o=>match o with
   | some d=>BR (acc.length<sizeLine) (bW (ma ρ0 g ft fk fe) xs (cN acc d.1 d.2))
   | none=>bW (ma ρ0 g ft fk fe) xs acc) Q:=by
     intro ρ2 b
     cases b with
     | false=>rfl
     | true =>
       rw[if_pos rfl,if_pos rfl];show _=fk ρ2 fun wk=>_;congr 1;funext wk;refine propext ?_;show _↔(BZ (ar (eP wk) fun k=>BZ (fe ρ2) fun w=>ar (asD w.fz) fun d=>ret (some (k,d))) _) Q;rw[bnd_opt,ag]
       have e2:∀(k:List Int),(fe ρ2 fun w=>∃d,w.fz = .d d/\acc.length<sizeLine/\bW (ma ρ0 g ft fk fe) xs (cN acc k d) Q)=(BZ (BZ (fe ρ2) fun w=>ar (asD w.fz) fun d=>ret (some (k,d))) fun o=>match o with
        | some d=>BR (acc.length<sizeLine) (bW (ma ρ0 g ft fk fe) xs (cN acc d.1 d.2))
        | none=>bW (ma ρ0 g ft fk fe) xs acc) Q:=fun k=>by
        show _=fe ρ2 fun w=>_;congr 1;funext w;refine propext ?_;show _↔(BZ (ar (asD w.fz) fun d=>ret (some (k,d))) _) Q;rw[bnd_opt,ag];simp only[fD];exact G7
       simp only[e2]
   simp only[this];exact G7
section
variable{α:Type}{b:Da->Mo (Option (List Int×Da))}
theorem ib{enc:α->Da}(f:α->List Int×Da):∀(xs:List α)(acc:List (List Int×Da)),(∀x∈xs,b (enc x)=ret (some (f x)))->acc.length+xs.length<=sizeLine->bW b (xs.map enc) acc=ret ((xs.map f).foldl (fun a p=>cN a p.1 p.2) acc)
 | [],acc,_,_=>rfl
 | x::xs,acc,h,hl=>by
   show BZ (b (enc x)) _=_;rw[h x Dx,bnd_ret];show BR (acc.length<sizeLine) (bW b (xs.map enc) (cN acc (f x).1 (f x).2))=_;simp only[DP]at hl;have:=nP acc (f x).1 (f x).2;rw[am (by omega),ib f xs _ (fun y hy=>h y (Dl _ hy)) (by omega)];rfl
theorem qb{β:Type}{Q:β->Prop}{k:List (List Int×Da)->Mo β}{xs:List α}{enc:α->Da}(f:α->List Int×Da)(hx:xs'=xs.map enc)(h:∀x∈xs,b (enc x)=ret (some (f x)))(hl:xs.length<=sizeLine)
 (fin:k ((xs.map f).foldl (fun a p=>cN a p.1 p.2) []) Q):BZ (bW b xs' []) k Q:=by
 subst hx;rw[ib f xs [] h (by simpa using hl)];exact fin
end
section
variable{X:Cx}{rl:Option Addr}{kx vx tg iter:Expr}{ifs:List Expr}{scope:Scope}{pos:Pos}{fi:En->(List Da->Prop)->Prop}{g:Ce}{ft:TB}{fk fe:TV}
theorem oV{wi:TI}(fr:List (Option Nat))(hu:X.A.units+64<Gu)(k0:∀{F₀ H₀ F H:Hp}{σ:St}{ρ:En},VR X.K rl F₀ H₀ F H σ ρ->∀(Qd:List Da->Prop)(R:It->Hp->Prop),fi ρ Qd ->
 (∀J xs F' H',Grow rl F H F' H'->VIt X.K rl F' J xs->Qd xs->R J H')->wi σ H R)
 (hg:∀y,CD (blk X N' scope y) rl tg g)(ht:∀y,kF (blk X N' scope y) rl ifs ft)(hk:∀y,PV (blk X N' scope y) rl kx fk)(he:∀y,PV (blk X N' scope y) rl vx fe)
 (R:VR X.K rl F₀ H₀ F H σ ρ)(Qd:W->Prop)(Q:VK)(q:iq fi fr g ft fk fe ρ Qd)
 (k:∀v w F' H',Grow rl F H F' H'->cE X.K rl F' H' v w->dg H v w->Qd w->Q v H'):k_ X.K wi fr (fun y=>DW (hg y)) (fun y=>DW (ht y)) (fun y=>DW (hk y)) (fun y=>DW (he y)) σ H Q:=by
 refine k0 R _ _ q fun J xs F1 H1 g1 vi q1=>?_;intro D hD;have rD:rl≠some D:=fun e=>by obtain⟨o,z⟩:=g1.reel.live e;rw[hD]at z;cases z
 have FD:F1 D=none:=g1.sub.free hD;have gD:Grow rl F1 H1 F1 (upd H1 D (.ext (DAt D []))):=Grow.laid g1.sub g1.reel hD;have R1:=R.grow g1;have n0:ko (dh fr ρ):=cC
 refine⟨fun i m acc σc Hc=>m=xs.length-i/\i<=xs.length/\∃Fc ds,VR X.K rl F1 H1 Fc Hc σc (dh fr ρ)/\Hc D=some (.ext (DAt D acc))/\Fc D=none/\KX X.K Fc acc ds/\pj (dh fr ρ) g ft fk fe (xs.drop i) ds (fun ds=>Qd (.xm ds)),
  ⟨xs.length,by simp,DG _,F1,[],dO R1 gD,aj,FD,.nil,by simpa using q1⟩,?_⟩
 rintro z i m acc σc Hc ⟨rfl,hi,Fc,ds,Rc,hDc,fDc,rs,q2⟩;have sH:aR F1 Hc:=Rc.g.fs.trans Rc.sub;by_cases hlt:i<xs.length
 · have ei:xs[i]?=some xs[i]:=by simp[hlt]
   have ed:xs.drop i=xs[i]::xs.drop (i+1):=Ek hlt;rw[ed]at q2;refine .inr ⟨vi.go i Hc _ ei sH,fun v H' y=>?_⟩;obtain⟨Fy,gy,rv⟩:=vi.yld i Hc v H' _ Fc ei Rc.g.fs Rc.sub Rc.reel y;refine(Dg (hg z)).2 (Rc.grow gy) v _ _ _ rv q2 fun F3 H3 σ3 ρ3 g3 n3 R3 ⟨le3,q3⟩=>?_;refine(Dg (ht z)).2 R3 _ _ q3 fun b F4 H4 g4 q4=>?_;have R4:=R3.grow g4;have g34:=(gy.trans g3).trans g4;have keepD:∀{Fx Hx:Hp},Grow rl Fc Hc Fx Hx->Hx D=some (.ext (DAt D acc))/\Fx D=none:=fun gx=>⟨gx.same D _ hDc rD,by rw[gx.old D _ hDc];exact fDc⟩
   cases b with
   | false=>exact⟨xs.length-(i+1),by omega,rfl,hlt,F4,ds,R4.le le3,(keepD g34).1,(keepD g34).2,rs.mono g34.fs,q4⟩
   | true =>
     refine(Dg (hk z)).2 R4 _ _ q4 fun vk wk Fk Hk gk rk nk ⟨kk,ekk,qk⟩=>?_;obtain⟨kb,rfl,sqk⟩:=rk.keyF ekk;have R5:=R4.grow gk;refine(Dg (he z)).2 R5 _ _ qk fun v5 w5 F5 H5 g5 r5 n5 ⟨d,ed5,hl,q5⟩=>?_;obtain⟨F6,g6,s6,r6⟩:=cE.fz g5 r5 n5;rw[ed5]at r6;have g36:=(g34.trans gk).trans g6;have lds:acc.length=ds.length:=EH rs;have rs6:=rs.mono g36.fs;have sq6:=bA g6.fs sqk;refine⟨kk,kb,rfl,(keepD g36).1,fun x m=>bA g6.sub (rs6.keys x m),bA g6.sub sq6,by rw[lds];exact hl,xs.length-(i+1),by omega,fun u ru=>⟨rfl,hlt,F6,cN ds kk d,((R5.grow g6).le le3).other n0 hD (keepD g36).2 rD,aj,(keepD g36).2,rs6.put kk sq6 ru r6,q5⟩⟩
 · have e:i=xs.length:=by omega
   subst e;rw[Ga]at q2;refine .inl ⟨vi.stop _ Hc (Dm _) sH,k _ (.xm ds) Fc Hc (g1.trans Rc.g) ⟨D,acc,rfl,fDc,rD,hDc,rs⟩ (fun a ea=>by cases ea;exact g1.freeB hD) q2⟩
theorem gE(i:Nat){b:Bool}{spos:Pos}(hN:X.N.Nodup)(N':List Str)(fr:List (Option Nat))(hu:X.A.units+64<Gu)(hc:X.calm=true)(hi:CA X rl tg iter fi)
 (hg:∀y,CD (blk X N' scope y) rl tg g)(ht:∀y,kF (blk X N' scope y) rl ifs ft)(hk:∀y,PV (blk X N' scope y) rl kx fk)(he:∀y,PV (blk X N' scope y) rl vx fe)
 (hsw:autoParam (ET (.DictComp kx vx [⟨tg,iter,ifs,0⟩] scope pos) (some (.Name x px)) spos.line X.env=pure b) æa._auto_1)
 (hix:autoParam (X.N[i]?=some x) æa._auto_1)(hx:autoParam (Loc X.env.scope x) æe._auto_1)(hf:autoParam (X.fn x=true\/X.env.scope.names.lookup x=some .local) æf._auto_1)
 (hfr:autoParam (mG fr N' X.N scope X.env.scope=true) æa._auto_1)(hsc:autoParam (ni scope X.env.scope=true) æa._auto_1)
 (hs:autoParam (∀x,DL iter X.env x=pure x) æd._auto_1):Cw X rl (.Assign [.Name x px] (.DictComp kx vx [⟨tg,iter,ifs,0⟩] scope pos) spos) (sW i (iq fi fr g ft fk fe)):=by
 obtain⟨wi,p0,k0⟩:=hi;refine⟨_,g_ N' fr hu hc p0 hfr hsc (fun y=>(Dg (hg y)).1) (fun y=>(Dg (ht y)).1) (fun y=>(Dg (hk y)).1) (fun y=>(Dg (he y)).1) hN hix hx hf hsw hs,fun R Dv D ok q=>oV fr hu k0 hg ht hk he R _ _ q fun v w F1 H1 g1 r1 n1 ⟨hp,q1⟩=>?_⟩;exact ok.nx _ _ _ _ g1.fs (R.set g1 r1 n1 (fun xs z=>by subst z;cases hp) i) q1
end
theorem bc(fi:En->(List Da->Prop)->Prop)(fr:List (Option Nat))(g:Ce)(ft:TB)(fk fe:TV)(ρ:En):iq fi fr g ft fk fe ρ=BZ (fi ρ) fun xs=>BZ (bW (ma (dh fr ρ) g ft fk fe) xs []) fun kvs=>ret (.xm kvs):=by
 refine af fun Q=>?_;show(fi ρ fun xs=>pj (dh fr ρ) g ft fk fe xs [] fun ds=>Q (.xm ds))↔_;simp only[jD];exact G7
end L2.VL
namespace L2
open PySem PySem.Spec PyProof.Rows PySem.W
noncomputable def CT(h:Heap)(it d S:Addr)(i n ep:Nat):Prop :=
 ∃ (x:Dc)(f:Bool)(ok ov:Dc),h.get? it=some {cls:=.type "dict_itemiterator", dict:=none,data:=.fields #[x,.bool f,.ref d,.int i 0,.int n 0,.int ep 0,ok,ov],slots:=#[]} /\
   ((x = .none/\f=false)\/∃(a:Addr)(oa:Obj),x=Gj a/\h.get? a=some oa/\a≠it/\a≠S)
section
variable{P:Dq}{w:DN}{A:DM}{E:Dc->Dd->Prop}{s:Dd}{d v it S:Addr}{es:Array Gh}{ep i:Nat}
theorem CT.keep(x:CT h it d S i n ep)(k:∀b o,b≠S->h.get? b=some o->h'.get? b=some o)(hI:it≠S):CT h' it d S i n ep:=by
 obtain⟨x,f,ok,ov,e,r⟩:=x;refine⟨x,f,ok,ov,k _ _ hI e,?_⟩;rcases r with r|⟨a,oa,e1,e2,e3,e4⟩
 · exact .inl r
 · exact .inr ⟨a,oa,e1,k _ _ e4 e2,e3,e4⟩
theorem l_{Q:Option Obj->Dd->Prop}(ho:s.heap.get? a=some o)(h:Q (some o) s):Dr (Dw P w) A (loadIfAlive a) Q E s:=by
 have h':Q (s.heap.get? a) s:=by rw[ho];exact h
 exact fun _ _ _=>h'
theorem oB{Q:Option Dc->Dd->Prop}(st:CT s.heap it d S i es.size ep)(hS:S<s.heap.objs.size)(hIS:it≠S)(r:jL s.heap d es ep)(li:i<es.size)
 (z:∀h',CT h' it d S (i+1) es.size ep->h'.get? s.heap.objs.size=some {cls:=.type "tuple", data:=.seq #[(es[i]'li).key,(es[i]'li).val]}->h'.objs.size=s.heap.objs.size+1 ->
  (∀b o,b≠it->s.heap.get? b=some o->h'.get? b=some o)->Q (some (.ref s.heap.objs.size)) {s with heap:=h' }):Dr (Dw P w) A (G1 (.ref it)) Q E s:=by
 obtain⟨hp,g,dr,tk,os⟩:=s;obtain⟨x,f,ok,ov,hit,hx⟩:=st;obtain⟨od,q,x0,t⟩:=id r;have ty:GQ ⟨hp,g,dr,tk,os⟩ (.ref it) "dict_itemiterator" := ⟨_,hit,rfl⟩;unfold G1;refine C9 (Ih (EL (name:=Et "__next__") ty F.slot_dict_itemiterator_next (Ft F.slot_dict_itemiterator_next ty F.entry_dict_itemiterator_next ?_ (F.args_dict_itemiterator_next_1 _))));refine C9 (De (C9 (C9 ?_)))
 first|refine C9 (E3 ty (De (C9 (HJ hit rfl ?_))))|refine C9 (FM ty (De (C9 (HJ hit rfl ?_))))
 have own:Gg "dict_itemiterator" = true:=by decide
 simp only[own,if_true];show Dr _ _ (if(Dn d==D3)=true then _ else _) _ _ _;rw[if_neg (show ¬((Dn d==D3)=true)from DJ)];refine C9 (De (C9 (HZ q t ?_)));rw[if_neg (by simp)];refine C9 (De (C9 (IN q t ?_)));rw[if_neg (by simp)];refine De ?_;simp only[show ¬((i:Int)<0)from by omega,if_false,Fi,HK li];refine C9 ?_
 first|refine C9 (E3 ty (De (C9 (Ge ty ?_))))|refine C9 (FM ty (De (C9 (Ge ty ?_))))
 show Dr _ _ (setField (.ref it) 3 (Gj ((i:Int)+1)) >>= _) _ _ ⟨hp,g,dr,tk,os⟩;refine C9 (D6 hit (by simp) fun h₁ he₁ hs₁=>?_)
 replace hs₁:EQ it hp h₁:=hs₁
 replace he₁:h₁.get? it=some {cls:=.type "dict_itemiterator", dict:=none,data:=.fields #[x,.bool f,.ref d,.int (i+1:Nat) 0,.int es.size 0,.int ep 0,ok,ov],slots:=#[]}:=by
  have e:((i+1:Nat):Int)=(i:Int)+1:=by omega
  rw[e];simpa[Gj]using he₁
 have ty₁:GQ ⟨h₁,g,dr,tk,os⟩ (.ref it) "dict_itemiterator" := ⟨_,he₁,rfl⟩;refine C9 (FY (C9 (Ge ty₁ (C9 (Ge ty₁ ?_)))));show Dr _ _ (GS (.ref it) 6 es[i].key es[i].val) _ _ ⟨h₁,g,dr,tk,os⟩;unfold GS;refine C9 (wpAny_newTuple ?_);have he₂:=Db {cls:=.type "tuple", data:=.seq #[es[i].key,es[i].val]} he₁;generalize hh₂:h₁.push {cls:=.type "tuple", data:=.seq #[es[i].key,es[i].val]}=h₂ at he₂;have hz₁:h₁.objs.size=hp.objs.size:=hs₁.1;have hil:it<hp.objs.size:=Df hit;have ht₂:h₂.get? hp.objs.size=some {cls:=.type "tuple", data:=.seq #[es[i].key,es[i].val]}:=by rw[<- hh₂,<- hz₁];exact Do _ rfl
 have hz₂:h₂.objs.size=hp.objs.size+1:=by rw[<- hh₂,EG,hz₁]
 have hk₂:∀b o,b≠it->hp.get? b=some o->h₂.get? b=some o:=fun b o hb e=>by rw[<- hh₂];exact Db _ (hs₁.extBut b o hb e)
 show Dr _ _ (GB (.ref it) >>= _) _ _ ⟨h₂,g,dr,tk,os⟩;rw[hz₁];clear hh₂ he₁ hs₁ ty₁ hz₁ h₁
 have fin:∀h' x' f' ok' ov',EQ it h₂ h'->h'.get? it=some {cls:=.type "dict_itemiterator", dict:=none,data:=.fields #[x',.bool f',.ref d,.int (i+1:Nat) 0,.int es.size 0,.int ep 0,ok',ov'],slots:=#[]} ->
  ((x' = .none/\f'=false)\/∃(a:Addr)(oa:Obj),x'=Gj a/\h'.get? a=some oa/\a≠it/\a≠S)->Q (some (.ref hp.objs.size)) ⟨h',g,dr,tk,os⟩:=fun h' x' f' ok' ov' sb e c =>
  z h' ⟨x',f',ok',ov',e,c⟩ (sb.extBut _ _ (Em hil) ht₂) (by show h'.objs.size=hp.objs.size+1;rw[sb.1,hz₂]) fun b o hb e=>sb.extBut b o hb (hk₂ b o hb e)
 refine C9 ?_;unfold GB;rcases hx with⟨rfl,rfl⟩|⟨a,oa,rfl,ha,hai,haS⟩
 · refine C9 (D8 he₂ rfl (x:=.none) rfl (De ?_));simp only[if_true];refine C9 (D8 he₂ rfl (x:=ok) rfl (C9 (D8 he₂ rfl (x:=ov) rfl ?_)));refine C9 (D6 he₂ (by simp) fun h₃ he₃ hs₃=>?_);refine C9 (D6 he₃ (by simp) fun h₄ he₄ hs₄=>?_);refine C9 (D6 he₄ (by simp) fun h₅ he₅ hs₅=>?_);refine C9 (D6 he₅ (by simp) fun h₆ he₆ hs₆=>?_);refine C9 (Jh (De (De ⟨_,rfl,De ?_⟩)));have sb:EQ it h₂ h₆:=((hs₃.trans hs₄).trans hs₅).trans hs₆;exact fin h₆ (Gj hp.objs.size) false es[i].key es[i].val sb he₆ (.inr ⟨_,_,rfl,sb.extBut _ _ (Em hil) ht₂,Em hil,Em hS⟩)
 · refine C9 (D8 he₂ rfl (x:=Gj a) rfl ?_);show Dr _ _ (loadIfAlive ((a:Int).toNat) >>= _) _ _ _;rw[Fi];have ha₂:h₂.get? a=some oa:=hk₂ a oa hai ha;refine C9 (l_ ha₂ ?_);simp only[Option.isNone_some,Fw,if_false];refine C9 (D8 he₂ rfl (x:=.bool f) rfl ?_)
   cases f with
   | true =>
     rw[if_neg (show ¬((Gp true != Gp true)=true)from DJ)];refine De ?_;simp only[Fw,if_false]
     exact De (De ⟨_,rfl,De (fin h₂ _ _ _ _ (GZ _ _) he₂ (.inr ⟨a,oa,rfl,ha₂,hai,haS⟩))⟩)
   | false =>
     rw[if_pos (show(Gp false != Gp true)=true from rfl)];refine C9 (D6 he₂ (by simp) fun h₃ he₃ hs₃=>?_);refine De ?_;simp only[Fw,if_false];exact De (De ⟨_,rfl,De (fin h₃ _ true _ _ hs₃ he₃ (.inr ⟨a,oa,rfl,hs₃.extBut a oa hai ha₂,hai,haS⟩))⟩)
theorem sd{Q:Option Dc->Dd->Prop}(hh:A.handled=none)(st:CT s.heap it d S i es.size ep)(r:jL s.heap d es ep)(li:es.size<=i)
 (z:∀h',JV it s.heap h'->Q none {s with heap:=h' }):Dr (Dw P w) A (G1 (.ref it)) Q E s:=by
 obtain⟨x,f,ok,ov,hit,_⟩:=st;obtain⟨od,q,x0,t⟩:=id r;have ty:s.TypeIs (.ref it) "dict_itemiterator" := ⟨_,hit,rfl⟩;unfold G1;refine C9 (Ih (EL (name:=Et "__next__") ty F.slot_dict_itemiterator_next (Ft F.slot_dict_itemiterator_next ty F.entry_dict_itemiterator_next ?_ (F.args_dict_itemiterator_next_1 _))));refine C9 (De (C9 (C9 ?_)))
 first|refine C9 (E3 ty (De (C9 (HJ hit rfl ?_))))|refine C9 (FM ty (De (C9 (HJ hit rfl ?_))))
 simp only[show Gg "dict_itemiterator" = true by decide,if_true];show Dr _ _ (if(Dn d==D3)=true then _ else _) _ _ s;rw[if_neg (show ¬((Dn d==D3)=true)from DJ)];refine C9 (De (C9 (HZ q t ?_)));rw[if_neg (by simp)];refine C9 (De (C9 (IN q t ?_)));rw[if_neg (by simp)];refine De ?_;simp only[show ¬((i:Int)<0)from by omega,if_false,Fi,Array.getElem?_eq_none li];refine C9 ?_
 first|refine C9 (E3 ty (De ?_))|refine C9 (FM ty (De ?_))
 show Dr _ _ (setField (.ref it) 2 .none >>= _) _ _ s;refine C9 (Gw hit rfl (by simp) ?_);show Dr _ _ (newExc (.type "StopIteration") [] >>= _) _ _ _;refine C9 ?_;simp only[newExc,newTuple];refine C9 (DT (C9 (m:=HH _ _) (Ie (a:=D3) (by first|rfl|(simp only[HH];rfl)) (DT ?_ (by size_fits)))) (by size_fits));simp only[raiseNew];refine C9 (wpAny_handled ?_);rw[show A.in1.handled=none from hh];refine C9 (De (wpAny_throw ?_));refine C9 (wpAny_isInstance (T := "StopIteration") (b:=true) ⟨_,Do _ rfl,rfl⟩ isSubtype_stop ?_);exact De (z _ (((Hi ..).extBut.push _).push _))
structure Prs (es:Array Gh) (lo:Addr) (h:Heap) (as:List Addr):Prop where
 rise:as.Pairwise (· < ·)
 above:∀a∈as,lo<a
 is:∀(j:Nat)(a:Addr),as[j]?=some a->∃e,es[j]?=some e/\h.get? a=some {cls:=.type "tuple", data:=.seq #[e.key,e.val]}
theorem Prs.there{lo:Addr}{as:List Addr}(g:Prs es lo h as)(ha:a∈as):a<h.objs.size:=by
 obtain⟨j,hj⟩:=List.mem_iff_getElem?.mp ha;obtain⟨_,_,e⟩:=g.is j a hj;exact Df e
variable{R:IC->Dd->Prop}
noncomputable def eI(es:Array Gh)(lo:Addr)(h:Heap)(as:List Addr):Prop:=as.length=es.size/\Prs es lo h as
theorem oC{I:Addr}(hh:A.handled=none)(hSI:S<I)(hSd:d≠S)(hId:d≠I)(hn:es.size<=sizeLine)(res:Dc){h₁:Heap}
 (hR:∀h' tk acc c as,(∀b o,b≠S->b≠I->h₁.get? b=some o->h'.get? b=some o)->h'.get? S=some {cls:=.type "list", dict:=none,data:=.seq acc c,slots:=#[]}->eI es I h' as ->
  acc.toList=as.map Dn->R (.ok (.ret res)) {s with heap:=h',toks:=tk}) :
 ∀ (k i:Nat)(h:Heap)(tk c:Nat)(acc:Array Dc)(as:List Addr),es.size-i=k->i<=es.size->CT h I d S i es.size ep->jL h d es ep->(∀b o,b≠S->b≠I->h₁.get? b=some o->h.get? b=some o) ->
   h.get? S=some {cls:=.type "list", dict:=none,data:=.seq acc c,slots:=#[]}->acc.toList=as.map Dn->as.length=i->Prs es I h as->I<h.objs.size ->
   EW (Dw P w) A (.builtin "list.extend.loop" ⟨[.ref S,.ref I,res],[]⟩) R {s with heap:=h,toks:=tk}:=by
 have ne:S≠I:=DB hSI;intro k
 induction k with
 | zero =>
   intro i h tk c acc as hk hi st r kp hS ha hl g hI;refine Fo HL ?_;rw[EO EZ _];show Dr _ A.in1 (G1 (.ref I) >>= _) _ _ _;refine C9 (sd (s:={s with heap:=h,toks:=tk}) (A:=A.in1) hh st r (by omega) fun h' he=>?_);refine De (hR h' tk acc c as (fun b o h1 h2 e=>he b o h2 (kp b o h1 h2 e)) (he S _ ne hS) ⟨by omega,g.rise,g.above,fun j a hj=>?_⟩ ha);obtain⟨e,e1,e2⟩:=g.is j a hj
   exact⟨e,e1,he a _ (Em (g.above a (Ew hj))) e2⟩
 | succ k ih =>
   intro i h tk c acc as hk hi st r kp hS ha hl g hI;have li:i<es.size:=by omega
   have sz:acc.size=i:=by rw[<- Gz,ha,Di,hl]
   refine Fo HL ?_;rw[EO EZ _];show Dr _ A.in1 (G1 (.ref I) >>= _) _ _ _;refine C9 (oB (s:={s with heap:=h,toks:=tk}) (S:=S) st (Df hS) (Fm ne) r li fun h' st' ht hz kq=>?_);dsimp only at ht hz kq ⊢;have hS':=kq S _ ne hS;have up:∀b o,b≠S->h'.get? b=some o->(h'.update S (HV (·.push (Dn h.objs.size)))).get? b=some o:=fun b o hb e=>(Eo _ _ (Fm hb)).trans e;have lS:S<h.objs.size:=Df hS;show Dr _ A.in1 (updateSeq S (·.push (Dn h.objs.size)) >>= _) _ _ _;refine C9 ?_
   refine IP hS' rfl (De ⟨Gr EZ _,ih (i+1) _ tk _ (acc.push (Dn h.objs.size)) (as++[h.objs.size]) (by omega) li (st'.keep up (Fm ne)) (r.at' fun o e=>up d o hSd (kq d o hId e))
    (fun b o h1 h2 e=>up b o h1 (kq b o h2 (kp b o h1 h2 e))) (Eh _ hS' rfl) (by rw[Array.toList_push,ha,EM];rfl) (by rw[DK,hl];rfl) ⟨?_,?_,?_⟩ ?_⟩) (by rw[sz];omega) (by show(acc.push (Dn h.objs.size)).size<=sizeLine+1;rw[Array.size_push,sz];omega)
   · refine List.pairwise_append.mpr ⟨g.rise,List.pairwise_singleton _ _,fun a ha b hb=>?_⟩;rw[FC.mp hb];exact g.there ha
   · intro a ha;rcases Ez.mp ha with ha|ha
     · exact g.above a ha
     · rw[FC.mp ha];exact hI
   · intro j b hj;rcases Nat.lt_trichotomy j as.length with h1|h1|h1
     · rw[FI h1]at hj;obtain⟨e,e1,e2⟩:=g.is j b hj;have hb:=g.above b (Ew hj);exact⟨e,e1,up b _ (Em (HA hSI hb)) (kq b _ (Em hb) e2)⟩
     · subst h1;have hb:h.objs.size=b:=by simpa using hj
       subst hb;exact⟨es[i],by rw[hl];exact HK li,up _ _ (Em lS) ht⟩
     · have:(as++[h.objs.size])[j]?=none:=G3 (by rw[DK,ID];omega);rw[this]at hj;cases hj
   · have e:(h'.update S (HV (·.push (Dn h.objs.size)))).get? h.objs.size=_:=up _ _ (Em lS) ht;exact HA hI (Df e)
theorem jU(nd:(d==Fh)=false):MeetsIn P w (Builtin.«dict.items» ⟨[.ref d],[]⟩) (fun _ R s=>(∃es ep,jL s.heap d es ep)/\R (.ok (.ret (.ref s.heap.objs.size))) {s with heap:=s.heap.push {cls:=.type "dict_items", data:=.fields #[.ref d]}}) :=
 .of_wp fun A R s ⟨⟨es,ep,r⟩,z⟩=>by
  refine C9 ?_;unfold Builtin.Dict.noArgs;refine C9 (wpAny_notOrdered_dict r.ty ?_);show Dr _ _ (pure d) _ _ s;refine De ?_;show Dr _ _ (IQ d >>= _) _ _ s;unfold IQ;rw[if_neg (by rw[nd];exact DJ)];exact C9 (De (C9 (DT (De ⟨_,rfl,z⟩))))
theorem lq(hv:s.heap.IsItemsView v d)(r:jL s.heap d es ep)
 (z:Q (.ref s.heap.objs.size) {s with heap:=s.heap.push {cls:=.type "dict_itemiterator", data:=.fields #[.none,.bool false,.ref d,.int 0 0,.int es.size 0,.int ep 0,.none,.none]}}):Dr (Dw P w) A (Jq (.ref v)) Q E s:=by
 obtain⟨ov,v1,v2,v3⟩:=id hv;obtain⟨ob,q,x,t⟩:=id r;refine wpAny_pyIter_slot hv.typeIs F.slot_dict_items_iter (Ft F.slot_dict_items_iter hv.typeIs F.entry_dict_items_iter ?_ (F.args_dict_items_iter_1 _));unfold Builtin.«dict_items.__iter__»;refine C9 (De (C9 ?_));unfold Builtin.Dict_items.dictOf;refine C9 (D8 v1 v3 (x:=.ref d) rfl (De (C9 ?_)));unfold Builtin.Dict_items.newIterator;refine C9 (HZ q t (C9 (IN q t ?_)));simp only[show Gg "dict_itemiterator" = true by decide,if_true];refine DT (De ⟨_,rfl, "dict_itemiterator", _,⟨_,Do _ rfl,rfl⟩,F.slot_dict_itemiterator_next.lookup,?_⟩) (by simp only[sizeOk,GC,DA,DK,DP,Gk,GU];omega);simpa[Gj,GC]using z
theorem j9(hh:A.handled=none)(hv:s.heap.IsItemsView v d)(r:jL s.heap d es ep)(hSv:S≠v)(hSd:d≠S)(res:Dc)(c₀:Nat)(hS:s.heap.get? S=some {cls:=.type "list", data:=.seq #[] c₀})
 (hR:∀h' tk acc c as,(∀b o,b≠S->s.heap.get? b=some o->h'.get? b=some o)->h'.get? S=some {cls:=.type "list", dict:=none,data:=.seq acc c,slots:=#[]}->eI es s.heap.objs.size h' as ->
  acc.toList=as.map Dn->R (.ok (.ret res)) {s with heap:=h',toks:=tk})(hn:es.size<=sizeLine) :
 Dr (Dw P w) A.in1 (Go (.ref S) (.ref v) res)
  (fun fin s'=>match fin with | .done f=>R (.ok f) s' | .again c'=>c'.quiet=true/\EW (Dw P w) A c' R s') (fun e s'=>R (.error e) s') s:=by
 have hSI:S<s.heap.objs.size:=Df hS
 have key:∀(h:Heap)(c₁ tk:Nat),(∀b o,b≠S->(s.heap.push {cls:=.type "dict_itemiterator", data:=.fields #[.none,.bool false,.ref d,.int 0 0,.int es.size 0,.int ep 0,.none,.none]}).get? b=some o->h.get? b=some o) ->
  h.get? S=some {cls:=.type "list", data:=.seq #[] c₁}->EW (Dw P w) A (.builtin "list.extend.loop" ⟨[.ref S,.ref s.heap.objs.size,res],[]⟩) R {s with heap:=h,toks:=tk}:=by
  intro h c₁ tk hk hS₁;have hI:=hk s.heap.objs.size _ (Em hSI) (Do _ rfl)
  exact oC (s:=s) (h₁:=s.heap) hh hSI hSd (DB r.lt) hn res (fun h' tk' acc c as hk' hS' g ha=>hR h' tk' acc c as (fun b o hb e=>hk' b o hb (DB (Df e)) e) hS' g ha)
   es.size 0 h tk c₁ #[] [] (Nat.sub_zero _) (DG _) ⟨_,_,_,_,hI,.inl ⟨rfl,rfl⟩⟩ (r.at' fun o e=>hk d o hSd (Db _ e)) (fun b o hb _ e=>hk b o hb (Db _ e)) hS₁ rfl rfl
   ⟨HW,(fun _ ha=>nomatch ha),(fun j a hj=>by simp at hj)⟩ (Df hI)
 unfold Go;refine C9 (wpAny_typeOf (T := "dict_items") hv.typeIs ?_);simp only[show H0 (.ref S) (.ref v)=false by simp[H0,hSv],show(Gb "dict_items" == Gb "list")=false by decide,show(Gb "dict_items" == Gb "tuple")=false by decide,Bool.or_false,Fw,if_false];refine C9 (lq hv r ?_);have hS₁:=Db {cls:=.type "dict_itemiterator", data:=.fields #[.none,.bool false,.ref d,.int 0 0,.int es.size 0,.int ep 0,.none,.none]} hS;refine C9 (FY (kdx_hint (let ⟨o,ho,hc,_⟩:=hv;⟨o,Db _ ho,hc⟩) ?_));refine wpAny_ite_split (fun _=>?_) (fun _=>De ⟨Gr EZ _,key _ c₀ _ (fun b o _ e=>e) hS₁⟩);refine C9 (Hb (C9 ?_));show Dr _ _ (updateSeq S (·.push .none) >>= fun _=>updateSeq S (·.pop)) _ _ _;refine C9 (IP hS₁ rfl ?_);have hS₂:=Eh (HV (·.push D3)) hS₁ rfl;refine IP (hz:=by seq_fits) hS₂ rfl ?_;have hS₃:=Eh (HV (·.pop)) hS₂ rfl;exact De ⟨Gr EZ _,key _ _ _ (fun b o hb e=>(Eo _ _ (Fm hb)).trans ((Eo _ _ (Fm hb)).trans e)) hS₃⟩
theorem eI.low{lo lo':Addr}{as:List Addr}(g:eI es lo h as)(hl:lo'<=lo):eI es lo' h as:=⟨g.1,g.2.rise,fun a ha=>E5 hl (g.2.above a ha),g.2.is⟩
theorem iK{Q:List Dc->Dd->Prop}(hh:A.handled=none)(hv:s.heap.IsItemsView v d)(r:jL s.heap d es ep)(hn:es.size<=sizeLine)
 (z:∀(h':Heap)(tk:Nat)(as:List Addr),(∀b o,s.heap.get? b=some o->h'.get? b=some o)->s.heap.objs.size<h'.objs.size->eI es s.heap.objs.size h' as->Q (as.map Dn) {s with heap:=h',toks:=tk}) :
 Dr (Dw P w) A (collect (.ref v)) Q E s:=by
 have hv':v<s.heap.objs.size:=let ⟨_,ho,_⟩:=hv;Df ho
 unfold collect;refine C9 (wpAny_runValue (Fo entry_proto_collect' ?_));rw[EO PySem.F.plain_proto_collect _];show Dr _ A.in1 (newList [] >>= fun l=>again (.builtin "list.__iadd__" ⟨[l,.ref v],[]⟩)) _ _ s;refine C9 (DT ?_);refine De ⟨Gr Il _,Fo entry_list_iadd' ?_⟩;rw[EO Il _];have hS₁:(s.heap.push {cls:=.type "list", data:=.seq ([]:List Dc).toArray}).get? s.heap.objs.size=some {cls:=.type "list", data:=.seq #[]}:=Do _ rfl;show Dr _ A.in1 (Go (.ref s.heap.objs.size) (.ref v) (.ref s.heap.objs.size)) _ _ _
 have key:=j9 (P:=P) (w:=w) (A:=A) (s:={s with heap:=s.heap.push {cls:=.type "list", data:=.seq ([]:List Dc).toArray}})
  (R:=fun(q:IC)(s':Dd)=>∃(h':Heap)(tk:Nat)(acc':Array Dc)(c':Nat)(as:List Addr),q = .ok (.ret (.ref s.heap.objs.size))/\s'={s with heap:=h',toks:=tk} /\
   (∀b o,s.heap.get? b=some o->h'.get? b=some o)/\h'.get? s.heap.objs.size=some {cls:=.type "list", dict:=none,data:=.seq acc' c',slots:=#[]}/\eI es s.heap.objs.size h' as/\acc'.toList=as.map Dn)
  hh (let ⟨o,ho,x⟩:=hv;⟨o,Db _ ho,x⟩) (r.at' fun o e=>Db _ e) (Em hv') (DB r.lt) (.ref s.heap.objs.size) 0 hS₁
  (fun h' tk acc' c' as hk hS' g ha=>⟨h',tk,acc',c',as,rfl,rfl,fun b o e=>hk b o (DB (Df e)) (Db _ e),hS',g.low (by show s.heap.objs.size<=(s.heap.push _).objs.size;rw[EG];exact Jk _),ha⟩) hn
 refine DC key (fun fin s' x=>?_) fun e s' x=>?_
 · cases fin with
   | done f =>
     obtain⟨h',tk,acc',c',as,e,rfl,hk,hS',g,ha⟩:=x;cases e;show Dr _ A (load s.heap.objs.size >>= _) _ _ _;refine C9 (wpAny_load hS' (De ?_));show Q acc'.toList _;rw[ha]
     exact z h' tk as hk (Df hS') g
   | again c₁ =>
     refine⟨x.1,FR x.2 fun q s₂ y=>?_⟩;obtain⟨h',tk,acc',c',as,rfl,rfl,hk,hS',g,ha⟩:=y;show Dr _ A (load s.heap.objs.size >>= _) _ _ _;refine C9 (wpAny_load hS' (De ?_));show Q acc'.toList _;rw[ha];exact z h' tk as hk (Df hS') g
 · obtain⟨_,_,_,_,_,e',_⟩:=x;cases e'
theorem iV(hh:A.handled=none)(hv:s.heap.IsItemsView v d)(r:jL s.heap d es ep)(hn:es.size<=sizeLine)
 (z:∀(h':Heap)(tk:Nat)(as:List Addr),(∀b o,s.heap.get? b=some o->h'.get? b=some o)->s.heap.objs.size<h'.objs.size->eI es s.heap.objs.size h' as ->
  Q (.ref h'.objs.size) {s with heap:=h'.push {cls:=.type "tuple", data:=.seq (as.map Dn).toArray},toks:=tk}):Dr (Dw P w) A (call (.type "tuple") [.ref v]) Q E s:=by
 refine callType_codes (Q₁:=fun obj s₁=>s₁.TypeIs obj "tuple" /\ Q obj s₁) F.called_tuple (F.typeCall_tuple_1 _) F.entry_object_init ?_ fun obj s₁ h₁ =>
  ⟨h₁.1,F.args_object_init_2 obj _,object_init_meets F.called_tuple.init.lookup F.called_tuple.made (by decide) P w A.in1 _ s₁ ⟨h₁.1,rfl,h₁.2⟩⟩
 refine Hl ?_;show Dr _ _ (do checkBuiltinCall "tuple.__new__" ⟨[.type "tuple", .ref v],[]⟩;again (.builtin "tuple.__new__" ⟨[.type "tuple", .ref v],[]⟩)) _ _ s;refine C9 (Ie (F.newCall_tuple_1 _) (De ⟨Gr F.plain_tuple_new _,Fo F.entry_tuple_new ?_⟩));rw[EO F.plain_tuple_new _];have hsub:=sub_tuple_self;have hinit:=init_tuple_lookup;have hmh:=madeHere_tuple;have ty:=hv.typeIs;unfold Builtin.«tuple.__new__»;generalize hC:collect=C
 wp_walk using wpAny_typeOf ty
 subst hC;refine iK (s:=s) hh hv r hn fun h' tk as hk hz g=>?_;show Dr _ _ (H_ (as.map Dn).toArray >>= fun v=>ret v) _ _ _;unfold H_;refine C9 (DT ?_ (by show(as.map Dn).toArray.size<=sizeLine;rw[DA,Di,g.1];exact hn));exact De ⟨⟨_,Do _ rfl,rfl⟩,z h' tk as hk hz g⟩
end
section
variable{X:Cx}{pins:List (Addr×Obj)}{σ:St}{H H':Hp}{s:Dd}{h':Heap}{t':Nat}
theorem Inv.many(I:Inv X pins σ H s)(k:∀b u,s.heap.get? b=some u->h'.get? b=some u)(ext:∀b o,H b=some o->H' b=some o)
 (new:∀b o,H' b=some o->H b=some o\/(s.heap.objs.size<=b/\aK X.prog X.w H' h' b o)):Inv X pins σ H' {s with heap:=h',toks:=t' }:=by
 refine I.un ⟨fun b u q _ _ _=>k b u q,fun b u q _ _ _=>⟨u.slots,k b u q⟩,fun b u q n _=>?_,fun b u q _=>⟨u,k b u q⟩,fun b xs q=>ext b _ q,fun b u xs q=>ext b _ q,fun b ps q=>⟨#[],by rw[ext b _ q];simp⟩⟩ fun b o e=>?_
 · cases e:H' b with
   | none=>rfl
   | some o =>
     rcases new b o e with z|⟨z,_⟩
     · rw[n]at z;cases z
     · exact absurd (Df q) (Nat.not_lt.mpr z)
 · rcases new b o e with z|⟨_,z⟩
   · exact(I.hok b o z).stay (fun c v _ q=>k c v q) (fun c q=>ext c _ q) fun c xs q=>ext c _ q
   · exact z
noncomputable def j7(H:Hp):List Addr->List (List V)->Hp
 | a::as,t::ts=>upd (j7 H as ts) a (.tup t)
 | _,_=>H
theorem gg:∀{as:List Addr}{ts:List (List V)}{b:Addr},b∉as->j7 H as ts b=H b
 | [],_,_,_=>rfl
 | _::_,[],_,_=>rfl
 | a::as,t::ts,b,h=>by
   show upd (j7 H as ts) a (.tup t) b=H b;rw[ae (fun z:b=a=>h (by rw[z];exact Dx)),gg fun z=>h (Dl _ z)]
theorem lY:∀{as:List Addr}{ts:List (List V)}{j:Nat}{a:Addr}{t:List V},as.Nodup->as[j]?=some a->ts[j]?=some t->j7 H as ts a=some (.tup t)
 | [],_,_,_,_,_,h,_=>by simp at h
 | _::_,[],_,_,_,_,_,h=>by simp at h
 | b::as,u::ts,0,a,t,_,h1,h2=>by
   simp at h1 h2;subst h1;subst h2;exact aj
 | b::as,u::ts,j+1,a,t,n,h1,h2=>by
   have h1:as[j]?=some a:=by simpa using h1
   have h2:ts[j]?=some t:=by simpa using h2
   have n:=FO.mp n;show upd (j7 H as ts) b (.tup u) a=_;rw[ae (fun z:a=b=>n.1 (by rw[<- z];exact Ew h1))];exact lY n.2 h1 h2
theorem hU:∀{as:List Addr}{ts:List (List V)}{b:Addr}{o:HO},j7 H as ts b=some o->H b=some o\/∃(j:Nat)(t:List V),as[j]?=some b/\ts[j]?=some t/\o = .tup t
 | [],_,_,_,h=>.inl h
 | _::_,[],_,_,h=>.inl h
 | a::as,t::ts,b,o,h=>by
   by_cases e:b=a
   · subst e;have h:upd (j7 H as ts) b (.tup t) b=some o:=h;rw[aj]at h;cases h;exact .inr ⟨0,t,rfl,rfl,rfl⟩
   · have h:upd (j7 H as ts) a (.tup t) b=some o:=h;rw[ae e]at h;rcases hU h with z|⟨j,t,e1,e2,e3⟩
     · exact .inl z
     · exact .inr ⟨j+1,t,by simpa using e1,by simpa using e2,e3⟩
noncomputable def dJ(v a:Addr)(h:Heap):Prop:=h.IsItemsView v a
theorem qp{v:Addr}(p:dJ v a h):aK P w H h v (.ext (dJ v a)) :=
 ⟨p,(let ⟨o,e,_⟩:=p;⟨o,e⟩),fun _ _ q k=>let ⟨o,e,r⟩:=q;⟨o,k o e,r⟩⟩
noncomputable def uD(td:TE):TE:=fun σ H Q=>td σ H fun x H1=>∃a us,x = .ref a/\H1 a=some (.ext (VL.DAt a us))/\∀p,H1 p=none->Q (.ref p) (upd H1 p (.ext (dJ p a)))
theorem nY{o:Expr}{td:TE}(ho:PE X o td)(m:M0 X o "items" apos cpos):PE X (.Call (.Attribute o "items" apos) [] [] cpos) (uD td):=by
 intro pins s σ H Q I h;refine wpAny_Call_method m.base m.few m.line PySem.F.plainAttrs_dict Im PySem.F.type_dict_items (A8 (ho pins s σ H _ I h) fun u s1 ⟨x,H1,I1,rx,a,us,ex,ha,q1⟩=>?_);subst ex;obtain rfl:u=Dn a:=rx;obtain⟨es,ep,dd,hz,hk,lo,hl⟩:=mM (P:=X.prog) (w:=X.w) (show aK X.prog X.w H1 s1.heap a (.ext (VL.DAt a us))from I1.hok a _ ha).1;refine⟨dd.ty,fun b q=>?_,?_⟩
 · cases q;obtain⟨ob',h1,h2,_⟩:=dd;exact⟨ob',h1,h2.2.1⟩
 rw[m.trees];refine Iv rfl (PySem.evalArgs_none ?_);refine call_meetsIn Im dd.ty PySem.F.entry_dict_items (PySem.F.args_dict_items_1 _) (jU lo) ⟨⟨es,ep,dd⟩,?_⟩;exact⟨.ref s1.heap.objs.size,_,I1.laid (t':=s1.toks) (fun b o e=>Db _ e) (Dm _) (qp ⟨_,Do _ rfl,rfl,rfl⟩),rfl,q1 _ (I1.hok.fresh (Dm _))⟩
noncomputable def Bx(us:List (List Int×Addr×Dc))(vs:List V):List (List V):=List.zipWith (fun u v=>[V.ref u.2.1,v]) us vs
theorem oW{P:Dq}{w:DN}{es:Array Gh}{ep:Nat}(p:VL.DAt a xs h)(r:jL h a es ep)(i:Nat):(es[i]?).map (fun e=>(e.key,e.val))=(xs[i]?).map fun u=>(Dn u.2.1,u.2.2):=by
 obtain⟨o,es',ep',h1,h2,h3,h4,h5,h6,h7⟩:=p;obtain⟨o',g1,g2,g3⟩:=r;rw[h1]at g1;cases g1;rw[h3]at g3;cases g3;have e:=h4 P w;rw[<- IM,e,DY,Option.map_map];rfl
theorem lJ{β:Type}{R:α->β->Prop}{xs:List α}{ys:List β}(p:D0 R xs ys){x:α}{y:β}(h1:xs[i]?=some x)(h2:ys[i]?=some y):R x y:=by
 induction p generalizing i with
 | nil=>simp at h1
 | cons h t ih =>
   cases i with
   | zero=>simp at h1 h2;subst h1;subst h2;exact h
   | succ j=>exact ih (by simpa using h1) (by simpa using h2)
theorem kP:∀as:List Addr,bT (as.map V.ref) (as.map Dn)
 | []=>.nil
 | _::as=>.cons rfl (kP as)
theorem km(hc:X.calm=true):eG X (.type "tuple") (fun xs H Q=>∃p a us vs,xs=[.ref p]/\H p=some (.ext (dJ p a))/\H a=some (.ext (VL.DAt a us))/\D0 (fun(v:V)(u:List Int×Addr×Dc)=>RelV v u.2.2) vs us /\
 ∀as:List Addr,as.length=us.length->as.Nodup->(∀b∈as,H b=none)->∀t,t∉as->H t=none->Q (.ref t) (upd (j7 H as (Bx us vs)) t (.tup (as.map V.ref)))):=by
 intro pins s σ H xs us' Q I r ⟨p,a,us,vs,ex,hp,ha,pv,q⟩;subst ex;obtain⟨u,rfl,rx⟩:=vals1 r;cases rx;have da:=(show aK X.prog X.w H s.heap a (.ext (VL.DAt a us))from I.hok a _ ha).1;have dv:=(show aK X.prog X.w H s.heap p (.ext (dJ p a))from I.hok p _ hp).1;obtain⟨es,ep,dr,hz,hk,lo,hl⟩:=mM (P:=X.prog) (w:=X.w) da;have hve:=oW (P:=X.prog) (w:=X.w) da dr;have lv:vs.length=us.length:=EH pv;refine iV (I.ok.hd hc) dv dr (by omega) fun h' tk as kp hz' g=>?_;have la:as.length=us.length:=g.1.trans hz;have nd:as.Nodup:=g.2.rise.imp fun h=>DB h;have fr:∀b∈as,H b=none:=fun b hb=>I.hok.fresh (Gi (g.2.above b hb));have nt:h'.objs.size∉as:=fun hb=>D_ _ (g.2.there hb);have ft:H h'.objs.size=none:=I.hok.fresh (Gi hz');refine⟨.ref h'.objs.size,_,I.many (t':=tk) (fun b o e=>Db _ (kp b o e)) (fun b o e=>?_) (fun b o e=>?_),rfl,q as la nd fr _ nt ft⟩
 · rw[ae (aq e ft),gg fun hb=>by rw[fr b hb]at e;cases e];exact e
 · by_cases hb:b=h'.objs.size
   · subst hb;rw[aj]at e;cases e;exact .inr ⟨Gi hz',by rw[Di,la];exact hl,as.map Dn,kP as,nc.new _ _⟩
   · rw[ae hb]at e;rcases hU e with z|⟨j,t,e1,e2,rfl⟩
     · exact .inl z
     · obtain⟨en,f1,f2⟩:=g.2.is j b e1;have hj:j<us.length:=by have:=(Du.mp e1).1;omega
       have ju:us[j]?=some us[j]:=DF hj;have jv:vs[j]?=some (vs[j]'(by omega)):=DF (by omega);have rv:=lJ pv jv ju;have k:=hve j;rw[f1,ju]at k;simp only[Option.map_some,J_.injEq,Ia]at k;unfold Bx at e2;rw[IH,ju,jv]at e2;cases e2;refine .inr ⟨Gi (g.2.above b (Ew e1)),by simp only[DP,Gk];rw[GU];decide,[en.key,en.val],.cons k.1 (.cons (by rw[k.2];exact rv) .nil),_,Db _ f2,rfl,⟨_,rfl⟩,rfl⟩
end
end L2
namespace L2.VL
section
variable{X:Cx}{rl:Option Addr}{pos p px apos cpos:Pos}{ρ:En}
theorem Grow.many{F H:Hp}:∀{as:List Addr}{ts:List (List V)},aR F H->Co rl F H->as.Nodup->(∀b∈as,H b=none)->Grow rl F H (j7 F as ts) (j7 H as ts)
 | [],_,s,r,_,_=>Grow.refl s r
 | _::_,[],s,r,_,_=>Grow.refl s r
 | a::as,t::ts,s,r,n,f=>by
   have n:=FO.mp n;have g:=Grow.many (as:=as) (ts:=ts) s r n.2 fun b hb=>f b (Dl _ hb);exact g.trans (Grow.data (o:=.tup t) g.sub g.reel (by rw[gg n.1];exact f a Dx))
noncomputable def BI(kvs:List (List Int×Da)):List Da:=kvs.map fun kv=>.tuple [kI kv.1,kv.2]
theorem KX.vals{K:W.Frag}{F:Hp}:∀{us:List (List Int×Addr×Dc)}{kvs:List (List Int×Da)},KX K F us kvs->∃vs:List V,D0 (fun(v:V)(u:List Int×Addr×Dc)=>RelV v u.2.2) vs us /\
 ∀(F':Hp)(as:List Addr),aR F F'->as.length=us.length->(∀(j:Nat)(a:Addr)(t:List V),as[j]?=some a->(Bx us vs)[j]?=some t->F' a=some (.tup t))->Reps K F' (as.map V.ref) (BI kvs)
 | _,_,.nil=>⟨[],.nil,fun F' as _ h _=>by cases as with
   | nil=>exact .nil
   | cons _ _=>cases h⟩
 | _,_,.cons (a:=u) (b:=kv) h t=>by
   obtain⟨vs,pv,k⟩:=KX.vals t;obtain⟨h1,h2,v,rv,rp⟩:=h;refine⟨v::vs,.cons rv pv,fun F' as sm hl hat=>?_⟩
   cases as with
   | nil=>cases hl
   | cons a as =>
     refine .cons (.tup (.inl (.inl (hat 0 a _ rfl rfl))) (.cons (.tup (bA sm h2) (h1▸jr)) (.cons (Rep.mono sm rp) .nil))) (k F' as sm (by simpa using hl) fun j a t e1 e2=>hat (j+1) a t (by simpa using e1) (by simpa[Bx]using e2))
noncomputable def qy(i:Nat):TV:=fun ρ Q=>∃kvs,ρ[i]?=some (some (.xm kvs))/\Q (.d (.tuple (BI kvs)))
theorem t6(i:Nat)(hc:X.calm=true)(hm:X.mg "tuple" = none)(hN:autoParam (X.N[i]?=some x) æa._auto_1)(hv:autoParam (B8 X.env.scope x) æc._auto_1)
 (hd:autoParam ((x==("__debug__" : Str))=false) æb._auto_1)(hcd:autoParam ((x==("__classdict__" : Str))=false) æb._auto_1)(m:M0 X (.Name x px) "items" apos cpos:=by exact⟨rfl,rfl,rfl,rfl⟩)(hg:autoParam (Gl X "tuple") æa._auto_1)
 (he:autoParam (Dh [.Call (.Attribute (.Name x px) "items" apos) [] [] cpos] X.env=(false,eval (.Call (.Attribute (.Name x px) "items" apos) [] [] cpos) X.env)::Dh [] X.env) æa._auto_1)(hpl:autoParam ((ES pos (Dh [] X.env)).any (·.1)=false) æa._auto_1) :
 PV X rl (.Call (.Name "tuple" p) [.Call (.Attribute (.Name x px) "items" apos) [] [] cpos] [] pos) (qy i):=by
 refine⟨_,hG (km hc) hg hm (by rfl) (cP (nY (bB hN hv hd hcd) m) hJ he) (by decide) (by decide) he hpl,fun{F₀ H₀ F H σ ρ} R Qd Q ⟨kvs,e1,q⟩ h=>?_⟩;obtain⟨v,h1,h2,h3⟩:=R.sl i _ e1;obtain⟨a,us,rfl,f0,hr,hh,rs⟩:=(show i3 X.K rl F H v kvs from h2);obtain⟨vs,pv,k⟩:=rs.vals;refine⟨.ref a,h1,a,us,rfl,hh,fun p hp=>⟨p,a,us,vs,rfl,aj,?_,pv,fun as la nd fr t nt ft=>?_⟩⟩
 · rw[ae (aq hh hp)];exact hh
 have g1:Grow rl F H F (upd H p (.ext (dJ p a))):=Grow.laid R.sub R.reel hp;have g2:Grow rl F (upd H p (.ext (dJ p a))) (j7 F as (Bx us vs)) (j7 (upd H p (.ext (dJ p a))) as (Bx us vs)):=Grow.many g1.sub g1.reel nd fr;have g3:=Grow.data (a:=t) (o:=.tup (as.map V.ref)) g2.sub g2.reel (by rw[gg nt];exact ft);have g23:=g2.trans g3;refine h _ (.d (.tuple (BI kvs))) _ _ ((g1.trans g2).trans g3) (.tup (.inl (.inl aj)) (k _ as g23.fs la fun j b u e1 e2=>?_)) trivial q;rw[ae fun z=>nt (by rw[<- z];exact Ew e1)];exact lY nd e1 e2
theorem bI(i:Nat):qy i ρ=ar (Bl ρ i) fun kvs=>ret (.d (.tuple (BI kvs))):=by
 refine af fun Q=>?_;simp only[qy,ag,gO,ret]
end
end L2.VL
namespace L2
noncomputable def xH(K:W.Frag)(td ty tv:TE):TS:=fun D σ H=>td σ H fun x H1=>∃a xs,x = .ref a/\H1 a=some (.ext (VL.DAt a xs))/\cy K H1 xs/\ty σ H1 fun y H2 =>
 ∃b k p n,H2 a=some (.ext (VL.DAt a xs))/\cy K H2 xs/\y = .ref b/\Cg K H2 b (k.map V.int)/\IW xs k=some p/\RelV (.int n) p.2/\tv σ H2 fun z H3 =>
 ∃m,z = .int m/\H3 a=some (.ext (VL.DAt a xs))/\cy K H3 xs/\Cg K H3 b (k.map V.int)/\xs.length<sizeLine/\∀r,RelV (.int (n+m)) r->D.nx σ (upd H3 a (.ext (VL.DAt a (FV xs k b r))))
section
variable{X:Cx}{o i value:Expr}{pos tpos:Pos}{td ty tv:TE}
theorem re(hu:X.A.units+1<Gu)(ho:PE X o td)(hi:PE X i ty)(hv:PE X value tv)
 (ha:∀ov iv new,augStore i ov iv new=(do Jx [new,ov,iv] (setItem ov iv new);release [new,ov,iv] [];pure .next)):PS X (.AugAssign (.Subscript o i tpos) .Add value pos) (xH X.K td ty tv):=by
 intro pins s σ H D I h;refine wpAny_AugAssign_SubscriptAny (A8 (ho pins s σ H _ I h) fun u s1 ⟨x,H1,I1,rx,a,xs,ex,e1,ks1,q1⟩=>A8 (hi pins s1 σ H1 _ I1 q1) fun iv s2 ⟨y,H2,I2,ry,b,k,p,n,e2,ks2,ey,sq,at',rv,q2⟩=>?_) ha;subst ex ey;obtain rfl:u=Dn a:=rx;cases(show iv=Dn b from ry);obtain⟨dd,hd,hz⟩:=fv I2 e2 ks2;refine GL (EJ hu) (c_ I2 sq) dd at' ?_;refine A8 (hv pins _ σ H2 _ (I2.tok _) q2) fun w s4 ⟨z,H3,I4,rz,m,ez,e3,ks3,sq3,hl,q3⟩=>?_;subst ez;obtain⟨t1,ht1⟩:=(show ∃t,p.2=F0 n t from rv);obtain⟨t2,rfl⟩:=(show ∃t,w=F0 m t from rz);rw[ht1];refine iadd_int ?_;obtain⟨dd3,hd3,hz3⟩:=fv I4 e3 ks3;have I5:=I4.tok (s4.toks+1);obtain⟨dd5,hd5,hz5⟩:=fv I5 e3 ks3;refine HB (hsz:=hz5) (EJ hu) (c_ I5 sq3) dd5 fun h' dd' hsb=>⟨σ,_,?_,q3 (F0 (n+m) s4.toks) ⟨_,rfl⟩⟩;have lz:=bY xs k b (F0 (n+m) s4.toks);have at':=jB dd' hd3 (by omega);exact cT I5 (by rw[e3];exact Gc) hsb (let ⟨o,_,_,e,_⟩:=at';⟨o,e⟩) (fy at')
end
end L2
namespace L2.VL
section
variable{X:Cx}{rl:Option Addr}{e:Expr}{fk fx:TV}{pos px:Pos}{ρ:En}
noncomputable def kU(i:Nat)(fk:TV):TV:=fun ρ Q=>∃kvs,ρ[i]?=some (some (.xm kvs))/\fk ρ fun wk=>∃(g:List Int)(x:Da),eP wk=some g/\kQ kvs g=some x/\Q (.d x)
theorem qt(i:Nat){fk:TV}(hu:X.A.units+64<Gu)(hk:PV X rl e fk)(hN:autoParam (X.N[i]?=some x) æa._auto_1)(hv:autoParam (B8 X.env.scope x) æc._auto_1)
 (hd:autoParam ((x==("__debug__" : Str))=false) æb._auto_1)(hcd:autoParam ((x==("__classdict__" : Str))=false) æb._auto_1)(hs:autoParam (pY e) æh._auto_1) :
 PV X rl (.Subscript (.Name x px) e pos) (kU i fk):=by
 obtain⟨t,p1,k1⟩:=hk;refine⟨_,rA (by omega) (bB hN hv hd hcd) p1 hs,fun{F₀ H₀ F H σ ρ} R Qd Q ⟨kvs,e1,q⟩ h=>?_⟩;obtain⟨v,h1,h2,h3⟩:=R.sl i _ e1;obtain⟨a,xs,rfl,f0,hr,hh,rs⟩:=(show i3 X.K rl F H v kvs from h2);refine⟨.ref a,h1,k1 R _ _ q fun v1 w1 F1 H1 g1 r1 n1 q1=>?_⟩;obtain⟨gs,d,e2,ed,q1⟩:=q1;obtain⟨b,rfl,sq⟩:=r1.keyI g1.sub e2;have rs2:=rs.mono g1.fs;rcases rs2.at gs with⟨z1,z2⟩|⟨p,v3,d3,z1,z2,z3,z4⟩
 · rw[z2]at ed;cases ed
 · rw[z2]at ed;cases ed;exact⟨a,xs,b,gs,p,v3,rfl,g1.same a _ hh hr,fun x m=>bA g1.sub (rs2.keys x m),rfl,sq,z1,z3,h _ (.d _) _ _ g1 z4 trivial q1⟩
theorem ba(i:Nat):kU i fk ρ=ar (Bl ρ i) fun kvs=>BZ (fk ρ) fun wk=>ar (eP wk) fun g=>ar (kQ kvs g) fun x=>ret (.d x):=by
 refine af fun Q=>?_;simp only[kU,ag,gO,BZ,ret];refine exists_congr fun kvs=>and_congr_right fun _=>?_;constructor
 · intro h;refine cast ?_ h;congr 1;funext x;exact propext ⟨fun⟨a,b,c,d,e⟩=>⟨a,c,b,d,e⟩,fun⟨a,c,b,d,e⟩=>⟨a,b,c,d,e⟩⟩
 · intro h;refine cast ?_ h;congr 1;funext x;exact propext ⟨fun⟨a,c,b,d,e⟩=>⟨a,b,c,d,e⟩,fun⟨a,b,c,d,e⟩=>⟨a,c,b,d,e⟩⟩
noncomputable def qx(i:Nat)(fk fx:TV):Cb:=fun D ρ=>∃kvs,ρ[i]?=some (some (.xm kvs))/\fk ρ fun wk=>∃(g:List Int)(n:Int),eP wk=some g/\kQ kvs g=some (.int n)/\fx ρ fun wx=>∃m:Int,wx = .d (.int m)/\kvs.length<sizeLine/\D.nx (ρ.set i (some (.xm (cN kvs g (.int (n+m))))))
theorem qi(i:Nat){f:Expr}{tpos:Pos}(hu:X.A.units+64<Gu)(hk:PV X rl e fk)(hx:PV X rl f fx)(hN:autoParam (X.N[i]?=some x) æa._auto_1)(hv:autoParam (B8 X.env.scope x) æc._auto_1)
 (hd:autoParam ((x==("__debug__" : Str))=false) æb._auto_1)(hcd:autoParam ((x==("__classdict__" : Str))=false) æb._auto_1)(ha:∀ov iv new,augStore e ov iv new=(do Jx [new,ov,iv] (setItem ov iv new);release [new,ov,iv] [];pure .next):=by intros;rfl) :
 Cw X rl (.AugAssign (.Subscript (.Name x px) e tpos) .Add f pos) (qx i fk fx):=by
 obtain⟨t,p1,k1⟩:=hk;obtain⟨t2,p2,k2⟩:=hx;refine⟨_,re (by omega) (bB hN hv hd hcd) p1 p2 ha,fun{F₀ H₀ F H σ ρ} R Dv D ok ⟨kvs,e1,q⟩=>?_⟩;obtain⟨v,h1,h2,h3⟩:=R.sl i _ e1;obtain⟨a,xs,rfl,f0,hr,hh,rs⟩:=(show i3 X.K rl F H v kvs from h2);refine⟨.ref a,h1,a,xs,rfl,hh,fun x m=>bA R.sub (rs.keys x m),k1 R _ _ q fun v1 w1 F1 H1 g1 r1 n1 q1=>?_⟩;obtain⟨gs,n,e2,ed,q1⟩:=q1;obtain⟨b,rfl,sq⟩:=r1.keyI g1.sub e2;have rs1:=rs.mono g1.fs
 have sqF1:Cg X.K F1 b (gs.map V.int):=by
  obtain⟨b',eb,sq'⟩:=r1.keyF e2;cases eb;exact sq'
 rcases rs1.at gs with⟨z1,z2⟩|⟨p,v3,d3,z1,z2,z3,z4⟩
 · rw[z2]at ed;cases ed
 · rw[z2]at ed;cases ed;cases z4;refine⟨b,gs,p,n,g1.same a _ hh hr,fun x m=>bA g1.sub (rs1.keys x m),rfl,sq,z1,z3,k2 (R.grow g1) _ _ q1 fun v2 w2 F2 H2 g2 r2 n2 q3=>?_⟩;obtain⟨m,rfl,hl,q3⟩:=q3;cases r2;have g:=g1.trans g2;have rs2:=rs.mono g.fs;have hl':xs.length=kvs.length:=EH rs;exact⟨m,rfl,g.same a _ hh hr,fun x m=>bA g2.sub (rs2.keys x m),bA (fun b o z=>g2.sub _ _ (g2.fs _ _ z)) sqF1,by omega,fun r rv=>ok.nx _ _ _ _ g.fs ((R.grow g).ownX e1 h1 (rs2.put gs (bA g2.fs sqF1) rv (.int _))) q3⟩
theorem bF(i:Nat):mS (qx i fk fx) ρ=ar (Bl ρ i) fun kvs=>BZ (fk ρ) fun wk=>ar (eP wk) fun g=>ar (kQ kvs g) fun d=>ar (asI (.d d)) fun n=>BZ (fx ρ) fun wx=>ar (asI wx) fun m=>BR (kvs.length<sizeLine) (ret (.nx (ρ.set i (some (.xm (cN kvs g (.int (n+m)))))))):=by
 refine af fun Q=>?_;simp only[mS,qx,ag,gO,BZ,ret,BR,bD];refine exists_congr fun kvs=>and_congr_right fun _=>?_;constructor
 · intro h;refine cast ?_ h;congr 1;funext x;exact propext ⟨fun⟨a,n,c,d,e⟩=>⟨a,c,.int n,d,n,rfl,e⟩,fun⟨a,c,d,e,n,f,g⟩=>⟨a,n,c,by cases f;exact e,g⟩⟩
 · intro h;refine cast ?_ h;congr 1;funext x;exact propext ⟨fun⟨a,c,d,e,n,f,g⟩=>⟨a,n,c,by cases f;exact e,g⟩,fun⟨a,n,c,d,e⟩=>⟨a,c,.int n,d,n,rfl,e⟩⟩
end
end L2.VL
namespace L2.ZP
section
variable{prog:Dq}{w:DN}{A:DM}{E:Dc->Dd->Prop}{s:Dd}{z ti to i1 i2 a1 a2:Addr}{k1 k2:Nat}{xs ys:Array Dc}{x y p q f0:Dc}{f1:Bool}
end
section
variable{prog:Dq}{w:DN}{A:DM}{E:Dc->Dd->Prop}{s:Dd}{e z ti to i1 i2 a1 a2:Addr}{k:Nat}{xs ys:Array Dc}{x y p q o1 o2:Dc}
abbrev e3(h:Heap)(z:Addr):Heap:=h.push {cls:=.type "enumerate", data:=.fields #[.none,.bool false,.ref z,Gj 0,.none,.none]}
end
end L2.ZP
namespace L2
open PySem PySem.Spec PyProof.Rows L2.ZP
section
variable{X:Cx}{e1 e2:Expr}{ta:TA}{elts:List Expr}{kt:Nat}{pt p pos p2 pos2:Pos}
end
end L2
namespace L2.VL
section
variable{X:Cx}{rl:Option Addr}{a b:Expr}{elts:List Expr}{kt:Nat}{pt p pos p2 pos2:Pos}{fs:Ca}{ρ:En}
end
end L2.VL
namespace PySem.SeqAt
open PySem.AutoSeq1 (wpAny_loadPart')
open MeetsSeq MeetsSeq2 MeetsSeq3 SeqRoads2
end PySem.SeqAt
namespace L2.VL
section
variable{X:Cx}{rl:Option Addr}{a e:Expr}{es:List Expr}{fs:Ca}{pos:Pos}{ρ:En}
end
structure VItG (K:W.Frag) (rl:Option Addr) (F H1:Hp) (J:It) (xs:List Da):Prop where
 go:∀i F2 H x,xs[i]?=some x->Grow rl F H1 F2 H->J.go i H
 stop:∀i F2 H,xs.length<=i->Grow rl F H1 F2 H->J.stop i H
 yld:∀i H v H' x F2,xs[i]?=some x->Grow rl F H1 F2 H->J.yld i H v H'->∃F3,Grow rl F2 H F3 H'/\Rep K F3 v x
noncomputable def zN(X:Cx)(rl:Option Addr)(tg l:Expr)(fi:En->(List Da->Prop)->Prop):Prop:=∃t,PI X tg l t/\∀{F₀ H₀ F H:Hp}{σ:St}{ρ:En},VR X.K rl F₀ H₀ F H σ ρ->∀(Qd:List Da->Prop)(R:It->Hp->Prop),fi ρ Qd ->
 (∀J xs F' H',Grow rl F H F' H'->VItG X.K rl F' H' J xs->Qd xs->R J H')->t σ H R
section
variable{X:Cx}{rl:Option Addr}{elt tg iter:Expr}{ifs:List Expr}{scope:Scope}{pos px:Pos}{fi:En->(List Da->Prop)->Prop}{g:Ce}{ft:TB}{fe:TV}{ρ:En}
noncomputable def BQ(i:Nat):En->(List Da->Prop)->Prop:=fun ρ Q=>∃xs,ρ[i]?=some (some (.ml xs))/\Q xs
theorem tQ(i:Nat)(hN:autoParam (X.N[i]?=some x) æa._auto_1)(hv:autoParam (B8 X.env.scope x) æc._auto_1)
 (hd:autoParam ((x==("__debug__" : Str))=false) æb._auto_1)(hcd:autoParam ((x==("__classdict__" : Str))=false) æb._auto_1):zN X rl tg (.Name x px) (BQ i):=by
 refine⟨_,lF (bB hN hv hd hcd),fun{F₀ H₀ F H σ ρ} R Qd Q ⟨xs,e,q⟩ h=>?_⟩;obtain⟨v,h1,h2,h3⟩:=R.sl i _ e;obtain⟨a,vs,rfl,f,hr,hh,rs⟩:=(show fF X.K rl F H v xs from h2);have sq:∀{F2 H2:Hp},Grow rl F H F2 H2->Ch X.K H2 a vs:=fun g=>.inl (.inl (g.same a _ hh hr));refine⟨.ref a,h1,a,rfl,⟨vs,.inl (.inl hh)⟩,h _ xs F H (Grow.refl R.sub R.reel) ⟨fun i F2 H2 x e g=>?_,fun i F2 H2 hl g=>⟨vs,sq g,by rw[rs.length];exact hl⟩,fun i H2 v H' x F2 e g y=>?_⟩ q⟩
 · obtain⟨v,ev,_⟩:=rs.get e;exact⟨vs,v,sq g,ev⟩
 · obtain⟨e',hy⟩:=y;obtain⟨v',ev,rv⟩:=rs.get e;have:=hy vs (sq g);rw[ev]at this;cases this;subst e';exact⟨F2,Grow.refl g.sub g.reel,rv.mono g.fs⟩
theorem om{wi:TI}(fr:List (Option Nat))(k0:∀{F₀ H₀ F H:Hp}{σ:St}{ρ:En},VR X.K rl F₀ H₀ F H σ ρ->∀(Qd:List Da->Prop)(R:It->Hp->Prop),fi ρ Qd ->
 (∀J xs F' H',Grow rl F H F' H'->VItG X.K rl F' H' J xs->Qd xs->R J H')->wi σ H R)
 (hg:∀y,CD (blk X N' scope y) rl tg g)(ht:∀y,kF (blk X N' scope y) rl ifs ft)(he:∀y,PV (blk X N' scope y) rl elt fe)
 {ρ:En}(R:VR X.K rl F₀ H₀ F H σ ρ)(Qd:W->Prop)(Q:VK)(q:gK fi fr g ft fe ρ Qd)
 (k:∀v w F' H',Grow rl F H F' H'->cE X.K rl F' H' v w->dg H v w->Qd w->Q v H'):qH wi fr (fun y=>DW (hg y)) (fun y=>DW (ht y)) (fun y=>DW (he y)) σ H Q:=by
 refine k0 R _ _ q fun J xs F1 H1 g1 vi q1=>?_;intro D hD;have rD:rl≠some D:=fun e=>by obtain⟨o,z⟩:=g1.reel.live e;rw[hD]at z;cases z
 have FD:F1 D=none:=g1.sub.free hD;have gD:Grow rl F1 H1 F1 (upd H1 D (.lst [])):=Grow.laid g1.sub g1.reel hD;have R1:=R.grow g1;have n0:ko (dh fr ρ):=cC
 refine⟨fun i m acc σc Hc=>m=xs.length-i/\i<=xs.length/\∃Fc ds,VR X.K rl F1 H1 Fc Hc σc (dh fr ρ)/\Hc D=some (.lst acc)/\Fc D=none/\Reps X.K Fc acc ds/\kB (dh fr ρ) g ft fe (xs.drop i) ds (fun ds=>Qd (.ml ds)),
  ⟨xs.length,by simp,DG _,F1,[],dO R1 gD,aj,FD,.nil,by simpa using q1⟩,?_⟩
 rintro z i m acc σc Hc ⟨rfl,hi,Fc,ds,Rc,hDc,fDc,rs,q2⟩;have sH:aR F1 Hc:=Rc.g.fs.trans Rc.sub;by_cases hlt:i<xs.length
 · have ei:xs[i]?=some xs[i]:=by simp[hlt]
   have ed:xs.drop i=xs[i]::xs.drop (i+1):=Ek hlt;rw[ed]at q2;refine .inr ⟨vi.go i Fc Hc _ ei Rc.g,fun v H' y=>?_⟩;obtain⟨Fy,gy,rv⟩:=vi.yld i Hc v H' _ Fc ei Rc.g y;refine(Dg (hg z)).2 (Rc.grow gy) v _ _ _ rv q2 fun F3 H3 σ3 ρ3 g3 n3 R3 ⟨le3,q3⟩=>?_;refine(Dg (ht z)).2 R3 _ _ q3 fun b F4 H4 g4 q4=>?_;have R4:=R3.grow g4;have g34:=(gy.trans g3).trans g4;have keepD:∀{Fx Hx:Hp},Grow rl Fc Hc Fx Hx->Hx D=some (.lst acc)/\Fx D=none:=fun gx=>⟨gx.same D _ hDc rD,by rw[gx.old D _ hDc];exact fDc⟩
   cases b with
   | false=>exact⟨xs.length-(i+1),by omega,rfl,hlt,F4,ds,R4.le le3,(keepD g34).1,(keepD g34).2,rs.mono g34.fs,q4⟩
   | true =>
     refine(Dg (he z)).2 R4 _ _ q4 fun v5 w5 F5 H5 g5 r5 n5 ⟨d,ed5,hl,q5⟩=>?_;obtain⟨F6,g6,s6,r6⟩:=cE.fz g5 r5 n5;rw[ed5]at r6;have g36:=g34.trans g6;refine⟨(keepD g36).1,by rw[rs.length];exact hl,xs.length-(i+1),by omega,rfl,hlt,F6,ds++[d],((R4.grow g6).le le3).other n0 hD (keepD g36).2 rD,aj,(keepD g36).2,(rs.mono g36.fs).snoc r6,q5⟩
 · have e:i=xs.length:=by omega
   subst e;rw[Ga]at q2;refine .inl ⟨vi.stop _ Fc Hc (Dm _) Rc.g,k _ (.ml ds) Fc Hc (g1.trans Rc.g) ⟨D,acc,rfl,fDc,rD,hDc,rs⟩ (fun a ea=>by cases ea;exact g1.freeB hD) q2⟩
theorem nA(N':List Str)(fr:List (Option Nat))(hc:X.calm=true)(hi:zN X rl tg iter fi)
 (hg:∀y,CD (blk X N' scope y) rl tg g)(ht:∀y,kF (blk X N' scope y) rl ifs ft)(he:∀y,PV (blk X N' scope y) rl elt fe)
 (hfr:autoParam (mG fr N' X.N scope X.env.scope=true) æa._auto_1)(hsc:autoParam (ni scope X.env.scope=true) æa._auto_1)
 (hs:autoParam (∀x,DL iter X.env x=pure x) æd._auto_1):PV X rl (.ListComp elt [⟨tg,iter,ifs,0⟩] scope pos) (gK fi fr g ft fe):=by
 obtain⟨wi,p0,k0⟩:=hi;exact⟨_,jg N' fr hc p0 hfr hsc (fun y=>(Dg (hg y)).1) (fun y=>(Dg (ht y)).1) (fun y=>(Dg (he y)).1) hs,fun R Qd Q q k=>om fr k0 hg ht he R Qd Q q k⟩
theorem vF(i:Nat):BQ i ρ=ar (Bm ρ i) ret:=by
 refine af fun Q=>?_;simp only[BQ,ag,eW,ret]
end
noncomputable def Cn(d:Da):Prop:=sU d/\d.depth<=60/\d.shown.length<=sizeLine
theorem Cm.shs(h:Cm d):Cn d:=⟨h.1,h.2.1,h.len⟩
section
variable{X:Cx}{rl:Option Addr}{a b e:Expr}{es:List Expr}{fa fb fc:TV}{fs:Ca}{pos p:Pos}
noncomputable def pA(K:W.Frag):List V->Hp->VK->Prop:=fun xs H Q=>∃x d,xs=[x]/\Rep K H x d/\Cn d/\Q (.str d.shown) H
theorem kh(hgd:X.A.guards=some [])(hu:X.A.units+64<Gu):eG X (.builtin "repr") (pA X.K):=by
 intro pins s σ H xs us Q I r ⟨x,d,ex,rx,sh,q⟩;subst ex;obtain⟨u,rfl,ru⟩:=vals1 r;have fin:∀tk h' , (∀b o,s.heap.get? b=some o->h'.get? b=some o)->∀t,EP X pins σ Q (.str d.shown t) {s with heap:=h',toks:=tk}:=fun tk h' k t=>⟨.str d.shown,H,I.kept k,⟨t,rfl⟩,q⟩;obtain⟨as,rd⟩:=Rep.reads I (.refl H) rx u ru;have hs:=(sU.facts d sh.1)
 cases rx with
 | non=>cases(show u=D3 from ru);exact P.repr_of_none (fin _ _ (fun _ _ e=>e) _)
 | bl b=>cases(show u=Gp b from ru);exact P.repr_of_bool (fin _ _ (fun _ _ e=>e) _)
 | int i =>
   obtain⟨t,e⟩:=(show ∃t,u=F0 i t from ru);cases e
   exact P.repr_of_int (by simpa[GO]using hs.1) (fin _ _ (fun _ _ e=>e) _)
 | str x =>
   obtain⟨t,e⟩:=(show ∃t,u=HP x t from ru);cases e
   exact P.repr_of_str (fin _ _ (fun _ _ e=>e) _) sh.2.2
 | tup sq rs =>
   cases(show u=Dn _ from ru)
   exact HF rd hs.1 (GX hs.2.2.1) hgd (by have:=sh.2.1;omega) (fun _ _ e=>e) (fun h' t tk hk=>fin tk h' hk t) sh.2.2
 | lst sq rs =>
   cases(show u=Dn _ from ru);exact HF rd hs.1 (GX hs.2.2.1) hgd (by have:=sh.2.1;omega) (fun _ _ e=>e) (fun h' t tk hk=>fin tk h' hk t) sh.2.2
noncomputable def jw:List W->(W->Prop)->Prop:=fun ws Q=>∃w d,ws=[w]/\w.dat=some d/\Cn d/\Q (.d (.str d.shown))
theorem nw:ik X rl (pA X.K) jw:=fun{F H vs ws} Qd Q s ra r ⟨w,d,ew,e1,sh,q⟩ k=>by
 subst ew;obtain⟨v,rfl,r1⟩:=nM r;exact⟨v,d,rfl,r1.dat s e1,sh,k _ (.d _) _ _ (Grow.refl s ra) (.str _) trivial q⟩
theorem kR(hr:Room 0 X.A)(hm:X.mg "repr" = none)(ha:Cr X rl [e] fs)(hg:autoParam (Gl X "repr") æa._auto_1)(he:autoParam (Dh [e] X.env=(false,eval e X.env)::Dh [] X.env) æa._auto_1)(hpl:autoParam ((ES pos (Dh [] X.env)).any (·.1)=false) æa._auto_1) :
 PV X rl (.Call (.Name "repr" p) [e] [] pos) (eL jw fs):=fO (kh hr.gd hr.units) nw hm (by first|rfl|exact boot_repr) ha hg (by decide) (by decide) he hpl
theorem jk(w:W):jw [w]=ar w.dat fun d=>BR (Cn d) (ret (.d (.str d.shown))):=by
 refine af fun Q=>?_;simp only[jw,ag,ret,BR,DI,and_true];exact⟨fun⟨w',d,e,a,b,q⟩=>by subst e;exact⟨d,a,b,q⟩,fun⟨d,a,b,q⟩=>⟨w,d,rfl,a,b,q⟩⟩
end
end L2.VL
namespace K14
open PySem PySem.Spec PyProof.Rows L2 L2.VL
set_option bootstrap.genMatcherCode true in
local macro_rules | `(tactic| simp_arith only [$xs,*])=>`(tactic| simp (maxSteps:=2000000) (disch:=(first | assumption | omega | decide)) only [yK,yN,yQ,yP,yO,yD,yC,yG,yF,yE,yM,yL,yJ,yI,yH,wP,Bn,Bm,cI,bU,dh,W.cap,BF,List.replicate,id,↓reduceIte,if_true,Nat.reduceAdd,Nat.reduceSub,Nat.reduceLeDiff,Int.cast_ofNat_Int,Int.reduceBEq,Int.reduceSub,Int.reduceAdd,Int.reduceLT,Int.reduceLE,Int.reduceMul,Int.reduceNeg,reduceCtorEq,d8,$xs,*])
set_option bootstrap.genMatcherCode true in
local macro_rules | `(tactic| simp_arith only [$xs,*] at $h:ident)=>`(tactic| simp only [List.cons.injEq,W.d.injEq,PyData.int.injEq,PyData.bool.injEq,PyData.str.injEq,PyData.list.injEq,PyData.tuple.injEq,jd,oh,nG,cQ,and_true,true_and,reduceCtorEq,$xs,*] at $h:ident)
section
variable{P:Dq}{w:DN}{K:Fd}{mg:Str->Option Dc}{base:Heap}{rl:Option Addr}
theorem mi:∀f fd,Fun K "__init__" "TooMany.__init__" (inClass (top 6) 0) f fd->FnOk P w K mg base C2 1 f fd ["self", "word"] (Bk K "word"):=by
 intro f fd F;refine F.ok (k:=0) (N:=["self", "word"]) ⟨rfl,rfl,rfl,by decide +kernel,rfl,by decide +kernel,by decide +kernel⟩ (fun vs H Q E h=>?_) fun cdv A outer s H vs Q E hr h=>⟨_,dZ (xR (bB (i:=0) rfl (.inl rfl)) (bB (i:=1) rfl (.inl rfl)) rfl),?_⟩
 · obtain⟨a,C,y,e,_⟩:=h;subst e;rfl
 · obtain⟨a,C,y,e,xc,na,ea,z⟩:=h;subst e;exact⟨y,rfl,.ref a,rfl,a,C,rfl,xc,na,ea,z⟩
noncomputable def ww(ws:List W):Prop:=∃ns:List Int,ws=[.sc ns]/\ns.length<=63
theorem ww.eq(h:ns.length<=63):ww [.sc ns]=True:=propext ⟨fun _=>trivial,fun _=>⟨ns,rfl,h⟩⟩
theorem gR:FnScope ["_law_script"] ["_law_script"] (defScope (top 23)):=⟨rfl,rfl,rfl,by decide +kernel,rfl,by decide +kernel,by decide +kernel⟩
theorem d__law_reel(Fn:FnIn K mg "_law_reel" (top 23) ["_law_script"])(Z:Bz mg):DfnR P w K mg base "_law_reel" ["_law_script"] 1 ww:=by
 obtain⟨f,fd,hm,Ff,hb⟩:=Fn.ex;refine⟨f,fd,hm,Ff.kp,hb,?_⟩;refine Ff.ok gR (fun vs H Q E h=>?_) (fun cdv A outer s H vs Q E hr h=>?_)
 · obtain⟨F,ws,_,r,_,⟨ns,rfl,_⟩,_⟩:=h;have:=EH r;simpa using this
 · obtain⟨F,ws,sm,r,ao,⟨ns,rfl,hl⟩,k⟩:=h;obtain⟨v,rfl,⟨a,rfl,hS⟩⟩:=nM r;refine⟨_,dZ (pC (rB (dQ dF (nX qK (pv 0) rn (rm hE)) (dQ dF hE (dQ dF hE (dQ dF hE rj)))) rfl rfl (by intro z;cases z) (by decide))),?_⟩;intro p hp;have s0:aR H (upd H p (.dK [])):=fun b o e=>by rw[ae (aq e hp)];exact e
   refine⟨_,rfl,63,rfl,a,ns.map V.int,rfl,s0.seq (lh sm hS),fun c hc=>?_⟩;have hcp:c≠p:=fun z=>by rw[z,aj]at hc;cases hc
   have hc0:H c=none:=s0.free hc;have fc:F c=none:=sm.free hc0;have fp:F p=none:=sm.free hp;refine⟨by rw[ae hcp.symm,aj],[(kC,.ref c),(kA,.int 0),(kL,.int 0),(kT,.int 0)],rfl,(by show 4<=15;decide),?_⟩;rw[jX,oX hl];have nF:∀b u,F b=some u->b≠c/\b≠p:=fun b u e=>⟨(fun z=>by subst z;rw[fc]at e;cases e),(fun z=>by subst z;rw[fp]at e;cases e)⟩;have nH:∀b u,H b=some u->b≠c/\b≠p:=fun b u e=>⟨aq e hc0,aq e hp⟩;refine k p (upd F c (.lst (ns.map V.int))) _ hp ⟨fun b o e _=>?_,fun b o e=>?_,fun b o e=>?_,fun b o e=>?_,fun _ z=>by cases z⟩ (fun r e=>?_)
   · obtain⟨n1,n2⟩:=nH b o e;rw[ae n2,ae n1,ae n2];exact e
   · rw[ae (nF b o e).1];exact e
   · by_cases hb:b=c
     · subst hb;rw[aj]at e;rw[ae hcp,aj];exact e
     · rw[ae hb]at e;obtain⟨n1,n2⟩:=nF b o e;rw[ae n2,ae n1,ae n2];exact sm b o e
   · rw[ae (nH b o e).1]
   · cases e;exact⟨by rw[ae hcp.symm];exact fp,⟨_,aj,c,ns,0,0,0,rfl,aj,hl,by decide,by decide,by decide⟩⟩
noncomputable def aF:List W->(Da->Prop)->Prop:=fun ws Q=>∃(m:Int),ws=[.reel,.d (.int m)]/\((0<m)/\(m<2^60))/\∀k:Int,(0<=k/\k<m)->Q (.int k)
theorem aF.mono:∀ws (Q Q':Da->Prop),(∀d,Q d->Q' d)->aF ws Q->aF ws Q':=fun _ _ _ h_=>El fun _=>DE (DE fun q_ o_ ho_=>h_ _ (q_ o_ ho_))
theorem aF.len:∀ws (Q:Da->Prop),aF ws Q->ws.length=2:=fun _ _ h_=>by obtain⟨_,e_,_⟩:=h_;subst e_;rfl
theorem aF.eq(m:Int)(hm:0<m)(hb:m<2^60):aF [.reel,.d (.int m)]=BZ (anyM fun k:Int=>0<=k/\k<m) fun k=>VL.ret (.int k:Da):=by
 refine af fun Q=>⟨?_,fun q_=>⟨m,rfl,⟨hm,hb⟩,q_⟩⟩;rintro⟨m',e_,_,q_⟩;simp_arith only[and_true]at e_;obtain rfl:=e_;exact q_
theorem gT:FnScope ["_law_reel_here", "_law_many", "_law_found", "_law_cells", "_law_cell", "_law_mixed"] ["_law_reel_here", "_law_many"] (defScope (top 24)):=⟨rfl,rfl,rfl,by decide +kernel,rfl,by decide +kernel,by decide +kernel⟩
theorem d__law_pick(Fn:FnIn K mg "_law_pick" (top 24) ["_law_reel_here", "_law_many"])(Z:Bz mg)    : Dfn P w K mg base rl "_law_pick" ["_law_reel_here", "_law_many"] 1 aF:=by
 have sc:=gT
 refine Dfn.of Fn sc (aF.mono) (aF.len) (fun cdv A outer s H E hr=>(ak (fG (i:=0) (hr.mono (DG _)) (.inr (.inr rfl)) (v_add (cW (i:=0) (hr.mono (DG _)) (.inr (.inr rfl))) ai))
  (ak (gF (bo jW jM (bj _) (cW (i:=0) (hr.mono (DG _)) (.inr (.inl rfl))) ai) (ak (aI 2 sc.nd (v_mod (cW (i:=0) (hr.mono (DG _)) (.inr (.inl rfl))) (vn 1)))
  (ak (fG (i:=0) (hr.mono (DG _)) (.inr (.inl rfl)) (v_div (cW (i:=0) (hr.mono (DG _)) (.inr (.inl rfl))) (vn 1)))
  (av (aS (vn 2))))) dB)
  (ak (aI 3 sc.nd (nz (i:=0) (hr.mono (DG _))))
  (ak (aI 4 sc.nd (dS (bo (pF hr.units) eR (bj _) (vn 3) (cu ac)) (eJ (vn 3) (v_mod (cW (i:=0) (hr.mono (DG _)) (.inl rfl)) (di Z.len_ (aa (vn 3) ac)))) ai))
  (ak (fG (i:=0) (hr.mono (DG _)) (.inl rfl) (v_add (cW (i:=0) (hr.mono (DG _)) (.inl rfl)) ai))
  (ak (gF (CF.pb (gH (bo xY wV (bj _) (vn 4) (v_pow ai ai)) (fJ (bo xX wT (bj _) (cW (i:=0) (hr.mono (DG _)) (.inl rfl)) (di Z.len_ (aa (vn 3) ac)))))) (ak (fG (i:=0) (hr.mono (DG _)) (.inr (.inl rfl)) (v_div (vn 4) (vn 1)))
  (av (aS (v_mod (vn 4) (vn 1))))) dB)
  (ak (aI 5 sc.nd (v_mod (v_mul (v_add (v_mod (vn 4) ai) (v_mul ai (cW (i:=0) (hr.mono (DG _)) (.inr (.inr rfl))))) ai) ai))
  (ak (aI 5 sc.nd (v_mod (v_add (v_mul (vn 5) (vn 5)) (v_mul ai (cW (i:=0) (hr.mono (DG _)) (.inr (.inr rfl))))) ai))
  (av (aS (v_mod (v_div (v_mod (v_mul (vn 5) ai) ai) ai) (vn 1))))))))))))) ?_
 rintro ws Q ⟨m,rfl,⟨hm,hb⟩,hQ⟩;have hm0:m≠0:=by omega
 have hmd:∀i:Int,i5 i m:=fun i=>i5.of hm0 (by omega);have hnn:∀i:Int,0<=i->0<=i.fdiv m:=fun i hi=>Int.fdiv_nonneg hi (by omega);have fm:∀i:Int,0<=i.fmod m/\i.fmod m<m:=fun i=>⟨EV _ hm,Gf _ hm⟩;refine aZ ?_;simp_arith only[ah,fY,fZ,cX,gA,c9,ci]
 (with_reducible (first|refine au fun n hn=>?_|refine az fun n hn=>?_))
 try simp_arith only[ah,fY,fZ,cX,gA,c9,ci]
 refine cj (by omega) ?_
 (with_reducible (first|refine au fun n2 h2=>?_|refine az fun n2 h2=>?_))
 try simp_arith only[ah,fY,fZ,cX,gA,c9,ci]
 refine aX (fun _=>?_) fun _=>?_
 · repeat' (first|exact bg (hQ _ (fm _))|((with_reducible refine cj ?_ ?_);(first|exact hmd _|exact hnn _ (by assumption)|exact hnn _ (by decide)|exact dA.lt (by decide)|exact dA.rt (by decide)|exact dA.lt (dk (by decide) (by decide))|exact i5.of (by decide) (by decide)|exact⟨by decide,by decide,by decide⟩|omega|assumption|decide))|(with_reducible refine au fun _ _=>?_)|(with_reducible refine az fun _ _=>?_)|(with_reducible refine aX (fun _=>?_) fun _=>?_)|(simp_arith only[ah,fY,fZ,cX,gA,c9,ci]))
 · (with_reducible (first|refine au fun ns hl=>?_|refine az fun ns hl=>?_))
   try simp_arith only[ah,fY,fZ,cX,gA,c9,ci]
   refine cj (shaped_ints ns) (cj rfl (oE (fun he=>?_) fun _=>?_))
   · have he:ns≠[]:=by rintro rfl;exact absurd he (by decide)
     have hz:(0:Int)<(ns.length:Int):=by have:=Jl.mpr he;omega
     (with_reducible (first|refine au fun n3 h3=>?_|refine az fun n3 h3=>?_))
     try simp_arith only[ah,fY,fZ,cX,gA,c9,ci]
     refine cj (by omega) ?_;obtain⟨z,ez,_⟩:=sO (xs:=ns) (EV n3 hz) (Gf n3 hz);rw[ez];simp_arith only[ah,fY,fZ,cX,gA,c9,ci];have t0:(10:Int)^Int.toNat 18<=z->0<=z:=fun h=>Int.le_trans (by decide) h
     repeat' (first|exact bg (hQ _ (fm _))|((with_reducible refine cj ?_ ?_);(first|exact hmd _|exact hnn _ (by assumption)|exact hnn _ (by decide)|exact hnn _ (t0 (by simp_all))|exact dA.lt (by decide)|exact dA.rt (by decide)|exact dA.lt (dk (by decide) (by decide))|exact i5.of (by decide) (by decide)|exact⟨by decide,by decide,by decide⟩|omega|assumption|decide))|(with_reducible refine au fun _ _=>?_)|(with_reducible refine az fun _ _=>?_)|(with_reducible refine aX (fun _=>?_) fun _=>?_)|(simp_arith only[ah,fY,fZ,cX,gA,c9,ci]))
   · repeat' (first|exact bg (hQ _ (fm _))|((with_reducible refine cj ?_ ?_);(first|exact hmd _|exact hnn _ (by assumption)|exact hnn _ (by decide)|exact dA.lt (by decide)|exact dA.rt (by decide)|exact dA.lt (dk (by decide) (by decide))|exact i5.of (by decide) (by decide)|exact⟨by decide,by decide,by decide⟩|omega|assumption|decide))|(with_reducible refine au fun _ _=>?_)|(with_reducible refine az fun _ _=>?_)|(with_reducible refine aX (fun _=>?_) fun _=>?_)|(simp_arith only[ah,fY,fZ,cX,gA,c9,ci]))
noncomputable def br:List W->(Da->Prop)->Prop:=fun ws Q=>∃(q r:Rat),ws=[.d (fr q),.d (fr r)]/\((Bt 2000 q)/\(Bt 2000 r))/\Q (.bool (decide (q<r)))
theorem br.mono:∀ws (Q Q':Da->Prop),(∀d,Q d->Q' d)->br ws Q->br ws Q':=fun _ _ _ h_=>El fun _=>El fun _=>DE (DE (h_ _))
theorem br.len:∀ws (Q:Da->Prop),br ws Q->ws.length=2:=fun _ _ h_=>by obtain⟨_,_,e_,_⟩:=h_;subst e_;rfl
theorem br.eq(q r:Rat)(h1:Bt 2000 q)(h2:Bt 2000 r):br [.d (fr q),.d (fr r)]=VL.ret (.bool (decide (q<r)):Da):=by
 refine af fun Q=>⟨?_,fun q_=>⟨q,r,rfl,⟨h1,h2⟩,q_⟩⟩;rintro⟨q',r',e_,_,q_⟩;simp_arith only[gB,cF,cG,bS,bP,cS]at e_;obtain⟨rfl,rfl⟩:=e_;exact q_
theorem iA:FnScope ["one", "other"] ["one", "other"] (defScope (top 14)):=⟨rfl,rfl,rfl,by decide +kernel,rfl,by decide +kernel,by decide +kernel⟩
theorem d_is_below(Fn:FnIn K mg "is_below" (top 14) ["one", "other"])(Z:Bz mg)    : Dfn P w K mg base rl "is_below" ["one", "other"] 1 br:=by
 have sc:=iA;refine Dfn.of Fn sc (br.mono) (br.len) (fun cdv A outer s H E hr=>(av (aS (t_ vt tI (bj _) (v_mul (eJ (vn 0) ai) (eJ (vn 1) ai)) (v_mul (eJ (vn 1) ai) (eJ (vn 0) ai)))))) ?_;rintro ws Q ⟨q,r,rfl,⟨h1,h2⟩,hQ⟩;refine aZ ?_;have m1:dA q.num r.den:=.bb h1.bn h2.bd;have m2:dA r.num q.den:=.bb h2.bn h1.bd;simp_arith only[am,ah,C5,wa];exact bg hQ
noncomputable def aV:List W->(Da->Prop)->Prop:=fun ws Q=>∃(a b:Int),ws=[.d (.int a),.d (.int b)]/\((0<b)/\(b.natAbs<2^8000))/\Q (fr (qd a b))
theorem aV.mono:∀ws (Q Q':Da->Prop),(∀d,Q d->Q' d)->aV ws Q->aV ws Q':=fun _ _ _ h_=>El fun _=>El fun _=>DE (DE (h_ _))
theorem aV.len:∀ws (Q:Da->Prop),aV ws Q->ws.length=2:=fun _ _ h_=>by obtain⟨_,_,e_,_⟩:=h_;subst e_;rfl
theorem aV.eq(a b:Int)(hb:0<b)(hz:b.natAbs<2^8000):aV [.d (.int a),.d (.int b)]=VL.ret (fr (qd a b):Da):=by
 refine af fun Q=>⟨?_,fun q_=>⟨a,b,rfl,⟨hb,hz⟩,q_⟩⟩;rintro⟨a',b',e_,_,q_⟩;simp_arith only[gB,cF,cG,bS,bP,cS]at e_;obtain⟨rfl,rfl⟩:=e_;exact q_
theorem gU:FnScope ["_law_top", "_law_bottom", "_law_one", "_law_other", "_law_by"] ["_law_top", "_law_bottom"] (defScope (top 25)):=⟨rfl,rfl,rfl,by decide +kernel,rfl,by decide +kernel,by decide +kernel⟩
theorem d__law_made(Fn:FnIn K mg "_law_made" (top 25) ["_law_top", "_law_bottom"])(Z:Bz mg)    : Dfn P w K mg base rl "_law_made" ["_law_top", "_law_bottom"] 1 aV:=by
 have sc:=gU
 refine Dfn.of Fn sc (aV.mono) (aV.len) (fun cdv A outer s H E hr=>(ak (o9 2 3 rfl sc.nd (aa (ua Z.abs_ (aa (vn 0) ac)) (aa (ua Z.abs_ (aa (vn 1) ac)) ac)))
  (ak (kJ [] Eu (bo jW jM (bj _) (vn 3) ai) (av (o9 2 3 rfl sc.nd (aa (vn 3) (aa (v_mod (vn 2) (vn 3)) ac)))))
  (ak (aI 4 sc.nd (dS (bo jW jM (bj _) (vn 1) ai) (vn 2) (wX (vn 2))))
  (av (aS (bL (aa (v_div (vn 0) (vn 4)) (aa (v_div (vn 1) (vn 4)) ac))))))))) ?_
 rintro ws Q ⟨a,b,rfl,⟨hb,hz⟩,hQ⟩;refine aZ ?_;simp_arith only[ah];refine nq (σ:=Int×Int) (fun s=>[some (.d (.int a)),some (.d (.int b)),some (.d (.int s.1)),some (.d (.int s.2)),none]) (fun s=>decide (0<s.2)) (fun s=>(s.2,s.1.fmod s.2)) (fun s=>s.2.natAbs) (fun s=>0<=s.1/\0<=s.2/\FJ s.1 s.2=FJ a b) (if a<0 then -a else a,if b<0 then -b else b) rfl ⟨by dsimp only;split<;>omega,by dsimp only;split<;>omega,sA a b⟩ ?_ ?_ ?_
 · intro s _;simp_arith only[ah]
 · rintro s ⟨h1,h2,e⟩ c;have hc:0<s.2:=by simpa using c
   have hc':s.2≠0:=by omega
   refine⟨⟨h2,EV _ hc,by rw[oM];exact e⟩,eg hc',_,?_,rfl⟩;simp_arith only[am,ah]
 · rintro s ⟨h1,h2,e⟩ c
   have hc : s.2 = 0 := by have:¬0<s.2:=by simpa using c
                           omega
   rw[hc,Int.gcd_zero_right]at e;have ex:s.1=(FJ a b:Int):=by omega
   have c1:i5 a (FJ a b:Int):=mD hb hz _;have c2:i5 b (FJ a b:Int):=mD hb hz _;have h0:decide (0<b)=true:=by simpa using hb
   simp_arith only[am,ah,h0,ex,if_true];rw[vI hb];exact bg hQ
noncomputable def aG:List W->(Da->Prop)->Prop:=fun ws Q=>ws=[.reel]/\(True)/\∀r:Rat,(Bt 60 r/\0<=r/\r<1)->Q (fr r)
theorem aG.mono:∀ws (Q Q':Da->Prop),(∀d,Q d->Q' d)->aG ws Q->aG ws Q':=fun _ _ _ h_=>DE (DE fun q_ o_ ho_=>h_ _ (q_ o_ ho_))
theorem aG.len:∀ws (Q:Da->Prop),aG ws Q->ws.length=1:=fun _ _ h_=>by obtain⟨e_,_⟩:=h_;subst e_;rfl
theorem aG.eq   : aG [.reel]=BZ (anyM fun r:Rat=>Bt 60 r/\0<=r/\r<1) fun r=>VL.ret (fr r:Da):=by
 refine af fun Q=>⟨?_,fun q_=>⟨rfl,trivial,q_⟩⟩;rintro⟨e_,_,q_⟩;simp_arith only[gB,cF,cG,bS,bP,cS]at e_;exact q_
theorem eO:FnScope ["_law_reel_here", "_law_way", "_law_bottom"] ["_law_reel_here"] (defScope (top 26)):=⟨rfl,rfl,rfl,by decide +kernel,rfl,by decide +kernel,by decide +kernel⟩
theorem d__law_number(Fn:FnIn K mg "_law_number" (top 26) ["_law_reel_here"])(Z:Bz mg)(d__law_pick:∀rl,Dfn P w K mg base rl "_law_pick" ["_law_reel_here", "_law_many"] 1 aF)(d__law_made:∀rl,Dfn P w K mg base rl "_law_made" ["_law_top", "_law_bottom"] 1 aV)   : Dfn P w K mg base rl "_law_number" ["_law_reel_here"] 2 aG:=by
 have sc:=eO
 refine Dfn.of Fn sc (aG.mono) (aG.len) (fun cdv A outer s H E hr=>(ak (aI 1 sc.nd (aC (d__law_pick _) (hr.mono (by decide)) (aa (vn 0) (aa ai ac))))
  (ak (gF (bo (ji hr.units) eR (bj _) (vn 1) ai) (av (aS (bL (aa ai (aa ai ac))))) dB)
  (ak (aI 2 sc.nd (eJ (cu (aa ai (aa ai (aa ai (aa ai (aa ai (aa (v_add ai (aC (d__law_pick _) (hr.mono (by decide)) (aa (vn 0) (aa ai ac)))) (aa (v_sub (v_sub (v_pow ai ai) ai) (aC (d__law_pick _) (hr.mono (by decide)) (aa (vn 0) (aa ai ac)))) ac)))))))) (vn 1)))
  (av (aS (aC (d__law_made _) (hr.mono (by decide)) (aa (v_mod (v_add (v_mul (aC (d__law_pick _) (hr.mono (by decide)) (aa (vn 0) (aa (v_pow ai ai) ac))) (v_pow ai ai)) (aC (d__law_pick _) (hr.mono (by decide)) (aa (vn 0) (aa (v_pow ai ai) ac)))) (vn 2)) (aa (vn 2) ac))))))))) ?_
 rintro ws Q ⟨rfl,_,hQ⟩;have cp6:wN 10 6:=⟨by decide,by decide,by decide⟩;have cp12:wN 10 12:=⟨by decide,by decide,by decide⟩;have e6:(10:Int)^Int.toNat 6=1000000:=by decide
 have e12:(10:Int)^Int.toNat 12=1000000000000:=by decide
 refine aZ ?_;simp_arith only[am,ah,aF.eq,C5,e6,e12]
 (with_reducible (first|refine au fun k hk=>?_|refine az fun k hk=>?_))
 try simp_arith only[am,ah,aF.eq,C5,e6,e12]
 refine aX (fun _=>bg (hQ 0 ⟨Aj,by decide,by decide⟩)) fun _=>?_
 (with_reducible (first|refine au fun a ha=>?_|refine az fun a ha=>?_))
 try simp_arith only[am,ah,aF.eq,C5,e6,e12]
 (with_reducible (first|refine au fun c hc=>?_|refine az fun c hc=>?_))
 try simp_arith only[am,ah,aF.eq,C5,e6,e12]
 refine Bh (b6 (xs:=[2,3,4,8,12,1+a,1000000000000-1-c]) (enc:=DZ) (fun m=>1<=m/\m<=1000000000000) rfl hk.1 (by show k<7;omega) (by intro z hz;simp at hz;omega) fun m hm=>?_);simp_arith only[am,ah,aF.eq,C5,e6,e12]
 (with_reducible (first|refine au fun x hx=>?_|refine az fun x hx=>?_))
 have cm:dA x 1000000:=.rt (by decide);simp_arith only[am,ah,aF.eq,C5,e6,e12]
 (with_reducible (first|refine au fun y hy=>?_|refine az fun y hy=>?_))
 have f1:=EV (x*1000000+y) (show 0<m by omega);have f2:=Gf (x*1000000+y) (show 0<m by omega);have m0:0<m:=by omega
 have m00:m≠0:=by omega
 have m1:m.natAbs<2^8000:=Dk (show m.natAbs<2^60 by omega) (DQ (by decide) (by decide));simp_arith only[am,ah,aV.eq];exact bg (hQ _ ⟨uU m0 (by omega) (by omega),xM m0 f1,uV m0 f2⟩)
noncomputable def aM:List W->(Da->Prop)->Prop:=fun ws Q=>∃(s m:Int),ws=[.reel,.d (.int s),.d (.int m)]/\((1<=s)/\(s<=4)/\(1<=m)/\(m<=40))/\∀ps:List (List Rat),(nj s.toNat ps/\kr ps)->Q (ptsQ ps)
theorem aM.mono:∀ws (Q Q':Da->Prop),(∀d,Q d->Q' d)->aM ws Q->aM ws Q':=fun _ _ _ h_=>El fun _=>El fun _=>DE (DE fun q_ o_ ho_=>h_ _ (q_ o_ ho_))
theorem aM.len:∀ws (Q:Da->Prop),aM ws Q->ws.length=3:=fun _ _ h_=>by obtain⟨_,_,e_,_⟩:=h_;subst e_;rfl
theorem aM.eq(s m:Int)(s1:1<=s)(s4:s<=4)(m1:1<=m)(m40:m<=40):aM [.reel,.d (.int s),.d (.int m)]=BZ (anyM fun ps:List (List Rat)=>nj s.toNat ps/\kr ps) fun ps=>VL.ret (ptsQ ps:Da):=by
 refine af fun Q=>⟨?_,fun q_=>⟨s,m,rfl,⟨s1,s4,m1,m40⟩,q_⟩⟩;rintro⟨s',m',e_,_,q_⟩;simp_arith only[gB,cF,cG,bS,bP,cS]at e_;obtain⟨rfl,rfl⟩:=e_;exact q_
theorem eN:FnScope ["_law_reel_here", "_law_s", "_law_most", "_law_found", "_law_k", "_law_point", "_law_side", "_law_elder"] ["_law_reel_here", "_law_s", "_law_most"] (defScope (top 27)):=⟨rfl,rfl,rfl,by decide +kernel,rfl,by decide +kernel,by decide +kernel⟩
theorem d__law_points(Fn:FnIn K mg "_law_points" (top 27) ["_law_reel_here", "_law_s", "_law_most"])(Z:Bz mg)(d__law_pick:∀rl,Dfn P w K mg base rl "_law_pick" ["_law_reel_here", "_law_many"] 1 aF)(d__law_number:∀rl,Dfn P w K mg base rl "_law_number" ["_law_reel_here"] 2 aG)   : Dfn P w K mg base rl "_law_points" ["_law_reel_here", "_law_s", "_law_most"] 3 aM:=by
 have sc:=eN
 refine Dfn.of Fn sc (aM.mono) (aM.len) (fun cdv A outer s H E hr=>(ak (cJ 3 sc.nd (cu ac))
  (ak (bN [4,5,6,7] Eu rfl (bO Z.range_ (aa (v_add ai (aC (d__law_pick _) (hr.mono (by decide)) (aa (vn 0) (aa (vn 2) ac)))) ac)) (ax 4 sc.nd) (ak (cJ 5 sc.nd (cu ac))
  (ak (bN [6,7] Eu rfl (bO Z.range_ (aa (vn 1) ac)) (ax 6 sc.nd) (ak (aI 7 sc.nd (dS (CF.pb (gH (bo (pF hr.units) eR (bj _) (vn 3) (cu ac)) (fJ (bo (ji hr.units) eR (bj _) (aC (d__law_pick _) (hr.mono (by decide)) (aa (vn 0) (aa ai ac))) ai)))) (eJ (eJ (vn 3) (aC (d__law_pick _) (hr.mono (by decide)) (aa (vn 0) (aa (di Z.len_ (aa (vn 3) ac)) ac)))) (vn 6)) lw))
  (av (i9 5 (aa (dS (bo vw tJ (bj _) (vn 7) lw) (aC (d__law_number _) (hr.mono (by decide)) (aa (vn 0) ac)) (vn 7)) ac)))))
  (av (i9 3 (aa (bX Z.tuple_ (aa (vn 5) ac)) ac))))))
  (av (aS (bX Z.tuple_ (aa (vn 3) ac))))))) ?_
 rintro ws Q ⟨s,m,rfl,⟨s1,s4,m1,m40⟩,hQ⟩;refine aZ ?_;have sz:=DV;simp_arith only[am,ah,aF.eq,aG.eq,cx,C5]
 (with_reducible (first|refine au fun n hn=>?_|refine az fun n hn=>?_))
 try simp_arith only[am,ah,aF.eq,aG.eq,cx,C5]
 refine d9 (fun i ρ=>∃ps:List (List Rat),ps.length=i/\(∀p∈ps,yA s.toNat p)/\kr ps/\ρ=[some .reel,some (.d (.int s)),some (.d (.int m)),some (.ml (ps.map ptD)),none,none,none,none]) ⟨[],rfl,by simp,by simp[kr],rfl⟩ ?_ ?_
 · rintro i hi ρ ⟨ps,hl,hp,h01,rfl⟩ K hK;simp_arith only[am,ah,aF.eq,aG.eq,cx];refine d9 (fun j ρ=>∃qs:List Rat,qs.length=j/\(∀q∈qs,Bt 60 q)/\sV qs/\ρ=[some .reel,some (.d (.int s)),some (.d (.int m)),some (.ml (ps.map ptD)),some (.d (.int (0+i))),some (.ml (qs.map fr)),none,none]) ⟨[],rfl,by simp,by simp[sV],rfl⟩ ?_ ?_
   · rintro j hj ρ ⟨qs,hql,hq,hq1,rfl⟩ K' hK'
     have fin:∀r,Bt 60 r/\0<=r/\r<1->∀o,K' (.nx [some .reel,some (.d (.int s)),some (.d (.int m)),some (.ml (ps.map ptD)),some (.d (.int (0+i))),some (.ml (qs.map fr++[fr r])),some (.d (.int (0+j))),o]):=fun r hr o =>
      hK' _ (bC ⟨qs++[r],by simp[hql],by intro x hx;rcases Ez.mp hx with h|h;exact hq x h;simp at h;rw[h];exact hr.1,hq1.snoc hr.2,by simp[fo,EM]⟩)
     have sh:=jQ ps;have fin2:∀(o:Option W),(BZ (anyM fun r=>Bt 60 r/\0<=r/\r<1) fun r=>VL.ret (Fl.nx [some .reel,some (.d (.int s)),some (.d (.int m)),some (.ml (ps.map ptD)),some (.d (.int (0+i))),some (.ml (qs.map fr++[fr r])),some (.d (.int (0+j))),o])) K':=fun o r hr=>fin r hr o;simp_arith only[am,ah,aF.eq,aG.eq,cx,C5,sh];refine aX (fun hne=>?_) fun _=>fin2 _
     (with_reducible (first|refine au fun z hz=>?_|refine az fun z hz=>?_))
     try simp_arith only[am,ah,aF.eq,aG.eq,cx,C5]
     refine aX (fun _=>?_) fun _=>fin2 _;have hne:ps≠[]:=by rintro rfl;simp at hne
     have hpos:=Jl.mpr hne;have l1:(0:Int)<(ps.length:Int):=by omega
     have l2:(ps.length:Int)<2^60:=by omega
     simp_arith only[am,ah,aF.eq,aG.eq,cx]
     (with_reducible (first|refine au fun z' hz'=>?_|refine az fun z' hz'=>?_))
     try simp_arith only[am,ah,aF.eq,aG.eq,cx]
     refine Bh (b6 (fun p=>yA s.toNat p/\sV p) rfl hz'.1 hz'.2 (fun p mp=>⟨hp p mp,h01 p mp⟩) fun p hpp=>?_);obtain⟨⟨p1,p2⟩,hpp1⟩:=hpp;have e:VL.itemAt (ptD p) (0+(j:Int))=some (fr (p[j]'(by omega))):=by rw[item_pt,jJ (by omega) (by omega)];simp
     simp_arith only[am,ah,aF.eq,aG.eq,cx,e,oF];exact fin _ ⟨p2 _ (Eb _),hpp1 _ (Eb _)⟩ _
   · rintro ρ ⟨qs,hql,hq,hq1,rfl⟩;simp_arith only[am,ah];refine hK _ (bC ⟨ps++[qs],by simp[hl],?_,h01.snoc hq1,by simp[fo,EM,ptD]⟩);intro p hp';rcases Ez.mp hp' with h|h
     · exact hp p h
     · simp at h;subst h;exact⟨hql,hq⟩
 · rintro ρ ⟨ps,hl,hp,h01,rfl⟩;simp_arith only[am,ah];exact bg (hQ ps ⟨⟨by omega,by omega,hp⟩,h01⟩)
noncomputable def prodL:List Nat->List (List Nat)
 | []=>[[]]
 | m::ms=>(DO m).flatMap fun i=>(prodL ms).map (i :: ·)
noncomputable def qI(rows:List (List Nat))(m:Nat):List (List Nat):=rows.flatMap fun r=>(DO m).map fun i=>r++[i]
theorem eU:∀(ms:List Nat)(rows:List (List Nat)),ms.foldl qI rows=rows.flatMap fun r=>(prodL ms).map (r ++ ·)
 | [],rows=>by
   show rows=rows.flatMap fun r=>[r++[]]
   simp
 | m::ms,rows=>by
   rw[II,eU ms];unfold qI;rw[List.flatMap_assoc];congr 1;funext r;show _=((DO m).flatMap fun i=>(prodL ms).map (i :: ·)).map (r ++ ·);rw[List.flatMap_map,List.map_flatMap];congr 1;funext i;rw[Fg];refine FZ fun x _=>?_;show(r++[i])++x=r++(i::x);rw[GW];rfl
theorem dG(ms:List Nat):ms.foldl qI [[]]=prodL ms:=by
 rw[eU];show(prodL ms).map ([] ++ ·)++[]=_;simp
theorem bZ:∀{ms:List Nat}{pt:List Nat},pt∈prodL ms->pt.length=ms.length/\∀k (h:k<pt.length) (h':k<ms.length),pt[k]<ms[k]
 | [],pt,h=>by cases FC.mp h;exact⟨rfl,fun k h=>absurd h (Nat.not_lt_zero k)⟩
 | m::ms,pt,h=>by
   obtain⟨i,hi,h⟩:=Ir.mp h;obtain⟨x,hx,rfl⟩:=Eg.mp h;obtain⟨a,b⟩:=bZ hx;refine⟨by rw[DP,DP,a],fun k h1 h2=>?_⟩
   cases k with
   | zero=>exact FH.mp hi
   | succ k=>exact b k (by simpa using h1) (by simpa using h2)
theorem eZ:∀ms:List Nat,(prodL ms).length=ms.foldr (· * ·) 1
 | []=>rfl
 | m::ms=>by
   show((DO m).flatMap fun i=>(prodL ms).map (i :: ·)).length=m*_;rw[<- eZ ms]
   induction m with
   | zero=>simp
   | succ m ih=>rw[List.range_succ,Jm,DK,ih];simp[Jn]
noncomputable def nI(r:List Nat):List Int:=r.map fun k:Nat=>(k:Int)
theorem lM{a b:List Nat}(h:nI a=nI b):a=b:=(List.map_inj_right fun x y e=>Int.ofNat.inj e).mp h
noncomputable def BJ(rs:List (List Nat))(c:List Nat->Int):List (List Int×Da):=rs.map fun r=>(nI r,.int (c r))
theorem l4(rs:List (List Nat))(c:List Nat->Int):(BJ rs c).length=rs.length:=Di ..
theorem fN{rs:List (List Nat)}{c:List Nat->Int}{r:List Nat}(h:r∈rs):kQ (BJ rs c) (nI r)=some (.int (c r)):=by
 induction rs with
 | nil=>cases h
 | cons a rs ih =>
   unfold kQ BJ at *;rw[Ep,EB];by_cases e:a=r
   · subst e;simp
   · rcases DS.mp h with z|h
     · exact absurd z.symm e
     · have n:¬nI a=nI r:=fun z=>e (lM z);simp only[n,decide_false];exact ih h
theorem mZ(rs:List (List Nat))(c:List Nat->Int)(r:List Nat):((BJ rs c).any fun kv=>decide (kv.1=nI r))=true↔r∈rs:=by
 unfold BJ;rw[List.any_map,List.any_eq_true];constructor
 · rintro⟨x,m,e⟩;have:nI x=nI r:=of_decide_eq_true e;rw[<- lM this];exact m
 · exact fun m=>⟨r,m,decide_eq_true rfl⟩
theorem qT{rs:List (List Nat)}{c:List Nat->Int}{r:List Nat}{v:Int}(h:r∈rs):cN (BJ rs c) (nI r) (.int v)=BJ rs fun q=>if q=r then v else c q:=by
 unfold cN;rw[if_pos ((mZ rs c r).mpr h)];unfold BJ;rw[Fg];refine FZ fun q _=>?_;show(if nI q=nI r then(nI q,DZ v)else(nI q,DZ (c q)))=(nI q,DZ (if q=r then v else c q));by_cases e:q=r
 · rw[e,if_pos rfl,if_pos rfl]
 · rw[if_neg fun z=>e (lM z),if_neg e]
theorem nO{rs:List (List Nat)}{c:List Nat->Int}{r:List Nat}(h:r∉rs):cN (BJ rs c) (nI r) (.int (c r))=BJ (rs++[r]) c:=by
 unfold cN;rw[if_neg fun z=>h ((mZ rs c r).mp z)];unfold BJ;rw[EM];rfl
theorem jx(c:List Nat->Int):∀(ds rs:List (List Nat)),(rs++ds).Nodup->(ds.map fun r=>(nI r,DZ (c r))).foldl (fun a p=>cN a p.1 p.2) (BJ rs c)=BJ (rs++ds) c
 | [],rs,_=>by rw[EA];rfl
 | d::ds,rs,h=>by
   rw[Ep,II];show List.foldl _ (cN (BJ rs c) (nI d) (.int (c d))) _=_
   have nd:d∉rs:=fun m=>by
    have:=(List.nodup_append.mp h).2.2 d m d Dx;exact this rfl
   have e:rs++d::ds=rs++[d]++ds:=by rw[GW];rfl
   rw[nO nd,jx c ds (rs++[d]) (by rw[<- e];exact h),e]
theorem m9{ds:List (List Nat)}(c:List Nat->Int)(h:ds.Nodup):(ds.map fun r=>(nI r,DZ (c r))).foldl (fun a p=>cN a p.1 p.2) []=BJ ds c:=jx c ds [] h
theorem u9{m:Nat}{ms:List Nat}{r:List Nat}:i::r∈prodL (m::ms)↔i<m/\r∈prodL ms:=by
 show i::r∈(DO m).flatMap _↔_;rw[Ir];constructor
 · rintro⟨j,hj,h⟩;obtain⟨x,hx,e⟩:=Eg.mp h;cases e;exact⟨FH.mp hj,hx⟩
 · exact fun⟨h1,h2⟩=>⟨i,FH.mpr h1,Eg.mpr ⟨r,h2,rfl⟩⟩
theorem cO:∀ms:List Nat,(prodL ms).Nodup
 | []=>by simp[prodL]
 | m::ms=>by
   show((DO m).flatMap fun i=>(prodL ms).map (i :: ·)).Nodup;have ih:=cO ms
   have key:∀is:List Nat,is.Nodup->(is.flatMap fun i=>(prodL ms).map (i :: ·)).Nodup:=by
    intro is
    induction is with
    | nil=>intro _;exact Jb
    | cons i is ih2 =>
      intro h;have h:=FO.mp h;rw[EX,List.nodup_append];refine⟨?_,ih2 h.2,fun a ha b hb e=>?_⟩
      · rw[Hv,List.pairwise_map];exact(Hv.mp ih).imp fun n z=>n (Ka.inj z).2
      · obtain⟨x,_,rfl⟩:=Eg.mp ha;obtain⟨j,hj,hb⟩:=Ir.mp hb;obtain⟨y,_,rfl⟩:=Eg.mp hb;exact h.1 (by rw[(Ka.inj e).1];exact hj)
   exact key _ List.nodup_range
noncomputable def stN(x:Rat)(es:List Rat):Nat:=(es.filter fun e=>!decide (x<e)).length
theorem uF(x:Rat)(es:List Rat):stN x es<=es.length:=FG ..
theorem qJ(x:Rat)(es:List Rat):(es.length:Int)-((es.filter fun e=>decide (x<e)).length:Int)=(stN x es:Int):=by
 have:(es.filter fun e=>decide (x<e)).length+stN x es=es.length:=by
  unfold stN
  induction es with
  | nil=>rfl
  | cons e es ih =>
    rw[List.filter_cons,List.filter_cons];by_cases h:x<e
    · simp[h];omega
    · simp[h];omega
 omega
noncomputable def Bv(cs:List (List Rat))(p:List Rat):List Nat:=(p.zip cs).map fun z=>stN z.1 z.2
noncomputable def lnC(cs:List (List Rat)):List Nat:=cs.map fun c=>c.length+1
theorem fU:∀{cs:List (List Rat)}{p:List Rat},p.length=cs.length->Bv cs p∈prodL (lnC cs)
 | [],[],_=>by simp[Bv,lnC,prodL]
 | c::cs,x::p,h=>u9.mpr ⟨Nat.lt_succ_of_le (uF x c),fU (by simpa using h)⟩
noncomputable def BY(cs:List (List Rat))(ps:List (List Rat))(r:List Nat):Int:=((ps.filter fun p=>decide (Bv cs p=r)).length:Int)
theorem oZ(cs:List (List Rat))(ps:List (List Rat))(p:List Rat):(fun q=>if q=Bv cs p then BY cs ps (Bv cs p)+1 else BY cs ps q)=BY cs (ps++[p]):=by
 funext q;unfold BY;rw[List.filter_append,DK];by_cases h:q=Bv cs p
 · subst h;rw[if_pos rfl];simp
 · rw[if_neg h];have:¬Bv cs p=q:=fun z=>h z.symm;simp[this]
theorem mU(cs:List (List Rat))(ps:List (List Rat))(r:List Nat):0<=BY cs ps r/\BY cs ps r<=ps.length:=by
 unfold BY;have:=FG (fun p=>decide (Bv cs p=r)) ps;omega
theorem pB(ps:List (List Rat)){p:List Rat}(h:p.length=cs.length):cN (BJ (prodL (lnC cs)) (BY cs ps)) (nI (Bv cs p)) (.int (BY cs ps (Bv cs p)+1))=BJ (prodL (lnC cs)) (BY cs (ps++[p])):=by
 rw[qT (fU h),oZ]
noncomputable def pR(cs ps:List (List Rat)):Da:=.tuple (BI (BJ (prodL (lnC cs)) (BY cs ps)))
theorem cf(ms:List Nat)(m:Nat):prodL (ms++[m])=(prodL ms).flatMap fun r=>(DO m).map fun k=>r++[k]:=by
 have:=dG (ms++[m]);rw[List.foldl_append,dG]at this;exact this.symm
noncomputable def Bw(r:List Nat):Da:=.tuple (r.map fun k=>.int (k:Nat))
theorem qY(r:List Nat):kI (nI r)=Bw r:=by unfold kI nI Bw;rw[Fg];rfl
noncomputable def jS(m:Nat):Da:=.list (aE 0 m)
theorem nL{a b:List Nat}:a.map jS=b.map jS↔a=b:=List.map_inj_right fun x y e=>by
 have:=congrArg List.length (Da.list.inj e);rw[ce,ce]at this;exact this
structure CtOk (cs:List (List Rat)):Prop where
 s4:cs.length<=4
 hi:∀c∈cs,c.length<=12/\∀q∈c,Bt 60 q
theorem lB(ms:List Nat)(m:Nat):(prodL (ms++[m])).length=(prodL ms).length*m:=by
 rw[cf]
 induction prodL ms with
 | nil=>simp
 | cons r rs ih=>rw[EX,DK,ih,Di,Fj,DP,Jn];omega
theorem lC:∀{ms:List Nat},(∀m∈ms,m<=13)->(prodL ms).length<=13^ms.length
 | [],_=>Dm _
 | m::ms,h=>by
   have ih:=lC fun m mm=>h m (Dl _ mm);have h13:=h m Dx;rw[eZ]at *;show m*_<=13^(ms.length+1);rw[Nat.pow_succ,Nat.mul_comm];exact Nat.mul_le_mul ih h13
theorem pG(h:CtOk cs):∀m∈lnC cs,m<=13:=fun m mm=>by
 obtain⟨c,mc,rfl⟩:=Eg.mp mm;have:=(h.hi c mc).1;omega
theorem f_(cs:List (List Rat)):(lnC cs).length=cs.length:=Di ..
theorem vK(cs:List (List Rat))(i:Nat):lnC (cs.take i)=(lnC cs).take i:=by unfold lnC;rw[List.map_take]
theorem k7(h:i<cs.length):lnC (cs.take (i+1))=lnC (cs.take i)++[cs[i].length+1]:=by
 unfold lnC;rw[Er h,EM];rfl
theorem CtOk.tk(h:CtOk cs)(i:Nat):(prodL (lnC (cs.take i))).length<=28561:=by
 have h1:∀m∈lnC (cs.take i),m<=13:=fun m mm=>by
  obtain⟨c,mc,rfl⟩:=Eg.mp mm;have:=(h.hi c (I_ mc)).1;omega
 have h2:=lC h1;rw[f_,Ev]at h2;have h3:=h.s4;have h4:13^(min i cs.length)<=13^4:=DQ (by decide) (by omega);omega
theorem CtOk.all(h:CtOk cs):(prodL (lnC cs)).length<=28561:=by
 have:=h.tk cs.length
 rwa [D1 (Dm _)]at this
theorem gu(p:Rat->Bool)(f:Rat->Da)(xs:List Rat):(xs.filterMap fun x=>if p x=true then some (f x)else none).length=(xs.filter p).length:=pN p f xs
theorem mH(xs:List (List Nat))(m:Nat):(xs.flatMap fun b=>(DO m).map fun k=>Bw (b++[k]))=(xs.flatMap fun b=>(DO m).map fun k=>b++[k]).map Bw:=by
 induction xs with
 | nil=>rfl
 | cons x l ih=>rw[EX,EX,EM,ih,Fg];rfl
noncomputable def aT:List W->(Da->Prop)->Prop:=fun ws Q=>∃(x:Rat)(es:List Rat),ws=[.d (fr x),.d (ptD es)]/\((Bt 60 x)/\(es.length<=12)/\(∀e∈es,Bt 60 e))/\Q (.int ((stN x es:Nat):Int))
theorem aT.mono:∀ws (Q Q':Da->Prop),(∀d,Q d->Q' d)->aT ws Q->aT ws Q':=fun _ _ _ h_=>El fun _=>El fun _=>DE (DE (h_ _))
theorem aT.len:∀ws (Q:Da->Prop),aT ws Q->ws.length=2:=fun _ _ h_=>by obtain⟨_,_,e_,_⟩:=h_;subst e_;rfl
theorem aT.eq(x:Rat)(es:List Rat)(hx:Bt 60 x)(h12:es.length<=12)(he:∀e∈es,Bt 60 e):aT [.d (fr x),.d (ptD es)]=VL.ret (.int ((stN x es:Nat):Int):Da):=by
 refine af fun Q=>⟨?_,fun q_=>⟨x,es,rfl,⟨hx,h12,he⟩,q_⟩⟩;rintro⟨x',es',e_,_,q_⟩;simp_arith only[gB,cF,cG,bS,bP,cS]at e_;obtain⟨rfl,rfl⟩:=e_;exact q_
theorem fQ:FnScope ["x", "ends"] ["x", "ends"] (defScope (top 17)):=⟨rfl,rfl,rfl,by decide +kernel,rfl,by decide +kernel,by decide +kernel⟩
theorem d_stretch_of(Fn:FnIn K mg "stretch_of" (top 17) ["x", "ends"])(Z:Bz mg)(d_is_below:∀rl,Dfn P w K mg base rl "is_below" ["one", "other"] 1 br)   : Dfn P w K mg base rl "stretch_of" ["x", "ends"] 2 aT:=by
 have sc:=fQ;refine Dfn.of Fn sc (aT.mono) (aT.len) (fun cdv A outer s H E hr=>(av (aS (di Z.len_ (aa (bw ["end", "x"] [none,some 0] rfl (dC (vn 1)) (fun _=>(ax 0 (show E8 (["end", "x"]:List Str) by decide +kernel))) (fun _=>kH (tW (eS (aC (d_is_below _) (hr.mono (by decide)) (aa (vn 1) (aa (vn 0) ac)))))) (fun _=>(vn 0))) ac))))) ?_;rintro ws Q ⟨x,es,rfl,⟨hx,h12,he⟩,hQ⟩;refine aZ ?_;have sz:=DV;have x2:Bt 2000 x:=hx.mono (by decide);simp_arith only[am,ah,C5];refine jG (xs:=es) (enc:=fr) (fun e=>if(!decide (x<e))=true then some (fr e)else none) rfl ?_ (by omega) ?_
 · intro e me;have e2:Bt 2000 e:=(he e me).mono (by decide);simp_arith only[am,ah,BL,br.eq,C5];by_cases h:x<e<;>simp[h]
 · try simp_arith only[am,ah]
   rw[gu];exact bg hQ
noncomputable def bq:List W->(Da->Prop)->Prop:=fun ws Q=>∃(p:List Rat)(cs:List (List Rat)),ws=[.d (ptD p),.d (ptsQ cs)]/\((CtOk cs)/\(∀q∈p,Bt 60 q))/\Q (Bw (Bv cs p))
theorem bq.mono:∀ws (Q Q':Da->Prop),(∀d,Q d->Q' d)->bq ws Q->bq ws Q':=fun _ _ _ h_=>El fun _=>El fun _=>DE (DE (h_ _))
theorem bq.len:∀ws (Q:Da->Prop),bq ws Q->ws.length=2:=fun _ _ h_=>by obtain⟨_,_,e_,_⟩:=h_;subst e_;rfl
theorem bq.eq(p:List Rat)(cs:List (List Rat))(hc:CtOk cs)(hp:∀q∈p,Bt 60 q):bq [.d (ptD p),.d (ptsQ cs)]=VL.ret (Bw (Bv cs p):Da):=by
 refine af fun Q=>⟨?_,fun q_=>⟨p,cs,rfl,⟨hc,hp⟩,q_⟩⟩;rintro⟨p',cs',e_,_,q_⟩;simp_arith only[gB,cF,cG,bS,bP,cS]at e_;obtain⟨rfl,rfl⟩:=e_;exact q_
theorem iz:FnScope ["point", "cuts"] ["point", "cuts"] (defScope (top 18)):=⟨rfl,rfl,rfl,by decide +kernel,rfl,by decide +kernel,by decide +kernel⟩
theorem d_patch_of(Fn:FnIn K mg "patch_of" (top 18) ["point", "cuts"])(Z:Bz mg)(d_stretch_of:∀rl,Dfn P w K mg base rl "stretch_of" ["x", "ends"] 2 aT)   : Dfn P w K mg base rl "patch_of" ["point", "cuts"] 3 bq:=by
 have sc:=iz;refine Dfn.of Fn sc (bq.mono) (bq.len) (fun cdv A outer s H E hr=>(av (aS (bX Z.tuple_ (aa (bw ["x", "ends"] [none,none] rfl (nv Z.zip_ (aa (vn 0) (aa (vn 1) ac))) (fun _=>(tR (n:=2) rfl (i_ (ax 0 (show E8 (["x", "ends"]:List Str) by decide +kernel)) (i_ (ax 1 (show E8 (["x", "ends"]:List Str) by decide +kernel)) qq)))) (fun _=>cr) (fun _=>(aC (d_stretch_of _) (hr.mono (by decide)) (aa (vn 0) (aa (vn 1) ac))))) ac))))) ?_;rintro ws Q ⟨p,cs,rfl,⟨hc,hp⟩,hQ⟩;refine aZ ?_;have sz:=DV;have s4:=hc.s4;simp_arith only[am,ah,C5];show ar (if(true:Bool)=true then some (i8 (List.map fr p) (List.map ptD cs))else none) _ _;rw[if_pos rfl,opt_some,i6];refine eA (xs:=p.zip cs) (enc:=fun z=>ER [fr z.1,ptD z.2]) (fun z=>.int ((stN z.1 z.2:Nat):Int)) rfl ?_ (by rw[Ho];omega) ?_
 · rintro⟨x,es⟩ hm;obtain⟨mx,ms⟩:=Hf hm;obtain⟨h12,he⟩:=hc.hi es ms;have hx:=hp x mx;simp_arith only[am,ah,BL,aT.eq,C5]
 · have e:((p.zip cs).map fun z=>DZ ((stN z.1 z.2:Nat):Int))=(Bv cs p).map fun k:Nat=>DZ (k:Int):=by unfold Bv;rw[Fg];rfl
   have g:((p.zip cs).map fun z=>DZ ((stN z.1 z.2:Nat):Int)).length<=sizeLine:=by rw[Di,Ho];omega
   try simp_arith only[am,ah]
   rw[e];exact bg hQ
noncomputable def aH:List W->(Da->Prop)->Prop:=fun ws Q=>∃(cs:List (List Rat)),ws=[.d (ptsQ cs)]/\((CtOk cs))/\Q (.int (((prodL (lnC cs)).length:Nat):Int))
theorem aH.mono:∀ws (Q Q':Da->Prop),(∀d,Q d->Q' d)->aH ws Q->aH ws Q':=fun _ _ _ h_=>El fun _=>DE (DE (h_ _))
theorem aH.len:∀ws (Q:Da->Prop),aH ws Q->ws.length=1:=fun _ _ h_=>by obtain⟨_,e_,_⟩:=h_;subst e_;rfl
theorem aH.eq(cs:List (List Rat))(hc:CtOk cs):aH [.d (ptsQ cs)]=VL.ret (.int (((prodL (lnC cs)).length:Nat):Int):Da):=by
 refine af fun Q=>⟨?_,fun q_=>⟨cs,rfl,hc,q_⟩⟩;rintro⟨cs',e_,_,q_⟩;simp_arith only[gB,cF,cG,bS,bP,cS]at e_;obtain rfl:=e_;exact q_
theorem dY:FnScope ["cuts", "many", "ends"] ["cuts"] (defScope (top 19)):=⟨rfl,rfl,rfl,by decide +kernel,rfl,by decide +kernel,by decide +kernel⟩
theorem d_many_patches(Fn:FnIn K mg "many_patches" (top 19) ["cuts"])(Z:Bz mg)    : Dfn P w K mg base rl "many_patches" ["cuts"] 1 aH:=by
 have sc:=dY
 refine Dfn.of Fn sc (aH.mono) (aH.len) (fun cdv A outer s H E hr=>(ak (aI 1 sc.nd ai)
  (ak (bN [2] Eu rfl (dC (vn 0)) (ax 2 sc.nd) (av (tH 1 sc.nd sg (v_add (di Z.len_ (aa (vn 2) ac)) ai))))
  (av (aS (vn 1)))))) ?_
 rintro ws Q ⟨cs,rfl,hc,hQ⟩;refine aZ ?_;have sz:=DV;simp_arith only[am,ah,C5];refine fq (xs:=cs) (enc:=ptD) (fun i ρ=>ρ=[some (.d (ptsQ cs)),some (.d (.int ((prodL (lnC (cs.take i))).length:Nat))),none]) rfl rfl ?_ ?_
 · rintro i hi ρ rfl K hK;have l12:=(hc.hi _ (Eb hi)).1;have tk:=hc.tk i;have e:(((prodL (lnC (cs.take i))).length:Nat):Int)*((cs[i].length:Int)+1)=((prodL (lnC (cs.take (i+1)))).length:Nat):=by rw[k7 hi,lB];push_cast;rfl
   have fin:=fun o=>hK (.nx [some (.d (ptsQ cs)),some (.d (.int ((prodL (lnC (cs.take (i+1)))).length:Nat))),o]) (bC rfl);have cm:dA (((prodL (lnC (cs.take i))).length:Nat):Int) ((cs[i].length:Int)+1):=.lt (by omega);generalize cs[i]=c at *;simp_arith only[am,ah,C5,e];exact fin _
 · rintro ρ rfl;rw[D1 (Dm _)];simp_arith only[am,ah];exact bg hQ
noncomputable def bQ:List W->(Da->Prop)->Prop:=fun ws Q=>∃(ms:List Nat),ws=[.d (.list (ms.map jS))]/\((∀i,(prodL (ms.take i)).length<=28561)/\(ms.length<=4)/\(∀m∈ms,m<=13))/\Q (.list ((prodL ms).map Bw))
theorem bQ.mono:∀ws (Q Q':Da->Prop),(∀d,Q d->Q' d)->bQ ws Q->bQ ws Q':=fun _ _ _ h_=>El fun _=>DE (DE (h_ _))
theorem bQ.len:∀ws (Q:Da->Prop),bQ ws Q->ws.length=1:=fun _ _ h_=>by obtain⟨_,e_,_⟩:=h_;subst e_;rfl
theorem bQ.eq(ms:List Nat)(h4:∀i,(prodL (ms.take i)).length<=28561)(h5:ms.length<=4)(h13:∀m∈ms,m<=13):bQ [.d (.list (ms.map jS))]=VL.ret (.list ((prodL ms).map Bw):Da):=by
 refine af fun Q=>⟨?_,fun q_=>⟨ms,rfl,⟨h4,h5,h13⟩,q_⟩⟩;rintro⟨ms',e_,_,q_⟩;simp_arith only[gB,cF,cG,bS,bP,cS,nL]at e_;obtain rfl:=e_;exact q_
theorem jR:FnScope ["rows", "chosen", "row"] ["rows"] (defScope (top 1)):=⟨rfl,rfl,rfl,by decide +kernel,rfl,by decide +kernel,by decide +kernel⟩
theorem d_choices(Fn:FnIn K mg "choices" (top 1) ["rows"])(Z:Bz mg)    : Dfn P w K mg base rl "choices" ["rows"] 1 bQ:=by
 have sc:=jR
 refine Dfn.of Fn sc (bQ.mono) (bQ.len) (fun cdv A outer s H E hr=>(ak (aI 1 sc.nd (cu (aa (bL ac) ac)))
  (ak (bN [2] Eu rfl (cL (vn 0)) (ax 2 sc.nd) (av (im 1 sc.nd ["begun", "thing", "row"] [none,none,some 2] rfl (cL (vn 1)) (fun _=>(ax 0 (show E8 (["begun", "thing", "row"]:List Str) by decide +kernel))) (fun _=>cr) (fun _=>(cL (vn 2))) (fun _=>(ax 1 (show E8 (["begun", "thing", "row"]:List Str) by decide +kernel))) (fun _=>cr) (fun _=>(ph (vn 0) (bL (aa (vn 1) ac)))))))
  (av (aS (vn 1)))))) ?_
 rintro ws Q ⟨ms,rfl,⟨h4,h5,h13⟩,hQ⟩;refine aZ ?_;have sz:=DV;simp_arith only[am,ah];refine fq (xs:=ms) (enc:=jS) (fun i ρ=>ρ=[some (.d (.list (ms.map jS))),some (.d (.list ((prodL (ms.take i)).map Bw))),none]) rfl rfl ?_ ?_
 · rintro i hi ρ rfl K hK;have m13:=h13 _ (Eb hi);have l1:=h4 (i+1);have tk:ms.take (i+1)=ms.take i++[ms[i]]:=Er hi;rw[tk,cf]at l1;have rl:∀r∈prodL (ms.take i),r.length<=4:=fun r mr=>by rw[(bZ mr).1,Ev];omega
   have fin:=fun o=>hK (.nx [some (.d (.list (ms.map jS))),some (.d (.list (((prodL (ms.take i)).flatMap fun r=>(DO ms[i]).map fun k=>r++[k]).map Bw))),o]) (bC (by rw[tk,cf];rfl));generalize ms[i]=m at *;simp_arith only[am,ah,C6,jS];refine yu (xs:=prodL (ms.take i)) (enc:=Bw) (fun b=>(DO m).map fun k=>Bw (b++[k])) rfl ?_ ?_ ?_
   · intro b mb acc ha;have bl:=rl b mb;rw[Di,Fj]at ha;simp_arith only[am,ah,pJ,jS,Bw];rw[show aE 0 m=(DO m).map fun k:Nat=>DZ (0+(k:Int))from rfl,db (enc:=fun k:Nat=>DZ (0+(k:Int))) (fun k:Nat=>some (Bw (b++[k]))) (DO m) acc ?_ (by rw[Fj];exact ha),Iz]
     · rfl
     intro k mk;have hb2:b.length+1<=sizeLine:=by omega
     simp_arith only[am,ah,BL];simp[Bw]
   · rw[mH,Di];omega
   · rw[mH]
     try simp_arith only[am,ah]
     exact fin _
 · rintro ρ rfl;rw[D1 (Dm _)];simp_arith only[am,ah];exact bg hQ
noncomputable def aU:List W->(Da->Prop)->Prop:=fun ws Q=>∃(cs:List (List Rat)),ws=[.d (ptsQ cs)]/\((CtOk cs))/\Q (.list ((prodL (lnC cs)).map Bw))
theorem aU.mono:∀ws (Q Q':Da->Prop),(∀d,Q d->Q' d)->aU ws Q->aU ws Q':=fun _ _ _ h_=>El fun _=>DE (DE (h_ _))
theorem aU.len:∀ws (Q:Da->Prop),aU ws Q->ws.length=1:=fun _ _ h_=>by obtain⟨_,e_,_⟩:=h_;subst e_;rfl
theorem aU.eq(cs:List (List Rat))(hc:CtOk cs):aU [.d (ptsQ cs)]=VL.ret (.list ((prodL (lnC cs)).map Bw):Da):=by
 refine af fun Q=>⟨?_,fun q_=>⟨cs,rfl,hc,q_⟩⟩;rintro⟨cs',e_,_,q_⟩;simp_arith only[gB,cF,cG,bS,bP,cS]at e_;obtain rfl:=e_;exact q_
theorem fR:FnScope ["cuts"] ["cuts"] (defScope (top 20)):=⟨rfl,rfl,rfl,by decide +kernel,rfl,by decide +kernel,by decide +kernel⟩
theorem d_patches_of(Fn:FnIn K mg "patches_of" (top 20) ["cuts"])(Z:Bz mg)(d_choices:∀rl,Dfn P w K mg base rl "choices" ["rows"] 1 bQ)   : Dfn P w K mg base rl "patches_of" ["cuts"] 2 aU:=by
 have sc:=fR;refine Dfn.of Fn sc (aU.mono) (aU.len) (fun cdv A outer s H E hr=>(av (aS (aC (d_choices _) (hr.mono (by decide)) (aa (bw ["ends"] [none] rfl (dC (vn 0)) (fun _=>(ax 0 (show E8 (["ends"]:List Str) by decide +kernel))) (fun _=>cr) (fun _=>(kS Z.list_ Z.range_ (aa (v_add (di Z.len_ (aa (vn 0) ac)) ai) ac)))) ac))))) ?_;rintro ws Q ⟨cs,rfl,hc,hQ⟩;refine aZ ?_;have sz:=DV;have s4:=hc.s4;simp_arith only[am,ah,C5];refine eA (xs:=cs) (enc:=ptD) (fun c=>jS (c.length+1)) rfl ?_ (by omega) ?_
 · intro c mc;have l12:=(hc.hi c mc).1;have e:((c.length:Int)+1).toNat=c.length+1:=by omega
   have g:c.length+1<=2^24:=by omega
   have g2 : -2^62<=(c.length:Int)+1/\(c.length:Int)+1<2^62:=by omega
   simp_arith only[am,ah,BL,C5,e,jS]
 · have e:(cs.map fun c=>jS (c.length+1))=(lnC cs).map jS:=by unfold lnC;rw[Fg];rfl
   have h4:∀i,(prodL ((lnC cs).take i)).length<=28561:=fun i=>by rw[<- vK];exact hc.tk i
   have h5:(lnC cs).length<=4:=by rw[f_];exact s4
   have h13:=pG hc;simp_arith only[am,ah,e,bQ.eq];exact bg hQ
theorem bJ(k:List (List Int×Da)):(W.xm k).isPk=false:=rfl
theorem gz(r:List Nat):eP (.d (Bw r))=some (nI r):=by rw[<- qY];exact wo (nI r)
noncomputable def aJ:List W->(Da->Prop)->XQ->Prop:=fun ws Q R=>∃(ps cs:List (List Rat)),ws=[.d (ptsQ ps),.d (ptsQ cs)]/\((CtOk cs)/\(nj cs.length ps))/\((1000<(prodL (lnC cs)).length)->R "TooMany" [("word", .str "patches")])/\(¬(1000<(prodL (lnC cs)).length)->Q (pR cs ps))
theorem aJ.mono:∀ws (Q Q':Da->Prop) (R R':XQ),(∀d,Q d->Q' d)->(∀c fs,R c fs->R' c fs)->aJ ws Q R->aJ ws Q' R':=fun _ _ _ _ _ h1 h2 ⟨ps,cs,e_,p_,a_,b_⟩=>⟨ps,cs,e_,p_,fun z=>h2 _ _ (a_ z),fun z=>h1 _ (b_ z)⟩
theorem aJ.len:∀ws (Q:Da->Prop) (R:XQ),aJ ws Q R->ws.length=2:=fun _ _ _ ⟨_,_,e_,_⟩=>by subst e_;rfl
theorem iC:FnScope ["points", "cuts", "counts", "point"] ["points", "cuts"] (defScope (top 21)):=⟨rfl,rfl,rfl,by decide +kernel,rfl,by decide +kernel,by decide +kernel⟩
theorem dE_counted(Fn:FnIn K mg "counted" (top 21) ["points", "cuts"])(Z:Bz mg)(d_many_patches:∀rl,Dfn P w K mg base rl "many_patches" ["cuts"] 1 aH)(d_patches_of:∀rl,Dfn P w K mg base rl "patches_of" ["cuts"] 2 aU)(d_patch_of:∀rl,Dfn P w K mg base rl "patch_of" ["point", "cuts"] 3 bq)(gl_MOST_PATCHES:GlD K mg "MOST_PATCHES" (.int 1000))(xo_:∃C,XOne P w K mg base "TooMany" "word" C):DfnE P w K mg base rl "counted" ["points", "cuts"] 4 aJ:=by
 have sc:=iC;obtain⟨C_,xo⟩:=xo_
 refine DfnE.of Fn sc aJ.mono aJ.len (fun cdv A outer s H E hr hxe=>As hxe (hr.mono (by decide)) xo (bo jW jM (bj _) (aC (d_many_patches _) (hr.mono (by decide)) (aa (vn 1) ac)) (t9 gl_MOST_PATCHES)) (aa gZ ac) (Ar (ak (gE 2 sc.nd ["patch"] [none] hr.units rfl (cL (aC (d_patches_of _) (hr.mono (by decide)) (aa (vn 1) ac))) (fun _=>(ax 0 (show E8 (["patch"]:List Str) by decide +kernel))) (fun _=>cr) (fun _=>(vn 0)) (fun _=>ai))
  (ak (bN [3] Eu rfl (dC (vn 0)) (ax 3 sc.nd) (av (qi 2 hr.units (aC (d_patch_of _) (hr.mono (by decide)) (aa (vn 3) (aa (vn 1) ac))) ai)))
  (av (aS (t6 2 rfl Z.tuple_))))))) ?_
 rintro ws Q R ⟨ps,cs,rfl,⟨hc,hps⟩,hR,hQ⟩;by_cases hc:1000<(prodL (lnC cs)).length
 · refine wQ (.str "patches") ?_ ?_ (hR hc)
   · have n0:decide ((1000:Int)<(((prodL (lnC cs)).length:Nat):Int))=true:=by simp;omega
     simp_arith only[ah,C5,aH.eq,aU.eq,bq.eq,n0]
   · simp_arith only[ah]
 · have hQ:=hQ hc;refine wR ?_ (show _ from ?_)
   · have n0:decide ((1000:Int)<(((prodL (lnC cs)).length:Nat):Int))=false:=by simp;omega
     simp_arith only[ah,C5,aH.eq,aU.eq,bq.eq,n0]
   · refine aZ ?_;have sz:=DV;have p40:=hps.2.1;have nd:=cO (lnC cs);simp_arith only[am,ah,aH.eq,aU.eq,bq.eq,C5,bc,bF,bI,ba,bH,bE,bG,Bl,iy,iZ,iY,bJ];refine Bi (qb (xs:=prodL (lnC cs)) (enc:=Bw) (fun r=>(nI r,.int 0)) rfl ?_ (by omega) ?_)
     · intro r mr;simp_arith only[am,ah,ma,gz]
     rw[m9 (fun _=>0) nd];simp_arith only[am,ah,aH.eq,aU.eq,bq.eq,C5,bc,bF,bI,ba,bH,bE,bG,Bl,iy,iZ,iY,bJ];refine fq (xs:=ps) (enc:=ptD) (fun i ρ=>ρ=[some (.d (ptsQ ps)),some (.d (ptsQ cs)),some (.xm (BJ (prodL (lnC cs)) (BY cs (ps.take i)))),none]) rfl rfl ?_ ?_
     · rintro i hi ρ rfl K hK;obtain⟨pl,hp⟩:=hps.2.2 _ (Eb hi);have kl:=l4 (prodL (lnC cs)) (BY cs (ps.take i));have kz:(BJ (prodL (lnC cs)) (BY cs (ps.take i))).length<sizeLine:=by omega
       have vv:=fN (c:=BY cs (ps.take i)) (fU pl);have pv:=pB (cs:=cs) (ps.take i) pl;rw[<- Er hi]at pv;have cl:=mU cs (ps.take i) (Bv cs ps[i]);rw[Ev]at cl;generalize ps[i]=p at *;simp_arith only[am,ah,aH.eq,aU.eq,bq.eq,C5,bc,bF,bI,ba,bH,bE,bG,Bl,iy,iZ,iY,bJ,gz,vv,pv,kz];exact hK _ (bC rfl)
     · rintro ρ rfl;rw[D1 (Dm _)];simp_arith only[am,ah,aH.eq,aU.eq,bq.eq,C5,bc,bF,bI,ba,bH,bE,bG,Bl,iy,iZ,iY,bJ];exact bg hQ
theorem p__law_told.eq(ps cs:List (List Rat))(hc:CtOk cs)(hps:nj cs.length ps):gL "TooMany" "word" aJ [.d (ptsQ ps),.d (ptsQ cs)]=VL.ret (if 1000<(prodL (lnC cs)).length then ER [.str "no", .str "patches"]else(pR cs ps)):=by
 refine af fun Q=>⟨?_,fun q_=>⟨⟨_,_,rfl⟩,ps,cs,rfl,⟨hc,hps⟩,fun z=>⟨rfl,_,rfl,by rw[if_pos z]at q_;exact q_⟩,fun z=>by rw[if_neg z]at q_;exact q_⟩⟩;rintro⟨_,ps',cs',e_,_,hR,hQ⟩;simp only[DI,W.d.injEq,Ip,Ii.injEq,Da.str.injEq,GY,Ex,and_true,true_and,gB,cF,cG,bS,bP,cS]at e_;obtain⟨rfl,rfl⟩:=e_;show Q _;split
 · rename_i z;obtain⟨_,d,ed,q_⟩:=hR z;simp only[DI,Ia,and_true,true_and]at ed;subst ed;exact q_
 · rename_i z;exact hQ z
theorem gQ:FnScope ["_law_spots", "_law_cuts", "_law_found", "e", "_law_alone"] ["_law_spots", "_law_cuts"] (defScope (top 29)):=⟨rfl,rfl,rfl,by decide +kernel,rfl,by decide +kernel,by decide +kernel⟩
theorem d__law_told(Fn:FnIn K mg "_law_told" (top 29) ["_law_spots", "_law_cuts"])(Z:Bz mg)(dE_counted:∀rl,DfnE P w K mg base rl "counted" ["points", "cuts"] 4 aJ)(xc_:XCl K mg "TooMany" "word" "EvenError" "TooMany.__init__" (inClass (top 6) 0) ["self", "word"] ["NoDeed", "NoNet", "NoPaper", "NoRoom", "NoRow", "NoText", "NoUpper", "Nought"]):Dfn P w K mg base rl "_law_told" ["_law_spots", "_law_cuts"] 5 (gL "TooMany" "word" aJ):=by
 have sc:=gQ;obtain⟨C,B,f,fd,Cs,ns,mC,mB,M,na,ov,_,_,pr,k0,k1,k2,zV⟩:=xc_.ex;have un:∀C',D7 K Ds "TooMany" = some (some (.ref C'))->C'=C:=fun C' e=>by rw[ns]at e;cases e;rfl
 have x0:∀C',D7 K Ds "TooMany" = some (some (.ref C'))->XCls K C'/\PySem.W.kitAny K (.ref C') (Cs.map Dn)=some false:=fun C' e=>by cases un C' e;exact⟨M.cl,k0⟩
 have x1:∀C',D7 K Ds "TooMany" = some (some (.ref C'))->XCls K C'/\PySem.W.kitOne K (.ref C') (.ref C)=some true:=fun C' e=>by cases un C' e;exact⟨M.cl,k1⟩
 have x2:∀C',D7 K Ds "TooMany" = some (some (.ref C'))->XCls K C'/\PySem.W.kitOne K (.ref C') (.type "ValueError")=some true:=fun C' e=>by cases un C' e;exact⟨M.cl,k2⟩
 have x3:∀C',D7 K Ds "TooMany" = some (some (.ref C'))->XCls K C'/\df K C' "word" := fun C' e=>by cases un C' e;exact⟨M.cl,na⟩
 have x4:∀c'∈(["TooMany"]:List Str),∀C',D7 K Ds c'=some (some (.ref C'))->XOver K C' B:=fun c' hc C' e=>by
  cases FC.mp hc;cases un C' e;exact ov
 obtain⟨c1,c2,c3,c4,c5,c6,c7,c8,rfl,m1,m2,m3,m4,m5,m6,m7,m8⟩:∃c1 c2 c3 c4 c5 c6 c7 c8,Cs=[c1,c2,c3,c4,c5,c6,c7,c8]/\mg "NoDeed" = some (.ref c1)/\mg "NoNet" = some (.ref c2)/\mg "NoPaper" = some (.ref c3)/\mg "NoRoom" = some (.ref c4)/\mg "NoRow" = some (.ref c5)/\mg "NoText" = some (.ref c6)/\mg "NoUpper" = some (.ref c7)/\mg "Nought" = some (.ref c8):=by
  cases pr with|cons m1 pr=>cases pr with|cons m2 pr=>cases pr with|cons m3 pr=>cases pr with|cons m4 pr=>cases pr with|cons m5 pr=>cases pr with|cons m6 pr=>cases pr with|cons m7 pr=>cases pr with|cons m8 pr=>cases pr;exact⟨_,_,_,_,_,_,_,_,rfl,m1,m2,m3,m4,m5,m6,m7,m8⟩
 refine Dfn.of Fn sc (gL.mono (c := "TooMany") (n := "word") aJ.mono) gL.len (t:=uv "TooMany" "word" aJ) (fun cdv A outer s H E hr=>?_) (k6 rfl aJ.mono)
 exact ak (cJ 2 sc.nd lw) (ak (tE (B:=B) 3 rfl rfl sc.nd rfl rfl mB x4
  (fun pn XE E' hx=>yr 2 hx sc.nd (dE_counted rl) hr (aa (vn 0) (aa (vn 1) ac)))
  (fun a=>ak (cJ 4 sc.nd (v_not (t7 3 (Cs:=[c1,c2,c3,c4,c5,c6,c7,c8]) Z.isinstance_ x0 (bV m1 (bV m2 (bV m3 (bV m4 (bV m5 (bV m6 (bV m7 (bV m8 rF)))))))) (by rw[GU];exact(by decide:8<=16777216)))))
   (av (cJ 2 sc.nd (dS (CF.pb (gH (eS (pg 3 (v:=.ref C) Z.isinstance_ x1 (iF rfl mC rfl) (fun u e=>e))) (gH (eS (pg 3 (v:=.ty "ValueError") Z.isinstance_ x2 (rE rfl zV rfl rfl) (fun u e=>e))) (fJ (eS (vn 4))))))
    (bL (aa gZ (aa (tZ 3 x3) ac))) gZ)))))
  (av (aS (vn 2))))
noncomputable def aL:List W->(Da->Prop)->Prop:=fun ws Q=>∃(q r:Rat),ws=[.d (fr q),.d (fr r)]/\((Bt 2000 q)/\(Bt 2000 r))/\Q (.bool (decide (q<r)))
theorem aL.mono:∀ws (Q Q':Da->Prop),(∀d,Q d->Q' d)->aL ws Q->aL ws Q':=fun _ _ _ h_=>El fun _=>El fun _=>DE (DE (h_ _))
theorem aL.len:∀ws (Q:Da->Prop),aL ws Q->ws.length=2:=fun _ _ h_=>by obtain⟨_,_,e_,_⟩:=h_;subst e_;rfl
theorem aL.eq(q r:Rat)(h1:Bt 2000 q)(h2:Bt 2000 r):aL [.d (fr q),.d (fr r)]=VL.ret (.bool (decide (q<r)):Da):=by
 refine af fun Q=>⟨?_,fun q_=>⟨q,r,rfl,⟨h1,h2⟩,q_⟩⟩;rintro⟨q',r',e_,_,q_⟩;simp_arith only[gB,cF,cG,bS,bP,cS]at e_;obtain⟨rfl,rfl⟩:=e_;exact q_
theorem fS:FnScope ["_law_one", "_law_other"] ["_law_one", "_law_other"] (defScope (top 28)):=⟨rfl,rfl,rfl,by decide +kernel,rfl,by decide +kernel,by decide +kernel⟩
theorem d__law_below(Fn:FnIn K mg "_law_below" (top 28) ["_law_one", "_law_other"])(Z:Bz mg)    : Dfn P w K mg base rl "_law_below" ["_law_one", "_law_other"] 1 aL:=by
 have sc:=fS;refine Dfn.of Fn sc (aL.mono) (aL.len) (fun cdv A outer s H E hr=>(av (aS (t_ vt tI (bj _) (v_mul (eJ (vn 0) ai) (eJ (vn 1) ai)) (v_mul (eJ (vn 1) ai) (eJ (vn 0) ai)))))) ?_;rintro ws Q ⟨q,r,rfl,⟨h1,h2⟩,hQ⟩;refine aZ ?_;have m1:dA q.num r.den:=.bb h1.bn h2.bd;have m2:dA r.num q.den:=.bb h2.bn h1.bd;simp_arith only[am,ah,C5,wa];exact bg hQ
noncomputable def evC(n:Nat):List Rat:=(DO n).map fun k:Nat=>qd (1+(k:Int)) ((n:Int)+1)
theorem pP(h:n<=12):(evC n).length<=12/\∀q∈evC n,Bt 60 q:=by
 refine⟨by unfold evC;rw[Di,Fj];exact h,fun q mq=>?_⟩;obtain⟨k,mk,rfl⟩:=Eg.mp mq;have:=FH.mp mk;exact uU (by omega) (by omega) (by omega)
noncomputable def Ct(c:List Rat):Prop:=c.length<=12/\∀q∈c,Bt 60 q
theorem CtOk.of(h4:cs.length<=4)(h:∀c∈cs,Ct c):CtOk cs:=⟨h4,h⟩
noncomputable def BX(ns:List Nat):List (List Rat):=ns.map evC
theorem pO{ns:List Nat}(h4:ns.length<=4)(h:∀n∈ns,n<=12):CtOk (BX ns)/\(BX ns).length=ns.length:=by
 refine⟨CtOk.of (by unfold BX;rw[Di];exact h4) fun c mc=>?_,Di ..⟩;obtain⟨n,mn,rfl⟩:=Eg.mp mc;exact pP (h n mn)
theorem yq(ns:List Nat):ER (ns.map fun n=>ptD (evC n))=ptsQ (BX ns):=by unfold BX ptsQ;rw[Fg];rfl
noncomputable def aw:List W->(Da->Prop)->Prop:=fun ws Q=>∃(n:Nat),ws=[.d (.int (n:Int))]/\((n<=12))/\Q (ptD (evC n))
theorem aw.mono:∀ws (Q Q':Da->Prop),(∀d,Q d->Q' d)->aw ws Q->aw ws Q':=fun _ _ _ h_=>El fun _=>DE (DE (h_ _))
theorem aw.len:∀ws (Q:Da->Prop),aw ws Q->ws.length=1:=fun _ _ h_=>by obtain⟨_,e_,_⟩:=h_;subst e_;rfl
theorem aw.eq(n:Nat)(h12:n<=12):aw [.d (.int (n:Int))]=VL.ret (ptD (evC n):Da):=by
 refine af fun Q=>⟨?_,fun q_=>⟨n,rfl,h12,q_⟩⟩;rintro⟨n',e_,_,q_⟩;simp_arith only[gB,cF,cG,bS,bP,cS,Int.natCast_inj]at e_;obtain rfl:=e_;exact q_
theorem dq:FnScope ["_law_many"] ["_law_many"] (defScope (top 31)):=⟨rfl,rfl,rfl,by decide +kernel,rfl,by decide +kernel,by decide +kernel⟩
theorem d__law_even_cuts(Fn:FnIn K mg "_law_even_cuts" (top 31) ["_law_many"])(Z:Bz mg)(d__law_made:∀rl,Dfn P w K mg base rl "_law_made" ["_law_top", "_law_bottom"] 1 aV)   : Dfn P w K mg base rl "_law_even_cuts" ["_law_many"] 2 aw:=by
 have sc:=dq;refine Dfn.of Fn sc (aw.mono) (aw.len) (fun cdv A outer s H E hr=>(av (aS (bX Z.tuple_ (aa (bw ["_law_k", "_law_many"] [none,some 0] rfl (kO Z.range_ (aa ai (aa (v_add (vn 0) ai) ac))) (fun _=>(ax 0 (show E8 (["_law_k", "_law_many"]:List Str) by decide +kernel))) (fun _=>cr) (fun _=>(aC (d__law_made _) (hr.mono (by decide)) (aa (vn 0) (aa (v_add (vn 1) ai) ac))))) ac))))) ?_;rintro ws Q ⟨n,rfl,h12,hQ⟩;refine aZ ?_;have sz:=DV;have e0:((n:Int)+1-1).toNat=n:=by omega
 have g0 : -2^62<=(n:Int)+1/\(n:Int)+1<2^62:=by omega
 have g1:n<=2^24:=by omega
 simp_arith only[am,ah,C5,e0];refine jF (fun k:Nat=>fr (qd (1+(k:Int)) ((n:Int)+1))) ?_ (by omega) ?_
 · intro k hk;have b0:0<(n:Int)+1:=by omega
   have bz:((n:Int)+1).natAbs<2^8000:=Dk (show _<2^60 by omega) (DQ (by decide) (by decide));simp_arith only[am,ah,BL,C5,aV.eq]
 · have e:((DO n).map fun k:Nat=>fr (qd (1+(k:Int)) ((n:Int)+1)))=(evC n).map fr:=by unfold evC;rw[Fg];rfl
   rw[e];have g:((evC n).map fr).length<=sizeLine:=by have:=(pP h12).1;rw[Di];omega
   try simp_arith only[am,ah]
   exact bg hQ
noncomputable def tN(ns:List Nat):Da:=.tuple (ns.map fun n:Nat=>.int (n:Int))
noncomputable def aB:List W->(Da->Prop)->Prop:=fun ws Q=>∃(s:Int),ws=[.reel,.d (.int s)]/\((1<=s)/\(s<=4))/\∀cs:List (List Rat),(CtOk cs/\cs.length=s.toNat)->Q (ptsQ cs)
theorem aB.mono:∀ws (Q Q':Da->Prop),(∀d,Q d->Q' d)->aB ws Q->aB ws Q':=fun _ _ _ h_=>El fun _=>DE (DE fun q_ o_ ho_=>h_ _ (q_ o_ ho_))
theorem aB.len:∀ws (Q:Da->Prop),aB ws Q->ws.length=2:=fun _ _ h_=>by obtain⟨_,e_,_⟩:=h_;subst e_;rfl
theorem aB.eq(s:Int)(s1:1<=s)(s4:s<=4):aB [.reel,.d (.int s)]=BZ (anyM fun cs:List (List Rat)=>CtOk cs/\cs.length=s.toNat) fun cs=>VL.ret (ptsQ cs:Da):=by
 refine af fun Q=>⟨?_,fun q_=>⟨s,rfl,⟨s1,s4⟩,q_⟩⟩;rintro⟨s',e_,_,q_⟩;simp_arith only[gB,cF,cG,bS,bP,cS]at e_;obtain rfl:=e_;exact q_
theorem dn:FnScope ["_law_reel_here", "_law_s", "_law_menu"] ["_law_reel_here", "_law_s"] (defScope (top 32)):=⟨rfl,rfl,rfl,by decide +kernel,rfl,by decide +kernel,by decide +kernel⟩
theorem d__law_many_cuts(Fn:FnIn K mg "_law_many_cuts" (top 32) ["_law_reel_here", "_law_s"])(Z:Bz mg)(d__law_even_cuts:∀rl,Dfn P w K mg base rl "_law_even_cuts" ["_law_many"] 2 aw)(d__law_pick:∀rl,Dfn P w K mg base rl "_law_pick" ["_law_reel_here", "_law_many"] 1 aF)   : Dfn P w K mg base rl "_law_many_cuts" ["_law_reel_here", "_law_s"] 3 aB:=by
 have sc:=dn
 refine Dfn.of Fn sc (aB.mono) (aB.len) (fun cdv A outer s H E hr=>(ak (cJ 2 sc.nd (cu (aa (cu (aa (bL (aa ai ac)) (aa (bL (aa ai ac)) (aa (bL (aa ai ac)) ac)))) (aa (cu (aa (bL (aa ai (aa ai ac))) (aa (bL (aa ai (aa ai ac))) (aa (bL (aa ai (aa ai ac))) ac)))) (aa (cu (aa (bL (aa ai (aa ai (aa ai ac)))) (aa (bL (aa ai (aa ai (aa ai ac)))) (aa (bL (aa ai (aa ai (aa ai ac)))) ac)))) ac)))))
  (ak (i9 2 (aa (cu (aa (bL (aa ai (aa ai (aa ai (aa ai ac))))) (aa (bL (aa ai (aa ai (aa ai (aa ai ac))))) (aa (bL (aa ai (aa ai (aa ai (aa ai ac))))) ac)))) ac))
  (av (kM 2 (aS (bX Z.tuple_ (aa (bw ["_law_many"] [none] rfl (dC (eJ (eJ (vn 2) (v_sub (vn 1) ai)) (aC (d__law_pick _) (hr.mono (by decide)) (aa (vn 0) (aa ai ac))))) (fun _=>(ax 0 (show E8 (["_law_many"]:List Str) by decide +kernel))) (fun _=>cr) (fun _=>(aC (d__law_even_cuts _) (hr.mono (by decide)) (aa (vn 0) ac)))) ac)))))))) ?_
 rintro ws Q ⟨s,rfl,⟨s1,s4⟩,hQ⟩;refine aZ ?_;have sz:=DV;simp_arith only[am,ah,aF.eq,C5]
 have main:∀r:List (List Nat),r.length=3->(∀ns∈r,ns.length=s.toNat/\∀n∈ns,n<=12)->(BZ (anyM fun k=>0<=k/\k<3) fun a_1=>ar (VL.itemAt (.list (r.map tN)) a_1) fun a=>ar (tupD a) fun a=>BZ (bv (BL [none] (sv 0) (fun x Q=>Q true) (wZ aw (ay (dj 0) jN))) a []) fun a=>VL.ret (Fl.rt (W.d (ER a)))) (s_ Q):=by
  intro r hr h w hw;show ar (atI (r.map tN) w) _ _;refine b6 (xs:=r) (enc:=tN) (fun ns=>ns.length=s.toNat/\∀n∈ns,n<=12) rfl hw.1 (by omega) h fun ns hns=>?_;show BZ (bv _ (ns.map fun n:Nat=>DZ (n:Int)) []) _ _;refine eA (xs:=ns) (enc:=fun n:Nat=>DZ (n:Int)) (fun n=>ptD (evC n)) rfl ?_ (by omega) ?_
  · intro n mn;have h12:=hns.2 n mn;simp_arith only[am,ah,BL,aw.eq]
  · rw[yq];exact bg (hQ _ ⟨(pO (by omega) hns.2).1,(pO (by omega) hns.2).2.trans hns.1⟩)
 obtain rfl|rfl|rfl|rfl:s=1\/s=2\/s=3\/s=4:=by omega
 · exact main [[12],[12],[11]] rfl (by decide)
 · exact main [[12,12],[12,1],[0,12]] rfl (by decide)
 · exact main [[9,9,9],[6,10,12],[12,12,12]] rfl (by decide)
 · exact main [[4,4,4,7],[9,9,9,0],[12,10,6,0]] rfl (by decide)
noncomputable def aA:List W->(Da->Prop)->Prop:=fun ws Q=>∃(ps:List (List Rat))(k:Int),ws=[.reel,.d (ptsQ ps),.d (.int k)]/\((1<=ps.length)/\(ps.length<=40)/\(0<=k)/\(∀p∈ps,k<(p.length:Int)/\∀q∈p,Bt 60 q))/\∀c:List Rat,(Ct c)->Q (ptD c)
theorem aA.mono:∀ws (Q Q':Da->Prop),(∀d,Q d->Q' d)->aA ws Q->aA ws Q':=fun _ _ _ h_=>El fun _=>El fun _=>DE (DE fun q_ o_ ho_=>h_ _ (q_ o_ ho_))
theorem aA.len:∀ws (Q:Da->Prop),aA ws Q->ws.length=3:=fun _ _ h_=>by obtain⟨_,_,e_,_⟩:=h_;subst e_;rfl
theorem aA.eq(ps:List (List Rat))(k:Int)(h1:1<=ps.length)(h40:ps.length<=40)(k0:0<=k)(hp:∀p∈ps,k<(p.length:Int)/\∀q∈p,Bt 60 q):aA [.reel,.d (ptsQ ps),.d (.int k)]=BZ (anyM fun c:List Rat=>Ct c) fun c=>VL.ret (ptD c:Da):=by
 refine af fun Q=>⟨?_,fun q_=>⟨ps,k,rfl,⟨h1,h40,k0,hp⟩,q_⟩⟩;rintro⟨ps',k',e_,_,q_⟩;simp_arith only[gB,cF,cG,bS,bP,cS]at e_;obtain⟨rfl,rfl⟩:=e_;exact q_
theorem dm:FnScope ["_law_reel_here", "_law_spots", "_law_side", "_law_found", "_law_k", "_law_one"] ["_law_reel_here", "_law_spots", "_law_side"] (defScope (top 30)):=⟨rfl,rfl,rfl,by decide +kernel,rfl,by decide +kernel,by decide +kernel⟩
theorem d__law_some_cuts(Fn:FnIn K mg "_law_some_cuts" (top 30) ["_law_reel_here", "_law_spots", "_law_side"])(Z:Bz mg)(d__law_pick:∀rl,Dfn P w K mg base rl "_law_pick" ["_law_reel_here", "_law_many"] 1 aF)(d__law_number:∀rl,Dfn P w K mg base rl "_law_number" ["_law_reel_here"] 2 aG)(d__law_below:∀rl,Dfn P w K mg base rl "_law_below" ["_law_one", "_law_other"] 1 aL)   : Dfn P w K mg base rl "_law_some_cuts" ["_law_reel_here", "_law_spots", "_law_side"] 3 aA:=by
 have sc:=dm
 refine Dfn.of Fn sc (aA.mono) (aA.len) (fun cdv A outer s H E hr=>(ak (cJ 3 sc.nd (cu ac))
  (ak (bN [4,5] Eu rfl (bO Z.range_ (aa (aC (d__law_pick _) (hr.mono (by decide)) (aa (vn 0) (aa (eJ (cu (aa ai (aa ai (aa ai (aa ai ac))))) (aC (d__law_pick _) (hr.mono (by decide)) (aa (vn 0) (aa ai ac)))) ac))) ac)) (ax 4 sc.nd) (ak (aI 5 sc.nd (aC (d__law_number _) (hr.mono (by decide)) (aa (vn 0) ac)))
  (ak (gF (bo (ji hr.units) eR (bj _) (aC (d__law_pick _) (hr.mono (by decide)) (aa (vn 0) (aa ai ac))) ai) (av (aI 5 sc.nd (eJ (eJ (vn 1) (aC (d__law_pick _) (hr.mono (by decide)) (aa (vn 0) (aa (di Z.len_ (aa (vn 1) ac)) ac)))) (vn 2)))) dB)
  (av (gF (CF.pb (gH (bo jW jM (bj _) (eJ (vn 5) ai) ai) (fJ (bo (lK hr.u65) tK (by with_unfolding_all rfl) (vn 5) (vn 3))))) (av (tF 3 (aa (di Z.len_ (aa (nA ["_law_cut", "_law_one"] [none,some 5] rfl (tQ 3) (fun _=>(ax 0 (show E8 (["_law_cut", "_law_one"]:List Str) by decide +kernel))) (fun _=>kH (eS (aC (d__law_below _) (hr.mono (by decide)) (aa (vn 0) (aa (vn 1) ac))))) (fun _=>(vn 0))) ac)) (aa (vn 5) ac)))) dB)))))
  (av (aS (bX Z.tuple_ (aa (vn 3) ac))))))) ?_
 rintro ws Q ⟨ps,k,rfl,⟨h1,h40,k0,hp⟩,hQ⟩;refine aZ ?_;have sz:=DV;have l1:(0:Int)<(ps.length:Int):=by omega
 have l2:(ps.length:Int)<2^60:=by omega
 simp_arith only[am,ah,aF.eq,C5]
 (with_reducible (first|refine au fun a ha=>?_|refine az fun a ha=>?_))
 try simp_arith only[am,ah,aF.eq,C5]
 refine Bh (b6 (xs:=[2,3,5,13]) (enc:=DZ) (fun m=>1<=m/\m<=13) rfl ha.1 (by show a<4;omega) (by decide) fun m hm=>?_);simp_arith only[am,ah,aF.eq,C5]
 (with_reducible (first|refine au fun n hn=>?_|refine az fun n hn=>?_))
 try simp_arith only[am,ah,aF.eq,C5]
 refine d9 (fun i ρ=>∃c:List Rat,c.length<=i/\(∀q∈c,Bt 60 q)/\ρ=[some .reel,some (.d (ptsQ ps)),some (.d (.int k)),some (.ml (c.map fr)),none,none]) ⟨[],by simp,by simp,rfl⟩ ?_ ?_
 · rintro i hi ρ ⟨c,cl,hq,rfl⟩ K hK;have c12:c.length<13:=by omega
   simp_arith only[am,ah,aF.eq,aG.eq,C5]
   (with_reducible (first|refine au fun x hx=>?_|refine az fun x hx=>?_))
   have hx:=hx.1
   try simp_arith only[am,ah,aF.eq,aG.eq,C5]
   (with_reducible (first|refine au fun z hz=>?_|refine az fun z hz=>?_))
   try simp_arith only[am,ah,aF.eq,aG.eq,C5]
   refine aX (fun _=>?_) fun _=>?_
   · (with_reducible (first|refine au fun w hw=>?_|refine az fun w hw=>?_))
     try simp_arith only[am,ah,aF.eq,aG.eq,C5]
     refine Bh (lR (fun p=>k<(p.length:Int)/\∀q∈p,Bt 60 q) hw.1 hw.2 hp fun p mp hpp=>?_);have hk:k.toNat<p.length:=by have:=hpp.1;omega
     have e:VL.itemAt (ptD p) k=some (fr (p.getD k.toNat 0)):=by rw[item_pt,jJ k0 hpp.1,Hw,DF hk];rfl
     have hy:Bt 60 (p.getD k.toNat 0):=by rw[Hw,DF hk];exact hpp.2 _ (Eb _)
     generalize p.getD k.toNat 0=y at e hy;simp_arith only[am,ah,e,C5];refine aX (fun _=>?_) fun _=>hK _ (bC ⟨c,by omega,hq,rfl⟩);simp_arith only[am,ah,gP,gf];refine aX (fun _=>?_) fun _=>hK _ (bC ⟨c,by omega,hq,rfl⟩);simp_arith only[am,ah,vF,Bm,C5];refine jG (xs:=c) (enc:=fr) (fun e=>if decide (e<y)=true then some (fr e)else none) rfl ?_ (by omega) ?_
     · intro e me;have y1:Bt 2000 y:=hy.mono (by decide);have y2:Bt 2000 e:=(hq e me).mono (by decide);simp_arith only[am,ah,BL,aF.eq,aG.eq,aL.eq,C5,aL.eq];by_cases h:e<y<;>simp[h]
     · have l2:(c.filter fun e=>decide (e<y)).length<=c.length:=FG ..;have fl:=gu (fun e=>decide (e<y)) fr c;have g1:(0:Int)<=((c.filter fun e=>decide (e<y)).length:Int):=by omega
       have g2:((c.filter fun e=>decide (e<y)).length:Int)<=((c.map fr).length:Int):=by rw[Di];omega
       have g3:(c.map fr).length<sizeLine:=by rw[Di];omega
       simp_arith only[am,ah,C4,fl,g1,g2,g3,hW];refine hK _ (bC ⟨insAt c (c.filter fun e=>decide (e<y)).length y,by rw[hX];omega,fun q mq=>?_,?_⟩)
       · rcases vT.mp mq with rfl|m
         · exact hy
         · exact hq q m
       · first|rfl|simp[fo]
   · refine aX (fun _=>?_) fun _=>hK _ (bC ⟨c,by omega,hq,rfl⟩);simp_arith only[am,ah,gP,gf];refine aX (fun _=>?_) fun _=>hK _ (bC ⟨c,by omega,hq,rfl⟩);simp_arith only[am,ah,vF,Bm,C5];refine jG (xs:=c) (enc:=fr) (fun e=>if decide (e<x)=true then some (fr e)else none) rfl ?_ (by omega) ?_
     · intro e me;have y1:Bt 2000 x:=hx.mono (by decide);have y2:Bt 2000 e:=(hq e me).mono (by decide);simp_arith only[am,ah,BL,aF.eq,aG.eq,aL.eq,C5,aL.eq];by_cases h:e<x<;>simp[h]
     · have l2:(c.filter fun e=>decide (e<x)).length<=c.length:=FG ..;have fl:=gu (fun e=>decide (e<x)) fr c;have g1:(0:Int)<=((c.filter fun e=>decide (e<x)).length:Int):=by omega
       have g2:((c.filter fun e=>decide (e<x)).length:Int)<=((c.map fr).length:Int):=by rw[Di];omega
       have g3:(c.map fr).length<sizeLine:=by rw[Di];omega
       simp_arith only[am,ah,C4,fl,g1,g2,g3,hW];refine hK _ (bC ⟨insAt c (c.filter fun e=>decide (e<x)).length x,by rw[hX];omega,fun q mq=>?_,?_⟩)
       · rcases vT.mp mq with rfl|m
         · exact hx
         · exact hq q m
       · first|rfl|simp[fo]
 · rintro ρ ⟨c,cl,hq,rfl⟩;have cz:(c.map fr).length<=sizeLine:=by rw[Di];omega
   simp_arith only[am,ah];exact bg (hQ c ⟨by omega,hq⟩)
theorem jy(m:Nat)(rs:List (List Nat)):(rs.flatMap fun r=>(DO m).map fun k=>r++[k]).length=rs.length*m:=by
 induction rs with
 | nil=>simp
 | cons r rs ih=>rw[EX,DK,ih,Di,Fj,DP,Jn];omega
theorem sR(r:List Nat):eP (.d (.tuple (r.map fun k:Nat=>.int (k:Int))))=some (nI r):=gz r
theorem og(kvs:List (List Int×Da)):oP [.d (.list (kvs.map fW))]=VL.ret (.xm (lx kvs)):=rQ _ kvs rfl
theorem qW{p:List Rat}(h:p.length=cs.length):(Bv cs p).length=cs.length:=by unfold Bv;rw[Di,Ho];omega
theorem uZ{p:List Rat}(h1:j<p.length)(h2:j<cs.length):(Bv cs p)[j]?=some (stN p[j] cs[j]):=by
 unfold Bv;rw[DY,DF (by rw[Ho];omega),List.getElem_zip];rfl
theorem lZ(rs:List (List Nat))(c:List Nat->Int):BI (BJ rs c)=rs.map fun r=>.tuple [Bw r,.int (c r)]:=by
 unfold BI BJ;rw[Fg];refine FZ fun r _=>?_;show ER [kI (nI r),_]=_;rw[qY]
noncomputable def bu:List W->(Da->Prop)->Prop:=fun ws Q=>∃(ps cs:List (List Rat)),ws=[.d (ptsQ ps),.d (ptsQ cs)]/\((CtOk cs)/\(nj cs.length ps))/\Q (if 1000<(prodL (lnC cs)).length then .tuple [.str "no", .str "patches"]else pR cs ps)
theorem bu.mono:∀ws (Q Q':Da->Prop),(∀d,Q d->Q' d)->bu ws Q->bu ws Q':=fun _ _ _ h_=>El fun _=>El fun _=>DE (DE (h_ _))
theorem bu.len:∀ws (Q:Da->Prop),bu ws Q->ws.length=2:=fun _ _ h_=>by obtain⟨_,_,e_,_⟩:=h_;subst e_;rfl
theorem bu.eq(ps cs:List (List Rat))(hc:CtOk cs)(hps:nj cs.length ps):bu [.d (ptsQ ps),.d (ptsQ cs)]=VL.ret (if 1000<(prodL (lnC cs)).length then .tuple [.str "no", .str "patches"]else pR cs ps:Da):=by
 refine af fun Q=>⟨?_,fun q_=>⟨ps,cs,rfl,⟨hc,hps⟩,q_⟩⟩;rintro⟨ps',cs',e_,_,q_⟩;simp_arith only[gB,cF,cG,bS,bP,cS]at e_;obtain⟨rfl,rfl⟩:=e_;exact q_
theorem iB:FnScope ["_law_spots", "_law_cuts", "_law_rows_of_all", "_law_row", "_law_longer", "_law_patch", "_law_counts", "_law_point", "_law_k"] ["_law_spots", "_law_cuts"] (defScope (top 33)):=⟨rfl,rfl,rfl,by decide +kernel,rfl,by decide +kernel,by decide +kernel⟩
theorem d__law_due(Fn:FnIn K mg "_law_due" (top 33) ["_law_spots", "_law_cuts"])(Z:Bz mg)(d__law_below:∀rl,Dfn P w K mg base rl "_law_below" ["_law_one", "_law_other"] 1 aL)   : Dfn P w K mg base rl "_law_due" ["_law_spots", "_law_cuts"] 2 bu:=by
 have sc:=iB
 refine Dfn.of Fn sc (bu.mono) (bu.len) (fun cdv A outer s H E hr=>(ak (aI 2 sc.nd (cu (aa (bL ac) ac)))
  (ak (bN [3,4,5] Eu rfl (dC (vn 1)) (ax 3 sc.nd) (ak (cJ 4 sc.nd (cu ac))
  (ak (bN [5] Eu rfl (cL (vn 2)) (ax 5 sc.nd) (av (tG 4 (aa (bw ["_law_k", "_law_patch"] [none,some 5] rfl (bO Z.range_ (aa (v_add (di Z.len_ (aa (vn 3) ac)) ai) ac)) (fun _=>(ax 0 (show E8 (["_law_k", "_law_patch"]:List Str) by decide +kernel))) (fun _=>cr) (fun _=>(ph (vn 1) (bL (aa (vn 0) ac))))) ac))))
  (av (kM 4 (aI 2 sc.nd (vn 4)))))))
  (ak (gF (bo jW jM (bj _) (di Z.len_ (aa (vn 2) ac)) ai) (av (aS (bL (aa gZ (aa gZ ac))))) dB)
  (ak (cJ 6 sc.nd (qu hr.units rfl Z.dict_ (aa (bw ["_law_patch"] [none] rfl (cL (vn 2)) (fun _=>(ax 0 (show E8 (["_law_patch"]:List Str) by decide +kernel))) (fun _=>cr) (fun _=>(bL (aa (vn 0) (aa ai ac))))) ac)))
  (ak (bN [5,7,8] Eu rfl (dC (vn 0)) (ax 7 sc.nd) (ak (cJ 5 sc.nd (cu ac))
  (ak (bN [8] Eu rfl (bO Z.range_ (aa (di Z.len_ (aa (vn 1) ac)) ac)) (ax 8 sc.nd) (av (i9 5 (aa (v_sub (di Z.len_ (aa (eJ (vn 1) (vn 8)) ac)) (di Z.len_ (aa (bw ["_law_cut", "_law_point", "_law_k"] [none,some 7,some 8] rfl (dC (eJ (vn 1) (vn 8))) (fun _=>(ax 0 (show E8 (["_law_cut", "_law_point", "_law_k"]:List Str) by decide +kernel))) (fun _=>kH (eS (aC (d__law_below _) (hr.mono (by decide)) (aa (eJ (vn 1) (vn 2)) (aa (vn 0) ac))))) (fun _=>(vn 0))) ac))) ac))))
  (av (kM 5 (qh 6 hr.units (bX Z.tuple_ (aa (vn 5) ac)) (v_add (qt 6 hr.units (bX Z.tuple_ (aa (vn 5) ac))) ai)))))))
  (av (ql 6 (aS (bX Z.tuple_ (aa (bw ["_law_patch", "_law_counts"] [none,some 6] rfl (cL (vn 2)) (fun _=>(ax 0 (show E8 (["_law_patch", "_law_counts"]:List Str) by decide +kernel))) (fun _=>cr) (fun _=>(bL (aa (vn 0) (aa (tX 1 hr.units (vn 0)) ac))))) ac))))))))))) ?_
 rintro ws Q ⟨ps,cs,rfl,⟨hc,hps⟩,hQ⟩;refine aZ ?_;have sz:=DV;have s4:=hc.s4;have p40:=hps.2.1;have nd:=cO (lnC cs);simp_arith only[am,ah,C5,bc,bF,bI,ba,bH,bE,bG,Bl,iy,iZ,iY,bJ];refine fq (xs:=cs) (enc:=ptD) (fun i ρ=>ρ=[some (.d (ptsQ ps)),some (.d (ptsQ cs)),some (.d (.list ((prodL (lnC (cs.take i))).map Bw))),none,none,none,none,none,none]) rfl rfl ?_ ?_
 · rintro i hi ρ rfl K hK;have tk:=k7 hi;have c12:=(hc.hi _ (Eb hi)).1;have t1:=hc.tk (i+1);have ps1:=cf (lnC (cs.take i)) (cs[i].length+1);rw[<- tk]at ps1;rw[ps1,jy]at t1;have pl:∀r∈prodL (lnC (cs.take i)),r.length<=4:=fun r mr=>by rw[(bZ mr).1,f_,Ev];omega
   generalize cs[i]=c at *;have em:((c.length:Int)+1).toNat=c.length+1:=by omega
   have gm:c.length+1<=2^24:=by omega
   have gi : -2^62<=(c.length:Int)+1/\(c.length:Int)+1<2^62:=by omega
   simp_arith only[am,ah,C5];refine Aq (fq (xs:=prodL (lnC (cs.take i))) (enc:=Bw) (fun j ρ=>ρ=[some (.d (ptsQ ps)),some (.d (ptsQ cs)),some (.d (.list ((prodL (lnC (cs.take i))).map Bw))),some (.d (ptD c)),some (.ml ((((prodL (lnC (cs.take i))).take j).flatMap fun r=>(DO (c.length+1)).map fun k=>r++[k]).map Bw)),none,none,none,none]) rfl rfl ?_ ?_)
   · rintro j hj ρ rfl K2 hK2;have rl:=pl _ (Eb hj);have tj:(prodL (lnC (cs.take i))).take (j+1)=(prodL (lnC (cs.take i))).take j++[(prodL (lnC (cs.take i)))[j]]:=Er hj;have lj:=jy (c.length+1) ((prodL (lnC (cs.take i))).take j);rw[Ev]at lj
     have lm:min j (prodL (lnC (cs.take i))).length*(c.length+1)+(c.length+1)<=28561:=by
      have:=Nat.mul_le_mul_right (c.length+1) (show j+1<=(prodL (lnC (cs.take i))).length by omega);rw[Jn,Nat.one_mul]at this;rw[Nat.min_eq_left (by omega)];omega
     generalize (prodL (lnC (cs.take i)))[j]=r at *;simp_arith only[am,ah,C5,em];refine jF (fun k=>Bw (r++[k])) ?_ (by omega) ?_
     · intro k hk;have rz:r.length+1<=sizeLine:=by omega
       unfold BL;simp_arith only[am,ah,Bw,Int.zero_add,rz];rw[EM];rfl
     · have gl:(((prodL (lnC (cs.take i))).take j).flatMap fun r=>(DO (c.length+1)).map fun k=>r++[k]).length+(c.length+1)<=sizeLine:=by omega
       simp_arith only[am,ah,Fj,gl];refine hK2 _ (bC ?_);rw[tj,Jm,EM]
       have e:(List.flatMap (fun r=>(DO (c.length+1)).map fun k=>r++[k]) [r]).map Bw=(DO (c.length+1)).map fun k=>Bw (r++[k]):=by
        rw[EX,List.flatMap_nil,EA,Fg];rfl
       rw[e];rfl
   · rintro ρ rfl;rw[D1 (Dm _),<- ps1];simp_arith only[am,ah];exact hK _ (bC rfl)
 · rintro ρ rfl;rw[D1 (Dm _)];have al:=hc.all;by_cases hb:1000<(prodL (lnC cs)).length
   · rw[if_pos hb]at hQ;have n0:decide ((1000:Int)<(((prodL (lnC cs)).length:Nat):Int))=true:=by simp;omega
     simp_arith only[am,ah,C5,n0];exact bg hQ
   rw[if_neg hb]at hQ;have n0:decide ((1000:Int)<(((prodL (lnC cs)).length:Nat):Int))=false:=by simp;omega
   simp_arith only[am,ah,C5,n0];refine Bi (eA (xs:=prodL (lnC cs)) (enc:=Bw) (fun r=>.tuple [Bw r,.int 0]) rfl ?_ (by omega) ?_)
   · intro r mr;simp_arith only[am,ah,BL]
   have ep:((prodL (lnC cs)).map fun r=>ER [Bw r,.int 0])=((prodL (lnC cs)).map fun r=>(nI r,DZ 0)).map fW:=by
    rw[Fg];refine FZ fun r _=>?_;show _=ER [kI (nI r),_];rw[qY]
   have ek:lx ((prodL (lnC cs)).map fun r=>(nI r,DZ 0))=BJ (prodL (lnC cs)) (BY cs (ps.take 0)):=m9 (fun _=>0) nd;rw[ep];simp_arith only[am,ah,C5,bc,bF,bI,ba,bH,bE,bG,Bl,iy,iZ,iY,bJ,og,ek];refine fq (xs:=ps) (enc:=ptD) (fun i ρ=>ρ=[some (.d (ptsQ ps)),some (.d (ptsQ cs)),some (.d (.list ((prodL (lnC cs)).map Bw))),none,none,none,some (.xm (BJ (prodL (lnC cs)) (BY cs (ps.take i)))),none,none]) rfl rfl ?_ ?_
   · rintro i hi ρ rfl K hK;obtain⟨pl,hp⟩:=hps.2.2 _ (Eb hi);have kl:=l4 (prodL (lnC cs)) (BY cs (ps.take i));have kz:(BJ (prodL (lnC cs)) (BY cs (ps.take i))).length<sizeLine:=by omega
     have vv:=fN (c:=BY cs (ps.take i)) (fU pl);have pv:=pB (cs:=cs) (ps.take i) pl;rw[<- Er hi]at pv;have cl:=mU cs (ps.take i) (Bv cs ps[i]);rw[Ev]at cl;generalize ps[i]=p at *;simp_arith only[am,ah,C5,bc,bF,bI,ba,bH,bE,bG,Bl,iy,iZ,iY,bJ];refine d9 (fun j ρ=>ρ=[some (.d (ptsQ ps)),some (.d (ptsQ cs)),some (.d (.list ((prodL (lnC cs)).map Bw))),none,none,some (.ml (((Bv cs p).take j).map fun k:Nat=>.int (k:Int))),some (.xm (BJ (prodL (lnC cs)) (BY cs (ps.take i)))),some (.d (ptD p)),none]) rfl ?_ ?_
     · rintro j hj ρ rfl K2 hK2;have jp:j<p.length:=by rw[pl];exact hj
       have pa:=uZ jp hj;have pt:(Bv cs p).take (j+1)=(Bv cs p).take j++[stN p[j] cs[j]]:=by rw[List.take_succ,pa];rfl
       have e1:VL.itemAt (ptsQ cs) (0+(j:Int))=some (ptD cs[j]):=by rw[item_ps,jJ (by omega) (by omega)];simp
       have e2:VL.itemAt (ptD p) (0+(j:Int))=some (fr p[j]):=by rw[item_pt,jJ (by omega) (by omega)];simp
       have hx:=hp _ (Eb jp);have hc2:=hc.hi _ (Eb hj);have lt:((Bv cs p).take j).length<=4:=by rw[Ev];omega
       generalize p[j]=x at *;generalize cs[j]=c at *;obtain⟨c12,hq⟩:=hc2;have e3:=qJ x c;have x2:Bt 2000 x:=hx.mono (by decide);simp_arith only[am,ah,C5,bc,bF,bI,ba,bH,bE,bG,Bl,iy,iZ,iY,bJ,e1,e2];refine jG (xs:=c) (enc:=fr) (fun e=>if decide (x<e)=true then some (fr e)else none) rfl ?_ (by omega) ?_
       · intro e me;have y2:Bt 2000 e:=(hq e me).mono (by decide);simp_arith only[am,ah,BL,aL.eq,C5,e2,aL.eq];by_cases h:x<e<;>simp[h]
       · have l2:(c.filter fun e=>decide (x<e)).length<=c.length:=FG ..;have fl:=gu (fun e=>decide (x<e)) fr c;have gl:(((Bv cs p).take j).map fun k:Nat=>DZ (k:Int)).length<sizeLine:=by rw[Di];omega
         simp_arith only[am,ah,C5,bc,bF,bI,ba,bH,bE,bG,Bl,iy,iZ,iY,bJ,fl,e3,gl];refine hK2 _ (bC ?_);rw[pt,EM];rfl
     · rintro ρ rfl;rw[D1 (by rw[qW pl];exact Dm _)];simp_arith only[am,ah,C5,bc,bF,bI,ba,bH,bE,bG,Bl,iy,iZ,iY,bJ,sR,vv,pv,kz];exact hK _ (bC rfl)
   · rintro ρ rfl;rw[D1 (Dm _)];simp_arith only[am,ah,C5,bc,bF,bI,ba,bH,bE,bG,Bl,iy,iZ,iY,bJ];refine eA (xs:=prodL (lnC cs)) (enc:=Bw) (fun r=>.tuple [Bw r,.int (BY cs ps r)]) rfl ?_ (by omega) ?_
     · intro r mr;have vv:=fN (c:=BY cs ps) mr;simp_arith only[am,ah,BL,gz,vv,bc,bF,bI,ba,bH,bE,bG,Bl,iy,iZ,iY,bJ]
     · have g:((prodL (lnC cs)).map fun r=>ER [Bw r,.int (BY cs ps r)]).length<=sizeLine:=by rw[Di];omega
       try simp_arith only[am,ah]
       rw[<- lZ];exact bg hQ
theorem uy{i:Int}(h:i.natAbs<2^45):(Et (JM i)).length<=60:=by
 have h1:=PySem.int_text_length_le (a:=i) (k:=46) (by decide) (E5 (Dm _) (fg (Dk h (DQ (by decide) (by decide))) (by decide)));have h2:(Et (JM i)).length=(JM i).length:=PySem.ofString_length _;omega
structure Sx (dp bk:Nat) (d:Da):Prop where
 sm:Sm dp bk d
 sh:EK 60 d=true
theorem vH:∀{xs:List Da},(∀d∈xs,EK 60 d=true)->Gn 60 xs=true
 | [],_=>rfl
 | x::xs,h=>by simp only[Gn,Iq];exact⟨h x Dx,vH fun d md=>h d (Dl _ md)⟩
theorem Sx.tup{dp bk n:Nat}{xs:List Da}(h:∀d∈xs,Sx dp bk d)(hl:xs.length<=n):Sx (dp+2) ((bk+1)*n) (.tuple xs):=⟨(Sm.seq (fun d md=>(h d md).sm) hl).1,by simp only[EK];exact vH fun d md=>(h d md).sh⟩
theorem Sx.mono{dp bk dp' bk':Nat}{d:Da}(h:Sx dp bk d)(h1:dp<=dp')(h2:bk<=bk'):Sx dp' bk' d:=⟨h.sm.mono h1 h2,h.sh⟩
theorem Sx.shs{dp bk:Nat}(h:Sx dp bk d)(h1:dp<=60)(h2:bk<=200000):Cn d:=by
 have q:=IZ 60 (by decide) d h.sh;have b:=h.sm.blk;have e:sizeLine=16777216:=DV;exact⟨h.sm.nice,Ef h.sm.dep h1,by omega⟩
noncomputable def wJ(cs ps:List (List Rat)):Da:=if 1000<(prodL (lnC cs)).length then .tuple [.str "no", .str "patches"]else pR cs ps
theorem pK{i:Int}(h:i.natAbs<2^45):Sx 0 0 (.int i):=⟨Sm.int (Dk h (DQ (by decide) (by decide))),by simp only[EK,decide_eq_true_eq];exact uy h⟩
theorem mI{ps:List (List Rat)}(hc:CtOk cs)(hp:ps.length<=40):Cn (wJ cs ps):=by
 unfold wJ;split
 · refine Cm.shs ?_;have k:∀y:String,(Et y).cps.size<=100->Sm 0 200 (.str (Et y)):=fun y hy=>⟨eM y,by simp[Fz],by simp only[JU];omega⟩;refine((Sm.seq (dp:=0) (bk:=200) (n:=2) (xs:=[.str "no", .str "patches"]) (fun d m=>?_) (by simp)).1).shw (by decide) (by decide);simp only[DS,Gy,or_false]at m;rcases m with rfl|rfl
   · exact k _ (by decide)
   · exact k _ (by decide)
 · rename_i hn;unfold pR;rw[lZ];refine(Sx.tup (dp:=4) (bk:=10) (n:=1000) (fun d md=>?_) (by rw[Di];omega)).shs (by decide) (by decide);obtain⟨r,mr,rfl⟩:=Eg.mp md;have rl:r.length<=4:=by have:=(bZ mr).1;rw[f_]at this;have:=hc.s4;omega
   have hb:∀x∈r,x<=13:=fun x mx=>by
    obtain⟨j,hj,rfl⟩:=List.mem_iff_getElem.mp mx;have hl:=(bZ mr).1;have h2:=(bZ mr).2 j hj (by omega);have h3:=pG hc _ (Eb (show j<(lnC cs).length by omega));omega
   have cl:=mU cs ps r;refine Sx.tup (dp:=2) (bk:=4) (n:=2) (fun d md=>?_) (by simp);simp only[DS,Gy,or_false]at md;rcases md with rfl|rfl
   · refine(Sx.tup (dp:=0) (bk:=0) (n:=4) (fun d md=>?_) (by rw[Di];exact rl)).mono (by decide) (by decide);obtain⟨x,mx,rfl⟩:=Eg.mp md;have:=hb x mx;exact pK (by omega)
   · exact(pK (by omega)).mono (by decide) (by decide)
theorem sL(hc:CtOk cs):Sm 6 1040 (ptsQ cs):=by
 refine((Sm.seq (xs:=cs.map ptD) (n:=4) (dp:=4) (bk:=36) (fun d md=>?_) (by rw[Di];exact hc.s4)).1).mono (by decide) (by decide);obtain⟨c,mc,rfl⟩:=Eg.mp md;obtain⟨c12,hq⟩:=hc.hi c mc;refine((Sm.seq (xs:=c.map fr) (n:=12) (dp:=2) (bk:=2) (fun d md=>?_) (by rw[Di];exact c12)).1);obtain⟨q,mq,rfl⟩:=Eg.mp md;exact wb (hq q mq) (by decide)
theorem nK{s:Nat}{ps:List (List Rat)}(h:nj s ps)(hs:s<=4):Sm 6 1040 (ptsQ ps):=by
 refine((Sm.seq (xs:=ps.map ptD) (n:=40) (dp:=4) (bk:=12) (fun d md=>?_) (by rw[Di];exact h.2.1)).1).mono (by decide) (by decide);obtain⟨p,mp,rfl⟩:=Eg.mp md;obtain⟨pl,hq⟩:=h.2.2 p mp;refine((Sm.seq (xs:=p.map fr) (n:=4) (dp:=2) (bk:=2) (fun d md=>?_) (by rw[Di];omega)).1);obtain⟨q,mq,rfl⟩:=Eg.mp md;exact wb (hq q mq) (by decide)
theorem jo{s:Nat}{ps:List (List Rat)}(h:nj s ps)(hs:s<=4)(hc:CtOk cs):Cm (.tuple [ptsQ ps,ptsQ cs]):=by
 refine(Sm.seq (xs:=[ptsQ ps,ptsQ cs]) (n:=2) (dp:=6) (bk:=1040) ?_ (by simp)).1.shw (by decide) (by decide);intro d hd;simp only[DS,Gy,or_false]at hd;rcases hd with rfl|rfl
 · exact nK h hs
 · exact sL hc
theorem uJ:FnScope ["_law_script", "_law_reel_here", "_law_turn", "_law_s", "_law_spots", "_law_cuts", "_law_kept"] ["_law_script"] (defScope (top 34)):=⟨rfl,rfl,rfl,by decide +kernel,rfl,by decide +kernel,by decide +kernel⟩
theorem oy(Z:Bz mg)(d__law_reel:DfnR P w K mg base "_law_reel" ["_law_script"] 1 ww)(d__law_points:∀rl,Dfn P w K mg base rl "_law_points" ["_law_reel_here", "_law_s", "_law_most"] 3 aM)(d__law_pick:∀rl,Dfn P w K mg base rl "_law_pick" ["_law_reel_here", "_law_many"] 1 aF)(d__law_many_cuts:∀rl,Dfn P w K mg base rl "_law_many_cuts" ["_law_reel_here", "_law_s"] 3 aB)(d__law_some_cuts:∀rl,Dfn P w K mg base rl "_law_some_cuts" ["_law_reel_here", "_law_spots", "_law_side"] 3 aA)(d__law_told:∀rl,Dfn P w K mg base rl "_law_told" ["_law_spots", "_law_cuts"] 5 (gL "TooMany" "word" aJ))(d__law_due:∀rl,Dfn P w K mg base rl "_law_due" ["_law_spots", "_law_cuts"] 2 bu)(F:Fun K "law" "law" (top 34) f fd):FnOk P w K mg base C2 7 f fd ["_law_script"] (eV K):=by
 have sc:=uJ
 refine rM F sc (fun cdv A outer s H E hr=>(qj 1 d__law_reel (hr.mono (by decide)) sc.nd (aa (vn 0) ac) (fun r=>(ak (bN [2,3,4,5,6] Eu rfl (bO Z.range_ (aa ai ac)) (ax 2 sc.nd) (ak (aI 3 sc.nd (v_add ai (aC (d__law_pick _) (hr.mono (by decide)) (aa (vn 1) (aa ai ac)))))
  (ak (aI 4 sc.nd (aC (d__law_points _) (hr.mono (by decide)) (aa (vn 1) (aa (vn 3) (aa (eJ (cu (aa ai (aa ai (aa ai ac)))) (aC (d__law_pick _) (hr.mono (by decide)) (aa (vn 1) (aa ai ac)))) ac)))))
  (ak (aI 5 sc.nd (bX Z.tuple_ (aa (bw ["_law_side", "_law_reel_here", "_law_spots"] [none,some 1,some 4] rfl (bO Z.range_ (aa (vn 3) ac)) (fun _=>(ax 0 (show E8 (["_law_side", "_law_reel_here", "_law_spots"]:List Str) by decide +kernel))) (fun _=>cr) (fun _=>(aC (d__law_some_cuts _) (hr.mono (by decide)) (aa (vn 1) (aa (vn 2) (aa (vn 0) ac)))))) ac)))
  (ak (gF (bo (ji hr.units) eR (bj _) (vn 2) ai) (av (aI 5 sc.nd (aC (d__law_many_cuts _) (hr.mono (by decide)) (aa (vn 1) (aa (vn 3) ac))))) dB)
  (ak (aI 6 sc.nd (pf (hr.mono (DG _)) Z.repr_ (aa (bL (aa (vn 4) (aa (vn 5) ac))) ac)))
  (av (gF (CF.pb (wW (bo vq pd (bj _) (kR (hr.mono (DG _)) Z.repr_ (aa (aC (d__law_told _) (hr.mono (by decide)) (aa (vn 4) (aa (vn 5) ac))) ac)) (kR (hr.mono (DG _)) Z.repr_ (aa (aC (d__law_due _) (hr.mono (by decide)) (aa (vn 4) (aa (vn 5) ac))) ac))) (tV (bo vq pd (bj _) (pf (hr.mono (DG _)) Z.repr_ (aa (bL (aa (vn 4) (aa (vn 5) ac))) ac)) (vn 6))))) (av (aS uY)) dB))))))))
  (av (aS uY)))))) ?_
 intro ns hn;have ps:=ww.eq hn;have sz:=DV;have e1:∀x:Str,EF (.str x) (.str x)=true:=fun x=>by simp[EF]
 simp_arith only[am,ah,ps];refine oS ?_ ?_
 · intro i hi K hK;simp_arith only[am,ah,aF.eq]
   (with_reducible (first|refine au fun a ha=>?_|refine az fun a ha=>?_))
   have a1:1<=1+a:=by omega
   have a4:1+a<=4:=by omega
   try simp_arith only[am,ah,aF.eq]
   generalize hS:1+a=S at *
   (with_reducible (first|refine au fun z hz=>?_|refine az fun z hz=>?_))
   try simp_arith only[am,ah,aF.eq]
   refine Bh (b6 (xs:=[4,12,40]) (enc:=DZ) (fun m=>1<=m/\m<=40) rfl hz.1 (by show z<3;omega) (by intro z hz;simp at hz;omega) fun m hm=>?_);obtain⟨m1,m40⟩:=hm;simp_arith only[am,ah,aM.eq]
   (with_reducible (first|refine au fun ps1 hp1=>?_|refine az fun ps1 hp1=>?_))
   obtain⟨hp1,h01⟩:=hp1
   try simp_arith only[am,ah,aM.eq,C5]
   have l1:=hp1.2.1;have l0:=hp1.1;have S4:S.toNat<=4:=by omega
   refine Bi (o0 (fun d=>∃c:List Rat,Ct c/\d=ptD c) ?_ (by omega) ?_)
   · intro j hj K2 hK2;have k0:0<=0+(j:Int):=by omega
     have hp':∀p∈ps1,0+(j:Int)<(p.length:Int)/\∀q∈p,Bt 60 q:=fun p mp=>⟨by have:=(hp1.2.2 p mp).1;omega,(hp1.2.2 p mp).2⟩;simp_arith only[am,ah,BL,aA.eq]
     (with_reducible (first|refine au fun c hc=>?_|refine az fun c hc=>?_))
     exact hK2 _ ⟨c,hc,rfl⟩
   intro ds hl0 hds;obtain⟨cs,rfl,hl,hcs⟩:=jA hds;have hl:cs.length=S.toNat:=by omega
   have hok:CtOk cs:=CtOk.of (by omega) hcs;have s3:D4 (.int (0+(i:Int)))=true:=rfl;have s3':D4 (.int 3)=true:=rfl;have ecs:ER (cs.map ptD)=ptsQ cs:=rfl;simp_arith only[am,ah,C5,s3,s3,ecs];refine aX (fun _=>?_) fun _=>?_
   · simp_arith only[am,ah,aB.eq]
     (with_reducible (first|refine au fun cs2 h2=>?_|refine az fun cs2 h2=>?_))
     obtain⟨hok,hl⟩:=h2;have hps:nj cs2.length ps1:=by rw[hl];exact hp1
     have w1:=jo hp1 S4 hok;have w2:=mI hok l1;have wd:(if 1000<(prodL (lnC cs2)).length then ER [.str "no", .str "patches"]else pR cs2 ps1)=wJ cs2 ps1:=rfl;simp_arith only[am,ah,C5,p__law_told.eq,bu.eq,wd,jk,e1];exact hK _ (bC rfl)
   · have hps:nj cs.length ps1:=by rw[hl];exact hp1
     have w1:=jo hp1 S4 hok;have w2:=mI hok l1;have wd:(if 1000<(prodL (lnC cs)).length then ER [.str "no", .str "patches"]else pR cs ps1)=wJ cs ps1:=rfl;simp_arith only[am,ah,C5,p__law_told.eq,bu.eq,wd,jk,e1];exact hK _ (bC rfl)
 · simp_arith only[am,ah];exact rW
structure Txt (K:Fd) (mg:Str->Option Dc):Prop where
 bz:Bz mg
 f__law_reel:FnIn K mg "_law_reel" (top 23) ["_law_script"]
 f__law_pick:FnIn K mg "_law_pick" (top 24) ["_law_reel_here", "_law_many"]
 f_is_below:FnIn K mg "is_below" (top 14) ["one", "other"]
 f__law_made:FnIn K mg "_law_made" (top 25) ["_law_top", "_law_bottom"]
 f__law_number:FnIn K mg "_law_number" (top 26) ["_law_reel_here"]
 f__law_points:FnIn K mg "_law_points" (top 27) ["_law_reel_here", "_law_s", "_law_most"]
 f_stretch_of:FnIn K mg "stretch_of" (top 17) ["x", "ends"]
 f_patch_of:FnIn K mg "patch_of" (top 18) ["point", "cuts"]
 f_many_patches:FnIn K mg "many_patches" (top 19) ["cuts"]
 f_choices:FnIn K mg "choices" (top 1) ["rows"]
 f_patches_of:FnIn K mg "patches_of" (top 20) ["cuts"]
 f__law_told:FnIn K mg "_law_told" (top 29) ["_law_spots", "_law_cuts"]
 f__law_below:FnIn K mg "_law_below" (top 28) ["_law_one", "_law_other"]
 f__law_even_cuts:FnIn K mg "_law_even_cuts" (top 31) ["_law_many"]
 f__law_many_cuts:FnIn K mg "_law_many_cuts" (top 32) ["_law_reel_here", "_law_s"]
 f__law_some_cuts:FnIn K mg "_law_some_cuts" (top 30) ["_law_reel_here", "_law_spots", "_law_side"]
 f__law_due:FnIn K mg "_law_due" (top 33) ["_law_spots", "_law_cuts"]
 f_counted:FnIn K mg "counted" (top 21) ["points", "cuts"]
 g_MOST_PATCHES:GlD K mg "MOST_PATCHES" (.int 1000)
 x_TooMany:XCl K mg "TooMany" "word" "EvenError" "TooMany.__init__" (inClass (top 6) 0) ["self", "word"] ["NoDeed", "NoNet", "NoPaper", "NoRoom", "NoRow", "NoText", "NoUpper", "Nought"]
theorem vA(F:Fun K "law" "law" (top 34) f fd)(T:Txt K mg)  : FnOk P w K mg base C2 7 f fd ["_law_script"] (eV K):=by
 have d__law_reel:DfnR P w K mg base "_law_reel" ["_law_script"] 1 ww:=K14.d__law_reel T.f__law_reel T.bz   ;have d__law_pick:∀rl,Dfn P w K mg base rl "_law_pick" ["_law_reel_here", "_law_many"] 1 aF:=fun rl=>K14.d__law_pick T.f__law_pick T.bz   ;have d_is_below:∀rl,Dfn P w K mg base rl "is_below" ["one", "other"] 1 br:=fun rl=>K14.d_is_below T.f_is_below T.bz   ;have d__law_made:∀rl,Dfn P w K mg base rl "_law_made" ["_law_top", "_law_bottom"] 1 aV:=fun rl=>K14.d__law_made T.f__law_made T.bz   ;have d__law_number:∀rl,Dfn P w K mg base rl "_law_number" ["_law_reel_here"] 2 aG:=fun rl=>K14.d__law_number T.f__law_number T.bz d__law_pick d__law_made  ;have d__law_points:∀rl,Dfn P w K mg base rl "_law_points" ["_law_reel_here", "_law_s", "_law_most"] 3 aM:=fun rl=>K14.d__law_points T.f__law_points T.bz d__law_pick d__law_number  ;have d_stretch_of:∀rl,Dfn P w K mg base rl "stretch_of" ["x", "ends"] 2 aT:=fun rl=>K14.d_stretch_of T.f_stretch_of T.bz d_is_below  ;have d_patch_of:∀rl,Dfn P w K mg base rl "patch_of" ["point", "cuts"] 3 bq:=fun rl=>K14.d_patch_of T.f_patch_of T.bz d_stretch_of  ;have d_many_patches:∀rl,Dfn P w K mg base rl "many_patches" ["cuts"] 1 aH:=fun rl=>K14.d_many_patches T.f_many_patches T.bz   ;have d_choices:∀rl,Dfn P w K mg base rl "choices" ["rows"] 1 bQ:=fun rl=>K14.d_choices T.f_choices T.bz   ;have d_patches_of:∀rl,Dfn P w K mg base rl "patches_of" ["cuts"] 2 aU:=fun rl=>K14.d_patches_of T.f_patches_of T.bz d_choices  ;have dE_counted:∀rl,DfnE P w K mg base rl "counted" ["points", "cuts"] 4 aJ:=fun rl=>K14.dE_counted T.f_counted T.bz d_many_patches d_patches_of d_patch_of T.g_MOST_PATCHES  (T.x_TooMany.one mi);have d__law_told:∀rl,Dfn P w K mg base rl "_law_told" ["_law_spots", "_law_cuts"] 5 (gL "TooMany" "word" aJ):=fun rl=>K14.d__law_told T.f__law_told T.bz dE_counted T.x_TooMany;have d__law_below:∀rl,Dfn P w K mg base rl "_law_below" ["_law_one", "_law_other"] 1 aL:=fun rl=>K14.d__law_below T.f__law_below T.bz   ;have d__law_even_cuts:∀rl,Dfn P w K mg base rl "_law_even_cuts" ["_law_many"] 2 aw:=fun rl=>K14.d__law_even_cuts T.f__law_even_cuts T.bz d__law_made  ;have d__law_many_cuts:∀rl,Dfn P w K mg base rl "_law_many_cuts" ["_law_reel_here", "_law_s"] 3 aB:=fun rl=>K14.d__law_many_cuts T.f__law_many_cuts T.bz d__law_even_cuts d__law_pick  ;have d__law_some_cuts:∀rl,Dfn P w K mg base rl "_law_some_cuts" ["_law_reel_here", "_law_spots", "_law_side"] 3 aA:=fun rl=>K14.d__law_some_cuts T.f__law_some_cuts T.bz d__law_pick d__law_number d__law_below  ;have d__law_due:∀rl,Dfn P w K mg base rl "_law_due" ["_law_spots", "_law_cuts"] 2 bu:=fun rl=>K14.d__law_due T.f__law_due T.bz d__law_below  ;exact oy T.bz d__law_reel d__law_points d__law_pick d__law_many_cuts d__law_some_cuts d__law_told d__law_due   F
end
theorem us_0(hl:us.length=0):us=[]:=List.eq_nil_of_length_eq_zero hl
theorem zu(hl:us.length=1):∃a0,us=[a0]:=by
 cases us with
 | nil=>cases hl
 | cons a0 t=>cases us_0 (JH hl);exact⟨a0,rfl⟩
theorem xq(hl:us.length=2):∃a0 a1,us=[a0,a1]:=by
 cases us with
 | nil=>cases hl
 | cons a0 t=>obtain⟨a1,rfl⟩:=zu (JH hl);exact⟨a0,a1,rfl⟩
theorem zW(hl:us.length=3):∃a0 a1 a2,us=[a0,a1,a2]:=by
 cases us with
 | nil=>cases hl
 | cons a0 t=>obtain⟨a1,a2,rfl⟩:=xq (JH hl);exact⟨a0,a1,a2,rfl⟩
noncomputable def FF(K:Fd)(x:Str)(st:Stmt):Prop:=∃(f:Addr)(oc kV dc pm cd ct:Dc)(od an:Option Addr)(sl:Array (Option Dc)),D7 K Ds x=some (some (.ref f))/\K.lookup f=some ⟨oc,od,.func (HE x x (defArgs st) (defBody st) (defScope st) .none kV dc pm an cd ct),sl⟩/\HM K cd x=true/\HN K (.ref f)=true
theorem ff_mk{K:Fd}{st:Stmt}{oc kV dc pm cd ct:Dc}{od an:Option Addr}{sl:Array (Option Dc)}(a:D7 K Ds x=some (some (.ref f)))(l:K.lookup f=some ⟨oc,od,.func (HE x x (defArgs st) (defBody st) (defScope st) .none kV dc pm an cd ct),sl⟩)(c:HM K cd x=true)(k:HN K (.ref f)=true):FF K x st:=⟨f,oc,kV,dc,pm,cd,ct,od,an,sl,a,l,c,k⟩
theorem bp{K:Fd}(X:K.In h)(G:h.Ns Ds mg){st:Stmt}(q:FF K x st)(hb:∀(kV doc pm:Dc)(an:Option Addr)(cdv ct:Dc)(us:List Dc),us.length=ps.length->bindArgs (HE x x (defArgs st) (defBody st) (defScope st) .none kV doc pm an cdv ct) ⟨us,[]⟩=pure (ps.zip us):=by intro _ _ _ _ _ _ us hl;first|(cases us_0 hl;exact rfl)|(obtain⟨_,rfl⟩:=zu hl;exact rfl)|(obtain⟨_,_,rfl⟩:=xq hl;exact rfl)|(obtain⟨_,_,_,rfl⟩:=zW hl;exact rfl)):FnIn K mg x st ps:=by
 obtain⟨f,_,_,_,_,_,_,_,_,_,a,l,c,k⟩:=q;exact⟨⟨f,_,EN X G a,hZ l c k,(hZ l c k).binds hb⟩⟩
abbrev NI(K:Fd)(x:Str)(f:Addr):Prop:=D7 K Ds x=some (some (.ref f))
abbrev NZ(K:Fd)(x:Str):Prop:=D7 K Ds x=some none
abbrev LK(K:Fd)(x:Str)(st:Stmt)(f:Addr)(oc:Dc)(od:Option Addr)(kV dc pm:Dc)(an:Option Addr)(cd ct:Dc)(sl:Array (Option Dc)):Prop:=K.lookup f=some ⟨oc,od,.func (HE x x (defArgs st) (defBody st) (defScope st) .none kV dc pm an cd ct),sl⟩
theorem all_mk{l:IR}{K:Fd}{fa:Addr}(X:K.In h)(G:h.Ns Ds mg)(hfa:mg "law" = some (.ref fa))
 {f19:Addr}{od19 an19:Option Addr}{sl19:Array (Option Dc)}{oc19 kV19 dc19 pm19 cd19 ct19:Dc}{xC_TooMany xB_TooMany xF_TooMany x1_TooMany x2_TooMany x3_TooMany x4_TooMany x5_TooMany x6_TooMany x7_TooMany x8_TooMany:Addr}{xod_TooMany xan_TooMany:Option Addr}{xsl_TooMany:Array (Option Dc)}{xoc_TooMany xkV_TooMany xdc_TooMany xpm_TooMany xcd_TooMany xct_TooMany:Dc}
 (f1:FF K "_law_reel" (top 23))(f2:FF K "_law_pick" (top 24))(f3:FF K "is_below" (top 14))(f4:FF K "_law_made" (top 25))(f5:FF K "_law_number" (top 26))(f6:FF K "_law_points" (top 27))(f7:FF K "stretch_of" (top 17))(f8:FF K "patch_of" (top 18))(f9:FF K "many_patches" (top 19))(f10:FF K "choices" (top 1))(f11:FF K "patches_of" (top 20))(f12:FF K "_law_told" (top 29))(f13:FF K "_law_below" (top 28))(f14:FF K "_law_even_cuts" (top 31))(f15:FF K "_law_many_cuts" (top 32))(f16:FF K "_law_some_cuts" (top 30))(f17:FF K "_law_due" (top 33))(f18:FF K "counted" (top 21))(a19:NI K "law" f19)(l19:LK K "law" (top 34) f19 oc19 od19 kV19 dc19 pm19 an19 cd19 ct19 sl19)(c19:HM K cd19 "law" = true)(k19:HN K (.ref f19)=true)
 (z_int:NZ K "int")(z_bool:NZ K "bool")(z_str:NZ K "str")(z_list:NZ K "list")(z_tuple:NZ K "tuple")(z_dict:NZ K "dict")(z_isinstance:NZ K "isinstance")(z_len:NZ K "len")(z_abs:NZ K "abs")(z_repr:NZ K "repr")(z_range:NZ K "range")(z_all:NZ K "all")(z_any:NZ K "any")(z_sum:NZ K "sum")(z_min:NZ K "min")(z_max:NZ K "max")(z_sorted:NZ K "sorted")(z_zip:NZ K "zip")(z_enumerate:NZ K "enumerate")(z_reversed:NZ K "reversed")(z_divmod:NZ K "divmod")(z_set:NZ K "set")(g_MOST_PATCHES:GlK K "MOST_PATCHES" (.int 1000))(xa_TooMany:D7 K Ds "TooMany" = some (some (.ref xC_TooMany)))(xb_TooMany:D7 K Ds "EvenError" = some (some (.ref xB_TooMany)))(xi_TooMany:PySem.W.findIn K (.ref xC_TooMany) "__init__" = some (some (.ref xF_TooMany)))(xl_TooMany:K.lookup xF_TooMany=some ⟨xoc_TooMany,xod_TooMany,.func (HE "__init__" "TooMany.__init__" (defArgs (inClass (top 6) 0)) (defBody (inClass (top 6) 0)) (defScope (inClass (top 6) 0)) .none xkV_TooMany xdc_TooMany xpm_TooMany xan_TooMany xcd_TooMany xct_TooMany),xsl_TooMany⟩)(xd_TooMany:HM K xcd_TooMany "TooMany.__init__" = true)(xk_TooMany:HN K (.ref xF_TooMany)=true)(xo1_TooMany:D7 K Ds "NoDeed" = some (some (.ref x1_TooMany)))(xo2_TooMany:D7 K Ds "NoNet" = some (some (.ref x2_TooMany)))(xo3_TooMany:D7 K Ds "NoPaper" = some (some (.ref x3_TooMany)))(xo4_TooMany:D7 K Ds "NoRoom" = some (some (.ref x4_TooMany)))(xo5_TooMany:D7 K Ds "NoRow" = some (some (.ref x5_TooMany)))(xo6_TooMany:D7 K Ds "NoText" = some (some (.ref x6_TooMany)))(xo7_TooMany:D7 K Ds "NoUpper" = some (some (.ref x7_TooMany)))(xo8_TooMany:D7 K Ds "Nought" = some (some (.ref x8_TooMany)))(xv_TooMany:NZ K "ValueError")(xx_TooMany:wS K xC_TooMany xB_TooMany xF_TooMany "word" [x1_TooMany,x2_TooMany,x3_TooMany,x4_TooMany,x5_TooMany,x6_TooMany,x7_TooMany,x8_TooMany]=true) :
 ∃fd:Fv,(∀(s:Dd)(v:Dc),JQ s fd ⟨[v],[]⟩ [("_law_script", v)])/\∀base:Heap,K.In base->base.Ns Ds mg->FnOk l.prog w K mg base C2 7 fa fd ["_law_script"] (eV K):=by
 have e:=hfa.symm.trans (EN X G a19);cases e;have B:Bz mg:=⟨Dy X G z_int,Dy X G z_bool,Dy X G z_str,Dy X G z_list,Dy X G z_tuple,Dy X G z_dict,Dy X G z_isinstance,Dy X G z_len,Dy X G z_abs,Dy X G z_repr,Dy X G z_range,Dy X G z_all,Dy X G z_any,Dy X G z_sum,Dy X G z_min,Dy X G z_max,Dy X G z_sorted,Dy X G z_zip,Dy X G z_enumerate,Dy X G z_reversed,Dy X G z_divmod,Dy X G z_set⟩;have T:Txt K mg:=⟨B,(bp X G f1),(bp X G f2),(bp X G f3),(bp X G f4),(bp X G f5),(bp X G f6),(bp X G f7),(bp X G f8),(bp X G f9),(bp X G f10),(bp X G f11),(bp X G f12),(bp X G f13),(bp X G f14),(bp X G f15),(bp X G f16),(bp X G f17),(bp X G f18),g_MOST_PATCHES.of X G,.mk' xa_TooMany (EN X G xa_TooMany) (EN X G xb_TooMany) xi_TooMany (hZ (st:=(inClass (top 6) 0)) xl_TooMany xd_TooMany xk_TooMany) ((hZ (st:=(inClass (top 6) 0)) xl_TooMany xd_TooMany xk_TooMany).binds (ps:=["self", "word"]) fun _ _ _ _ _ _ us hl=>(by obtain⟨_,_,rfl⟩:=xq hl;exact rfl)) (.cons (EN X G xo1_TooMany) (.cons (EN X G xo2_TooMany) (.cons (EN X G xo3_TooMany) (.cons (EN X G xo4_TooMany) (.cons (EN X G xo5_TooMany) (.cons (EN X G xo6_TooMany) (.cons (EN X G xo7_TooMany) (.cons (EN X G xo8_TooMany) .nil)))))))) (Dy X G xv_TooMany) xx_TooMany⟩;have FL:=hZ (st:=top 34) l19 c19 k19;exact⟨_,fun s v=>.of_eq rfl,fun base _ _=>vA FL T ⟩
theorem walk{l:IR}{q:Dq}{YP:DN->Heap->Prop}{d:DefRec}{K:JX->Fd}(hn:l.most=some 63)(hdf:d.params.defaults=[])
 (hY:∀(w:DN)(h:Heap),YP w h->(K w.params).In h)
 (F:∀(w:DN)(mg:Str->Option Dc)(fa:Addr)(h:Heap),(K w.params).In h->h.Ns Ds mg->mg d.name=some (.ref fa) ->
  ∃fd:Fv,(∀(s:Dd)(u:Dc),JQ s fd ⟨[u],[]⟩ [("_law_script", u)])/\∀base:Heap,(K w.params).In base->base.Ns Ds mg->FnOk l.prog w (K w.params) mg base C2 7 fa fd ["_law_script"] (eV (K w.params))) :
 PySem.W.WalkO q loose XP YP l.row.toRowW d [] (fun f vs=>PySem.call f vs) :=
 L2.walk_of (n:=63) (k:=7) (x := "_law_script") (CX:=fun _=>C2) (sp:=fun w=>eV (K w.params)) hn (by decide) hdf ⟨rfl,by decide,by decide,rfl⟩ hY F (fun _ _ a ns hl _ hS=>⟨a,ns,rfl,hS,hl,fun _=>rfl⟩) fun _ _ _ _ _ z=>z
end K14
noncomputable def PySem.W.Fast.tw16097014382603626501:PySem.Params->Fd:=K14.heapK
theorem PySem.W.Fast.te16097014382603626501:K14.heapK=PySem.W.Fast.tw16097014382603626501:=rfl
open PySem PySem.W PyProof.Rows
set_option maxRecDepth 100000 in
set_option maxHeartbeats 0 in
theorem PySem.Challenge.cw_evenpoints_k14_points_by_cuts_holds : PySem.Challenge.rw_evenpoints_k14_points_by_cuts.Holds := by
 refine(congrArg IR.Holds K14.rw_eq).mpr ?_
 w_on;o_law
 refine holds_open (loose:=[]) (XP:=XL K14.zview []) (YP:=Hook.says (kHook K14.heapK K14.heapA K14.heapE)) K14.zleft
  (Hook.of _) (Hook.keeps _) (fun s e=>xl_of s (Dj.mp e).1)
  XL.keeps (by rfl) (by rfl) (by rfl) (fun s e=>recFacts_of (Dj.mp e).2) (by rfl)
  (by first|assumption|decide +kernel) (by decide +kernel) ⟨rfl,rfl,rfl,rfl,rfl,by decide +kernel⟩ ?hw ?hc
 (case hw=>w_witness2)
 k_fill
 refine K14.walk (l:=K14.rwN) rfl rfl (fun w h Y=>PySem.W.kIn_of (as:=K14.heapA) (e:=K14.heapE) Y) ?F
 case F =>
  intro w mg fa h KX G hmg
  refine' K14.all_mk KX G hmg ?f1 ?f2 ?f3 ?f4 ?f5 ?f6 ?f7 ?f8 ?f9 ?f10 ?f11 ?f12 ?f13 ?f14 ?f15 ?f16 ?f17 ?f18 ?a19 ?l19 ?c19 ?k19 ?zint ?zbool ?zstr ?zlist ?ztuple ?zdict ?zisinstance ?zlen ?zabs ?zrepr ?zrange ?zall ?zany ?zsum ?zmin ?zmax ?zsorted ?zzip ?zenumerate ?zreversed ?zdivmod ?zset ?gMOST_PATCHES  ?xa_TooMany ?xb_TooMany ?xi_TooMany ?xl_TooMany ?xd_TooMany ?xk_TooMany ?xo1_TooMany ?xo2_TooMany ?xo3_TooMany ?xo4_TooMany ?xo5_TooMany ?xo6_TooMany ?xo7_TooMany ?xo8_TooMany ?xv_TooMany ?xx_TooMany
  all_goals (try (refine' K14.ff_mk ?a ?l ?c ?k;(case a=>k_is);(case l=>k_is);(case c=>k_is);(case k=>k_is)))
  all_goals (try change _=_)
  (case a19=>k_is);(case l19=>k_is);(case c19=>k_is);(case k19=>k_is)
  (case zint=>k_is)
  (case zbool=>k_is)
  (case zstr=>k_is)
  (case zlist=>k_is)
  (case ztuple=>k_is)
  (case zdict=>k_is)
  (case zisinstance=>k_is)
  (case zlen=>k_is)
  (case zabs=>k_is)
  (case zrepr=>k_is)
  (case zrange=>k_is)
  (case zall=>k_is)
  (case zany=>k_is)
  (case zsum=>k_is)
  (case zmin=>k_is)
  (case zmax=>k_is)
  (case zsorted=>k_is)
  (case zzip=>k_is)
  (case zenumerate=>k_is)
  (case zreversed=>k_is)
  (case zdivmod=>k_is)
  (case zset=>k_is)
  (case gMOST_PATCHES=>refine' L2.VL.GlK.int ?h1;(case h1=>k_is))
  (case xa_TooMany=>k_is)
  (case xb_TooMany=>k_is)
  (case xi_TooMany=>k_is)
  (case xl_TooMany=>k_is)
  (case xd_TooMany=>k_is)
  (case xk_TooMany=>k_is)
  (case xo1_TooMany=>k_is)
  (case xo2_TooMany=>k_is)
  (case xo3_TooMany=>k_is)
  (case xo4_TooMany=>k_is)
  (case xo5_TooMany=>k_is)
  (case xo6_TooMany=>k_is)
  (case xo7_TooMany=>k_is)
  (case xo8_TooMany=>k_is)
  (case xv_TooMany=>k_is)
  (case xx_TooMany=>kernel_rfl)
