import PyProof.Rows.All
import Wide.All
import OpenK.AllK
import Wide.FinOn
import Lean
import PyProof.EqAt
import PyProof.EqKinds
import PyProof.TupleCall
import KE.KDictSum
import KE.KMinKey
import PyProof.Rows.CallKwBuiltin
import PyProof.SumWalkG
import PyProof.WalksMore
import PyProof.AutoSeq1
import KE.KDictOf
import PyProof.AttrMissHeap
import PySem.Challenge.RW_evenpoints_k44_whole_rows_keep_their_bou
set_option compiler.extract_closed false
set_option bootstrap.genMatcherCode false
set_option Elab.async false
set_option linter.all false
set_option maxRecDepth 100000
set_option maxHeartbeats 4000000
open And renaming intro->AM, imp_right->A8
open Array renaming length_toList->Ec, getElem?_eq_getElem->Ex, getElem?_eq_none->E6, getElem?_toList->Fa, mk->Gs
open Bool renaming and_eq_true_iff->Ba, false_ne_true->Bs, or_eq_true_iff->BW, false_eq_true->DH, eq_iff_iff->Ef, and_eq_true->E3, and_true->Ge
open Classical renaming choose_spec->BS, choose->E2
open Exists renaming imp->Bg
open False renaming elim->Cr
open ForInStep renaming yield->Da
open Iff renaming rfl->FY
open Int renaming mul_le_mul_of_nonneg_right->AQ, mul_le_mul_of_nonneg_left->Bc, pow_succ->Bj, emod_lt_of_pos->Bk, mul_nonneg->Bm, eq_ofNat_of_zero_le->Br, emod_nonneg->BG, gcd->BI, mul_comm->BL, one_mul->BR, pow_zero->BV, emod_eq_emod_iff_emod_sub_eq_zero->B2, toNat_of_nonneg->B8, toNat_natCast->Cb, mul_le_mul->Cd, natCast_add->Cg, le_of_mul_le_mul_right->Ci, pow_pos->Cu, fmod_nonneg_of_pos->CG, natAbs_dvd_natAbs->CL, mul_ediv_add_emod->CN, le_refl->C1, add_mul->C2, fmod_lt_of_pos->C8, mul_add->Dc, mul_lt_mul_of_pos_right->Dd, fdiv_eq_ediv_of_nonneg->Dk, zero_add->Dy, lt_of_lt_of_le->DL, dvd_of_emod_eq_zero->DM, ediv_nonneg->DN, ediv_eq_zero_of_lt->DU, mul_one->DW, dvd_mul_right->DY, emod_eq_of_lt->DZ, emod_add_mul_ediv->D4, zero_mul->D6, lt_of_mul_lt_mul_right->Eo, emod_one->Es, lt_trichotomy->EI, mul_assoc->ER, add_mul_ediv_right->E7, fmod_add_mul_fdiv->Fd, gcd_comm->Fe, le_of_lt->Fh, le_trans->Fi, add_comm->Fo, add_mul_ediv_left->Fp, natAbs_of_nonneg->FI, natAbs_mul->FO, mul_sub->FZ, mul_pos->F0, mul_zero->Gp, lt_or_le->Gq, toNat->GD, sub_mul->GE
open List renaming mem_cons_of_mem->AU, length_map->AV, mem_cons_self->AZ, map_cons->A1, getElem?_eq_some_iff->A2, size_toArray->A4, getElem?_eq_getElem->A5, getElem?_set_ne->A6, getElem?_set_self->A9, length_cons->Bb, length_append->Be, mem_singleton->Bh, mem_cons->Bo, getElem?_map->Bp, range->Bq, map_append->Bw, sum_cons->By, mem_map->BB, getElem?_set->BD, mem_append_right->BF, take_of_length_le->BK, lookup_cons->BO, getD_eq_getElem?_getD->BZ, map_map->B4, getElem_mem->B6, mem_range->Cc, mem_append->Ce, append_nil->Co, of_mem_zip->Cp, Nodup->Cs, all_eq_true->Ct, nodup_cons->CD, drop_eq_getElem_cons->CP, length_range->CV, map_congr_left->C3, replicate->C6, length_nil->C_, reverse_cons->Dg, pairwise_map->Dj, getElem?_append_left->Dn, filterMap_cons->Dr, forIn_cons->DG, sum_append->DO, pairwise_singleton->DP, zip_cons_cons->DQ, drop_of_length_le->DT, map_nil->D2, length_filter_le->D3, mem_of_getElem?->D9, length_reverse->Eg, range_succ->Eh, idxOf_lt_length_of_mem->Ek, getElem?_append_right->Em, flatMap_cons->EJ, getElem?_replicate->EO, drop_length->E1, getElem?_eq_none->Fb, take_append_drop->Fg, foldl_cons->Fm, mem_append_left->FC, mem_of_mem_take->FH, Pairwise->Gc, all_cons->Gd, length->Gx
open List.cons renaming injEq->Bf
open Nat renaming le_refl->AY, lt_of_lt_of_le->A7, ne_of_lt->BE, lt_irrefl->BX, le_trans->Ca, pow_le_pow_right->Ch, zero_le->Db, le_of_succ_le->Di, mul_le_mul_right->Dm, lt_of_le_of_lt->DI, div_lt_self->DJ, le_add_right->D7, strongRecOn->Ei, ne_of_gt->Er, Coprime->EV, le_of_lt->E9, pow_succ->Go, add_mul->GF, one_mul->GG
open Nat.succ renaming inj->Gr
open Ne renaming symm->EK
open Option renaming isSome_iff_exists->CT, map_eq_some_iff->DR, map_some->Fk, some->GJ
open Option.some renaming inj->Bn
open Or renaming inr->CJ, inl->CY
open PyProof.Rows renaming callWith_type1->BP, assignInOrder_cons->Ep, envOfC->EY, subscriptTail_builtinR->E4, AllBare->FT, IntsAre->FX
open PySem renaming PyData->AN, wpAny_bind->AO, Value->AR, Shared->AS, starEach->AW, wpAny_pure->AX, Program->Bd, wpAny->Bi, mainGlobals->Bu, Paired->BC, model->BH, Around->BJ, World->BM, sizeLine_eq->BQ, mem_of_lookup->BU, tupleKind->B_, wpAny_callSpecial?_slot->Cf, backTo->Cj, cellsFrom->Ck, wpAny_newObj_type->Cm, wpAny_call_entry->Cv, wpAny_typeNameOfWhole_keyiter->Cw, wpAny_field->CF, intKind->CH, wpAny_setField_rec->CK, wpAny_seqItems->CO, wpAny_passesOwn->CQ, foldedSetIterable->CS, wpAny_typeNameOf_keyiter->CW, FuncData->CZ, attributeBase->C0, swapsWith->C4, assignEach->C5, compareOp->C9, wpAny_mono->Df, Keyword->Dl, binaryOp->Dp, keywordEach->Ds, bootBuiltins->Du, wpAny_holding->Dz, behindInMarks->DA, wpAny_Call_Name_kw->DB, NameKind->DC, sysModules->DV, sliceBounds->DX, codeAny_mono->D0, wpAny_isOneOf_keyiter->D5, storedH->D8, wpAny_updateSeq_pair->D_, DictEntry->Eb, wpAny_execs_nil->Ed, letOwnedTupleGo->Ee, IsPair->Ej, codeAny->Et, newFunctionEnv->Eu, wpAny_setField->Ev, firstArgMember->Ew, wpAny_fieldsOf->Ey, wpAny_pyIter_list->EA, wpAny_getItem_list_slice->EB, wpAny_comprehension_free->EE, wpAny_dictEntries->EG, wpAny_standAt->EL, swapsWithSole->EM, swappedStores->EN, backToKw->EQ, wpAny_onRaise->ES, wpAny_attempt->ET, noFill_tuple_add->EZ, importedModules->E8, rawInt->E_, wpAny_dictEpoch->Ft, codeAny_builtin->Fu, wpAny_loadName_local->FE, wpAny_pyIter_revIter->FG, assign->FK, pyNext->FM, intBits_le_iff->FN, wpAny_loadName_cell->FV, seqIndex_of->FW, assignInOrder->F9, cLine->F_, seq_tuple_add->Ga, evalPart_none->Gb, entryOfKey->Gf, holding->Gg, wpAny_rule->Gh, call_meets->Gi, callerA->Gj, IsZip->Gk, concat_meets->Gm, seqIndex_neg->Gn, Operator->Gu, PassesOwn->Gv, BindsTo->Gw, pushCells->Gy, wpAny_of_eq->GB, wpAny_letGo->GC, Params->GH
open PySem.Around renaming under_plainId->FJ
open PySem.Builtin.Dict renaming addKeywords->EH, showsAll->Fq
open PySem.Builtin.Dict_items renaming ownsTuple->Ea
open PySem.Builtin.List renaming listTooLong->Dx
open PySem.Builtin.SmallTypes renaming nextOf->Bl, ownedTupleIsFree->B7, ownedTupleHandOut->Do
open PySem.Calls renaming Name_function_global->El
open PySem.F renaming args_tuple_add_2->Dw, entry_tuple_add->DE, plainAttrs_list->DF, slot_tuple_add->DS, slot_list_append->EC, type_list_append->ED
open PySem.Heap renaming get?_push_of_some->AT, lt_size->A0, get?_push_size->A3, SameBut->Cn, size_push->Cz, DictOfH->CM, get?_update_self->D1, get?_update_other->E5, ExtBut->Gz
open PySem.Heap.SameBut renaming update->Dt
open PySem.NameKind renaming free->BN, cell->Cy
open PySem.Obj renaming data_mapFields->DK, isFreed_of_fields->Fj, mapSeq->FB
open PySem.Paired renaming length->De
open PySem.PassesOwn renaming never->Bv
open PySem.PyData renaming int->BA, bool->B1, tuple->B3, eqv->CC, canLayAll0->Dh, list->EX
open PySem.PyData.int renaming injEq->Dq
open PySem.PyData.list renaming injEq->EF
open PySem.PyData.tuple renaming injEq->Bt
open PySem.SeqAt renaming shaped->Cq, canLay_of_shaped->C7
open PySem.Shared renaming TypeIs->EW
open PySem.Str renaming ofString->CA
open PySem.Value renaming ref->BY, none->CI, type->Ez, int->F8
open PySem.W renaming mg_none_of->A_, boot_heap->B5, Frag->CB, nsIn->Fv, fnOf->Fw, OpenLaw->Fz, boot_drawn->FA, codeIn->FP, keepIn->FQ, boot_toks->F7, OpenLaw->GI
open Rat renaming normalize->EU
open Sum renaming inl->FR, inr->FS
open PySem PySem.Spec PyProof.Rows
variable{loose ps:List Str}{α:Type}{N t' i j k n:Nat}{xs xs':List AN}{us:List AR}{a it f r:Addr}{b M B:Int}{P:Bd}{h h':Heap}{o:Obj}{x qual:Str}{A:BJ}{E Q:AR->AS->Prop}{u:List (List Int×Addr×AR)×Obj}{s:AS}{pos pos' px:Pos}{pins:List (Addr×Obj)}{tg:Expr}{fp:List Addr}{fd:CZ}{mg:Str->Option AR}{scope:Scope}{XP:(Str->Option AR)->Heap->Prop}{ns p:List Int}{d:AN}{rl:Option Addr}{kvs:List (List Int×AN)}{rows:List (Int×List Int)}{q:Rat}{l:List (Int×Int×Int)}
theorem æa(h:True:=by rfl):True:=trivial
theorem æb(h:True:=by decide):True:=trivial
theorem æc(h:True:=by intro _;rfl):True:=trivial
theorem æd(h:True:=by first|exact CY rfl|exact CJ (CY rfl)|exact CJ (CJ rfl)):True:=trivial
theorem æe(h:True:=by first|exact CY rfl|exact CJ rfl):True:=trivial
theorem æf(h:True:=by first|exact .inl rfl|exact .inr rfl):True:=trivial
theorem æg(h:True:=by first|exact .inl rfl|exact .inr rfl|assumption):True:=trivial
noncomputable section
namespace L2
open PySem
noncomputable def qx(s:Stmt)(j:Nat):Stmt:=match s with
 | .ClassDef _ _ _ body _ _ _ _ _ _ _=>body.getD j (.Pass ⟨0,0,0,0⟩)
 | _=>.Pass ⟨0,0,0,0⟩
noncomputable def defArgs(s:Stmt):Arguments:=match s with
 | .FunctionDef _ a _ _ _ _ _ _ _ _=>a
 | _=>{posonlyargs:=[],args:=[],vararg:=none,kwonlyargs:=[],kw_defaults:=[],kwarg:=none,defaults:=[]}
noncomputable def defBody(s:Stmt):List Stmt:=match s with
 | .FunctionDef _ _ b _ _ _ _ _ _ _=>b
 | _=>[]
noncomputable def defScope(s:Stmt):Scope:=match s with
 | .FunctionDef _ _ _ _ _ _ sc _ _ _=>sc
 | _=>{kind:=.function,names:=[],isGenerator:=false,isCoroutine:=false}
end L2
namespace L2.TT
open PySem PySem.W
noncomputable def zw(tb:String->Option Builtin)(p:Bd)(w:BM)(m:Nat)(ann:Option AR):Nat->SharedT->Thread->Option SharedT
 | 0,_,_=>none
 | n+1,s,t=>match through t with
   | true=>some s
   | false=>match stepOk m ann t with
     | false=>none
     | true=>match stepT (denote tb) p w s t with
       | some r=>zw tb p w m ann n r.1 r.2
       | none=>none
theorem oD{tb:String->Option Builtin}{p:Bd}{w:BM}{m:Nat}{ann:Option AR}:∀{n:Nat}{s s':SharedT}{t:Thread},zw tb p w m ann n s t=some s'->topRun tb p w m ann n s.abs t=some s'.abs
 | 0,_,_,_,h=>by cases h
 | n+1,s,s',t,h=>by
   unfold zw at h;unfold topRun
   cases he:through t with
   | true=>rw[he]at h;cases h;rfl
   | false =>
     rw[he]at h
     cases hk:stepOk m ann t with
     | false=>rw[hk]at h;cases h
     | true =>
       rw[hk]at h
       cases hs:stepT (denote tb) p w s t with
       | none=>rw[hs]at h;cases h
       | some r=>rw[hs]at h;rw[stepT_spec hs];exact oD h
noncomputable def bt(os:List Obj):Nat->Nat->Nat->BT
 | 0,_,_=>.nil
 | f+1,a,b=>match os[b]? with
   | some o=>.node o (bt os f (2*a) (a+b)) (bt os f (2*a) (2*a+b))
   | none=>.nil
theorem boot_abs(P:GH):absHeap (bt (B5 P).objs.toList 12 1 0) (B5 P).objs.size (B5 P).life=B5 P:=by kernel_rfl
abbrev sX(p q:Bd)(loose:List Str)(Xt:AS->Bool){α:Type}(Yf:AS->α)(h₀:Heap)(s:AS) :=
 (staticsOk (E8 p.main.body) h₀ s.heap&&namesBound p s.heap&&gensDone s&&laidKept h₀ s.heap,openSeen q loose (E8 p.main.body) Xt true s,Yf s)
theorem left_of{p q:Bd}{Xt:AS->Bool}{Yf:AS->α}{Ya:BM->α}{m M:Nat}{ann:Option AR}
 (e:opening p=plainProg p.main.scope.names)(hN:Nat.ble 600 N=true)(f:∀s,fenceModules? p s=some s)(le:Nat.ble M N=true)
 (size:∀w:BM,((B5 w.params).isNs Bu,(B5 w.params).objs.size,(B5 w.params).nsMap Bu "__annotations__")=(true,m,ann))
 (run:∀(w:BM)(os:OsState),(zw treeTable p w m ann M ⟨bt (B5 w.params).objs.toList 12 1 0,(B5 w.params).objs.size,(B5 w.params).life,Gs [],FA,F7,os⟩ (topStub p)).map (fun s=>sX p q loose Xt Yf (B5 w.params) s.abs)=some (true,openGood q loose,Ya w)) :
 LeftO p q loose Xt Yf Ya N:=fun w=>by
 obtain⟨⟨h,gs,d,k,os⟩,eo,e'⟩:=DR.mp (boot_open e hN f w);obtain⟨rfl,rfl,rfl,rfl⟩:h=B5 w.params/\gs=Gs []/\d=FA/\k=F7:=by simpa using e'
 obtain⟨z1,z2,z3⟩:_/\_/\_:=by simpa only[Prod.mk.injEq]using size w
 obtain⟨s',r,l⟩:=DR.mp (run w os);obtain⟨l1,l2,l3⟩:_/\_/\_:=by simpa only[sX,Prod.mk.injEq]using l
 have r:=oD r
 have hb:SharedT.abs ⟨bt (B5 w.params).objs.toList 12 1 0,(B5 w.params).objs.size,(B5 w.params).life,Gs [],FA,F7,os⟩=⟨B5 w.params,Gs [],FA,F7,os⟩:=by
  show AS.mk (absHeap _ _ _) _ _ _ _=_;rw[boot_abs]
 rw[hb]at r;have r:=topRun_mono (N-M) _ _ _ _ r;rw[show M+(N-M)=N by have:=Nat.le_of_ble_eq_true le;omega]at r
 have t:topFrom treeTable p w N ⟨B5 w.params,Gs [],FA,F7,os⟩=some s'.abs:=by
  unfold topFrom;dsimp only;rw[z1,z2,z3,r];show(match staticsOk (E8 p.main.body) (B5 w.params) s'.abs.heap&&namesBound p s'.abs.heap&&gensDone s'.abs&&laidKept (B5 w.params) s'.abs.heap with|true=>_|false=>_)=_;rw[l1]
 unfold openEnds;rw[eo];show(topFrom treeTable p w N _).map _=_;rw[t];exact congrArg some (Prod.ext l2 l3)
end L2.TT
namespace K44
open PySem
def yw(i:Nat):Stmt:=PySem.Challenge.pw_evenpoints_k44_whole_rows_keep_their_bou.main.body.getD i (.Pass ⟨0,0,0,0⟩)
end K44
noncomputable def PySem.W.Fast.tw11714001468231704034:PySem.Program:=PySem.Challenge.pw_evenpoints_k44_whole_rows_keep_their_bou
theorem PySem.W.Fast.te11714001468231704034:PySem.Challenge.pw_evenpoints_k44_whole_rows_keep_their_bou=PySem.W.Fast.tw11714001468231704034:=rfl
namespace K44
open PySem PySem.W L2
def x6:Stmt:=yw 0
def x5:Stmt:=yw 1
def x4:Stmt:=yw 2
def xZ:Stmt:=yw 3
def xY:Stmt:=yw 4
def xX:Stmt:=yw 5
def xW:Stmt:=yw 6
def xV:Stmt:=yw 7
def xU:Stmt:=yw 8
def xT:Stmt:=yw 9
def wq:Stmt:=yw 10
def wp:Stmt:=yw 11
def wo:Stmt:=yw 12
def wn:Stmt:=yw 13
def xi:Stmt:=yw 14
def wm:Stmt:=yw 15
def wl:Stmt:=yw 16
def wj:Stmt:=yw 17
def xh:Stmt:=yw 18
def wg:Stmt:=yw 19
def wf:Stmt:=yw 20
def we:Stmt:=yw 21
def wd:Stmt:=yw 22
def wc:Stmt:=yw 23
def wb:Stmt:=yw 24
def wa:Stmt:=yw 25
def v_:Stmt:=yw 26
def v9:Stmt:=yw 27
def v8:Stmt:=yw 28
def v7:Stmt:=yw 29
def yV:Bd:={PySem.Challenge.pw_evenpoints_k44_whole_rows_keep_their_bou with main:={PySem.Challenge.pw_evenpoints_k44_whole_rows_keep_their_bou.main with body:=[x6,x5,x4,xZ,xY,xX,xW,xV,xU,xT,wq,wp,wo,wn,xi,wm,wl,wj,xh,wg,wf,we,wd,wc,wb,wa,v_,v9,v8,v7]}}
def rwN:GI:={PySem.Challenge.rw_evenpoints_k44_whole_rows_keep_their_bou with prog:=yV}
noncomputable def zview:Bd:={PySem.Challenge.pw_evenpoints_k44_whole_rows_keep_their_bou with main:={PySem.Challenge.pw_evenpoints_k44_whole_rows_keep_their_bou.main with body:=[x5,x4,xY,xX,xW,xV,xU,wq,wp,wo,wn,wm,wl,wj,wg,wf,we,wd,wc,wb,wa,v_,v9,v8,v7]}}
theorem rw_eq:PySem.Challenge.rw_evenpoints_k44_whole_rows_keep_their_bou=rwN:=rfl
noncomputable def ye(P:GH)(x:Str)(t:Nat)(v:AR):Eb:=⟨AN.keyHash P x,.str x t,v⟩
noncomputable def yd(n q:Str)(s:Stmt)(pm cd:AR):Obj:=⟨.type "function", none,.func (fnOf n q (defArgs s) (defBody s) (defScope s) .none .none .none pm none cd .none),#[]⟩
noncomputable def yg(n q:Str)(a b c:Nat)(l x y:Int)(r:Nat)(z:Int)(r2:Nat)(v1 v2 v3:AR)(r3:Nat)(u:Int)(c2:Nat):Obj:=⟨.type "code", none,.fields #[.str n a,.str q b,.str "/claim/cut.py" c,.int l 0,.int x 0,.int 0 0,.int 0 0,.int y 0,.ref r,.bool true,.int z 0,.ref r2,v1,v2,v3,.ref r3,.int u 0,.int l 0,.str "/claim/cut.py" c2],#[]⟩
noncomputable def yb:AR:=.str "evenpoints.errors" 187
noncomputable def ya:AR:=.str "evenpoints.fractions" 232
noncomputable def x_:AR:=.str "evenpoints.figures" 270
noncomputable def x9:AR:=.str "evenpoints.rows" 308
noncomputable def x8:AR:=.str "law_evenpoints_k44_whole_rows_keep_their_bou" 337
abbrev yc(n:Str):=yd n n
abbrev yf(n:Str):=yg n n
noncomputable def heapK(P:GH):Frag :=
 (nat_lit 2,(.mk .none none (.dict #[] 0) #[])) ::
 (nat_lit 3,(.mk (.type "dict") none (.dict #[ye P "__name__" 165 (.str "law_evenpoints_k44_whole_rows_keep_their_bou" 337),ye P "__doc__" 166 .none,ye P "__package__" 167 .none,ye P "__loader__" 168 (.builtin "__main__.__loader__#opaque"),ye P "__spec__" 169 .none,ye P "__annotations__" 170 (.ref 6),ye P "__builtins__" 171 (.ref 4),ye P "__file__" 173 (.str "/claim/cut.py" 172),ye P "__cached__" 174 .none,ye P "EvenError" 206 (.ref 24),ye P "Nought" 231 (.ref 44),ye P "ONE" 236 (.ref 47),ye P "common_divisor" 244 (.ref 54),ye P "fraction" 253 (.ref 61),ye P "is_below" 261 (.ref 68),ye P "lesser" 269 (.ref 75),ye P "power" 281 (.ref 82),ye P "figures_of" 291 (.ref 89),ye P "number_of" 301 (.ref 96),ye P "turned" 307 (.ref 101),ye P "points_of" 315 (.ref 106),ye P "figures_needed" 325 (.ref 113),ye P "row_bound" 336 (.ref 120),ye P "_law_feed" 345 (.ref 127),ye P "_law_draw" 356 (.ref 134),ye P "_law_exchange" 368 (.ref 141),ye P "_law_row" 374 (.ref 146),ye P "_law_power" 384 (.ref 153),ye P "_law_boxes" 390 (.ref 158),ye P "_law_is_in" 403 (.ref 165),ye P "_law_passes" 409 (.ref 170),ye P "_law_least" 418 (.ref 177),ye P "_law_eighty_right" 424 (.ref 182),ye P "law" 430 (.ref 187)] 34) #[])) ::
 (nat_lit 6,(.mk (.type "dict") none (.dict #[] 0) #[])) ::
 (nat_lit 15,(.mk (.type "tuple") none (.seq #[(.type "ValueError")] 0) #[])) ::
 (nat_lit 22,(.mk (.type "tuple") none (.seq #[] 0) #[])) ::
 (nat_lit 23,(.mk (.type "dict") none (.dict #[ye P "__module__" 196 (.str "evenpoints.errors" 187),ye P "__firstlineno__" 200 (.int 2 199),ye P "__static_attributes__" 201 (.ref 22),ye P "__weakref__" 203 (.ref 25),ye P "__doc__" 204 .none] 3) #[])) ::
 (nat_lit 24,(.mk (.type "type") none (.cls (.mk "EvenError" [(.type "ValueError")] [(.ref 24),(.type "ValueError"),(.type "Exception"),(.type "BaseException"),(.type "object")] 23 "EvenError" true [] [(.ref 44)] false none false)) #[(some (.ref 15)),none,(some (.str "EvenError" 189)),(some (.str "EvenError" 197)),(some (.builtin "ValueError.__new__")),(some (.bool true))])) ::
 (nat_lit 25,(.mk (.type "getset_descriptor") none (.fields #[(.str "__weakref__" 202),(.ref 24),(.builtin "ExceptionGroup.__weakref__"),.none]) #[])) ::
 (nat_lit 28,(.mk (.type "tuple") none (.seq #[(.ref 24)] 0) #[])) ::
 (nat_lit 40,yg "__init__" "Nought.__init__" 219 220 221 6 2 3 35 181 36 .none (.ref 37) (.ref 38) 39 224 225) ::
 (nat_lit 41,yd "__init__" "Nought.__init__" (qx (yw 2) 0) yb (.ref 40)) ::
 (nat_lit 42,(.mk (.type "tuple") none (.seq #[(.str "word" 227)] 0) #[])) ::
 (nat_lit 43,(.mk (.type "dict") none (.dict #[ye P "__module__" 214 (.str "evenpoints.errors" 187),ye P "__firstlineno__" 218 (.int 4 217),ye P "__init__" 226 (.ref 41),ye P "__static_attributes__" 228 (.ref 42),ye P "__doc__" 229 .none] 2) #[])) ::
 (nat_lit 44,(.mk (.type "type") none (.cls (.mk "Nought" [(.ref 24)] [(.ref 44),(.ref 24),(.type "ValueError"),(.type "Exception"),(.type "BaseException"),(.type "object")] 43 "Nought" true [] [] false none false)) #[(some (.ref 28)),none,(some (.str "Nought" 207)),(some (.str "Nought" 215)),(some (.builtin "ValueError.__new__")),(some (.bool true))])) ::
 (nat_lit 47,(.mk (.type "tuple") none (.seq #[(.int 1 234),(.int 1 235)] 0) #[])) ::
 (nat_lit 53,yf "common_divisor" 237 238 239 10 2 3 48 181 49 .none (.ref 50) (.ref 51) 52 242 243) ::
 (nat_lit 54,yc "common_divisor" (yw 5) ya (.ref 53)) ::
 (nat_lit 60,yf "fraction" 245 246 247 14 2 3 55 181 56 .none (.ref 57) (.ref 58) 59 251 252) ::
 (nat_lit 61,yc "fraction" (yw 6) ya (.ref 60)) ::
 (nat_lit 67,yf "is_below" 254 255 256 21 2 3 62 181 63 .none (.ref 64) (.ref 65) 66 259 260) ::
 (nat_lit 68,yc "is_below" (yw 7) ya (.ref 67)) ::
 (nat_lit 74,yf "lesser" 262 263 264 23 2 3 69 181 70 .none (.ref 71) (.ref 72) 73 267 268) ::
 (nat_lit 75,yc "lesser" (yw 8) ya (.ref 74)) ::
 (nat_lit 81,yf "power" 272 273 274 26 2 3 76 181 77 .none (.ref 78) (.ref 79) 80 279 280) ::
 (nat_lit 82,yc "power" (yw 10) x_ (.ref 81)) ::
 (nat_lit 88,yf "figures_of" 282 283 284 31 2 3 83 181 84 .none (.ref 85) (.ref 86) 87 289 290) ::
 (nat_lit 89,yc "figures_of" (yw 11) x_ (.ref 88)) ::
 (nat_lit 95,yf "number_of" 292 293 294 37 2 3 90 181 91 .none (.ref 92) (.ref 93) 94 299 300) ::
 (nat_lit 96,yc "number_of" (yw 12) x_ (.ref 95)) ::
 (nat_lit 100,yf "turned" 302 303 304 42 3 3 97 181 98 .none .none .none 99 305 306) ::
 (nat_lit 101,yc "turned" (yw 13) x_ (.ref 100)) ::
 (nat_lit 105,yf "points_of" 310 311 312 46 3 3 102 181 103 .none .none .none 104 313 314) ::
 (nat_lit 106,yc "points_of" (yw 15) x9 (.ref 105)) ::
 (nat_lit 112,yf "figures_needed" 316 317 318 48 2 3 107 181 108 .none (.ref 109) (.ref 110) 111 323 324) ::
 (nat_lit 113,yc "figures_needed" (yw 16) x9 (.ref 112)) ::
 (nat_lit 119,yf "row_bound" 326 327 328 54 2 3 114 181 115 .none (.ref 116) (.ref 117) 118 334 335) ::
 (nat_lit 120,yc "row_bound" (yw 17) x9 (.ref 119)) ::
 (nat_lit 126,yf "_law_feed" 339 340 341 60 1 3 121 181 122 .none (.ref 123) (.ref 124) 125 343 344) ::
 (nat_lit 127,yc "_law_feed" (yw 19) x8 (.ref 126)) ::
 (nat_lit 133,yf "_law_draw" 346 347 348 62 2 3 128 181 129 .none (.ref 130) (.ref 131) 132 354 355) ::
 (nat_lit 134,yc "_law_draw" (yw 20) x8 (.ref 133)) ::
 (nat_lit 140,yf "_law_exchange" 357 358 359 78 2 3 135 181 136 .none (.ref 137) (.ref 138) 139 366 367) ::
 (nat_lit 141,yc "_law_exchange" (yw 21) x8 (.ref 140)) ::
 (nat_lit 145,yf "_law_row" 369 370 371 85 2 3 142 181 143 .none .none .none 144 372 373) ::
 (nat_lit 146,yc "_law_row" (yw 22) x8 (.ref 145)) ::
 (nat_lit 152,yf "_law_power" 375 376 377 92 2 3 147 181 148 .none (.ref 149) (.ref 150) 151 382 383) ::
 (nat_lit 153,yc "_law_power" (yw 23) x8 (.ref 152)) ::
 (nat_lit 157,yf "_law_boxes" 385 386 387 97 1 3 154 181 155 .none .none .none 156 388 389) ::
 (nat_lit 158,yc "_law_boxes" (yw 24) x8 (.ref 157)) ::
 (nat_lit 164,yf "_law_is_in" 391 392 393 107 3 3 159 181 160 .none (.ref 161) (.ref 162) 163 401 402) ::
 (nat_lit 165,yc "_law_is_in" (yw 25) x8 (.ref 164)) ::
 (nat_lit 169,yf "_law_passes" 404 405 406 112 3 3 166 181 167 .none .none .none 168 407 408) ::
 (nat_lit 170,yc "_law_passes" (yw 26) x8 (.ref 169)) ::
 (nat_lit 176,yf "_law_least" 410 411 412 122 1 3 171 181 172 .none (.ref 173) (.ref 174) 175 416 417) ::
 (nat_lit 177,yc "_law_least" (yw 27) x8 (.ref 176)) ::
 (nat_lit 181,yf "_law_eighty_right" 419 420 421 128 1 3 178 181 179 .none .none .none 180 422 423) ::
 (nat_lit 182,yc "_law_eighty_right" (yw 28) x8 (.ref 181)) ::
 (nat_lit 186,yf "law" 425 426 427 138 1 3 183 181 184 .none .none .none 185 428 429) ::
 (nat_lit 187,yc "law" (yw 29) x8 (.ref 186))::[]
noncomputable def heapA:List Addr:=nat_lit 2::nat_lit 3::nat_lit 6::nat_lit 15::nat_lit 22::nat_lit 23::nat_lit 24::nat_lit 25::nat_lit 28::nat_lit 40::nat_lit 41::nat_lit 42::nat_lit 43::nat_lit 44::nat_lit 47::nat_lit 53::nat_lit 54::nat_lit 60::nat_lit 61::nat_lit 67::nat_lit 68::nat_lit 74::nat_lit 75::nat_lit 81::nat_lit 82::nat_lit 88::nat_lit 89::nat_lit 95::nat_lit 96::nat_lit 100::nat_lit 101::nat_lit 105::nat_lit 106::nat_lit 112::nat_lit 113::nat_lit 119::nat_lit 120::nat_lit 126::nat_lit 127::nat_lit 133::nat_lit 134::nat_lit 140::nat_lit 141::nat_lit 145::nat_lit 146::nat_lit 152::nat_lit 153::nat_lit 157::nat_lit 158::nat_lit 164::nat_lit 165::nat_lit 169::nat_lit 170::nat_lit 176::nat_lit 177::nat_lit 181::nat_lit 182::nat_lit 186::nat_lit 187::[]
theorem heapE:∀P,heapA=(heapK P).map (·.1):=fun _=>rfl
theorem ur:∀w:BM,((B5 w.params).isNs Bu,(B5 w.params).objs.size,(B5 w.params).nsMap Bu "__annotations__")=(true,11,some (.ref 6)):=fun w=>by kernel_rfl
set_option maxHeartbeats 0 in
theorem zleft:LeftO yV zview [] (fun s=>xlAt zview [] s&&recOk (RowW.records rwN.row.toRowW) s) (Hook.obs (kHook heapK heapA heapE)) (Hook.val (kHook heapK heapA heapE)) 3018 :=
 L2.TT.left_of (M:=3018) (by kernel_rfl) rfl (fun s=>by kernel_rfl) rfl ur fun w os=>by kernel_rfl
end K44
namespace L2
abbrev As:=Sum Int Str
noncomputable def tD:As->AR->Bool
 | .inl k,v=>AR.isInt k v
 | .inr x,v=>AR.isStrOf x v
noncomputable def xJ(w:BM):As->Int
 | .inl k=>hashInt k
 | .inr x=>hashStr w x
theorem aK:∀{k:As}{v:AR},tD k v=true->(∃i t,k=FR i/\v=F8 i t)\/(∃x t,k=FS x/\v=AR.str x t)
 | .inl i,v,h=>by
   obtain⟨t,e⟩:=AR.isInt_shape (k:=i) (v:=v) h
   exact .inl ⟨i,t,rfl,e⟩
 | .inr x,v,h=>by
   obtain⟨t,e⟩:=AR.isStrOf_shape (x:=x) (v:=v) h;exact .inr ⟨x,t,rfl,e⟩
theorem tq(a b:Int):decide ((FR a:As)=FR b)=(a==b):=by
 by_cases e:a=b
 · subst e;simp
 · have h:¬(FR a:As)=FR b:=fun q=>e (FR.inj q);rw[decide_eq_false h];exact(beq_eq_false_iff_ne.mpr e).symm
theorem tf(a b:Str):decide ((FS a:As)=FS b)=decide (a=b):=by
 by_cases e:a=b
 · subst e;simp
 · have h:¬(FS a:As)=FS b:=fun q=>e (FS.inj q);rw[decide_eq_false h,decide_eq_false e]
theorem tm(a:Int)(b:Str):decide ((FR a:As)=FS b)=false:=decide_eq_false (fun q=>nomatch q)
theorem tj(a:Str)(b:Int):decide ((FS a:As)=FR b)=false:=decide_eq_false (fun q=>nomatch q)
noncomputable def k6(prog:Bd)(w:BM):PySem.KeyKind prog w As where
 is:=tD
 hash:=xJ w
 inj:=fun v a b ha hb=>by
  rcases aK ha with⟨i,t,rfl,rfl⟩|⟨x,t,rfl,rfl⟩
  · rcases aK hb with⟨j,u,rfl,e⟩|⟨y,u,rfl,e⟩
    · injection e with e1 _;rw[e1]
    · exact nomatch e
  · rcases aK hb with⟨j,u,rfl,e⟩|⟨y,u,rfl,e⟩
    · exact nomatch e
    · injection e with e1 _;rw[e1]
 byValue:=fun k v h=>by
   rcases aK h with⟨i,t,rfl,rfl⟩|⟨x,t,rfl,rfl⟩<;>rfl
 pyHash:=fun hv h=>by
  rcases aK hv with⟨i,t,rfl,rfl⟩|⟨x,t,rfl,rfl⟩
  · exact wpAny_pyHash_int h
  · exact wpAny_pyHash_str h
 eqBool:=fun hu hv h=>by
  rcases aK hu with⟨i,t,rfl,rfl⟩|⟨x,t,rfl,rfl⟩
  · rcases aK hv with⟨j,u,rfl,rfl⟩|⟨y,u,rfl,rfl⟩
    · rw[tq]at h;exact wpAny_eqBool_int h
    · rw[tm]at h;exact SeqAt.EqAt.int_str i t y u _ _ _ _ h
  · rcases aK hv with⟨j,u,rfl,rfl⟩|⟨y,u,rfl,rfl⟩
    · rw[tj]at h;exact SeqAt.EqAt.str_int x t j u _ _ _ _ h
    · rw[tf]at h;exact wpAny_eqBool_str h
 «strs»:=fun k x t v h=>by
  rcases aK h with⟨i,u,rfl,e⟩|⟨y,u,rfl,e⟩
  · exact nomatch e
  · injection e with e1 _
    subst e1;cases v<;>rfl
inductive V where
 | non|bl (b:Bool)|int (i:Int)|str (x:Str)|byt (b:Array UInt8)|flt (b:UInt64)|ref (a:Addr)|ty (n:String)
 deriving DecidableEq
noncomputable def RelV:V->AR->Prop
 | .non,u=>u=CI
 | .bl b,u=>u=AR.bool b
 | .int i,u=>∃t,u=F8 i t
 | .str x,u=>∃t,u=AR.str x t
 | .byt b,u=>∃t,u=AR.bytes b t
 | .flt b,u=>∃t,u=AR.float b t
 | .ref a,u=>u=BY a
 | .ty n,u=>u=Ez n
abbrev bB:List V->List AR->Prop:=BC RelV
theorem bB.length{xs:List V}(r:bB xs us):xs.length=us.length:=De r
theorem bB.get:∀{xs:List V}{us:List AR}{i:Nat}{x:V},bB xs us->xs[i]?=some x->∃u,us[i]?=some u/\RelV x u
 | _,_,_,_,.nil,e=>by simp at e
 | _,_,0,_,.cons r _,e=>by simp at e;subst e;exact⟨_,rfl,r⟩
 | _,_,i+1,x,.cons _ t,e=>by
   obtain⟨u,h1,h2⟩:=bB.get (i:=i) (x:=x) t (by simpa using e);exact⟨u,by simpa using h1,h2⟩
theorem bB.set{x:V}{u:AR}(r:RelV x u):∀{xs:List V}{us:List AR}(i:Nat),bB xs us->bB (xs.set i x) (us.set i u)
 | _,_,_,.nil=>.nil
 | _,_,0,.cons _ t=>.cons r t
 | _,_,i+1,.cons q t=>.cons q (bB.set r i t)
theorem bB.append:∀{xs ys:List V}{us ws:List AR},bB xs us->bB ys ws->bB (xs++ys) (us++ws)
 | _,_,_,_,.nil,s=>s
 | _,_,_,_,.cons r t,s=>.cons r (bB.append t s)
theorem bB.take:∀{xs:List V}{us:List AR}(n:Nat),bB xs us->bB (xs.take n) (us.take n)
 | _,_,0,_=>.nil
 | _,_,_+1,.nil=>.nil
 | _,_,n+1,.cons r t=>.cons r (bB.take n t)
theorem bB.drop:∀{xs:List V}{us:List AR}(n:Nat),bB xs us->bB (xs.drop n) (us.drop n)
 | _,_,0,r=>r
 | _,_,_+1,.nil=>.nil
 | _,_,n+1,.cons _ t=>bB.drop n t
noncomputable def xa:Option V->Option AR->Prop
 | some v,some u=>RelV v u
 | none,none=>True
 | _,_=>False
noncomputable def KV{κ:Type}:List (κ×V)->List (κ×AR)->Prop:=BC fun(p:κ×V)(q:κ×AR)=>p.1=q.1/\RelV p.2 q.2
noncomputable def kV:As->V
 | .inl i=>.int i
 | .inr x=>.str x
inductive HO where
 | lst (xs:List V)
 | tup (xs:List V)
 | dK (kvs:List (As×V))|dT (kvs:List (List As×V))
 | set (S:Int->Bool) (n:Nat)
 | ins (C dx:Addr) (fs:List (Str×V))
 | own (x:Addr)
 | xd (fs:List (Str×V))
 | met (f x:Addr)
 | rng (lo hi:Int)
 | frz (o:Obj) (u:HO)
 | tbl (ps:Array AR)
 | ext (φ:Heap->Prop)
abbrev Hp:=Addr->Option HO
noncomputable def upd(H:Hp)(a:Addr)(o:HO):Hp:=fun b=>if b=a then some o else H b
theorem ak{H:Hp}{o:HO}:upd H a o a=some o:=by unfold upd;rw[if_pos rfl]
theorem upd_ne{H:Hp}{b:Addr}{o:HO}(h:b≠a):upd H a o b=H b:=by unfold upd;rw[if_neg h]
theorem dJ{H:Hp}{o u:HO}:upd (upd H a o) a u=upd H a u:=by
 funext b;unfold upd;split<;>rfl
theorem ay{H:Hp}{b:Addr}{o:HO}(h:H a=some o)(h':H b=none):a≠b:=by
 intro e;subst e;rw[h]at h';cases h'
section
variable(P:Bd)(w:BM)
noncomputable def lS(h:Heap)(a:Addr)(items:Array AR):Prop:=∃o,h.get? a=some o/\o.cls = .type "tuple" /\ (∃n,o.data = .seq items n)/\o.dict=none
theorem lS.tup{h:Heap}{a:Addr}{items:Array AR}(x:lS h a items):IsTup h a items:=let ⟨o,e1,e2,e3,_⟩:=x;⟨o,e1,e2,e3⟩
theorem lS.new(h:Heap)(items:Array AR):lS (h.push {cls:=.type "tuple", data:=.seq items}) h.objs.size items:=⟨_,A3 _ rfl,rfl,⟨_,rfl⟩,rfl⟩
noncomputable def cj(H:Hp)(h:Heap)(a:Addr):HO->Prop
 | .lst xs=>xs.length<=sizeLine/\∃(its:List AR)(n:Nat),bB xs its/\h.get? a=some {cls:=.type "list", data:=.seq its.toArray n}
 | .tup xs=>xs.length<=sizeLine/\∃its:List AR,bB xs its/\lS h a its.toArray
 | .dK kvs=>kvs.length<=sizeLine/\(a==DV)=false/\∃vs,KV kvs vs/\h.DictOf (k6 P w) a vs
 | .dT kvs=>kvs.length<=sizeLine/\(a==DV)=false/\∃xs:List (List As×Addr×AR),
     BC (fun(p:List As×V)(q:List As×Addr×AR)=>p.1=q.1/\H q.2.1=some (.tup (p.1.map kV))/\RelV p.2 q.2.2) kvs xs /\
     ∃o es ep,h.get? a=some o/\o.ExactDict/\o.data = .dict es ep/\es.toList=xs.map (Gf (B_ (k6 P w)))/\(xs.map (·.1)).Nodup
 | .set S n=>h.SetOf (CH P w) a S n
 | .ins C dx fs=>H dx=some (.own a)/\fs.length<=1000/\dx≠a/\h.get? a=some (W.instObj C dx) /\
     ∃mA,h.Ns1 dx mA/\(∀f,xa (fs.lookup f) (mA f))/\PySem.Within mA (fs.map (·.1))
 | .own _=>∃o,h.get? a=some o
 | .xd fs=>∃mA,h.Ns1 a mA/\∀f,xa (fs.lookup f) (mA f)
 | .rng lo hi=>∃t u v,h.get? a=some {cls:=.type "range", data:=.fields #[.int lo t,.int hi u,.int 1 v]}
 | .frz o u=>h.get? a=some o/\cj H h a u
 | .tbl ps=>h.get? a=some {cls:=.none,data:=.fields ps}
 | .met f x=>h.get? a=some (W.methodObj (.ref f) (.ref x))
 | .ext φ=>φ h/\(∃o,h.get? a=some o)/\∀h1 h2:Heap,φ h1->(∀o,h1.get? a=some o->h2.get? a=some o)->φ h2
noncomputable def AE(H:Hp)(h:Heap):Prop:=∀a o,H a=some o->cj P w H h a o
end
section
variable{P:Bd}{w:BM}{H H':Hp}{h h':Heap}{a:Addr}{o:HO}
theorem cj.lt(x:cj P w H h a o):a<h.objs.size:=by
 cases o with
 | lst xs=>obtain⟨_,_,_,_,e⟩:=x;exact A0 e
 | tup xs=>obtain⟨_,_,_,p⟩:=x;exact p.tup.lt
 | dK kvs=>obtain⟨_,_,_,_,o,_,_,e,_⟩:=x;exact A0 e
 | dT kvs=>obtain⟨_,_,_,_,o,_,_,e,_⟩:=x;exact A0 e
 | set S n=>obtain⟨o,_,_,_,e,_⟩:=x;exact A0 e
 | ins C dx fs=>obtain⟨_,_,_,e,_⟩:=x;exact A0 e
 | own y=>obtain⟨_,e⟩:=x;exact A0 e
 | xd fs=>obtain⟨_,⟨_,_,_,e,_⟩,_⟩:=x;exact A0 e
 | rng lo hi=>obtain⟨_,_,_,e⟩:=x;exact A0 e
 | frz ob u=>obtain⟨e,_⟩:=x;exact A0 e
 | tbl ps=>exact A0 (show h.get? a=some _ from x)
 | met f y=>exact A0 (show h.get? a=some _ from x)
 | ext φ=>obtain⟨_,⟨_,e⟩,_⟩:=x;exact A0 e
theorem BC.mapP{α β:Type}{F G:α->β->Prop}:∀{l₁:List α}{l₂:List β},BC F l₁ l₂->(∀a b,F a b->G a b)->BC G l₁ l₂
 | _,_,.nil,_=>.nil
 | _,_,.cons r t,f=>.cons (f _ _ r) (BC.mapP t f)
theorem cj.stay(x:cj P w H h a o)(k:∀b u,(b=a\/H b=some (.own a))->h.get? b=some u->h'.get? b=some u)
 (ho:∀b,H b=some (.own a)->H' b=some (.own a))(ht:∀b xs,H b=some (.tup xs)->H' b=some (.tup xs)):cj P w H' h' a o:=by
 induction o with
 | lst xs=>obtain⟨z,its,n,r,e⟩:=x;exact⟨z,its,n,r,k _ _ (.inl rfl) e⟩
 | tup xs=>obtain⟨z,its,r,ob,e,c⟩:=x;exact⟨z,its,r,ob,k _ _ (.inl rfl) e,c⟩
 | dK kvs=>obtain⟨z,y,vs,r,ob,es,ep,e,c⟩:=x;exact⟨z,y,vs,r,ob,es,ep,k _ _ (.inl rfl) e,c⟩
 | dT kvs =>
   obtain⟨z,y,xs,r,ob,es,ep,e,c⟩:=x
   exact⟨z,y,xs,BC.mapP r fun p q z=>⟨z.1,ht _ _ z.2.1,z.2.2⟩,ob,es,ep,k _ _ (.inl rfl) e,c⟩
 | set S n=>obtain⟨ob,es,ep,t,e,c⟩:=x;exact⟨ob,es,ep,t,k _ _ (.inl rfl) e,c⟩
 | ins C dx fs =>
   obtain⟨d,z,ne,e,mA,⟨od,es,ep,e2,c⟩,r⟩:=x
   exact⟨ho _ d,z,ne,k _ _ (.inl rfl) e,mA,⟨od,es,ep,k _ _ (.inr d) e2,c⟩,r⟩
 | own y=>obtain⟨ob,e⟩:=x;exact⟨ob,k _ _ (.inl rfl) e⟩
 | xd fs=>obtain⟨mA,⟨od,es,ep,e,c⟩,r⟩:=x;exact⟨mA,⟨od,es,ep,k _ _ (.inl rfl) e,c⟩,r⟩
 | rng lo hi=>obtain⟨t,u,v,e⟩:=x;exact⟨t,u,v,k _ _ (.inl rfl) e⟩
 | frz ob u ih=>obtain⟨e,q⟩:=x;exact⟨k _ _ (.inl rfl) e,ih q⟩
 | tbl ps =>
   have e:h.get? a=some {cls:=.none,data:=.fields ps}:=x;show h'.get? a=some {cls:=.none,data:=.fields ps}
   exact k a _ (.inl rfl) e
 | met f y =>
   have e:h.get? a=some (W.methodObj (.ref f) (.ref y)):=x;show h'.get? a=some (W.methodObj (.ref f) (.ref y))
   exact k a _ (.inl rfl) e
 | ext φ=>obtain⟨p,⟨o,e⟩,st⟩:=x;exact⟨st _ _ p fun o q=>k _ _ (.inl rfl) q,⟨o,k _ _ (.inl rfl) e⟩,st⟩
theorem AE.lt(x:AE P w H h)(e:H a=some o):a<h.objs.size:=(x a o e).lt
theorem AE.fresh(x:AE P w H h)(e:h.objs.size<=a):H a=none:=by
 cases q:H a with
 | none=>rfl
 | some u=>exact absurd (A7 (x.lt q) e) (BX _)
theorem AE.kept(x:AE P w H h)(k:∀b u,h.get? b=some u->h'.get? b=some u):AE P w H h':=fun a o e =>
 (x a o e).stay (fun b u _ q=>k b u q) (fun _ q=>q) fun _ _ q=>q
theorem AE.laid(x:AE P w H h)(k:∀b u,h.get? b=some u->h'.get? b=some u)(hp:h.objs.size<=a)(new:cj P w (upd H a o) h' a o):AE P w (upd H a o) h':=fun b u e=>by
 have hn:=x.fresh hp;by_cases hb:b=a
 · subst hb;rw[ak]at e;cases e;exact new
 · rw[upd_ne hb]at e;exact(x b u e).stay (fun c v _ q=>k c v q) (fun c q=>by rw[upd_ne (ay q hn)];exact q) fun c xs q=>by rw[upd_ne (ay q hn)];exact q
end
noncomputable def Rd(H:Hp)(a:Addr)(u:HO):Prop:=H a=some u\/∃o,H a=some (.frz o u)
theorem Rd.ok{w:BM}{H:Hp}{u:HO}(r:Rd H a u)(x:AE P w H h):cj P w H h a u:=by
 rcases r with r|⟨o,r⟩
 · exact x a u r
 · obtain⟨_,q⟩:=x a _ r;exact q
noncomputable def Ap:Option HO->Prop
 | some (.lst _)=>True
 | some (.dK _)=>True
 | some (.dT _)=>True
 | some (.set _ _)=>True
 | some (.ins _ _ _)=>True
 | some (.ext _)=>True
 | _=>False
section
variable{P:Bd}{w:BM}{H:Hp}{h h':Heap}{x e:Addr}{o':HO}
theorem AE.write(ok:AE P w H h)(mu:Ap (H x))(he:e=x\/H e=some (.own x))(k:∀b u,b≠e->h.get? b=some u->h'.get? b=some u)(heo:∃u,h'.get? e=some u)
 (new:cj P w (upd H x o') h' x o'):AE P w (upd H x o') h':=fun b u q=>by
 have nown:∀c y,H c=some (.own y)->c≠x:=fun c y r z=>by subst z;rw[r]at mu;exact mu
 have ntup:∀c xs,H c=some (.tup xs)->c≠x:=fun c xs r z=>by subst z;rw[r]at mu;exact mu
 by_cases hb:b=x
 · subst hb;rw[ak]at q;cases q;exact new
 · rw[upd_ne hb]at q;by_cases hbe:b=e
   · have q':H b=some (.own x):=by
       rcases he with z|z
       · exact absurd (hbe.trans z) hb
       · rw[hbe];exact z
     rw[q]at q';cases q';obtain⟨v,hv⟩:=heo;exact⟨v,by rw[hbe];exact hv⟩
   · refine(ok b u q).stay (fun c v hc r=>k c v ?_ r) (fun c r=>by rw[upd_ne (nown c b r)];exact r) fun c xs r=>by rw[upd_ne (ntup c xs r)];exact r
     rcases hc with rfl|hc
     · exact hbe
     · rintro rfl;rcases he with z|z
       · exact nown c b hc z
       · rw[hc]at z;cases z;exact hb rfl
end
structure Un (fs ex:List Addr) (H H':Hp) (h h':Heap):Prop where
 keep:∀b o,h.get? b=some o->H b=none->b∉fs->b∉ex->h'.get? b=some o
 slot:∀b o,h.get? b=some o->H b=none->b∈fs->b∉ex->∃sl,h'.get? b=some {o with slots:=sl}
 free:∀b o,h.get? b=some o->H b=none->b∉ex->H' b=none
 there:∀b o,h.get? b=some o->b∉ex->∃o',h'.get? b=some o'
 tups:∀b xs,H b=some (.tup xs)->H' b=some (.tup xs)
 frzs:∀b o u,H b=some (.frz o u)->H' b=some (.frz o u)
 tbls:∀b ps,H b=some (.tbl ps)->∃more,H' b=some (.tbl (ps++more))
section
variable{fs fs' ex ex':List Addr}{H H1 H2:Hp}{h h1 h2 h':Heap}{a x e:Addr}{o:HO}
theorem Un.any(u:Un fs ex H H1 h h1){b:Addr}{ob:Obj}(q:h.get? b=some ob)(n:H b=none)(hx:b∉ex):∃sl,h1.get? b=some {ob with slots:=sl}:=by
 by_cases hb:b∈fs
 · exact u.slot b ob q n hb hx
 · exact⟨ob.slots,u.keep b ob q n hb hx⟩
theorem Un.kept(k:∀b u,h.get? b=some u->h'.get? b=some u):Un fs ex H H h h' :=
 ⟨fun b ob q _ _ _=>k b ob q,fun b ob q _ _ _=>⟨ob.slots,k b ob q⟩,fun _ _ _ n _=>n,fun b ob q _=>⟨ob,k b ob q⟩,fun _ _ q=>q,fun _ _ _ q=>q,fun _ ps q=>⟨#[],by rw[q];simp⟩⟩
theorem Un.refl:Un fs ex H H h h:=Un.kept fun _ _ q=>q
theorem Un.laid(k:∀b u,h.get? b=some u->h'.get? b=some u)(hp:h.objs.size<=a)(hn:H a=none):Un fs ex H (upd H a o) h h' where
 keep:=fun b u q _ _ _=>k b u q
 slot:=fun b u q _ _ _=>⟨u.slots,k b u q⟩
 free:=fun b u q n _=>by rw[upd_ne (BE (A7 (A0 q) hp))];exact n
 there:=fun b u q _=>⟨u,k b u q⟩
 tups:=fun b xs q=>by rw[upd_ne (ay q hn)];exact q
 frzs:=fun b u xs q=>by rw[upd_ne (ay q hn)];exact q
 tbls:=fun b ps q=>⟨#[],by rw[upd_ne (ay q hn),q];simp⟩
theorem Un.write(mu:Ap (H x))(he:e=x\/H e=some (.own x))(k:∀b u,b≠e->h.get? b=some u->h'.get? b=some u)(heo:∃u,h'.get? e=some u):Un fs ex H (upd H x o) h h':=by
 have hx:∀b,H b=none->b≠x:=fun b n z=>by subst z;rw[n]at mu;exact mu
 have hb:∀b,H b=none->b≠e:=fun b n z=>by
  subst z;rcases he with r|r
  · exact hx b n r
  · rw[n]at r;cases r
 have hm:∀b u,H b=some u->¬Ap (some u)->b≠x:=fun b u q nm z=>by subst z;rw[q]at mu;exact nm mu
 refine⟨fun b u q n _ _=>k b u (hb b n) q,fun b u q n _ _=>⟨u.slots,k b u (hb b n) q⟩,fun b u q n _=>by rw[upd_ne (hx b n)];exact n,fun b u q _=>?_,
  fun b xs q=>by rw[upd_ne (hm b _ q fun z=>z)];exact q,fun b u xs q=>by rw[upd_ne (hm b _ q fun z=>z)];exact q,fun b ps q=>⟨#[],by rw[upd_ne (hm b _ q fun z=>z),q];simp⟩⟩
 by_cases hbe:b=e
 · subst hbe;exact heo
 · exact⟨u,k b u hbe q⟩
end
noncomputable def yu(h:Heap)(H:Hp):List Addr:=(Bq h.objs.size).filter fun a=>(H a).isSome
noncomputable def nh(h:Heap)(H:Hp):Heap:=W.hideAll h (yu h H)
theorem lv(h:Heap)(H:Hp):(nh h H).objs.size=h.objs.size:=W.hideAll_size _ _
theorem na{H:Hp}{b:Addr}(e:h.get? b=some o)(n:H b=none):(nh h H).get? b=some o :=
 W.hideAll_get _ e fun hm=>by
  have q:(H b).isSome=true:=(List.mem_filter.mp hm).2;rw[n]at q;simp at q
theorem qe{H:Hp}{b:Addr}(e:(nh h H).get? b=some o):h.get? b=some o/\H b=none:=by
 have e':h.get? b=some o:=W.of_hideAll (yu h H) e;refine⟨e',?_⟩
 cases q:H b with
 | none=>rfl
 | some x =>
   have hm:b∈yu h H:=List.mem_filter.mpr ⟨Cc.mpr (A0 e'),by simp[q]⟩;have z:(nh h H).get? b=none:=W.hideAll_none (yu h H) hm;rw[z]at e;cases e
noncomputable def qT(g h:Heap)(L:Addr):List (Addr×Obj):=(Bq h.objs.size).filterMap fun a=>if a=L\/(g.get? a).isSome=true then none else(h.get? a).map fun o=>(a,o)
noncomputable def rest(g h:Heap)(L d:Addr):List (Addr×Obj):=(qT g h L).filter fun p=>decide (p.1≠d)
structure Mod (K:W.Frag) (mg:Str->Option AR) (base:Heap):Prop where
 kin:K.In base
 glob:base.Ns Bu mg
 blt:∃mb,base.Ns builtinsNs mb/\∀x:Str,x ≠ "__name__" -> mb x=Du x
 nolimit:base.NoLimit
structure Cx where
 prog:Bd
 w:BM
 K:W.Frag
 mg:Str->Option AR
 base:Heap
 A:BJ
 N:List Str
 s₀:AS
 H₀:Hp
 env:Env
 outer:List Env
 stack:List Env
 ex:List Addr
 fn:Str->Bool
 calm:Bool
 pn:List (Addr×Obj)
 xe:AR->AS->Prop
noncomputable def frs(l:List Env):List Addr:=l.filterMap (·.frame)
abbrev Cx.fs(X:Cx):List Addr:=frs X.outer
noncomputable def zN(sc:Scope)(x:Str):Prop:=sc.names.lookup x=some .local\/sc.names.lookup x=some .cell\/sc.names.lookup x=some .free
noncomputable def Loc(sc:Scope)(x:Str):Prop:=sc.names.lookup x=some .local\/sc.names.lookup x=some .cell
noncomputable def Look(env:Env)(h:Heap)(m:Str->Option AR)(x:Str)(u:AR):Prop :=
 (env.kindOf x=some .local/\m x=some u)\/((env.kindOf x=some .cell\/env.kindOf x=some .free)/\∃c,env.cells.lookup x=some c/\h.IsCell c (some u))
structure Cx.Ok (X:Cx):Prop where
 mod:Mod X.K X.mg X.base
 kind:X.env.scope.kind = .function
 glob:X.env.globals=Bu
 blt:X.env.builtins=builtinsNs
 above:X.s₀.heap.objs.size<=X.env.locals
 inj:∀x y c,X.env.cells.lookup x=some c->X.env.cells.lookup y=some c->x=y
 has:∀x,(X.env.kindOf x=some .cell\/X.env.kindOf x=some .free)->∃c,X.env.cells.lookup x=some c
 cab:∀x c,X.fn x=true->X.env.cells.lookup x=some c->X.s₀.heap.objs.size<=c
 hd:X.calm=true->X.A.handled=none
 frames:X.A.frames=some X.stack
 stk:X.stack=X.outer\/(X.stack=X.env::X.outer/\X.env.frame=some X.env.locals)
 exf:∀b∈X.ex,b≠X.env.locals/\∀x c,X.env.cells.lookup x=some c->c≠b
 bs:∀b o,X.base.get? b=some o->X.s₀.heap.get? b=some o/\X.H₀ b=none
 bsz:X.base.objs.size<=X.s₀.heap.objs.size
 noex:∀b o,X.base.get? b=some o->b∉X.ex
 exfs:∀b∈X.ex,b∉X.fs
 funs:X.s₀.heap.FunFrames X.base X.outer
 frf:∀b∈X.fs,X.H₀ b=none
structure Inv (X:Cx) (pins:List (Addr×Obj)) (σ:List (Option V)) (H:Hp) (s:AS):Prop where
 ok:X.Ok
 os:s.os=X.s₀.os
 bare:FT s.gens
 base:Un X.fs X.ex X.H₀ H X.s₀.heap s.heap
 loc:∃m,s.heap.Ns X.env.locals m/\∀(i:Nat)(x:Str)(v:V),X.N[i]?=some x->σ[i]?=some (some v)->zN X.env.scope x->∃u,RelV v u/\Look X.env s.heap m x u
 cell:∀x c,X.env.cells.lookup x=some c->∃v,s.heap.IsCell c v
 free:H X.env.locals=none
 freeC:∀x c,X.env.cells.lookup x=some c->H c=none
 pin:∀p∈X.pn++pins,s.heap.get? p.1=some p.2/\H p.1=none/\p.1≠X.env.locals/\p.1∉X.fs/\∀v,p.2.data ≠ .cell v
 hok:AE X.prog X.w H s.heap
 len:σ.length=X.N.length
section
variable{X:Cx}{pins:List (Addr×Obj)}{σ:List (Option V)}{H H':Hp}{s:AS}{h':Heap}
theorem Cx.Ok.nofr(ok:X.Ok){b:Addr}(e:X.base.get? b=some o):b∉X.fs:=fun hb=>by
 have:=(ok.funs.mem hb).1;rw[e]at this;cases this
theorem Inv.bs(I:Inv X pins σ H s):∀b o,X.base.get? b=some o->s.heap.get? b=some o/\H b=none:=fun b o e =>
 ⟨I.base.keep b o (I.ok.bs b o e).1 (I.ok.bs b o e).2 (I.ok.nofr e) (I.ok.noex b o e),I.base.free b o (I.ok.bs b o e).1 (I.ok.bs b o e).2 (I.ok.noex b o e)⟩
theorem Inv.bk(I:Inv X pins σ H s):∀b o,X.base.get? b=some o->s.heap.get? b=some o:=fun b o e=>(I.bs b o e).1
theorem Inv.mod(I:Inv X pins σ H s):Mod X.K X.mg X.base:=I.ok.mod
theorem Inv.kIn(I:Inv X pins σ H s):X.K.In s.heap:=I.ok.mod.kin.keeps I.bk
theorem Inv.lt(I:Inv X pins σ H s):X.env.locals<s.heap.objs.size:=let ⟨_,hn,_⟩:=I.loc;hn.lt
theorem Inv.sz(I:Inv X pins σ H s):X.s₀.heap.objs.size<=s.heap.objs.size:=Ca I.ok.above (E9 I.lt)
theorem Inv.nofs(I:Inv X pins σ H s)(h:s.heap.objs.size<=a):a∉X.fs:=fun hb=>by
 obtain⟨_,o,ho,_⟩:=I.ok.funs.mem hb;exact absurd (A7 (A0 ho) (Ca I.sz h)) (BX _)
theorem Inv.cne(I:Inv X pins σ H s):∀x c,X.env.cells.lookup x=some c->c≠X.env.locals:=fun x c e z=>by
 obtain⟨v,o,ho,hd⟩:=I.cell x c e;obtain⟨m,⟨o',es,ep,ho',hd',_⟩,_⟩:=I.loc;rw[z,ho']at ho;cases ho;rw[hd']at hd;cases hd
theorem Inv.funs(I:Inv X pins σ H s):s.heap.FunFrames X.base X.outer:=by
 have all:∀(l:List Env),(∀b∈frs l,b∈X.fs)->X.s₀.heap.FunFrames X.base l->s.heap.FunFrames X.base l:=by
  intro l
  induction l with
  | nil=>intro _ _;trivial
  | cons env r ih =>
    intro hs hl;obtain⟨hk,⟨L,o,hf,hn,ho,hd⟩,hr⟩:=hl;have hL:L∈X.fs:=hs L (by unfold frs;rw[Dr,hf];exact AZ);obtain⟨sl,e⟩:=I.base.slot L o ho (I.ok.frf L hL) hL fun z=>I.ok.exfs L z hL;exact⟨hk,⟨L,_,hf,hn,e,hd⟩,ih (fun b hb=>hs b (by unfold frs;rw[Dr,hf];exact AU _ hb)) hr⟩
 exact all X.outer (fun _ hb=>hb) I.ok.funs
theorem Inv.stack(I:Inv X pins σ H s):s.heap.FunFrames X.base X.stack:=by
 rcases I.ok.stk with e|⟨e,hf⟩
 · rw[e];exact I.funs
 · rw[e];obtain⟨m,hn,_⟩:=I.loc;refine .cons (by rw[I.ok.kind];decide) hf hn ?_ I.funs;exact Heap.get?_none_of_le (Ca I.ok.bsz I.ok.above)
theorem Inv.stkSub(I:Inv X pins σ H s):∀b∈frs X.stack,b∈X.env.locals::X.fs:=fun b hb=>by
 rcases I.ok.stk with e|⟨e,hf⟩
 · rw[e]at hb;exact AU _ hb
 · rw[e]at hb;unfold frs at hb;rw[Dr,hf]at hb;exact hb
theorem Inv.stkFree(I:Inv X pins σ H s):∀b∈frs X.stack,H b=none:=fun b hb=>by
 rcases Bo.mp (I.stkSub b hb)with e|hb
 · rw[e];exact I.free
 · obtain⟨_,o,ho,_⟩:=I.ok.funs.mem hb;exact I.base.free b o ho (I.ok.frf b hb) fun z=>I.ok.exfs b z hb
theorem Inv.step{g':Array GenState}{d':Drawn}{ch:List Addr}(I:Inv X pins σ H s)
 (hch:∀b∈ch,(b∈X.ex\/X.s₀.heap.objs.size<=b)/\b≠X.env.locals/\(∀x c,X.env.cells.lookup x=some c->c≠b)/\∀p∈X.pn++pins,p.1≠b)
 (keep:∀b o,b≠X.env.locals->b∉X.fs->b∉ch->s.heap.get? b=some o->H b=none->h'.get? b=some o)
 (slot:∀b o,b≠X.env.locals->b∈X.fs->b∉ch->s.heap.get? b=some o->H b=none->∃sl,h'.get? b=some {o with slots:=sl})(free:∀b o,b∉ch->s.heap.get? b=some o->H b=none->H' b=none)
 (there:∀b o,b∉ch->s.heap.get? b=some o->∃o',h'.get? b=some o')
 (tups:∀b xs,H b=some (.tup xs)->H' b=some (.tup xs))(frzs:∀b o u,H b=some (.frz o u)->H' b=some (.frz o u))(tbls:∀b ps,H b=some (.tbl ps)->∃more,H' b=some (.tbl (ps++more)))
 (ns:∀m,s.heap.Ns X.env.locals m->h'.Ns X.env.locals m)(hok:AE X.prog X.w H' h')(hg:FT g') :
 Inv X pins σ H' {s with heap:=h',gens:=g',drawn:=d',toks:=t' }:=by
 have neL:∀b o,X.s₀.heap.get? b=some o->b≠X.env.locals:=fun b o e=>BE (A7 (A0 e) I.ok.above)
 have neC:∀b o,X.s₀.heap.get? b=some o->b∉X.ex->b∉ch:=fun b o e hx hb=>by
  rcases(hch b hb).1 with z|z
  · exact hx z
  · exact absurd (A7 (A0 e) z) (BX _)
 have cellK:∀x c,X.env.cells.lookup x=some c->∀v,s.heap.IsCell c v->h'.IsCell c v:=fun x c e v ⟨o,ho,hd⟩=>by
  have nch:c∉ch:=fun z=>(hch c z).2.2.1 x c e rfl;by_cases hc:c∈X.fs
  · obtain⟨sl,q⟩:=slot c o (I.cne x c e) hc nch ho (I.freeC x c e);exact⟨_,q,hd⟩
  · exact⟨o,keep c o (I.cne x c e) hc nch ho (I.freeC x c e),hd⟩
 refine⟨I.ok,I.os,hg,⟨fun b o e n hb hx=>?_,fun b o e n hb hx=>?_,fun b o e n hx=>?_,fun b o e hx=>?_,fun b xs e=>tups b xs (I.base.tups b xs e),fun b o xs e=>frzs b o xs (I.base.frzs b o xs e),fun b ps e=>?_⟩,?_,fun x c e=>?_,?_,fun x c e=>?_,fun p hp=>?_,hok,I.len⟩
 · exact keep b o (neL b o e) hb (neC b o e hx) (I.base.keep b o e n hb hx) (I.base.free b o e n hx)
 · obtain⟨sl,e1⟩:=I.base.slot b o e n hb hx;obtain⟨sl',e2⟩:=slot b _ (neL b o e) hb (neC b o e hx) e1 (I.base.free b o e n hx);exact⟨sl',e2⟩
 · obtain⟨o',e1⟩:=I.base.there b o e hx;exact free b o' (neC b o e hx) e1 (I.base.free b o e n hx)
 · obtain⟨o',e1⟩:=I.base.there b o e hx;exact there b o' (neC b o e hx) e1
 · obtain⟨m1,e1⟩:=I.base.tbls b ps e;obtain⟨m2,e2⟩:=tbls b _ e1;exact⟨m1++m2,by rw[e2,Array.append_assoc]⟩
 · obtain⟨m,hn,hl⟩:=I.loc;refine⟨m,ns m hn,fun i x v e1 e2 e3=>?_⟩;obtain⟨u,r,l⟩:=hl i x v e1 e2 e3;refine⟨u,r,?_⟩;rcases l with l|⟨k,c,e,z⟩
   · exact .inl l
   · exact .inr ⟨k,c,e,cellK x c e _ z⟩
 · obtain⟨v,z⟩:=I.cell x c e;exact⟨v,cellK x c e v z⟩
 · obtain⟨m,⟨o,_,_,ho,_⟩,_⟩:=I.loc;exact free _ o (fun z=>(hch _ z).2.1 rfl) ho I.free
 · obtain⟨v,o,ho,hd⟩:=I.cell x c e;exact free c o (fun z=>(hch c z).2.2.1 x c e rfl) ho (I.freeC x c e)
 · obtain⟨e,n,ne,nf,d⟩:=I.pin p hp;have nch:p.1∉ch:=fun z=>(hch p.1 z).2.2.2 p hp rfl;exact⟨keep p.1 p.2 ne nf nch e n,free p.1 p.2 nch e n,ne,nf,d⟩
theorem Inv.un(I:Inv X pins σ H s)(u:Un X.fs [] H H' s.heap h')(hok:AE X.prog X.w H' h'):Inv X pins σ H' {s with heap:=h',toks:=t' }:=by
 obtain⟨m,⟨o,es,ep,ho,r⟩,_⟩:=id I.loc;obtain⟨sl,hL⟩:=u.any ho I.free (by simp)
 exact I.step (g':=s.gens) (d':=s.drawn) (ch:=[]) (fun _ z=>nomatch z) (fun b o _ hb _ e n=>u.keep b o e n hb (by simp)) (fun b o _ hb _ e n=>u.slot b o e n hb (by simp)) (fun b o _ e n=>u.free b o e n (by simp)) (fun b o _ e=>u.there b o e (by simp)) u.tups u.frzs u.tbls (fun m' hm=>by
  obtain⟨o',es',ep',ho',r'⟩:=hm;rw[ho]at ho';cases ho'
  exact⟨_,es',ep',hL,r'⟩) hok I.bare
theorem Inv.call{g':Array GenState}{d':Drawn}{ch:List Addr}(I:Inv X pins σ H s)(u:Un (frs X.stack) ch H H' s.heap h')(hok:AE X.prog X.w H' h')(hg:FT g')
 (hch:∀b∈ch,(b∈X.ex\/X.s₀.heap.objs.size<=b)/\b≠X.env.locals/\(∀x c,X.env.cells.lookup x=some c->c≠b)/\∀p∈X.pn++pins,p.1≠b) :
 Inv X pins σ H' {s with heap:=h',gens:=g',drawn:=d',toks:=t' }:=by
 obtain⟨m,⟨o,es,ep,ho,r⟩,_⟩:=id I.loc;obtain⟨sl,hL⟩:=u.any ho I.free fun z=>(hch _ z).2.1 rfl
 exact I.step (ch:=ch) hch (fun b o hL hb hc e n=>u.keep b o e n (fun z=>(Bo.mp (I.stkSub b z)).elim hL hb) hc) (fun b o _ _ hc e n=>u.any e n hc) (fun b o hc e n=>u.free b o e n hc) (fun b o hc e=>u.there b o e hc) u.tups u.frzs u.tbls (fun m' hm=>by
  obtain⟨o',es',ep',ho',r'⟩:=hm;rw[ho]at ho';cases ho'
  exact⟨_,es',ep',hL,r'⟩) hok hg
theorem Inv.turned(I:Inv X pins σ H s)(k:∀b o,b≠it->s.heap.get? b=some o->h'.get? b=some o)(hn:H it=none)(hL:it≠X.env.locals)
 (h1:it∈X.ex\/X.s₀.heap.objs.size<=it)(h2:∀x c,X.env.cells.lookup x=some c->c≠it)(h3:∀p∈X.pn++pins,p.1≠it):Inv X pins σ H {s with heap:=h',toks:=t' }:=by
 have nit:∀b u,H b=some u->b≠it:=fun b u e z=>by rw[z,hn]at e;cases e
 refine I.step (g':=s.gens) (d':=s.drawn) (ch:=[it]) (fun b hb=>?_) (fun b o _ _ hc e _=>k b o (fun z=>hc (by simp[z])) e) (fun b o _ _ hc e _=>⟨o.slots,k b o (fun z=>hc (by simp[z])) e⟩) (fun _ _ _ _ n=>n)
  (fun b o hc e=>⟨o,k b o (fun z=>hc (by simp[z])) e⟩) (fun _ _ e=>e) (fun _ _ _ e=>e) (fun b ps e=>⟨#[],by rw[e];simp⟩) (fun m hm=>?_) (fun b u e=>?_) I.bare
 · have e:b=it:=by simpa using hb
   subst e;exact⟨h1,hL,h2,h3⟩
 · obtain⟨o,es,ep,ho,r⟩:=hm;exact⟨o,es,ep,k _ o (EK hL) ho,r⟩
 · refine(I.hok b u e).stay (fun c v hc q=>k c v ?_ q) (fun _ q=>q) fun _ _ q=>q;rcases hc with z|z
   · rw[z];exact nit b u e
   · exact nit c _ z
theorem Inv.tok(I:Inv X pins σ H s)(t:Nat):Inv X pins σ H {s with toks:=t}:=I.un (h':=s.heap) (t':=t) Un.refl I.hok
theorem Inv.kept{t':Nat}(I:Inv X pins σ H s)(k:∀b u,s.heap.get? b=some u->h'.get? b=some u):Inv X pins σ H {s with heap:=h',toks:=t' }:=I.un (Un.kept k) (I.hok.kept k)
theorem Inv.laid{a:Addr}{o:HO}{t':Nat}(I:Inv X pins σ H s)(k:∀b u,s.heap.get? b=some u->h'.get? b=some u)(hp:s.heap.objs.size<=a)(new:cj X.prog X.w (upd H a o) h' a o) :
 Inv X pins σ (upd H a o) {s with heap:=h',toks:=t' }:=I.un (Un.laid k hp (I.hok.fresh hp)) (I.hok.laid k hp new)
theorem Inv.write{x e:Addr}{o:HO}{t':Nat}(I:Inv X pins σ H s)(mu:Ap (H x))(he:e=x\/H e=some (.own x))(k:∀b u,b≠e->s.heap.get? b=some u->h'.get? b=some u)(heo:∃u,h'.get? e=some u)
 (new:cj X.prog X.w (upd H x o) h' x o):Inv X pins σ (upd H x o) {s with heap:=h',toks:=t' }:=I.un (Un.write mu he k heo) (I.hok.write mu he k heo new)
theorem Inv.pins_of{pins':List (Addr×Obj)}(I:Inv X pins σ H s)(h:∀p∈pins',s.heap.get? p.1=some p.2/\H p.1=none/\p.1≠X.env.locals/\p.1∉X.fs/\∀v,p.2.data ≠ .cell v):Inv X pins' σ H s :=
 ⟨I.ok,I.os,I.bare,I.base,I.loc,I.cell,I.free,I.freeC,fun p hp=>(Ce.mp hp).elim (fun z=>I.pin p (FC _ z)) (h p),I.hok,I.len⟩
theorem iW{N:List Str}(hN:N.Nodup)(a:N[i]?=some x)(b:N[j]?=some x):i=j:=by
 obtain⟨h1,e1⟩:=A2.mp a;obtain⟨h2,e2⟩:=A2.mp b;exact(List.getElem_inj hN).mp (e1.trans e2.symm)
theorem fY{M:Model}{v:V}{u:AR}{Q:Unit->AS->Prop}(I:Inv X pins σ H s)(hN:X.N.Nodup)(hi:X.N[i]?=some x)(hx:Loc X.env.scope x)(r:RelV v u)
 (h:∀s',Inv X pins (σ.set i (some v)) H s'->(∃a,Cn a s.heap s'.heap/\(a=X.env.locals\/X.env.cells.lookup x=some a))->Q () s')(hf:autoParam (X.fn x=true\/X.env.scope.names.lookup x=some .local) æg._auto_1):Bi M A (storeName X.env x u) Q E s:=by
 obtain⟨m,hn,hl⟩:=id I.loc;have hcls:(X.env.scope.kind == .class||(X.env.scope.kind == .module&&X.env.locals != X.env.globals))=false:=by rw[I.ok.kind];rfl
 have hiσ:i<σ.length:=by rw[I.len];exact(A2.mp hi).1
 have cne:=I.cne
 have tracked:∀{a:Addr}{h':Heap},(∃o,s.heap.get? a=some o/\H a=none)->Cn a s.heap h'->AE X.prog X.w H h':=fun{a h'} ha hs b ob e=>by
  obtain⟨_,_,hfree⟩:=ha;refine(I.hok b ob e).stay (fun c w' hc q=>(hs.2 c ?_).trans q) (fun _ q=>q) fun _ _ q=>q;rintro rfl;rcases hc with rfl|hc
  · rw[hfree]at e;cases e
  · rw[hfree]at hc;cases hc
 rcases hx with hk|hk
 · refine wpAny_storeName_local hk hn (fun h' hn' hs=>?_) hcls;obtain⟨oL,_,_,hoL,_⟩:=id hn;refine h _ ⟨I.ok,I.os,I.bare,⟨fun b o e n hb hx=>?_,fun b o e n hb hx=>?_,I.base.free,fun b o e hx=>?_,I.base.tups,I.base.frzs,I.base.tbls⟩,⟨_,hn',fun j y v' e1 e2 e3=>?_⟩,fun y c e=>?_,I.free,I.freeC,fun p hp=>?_,tracked ⟨oL,hoL,I.free⟩ hs,by simpa using I.len⟩ ⟨_,hs,.inl rfl⟩
   · exact(hs.2 b (BE (A7 (A0 e) I.ok.above))).trans (I.base.keep b o e n hb hx)
   · obtain⟨sl,e1⟩:=I.base.slot b o e n hb hx;exact⟨sl,(hs.2 b (BE (A7 (A0 e) I.ok.above))).trans e1⟩
   · obtain⟨o',e1⟩:=I.base.there b o e hx;exact⟨o',(hs.2 b (BE (A7 (A0 e) I.ok.above))).trans e1⟩
   · by_cases hj:j=i
     · subst hj;rw[hi]at e1;cases e1;rw[A9 hiσ]at e2;cases e2;exact⟨u,r,.inl ⟨hk,by simp⟩⟩
     · rw[A6 (EK hj)]at e2;obtain⟨u',r',q⟩:=hl j y v' e1 e2 e3;refine⟨u',r',?_⟩;rcases q with⟨k,e⟩|⟨k,c,e,z⟩
       · refine .inl ⟨k,?_⟩;have:y≠x:=fun e=>hj (iW hN e1 (e▸hi));simp[this,e]
       · exact .inr ⟨k,c,e,z.sameBut hs (cne y c e)⟩
   · obtain⟨w',z⟩:=I.cell y c e;exact⟨w',z.sameBut hs (cne y c e)⟩
   · obtain⟨e,n,ne,nf,d⟩:=I.pin p hp;exact⟨(hs.2 p.1 ne).trans e,n,ne,nf,d⟩
 · have hfn:X.fn x=true:=by
     rcases hf with z|z
     · exact z
     · rw[z]at hk;cases hk
   obtain⟨c,hc⟩:=I.ok.has x (.inl hk);obtain⟨w',z⟩:=I.cell x c hc;refine wpAny_storeName_cell I.ok.kind hk hc z (fun h' hc' hs=>?_);obtain⟨oc,hoc,hocd⟩:=id z;refine h {s with heap:=h' } ⟨I.ok,I.os,I.bare,⟨fun b o e n hb hx=>?_,fun b o e n hb hx=>?_,I.base.free,fun b o e hx=>?_,I.base.tups,I.base.frzs,I.base.tbls⟩,⟨m,hn.sameBut hs (EK (cne x c hc)),fun j y v' e1 e2 e3=>?_⟩,fun y c' e=>?_,I.free,I.freeC,fun p hp=>?_,tracked ⟨oc,hoc,I.freeC x c hc⟩ hs,by simpa using I.len⟩ ⟨c,hs,.inr hc⟩
   · exact(hs.2 b (BE (A7 (A0 e) (I.ok.cab x c hfn hc)))).trans (I.base.keep b o e n hb hx)
   · obtain⟨sl,e1⟩:=I.base.slot b o e n hb hx;exact⟨sl,(hs.2 b (BE (A7 (A0 e) (I.ok.cab x c hfn hc)))).trans e1⟩
   · obtain⟨o',e1⟩:=I.base.there b o e hx;exact⟨o',(hs.2 b (BE (A7 (A0 e) (I.ok.cab x c hfn hc)))).trans e1⟩
   · by_cases hj:j=i
     · subst hj;rw[hi]at e1;cases e1;rw[A9 hiσ]at e2;cases e2;exact⟨u,r,.inr ⟨.inl hk,c,hc,hc'⟩⟩
     · rw[A6 (EK hj)]at e2;obtain⟨u',r',q⟩:=hl j y v' e1 e2 e3;refine⟨u',r',?_⟩;rcases q with q|⟨k,c',e,z'⟩
       · exact .inl q
       · refine .inr ⟨k,c',e,z'.sameBut hs ?_⟩;rintro rfl;exact hj (iW hN e1 (I.ok.inj _ _ _ e hc▸hi))
   · by_cases hcc:c'=c
     · subst hcc;exact⟨_,hc'⟩
     · obtain⟨w2,z2⟩:=I.cell y c' e;exact⟨w2,z2.sameBut hs hcc⟩
   · obtain⟨e,n,ne,nf,d⟩:=I.pin p hp;refine⟨(hs.2 p.1 ?_).trans e,n,ne,nf,d⟩;intro q;rw[q,hoc]at e;have q':oc=p.2:=Bn e;exact d w' (by rw[<- q'];exact hocd)
theorem cR{M:Model}{v:V}{u:AR}{Q:Unit->AS->Prop}(I:Inv X pins σ H s)(hN:X.N.Nodup)(hi:X.N[i]?=some x)(hx:Loc X.env.scope x)(r:RelV v u)
 (h:∀s',Inv X pins (σ.set i (some v)) H s'->Q () s')(hf:autoParam (X.fn x=true\/X.env.scope.names.lookup x=some .local) æg._auto_1):Bi M A (storeName X.env x u) Q E s :=
 fY I hN hi hx r (fun s' I' _=>h s' I') hf
end
abbrev XK:=AR->Option Addr->Hp->Prop
abbrev St:=List (Option V)
abbrev VK:=V->Hp->Prop
abbrev TE:=St->Hp->VK->Prop
abbrev TT:=St->Hp->(Bool->Hp->Prop)->Prop
abbrev TA:=St->Hp->(List V->Hp->Prop)->Prop
structure Ends where
 nx:St->Hp->Prop
 rt:VK
 bk:St->Hp->Prop:=fun _ _=>False
 ct:St->Hp->Prop:=fun _ _=>False
abbrev TS:=Ends->St->Hp->Prop
noncomputable def EP(X:Cx)(pins:List (Addr×Obj))(σ:St)(Q:VK)(u:AR)(s':AS):Prop:=∃v H',Inv X pins σ H' s'/\RelV v u/\Q v H'
noncomputable def TP(X:Cx)(pins:List (Addr×Obj))(σ:St)(Q:Bool->Hp->Prop)(b:Bool)(s':AS):Prop:=∃H',Inv X pins σ H' s'/\Q b H'
noncomputable def AP(X:Cx)(pins:List (Addr×Obj))(σ:St)(Q:List V->Hp->Prop)(us:List AR)(s':AS):Prop:=∃vs H',Inv X pins σ H' s'/\bB vs us/\Q vs H'
noncomputable def SP(X:Cx)(pins:List (Addr×Obj))(D:Ends)(f:Flow)(s':AS):Prop :=
 match f with
 | .next=>∃σ' H',Inv X pins σ' H' s'/\D.nx σ' H'
 | .brk=>∃σ' H',Inv X pins σ' H' s'/\D.bk σ' H'
 | .cont=>∃σ' H',Inv X pins σ' H' s'/\D.ct σ' H'
 | .ret u=>∃v σ' H',Inv X pins σ' H' s'/\RelV v u/\D.rt v H'
noncomputable def PE(X:Cx)(e:Expr)(t:TE):Prop :=
 ∀(pins:List (Addr×Obj))(s:AS)(σ:St)(H:Hp)(Q:VK),Inv X pins σ H s->t σ H Q->Bi (BH X.prog X.w) X.A (eval e X.env) (EP X pins σ Q) X.xe s
noncomputable def PT(X:Cx)(e:Expr)(t:TT):Prop :=
 ∀(pins:List (Addr×Obj))(s:AS)(σ:St)(H:Hp)(Q:Bool->Hp->Prop),Inv X pins σ H s->t σ H Q->Bi (BH X.prog X.w) X.A (isTrue e X.env (eval e X.env)) (TP X pins σ Q) X.xe s
noncomputable def PW(X:Cx)(e:Expr)(t:TT):Prop :=
 ∀(whole:Sem AR)(pins:List (Addr×Obj))(s:AS)(σ:St)(H:Hp)(Q:Bool->Hp->Prop),Inv X pins σ H s->t σ H Q->Bi (BH X.prog X.w) X.A (isTrue e X.env whole) (TP X pins σ Q) X.xe s
theorem PW.pt{X:Cx}{e:Expr}{t:TT}(h:PW X e t):PT X e t:=h _
noncomputable def PA(X:Cx)(es:List Expr)(t:TA):Prop :=
 ∀(pos:Pos)(pins:List (Addr×Obj))(s:AS)(σ:St)(H:Hp)(Q:List V->Hp->Prop),Inv X pins σ H s->t σ H Q->Bi (BH X.prog X.w) X.A (spliced (Cj pos (AW es X.env))) (AP X pins σ Q) X.xe s
noncomputable def PS(X:Cx)(st:Stmt)(t:TS):Prop :=
 ∀(pins:List (Addr×Obj))(s:AS)(σ:St)(H:Hp)(D:Ends),Inv X pins σ H s->t D σ H->Bi (BH X.prog X.w) X.A (exec st X.env) (SP X pins D) X.xe s
noncomputable def Ag(X:Cx)(st:List Stmt)(t:TS):Prop :=
 ∀(pins:List (Addr×Obj))(s:AS)(σ:St)(H:Hp)(D:Ends),Inv X pins σ H s->t D σ H->Bi (BH X.prog X.w) X.A (execs st X.env) (SP X pins D) X.xe s
theorem yy{t:Sem α}{Q Q':α->AS->Prop}{M:Model}(h:Bi M A t Q E s)(hQ:∀a s,Q a s->Q' a s):Bi M A t Q' E s:=Df h hQ fun _ _ x=>x
section
variable{X:Cx}
noncomputable def wH(i:Nat):TE:=fun σ H Q=>∃v,σ[i]?=some (some v)/\Q v H
noncomputable def tC(v:V):TE:=fun _ H Q=>Q v H
theorem eG(hN:X.N[i]?=some x)(hv:zN X.env.scope x)(hd:autoParam ((x==("__debug__" : Str))=false) æb._auto_1)(hcd:autoParam ((x==("__classdict__" : Str))=false) æb._auto_1):PE X (.Name x pos) (wH i):=by
 intro pins s σ H Q I h;obtain⟨v,e,h⟩:=h;obtain⟨m,hn,hl⟩:=I.loc;obtain⟨u,r,l⟩:=hl i x v hN e hv;have fin:EP X pins σ Q u s:=⟨v,H,I,r,h⟩;rcases l with⟨hk,hm⟩|⟨hk,c,hc,hcell⟩
 · exact wpAny_Name (FE I.ok.kind hk hn hm fin) hd
 · rcases hk with hk|hk
   · exact wpAny_Name (FV I.ok.kind hk hc hcell fin) hd
   · exact wpAny_Name (wpAny_loadName_free I.ok.kind hk hc hcell fin hcd) hd
theorem aq{i j pos}:PE X (.Constant (.int i) j pos) (tC (.int i)):=fun _ _ _ H _ I h=>wpAny_Constant_int ⟨.int i,H,I.tok _,⟨_,rfl⟩,h⟩
theorem u7{b j pos}:PE X (.Constant (.bool b) j pos) (tC (.bl b)):=fun _ _ _ H _ I h=>Constant_bool ⟨.bl b,H,I,rfl,h⟩
noncomputable def Gl(X:Cx)(x:Str):Prop:=X.env.kindOf x=some .globalImplicit
theorem lj{σ:St}{H:Hp}{u:AR}(I:Inv X pins σ H s)(hg:Gl X x)(hm:X.mg x=some u)(h:Q u s)
 (hd:autoParam ((x==("__debug__" : Str))=false) æb._auto_1):Bi (BH X.prog X.w) X.A (eval (.Name x pos) X.env) Q E s :=
 El I.ok.kind hg (Calls.loadGlobal_global (by rw[I.ok.glob];exact I.mod.glob.keeps I.bk) hm h) hd
theorem dk{σ:St}{H:Hp}{u:AR}(I:Inv X pins σ H s)(hg:Gl X x)(hm:X.mg x=none)(hv:Du x=some u)(h:Q u s)
 (hn:autoParam (x ≠ "__name__") æb._auto_1)(hd:autoParam ((x==("__debug__" : Str))=false) æb._auto_1):Bi (BH X.prog X.w) X.A (eval (.Name x pos) X.env) Q E s:=by
 obtain⟨mb,h1,h2⟩:=I.mod.blt;exact El I.ok.kind hg (Calls.loadGlobal_builtin (by rw[I.ok.glob];exact I.mod.glob.keeps I.bk) hm (by rw[I.ok.blt];exact h1.keeps I.bk) ((h2 x hn).trans hv) h) hd
theorem p6{v:V}{u:AR}(hg:Gl X x)(hm:X.mg x=some u)(r:RelV v u)(hd:autoParam ((x==("__debug__" : Str))=false) æb._auto_1):PE X (.Name x pos) (tC v) :=
 fun _ _ _ H _ I h=>lj I hg hm ⟨v,H,I,r,h⟩ hd
variable{a b:Expr}{ta tb:TE}{pos:Pos}
noncomputable def tB(t:TE):TT:=fun σ H Q=>t σ H fun x H1=>∃c,x = .bl c/\Q c H1
theorem sr{e:Expr}{t:TE}(h:PE X e t)(he:autoParam (∀whole,isTrue e X.env whole=(do let v <- whole;standAt e.pos;Gg [v] (truthy v))) æc._auto_1):PT X e (tB t):=by
 intro pins s σ H Q I hw;refine isTrue_plain (yy (h pins s σ H _ I hw) fun v s1 ⟨x,H1,I1,r1,q1⟩=>?_) (he _);obtain⟨d,rfl,q⟩:=q1;cases r1;exact wpAny_truthy_bool ⟨H1,I1,q⟩
variable{tA tB':TT}{rest:List Expr}
noncomputable def xD(t u:TT):TT:=fun σ H Q=>t σ H fun c H1=>if c=true then u σ H1 Q else Q false H1
noncomputable def yB(t u:TT):TT:=fun σ H Q=>t σ H fun c H1=>if c=true then Q true H1 else u σ H1 Q
noncomputable def xw(t:TT):TT:=fun σ H Q=>t σ H fun c H1=>Q (!c) H1
theorem kE(ha:PT X a tA):PW X (.BoolOp .And [a] pos) tA:=by
 intro wh pins s σ H Q I h;refine isTrue_and (yy (ha pins s σ H Q I h) fun c s1 e=>?_)
 cases c with
 | true=>exact isTrue_and_nil e
 | false=>exact e
theorem so(ha:PT X a tA):PW X (.BoolOp .Or [a] pos) tA:=by
 intro wh pins s σ H Q I h;refine isTrue_or (yy (ha pins s σ H Q I h) fun c s1 e=>?_)
 cases c with
 | false=>exact isTrue_or_nil e
 | true=>exact e
theorem ot(ha:PT X a tA)(hb:PW X (.BoolOp .And (b::rest) pos) tB'):PW X (.BoolOp .And (a::b::rest) pos) (xD tA tB'):=by
 intro wh pins s σ H Q I h;refine isTrue_and (yy (ha pins s σ H _ I h) fun c s1 ⟨H1,I1,q1⟩=>?_)
 cases c with
 | true=>exact hb wh pins s1 σ H1 Q I1 q1
 | false=>exact⟨H1,I1,q1⟩
theorem u6(ha:PT X a tA)(hb:PW X (.BoolOp .Or (b::rest) pos) tB'):PW X (.BoolOp .Or (a::b::rest) pos) (yB tA tB'):=by
 intro wh pins s σ H Q I h;refine isTrue_or (yy (ha pins s σ H _ I h) fun c s1 ⟨H1,I1,q1⟩=>?_)
 cases c with
 | true=>exact⟨H1,I1,q1⟩
 | false=>exact hb wh pins s1 σ H1 Q I1 q1
theorem su(ha:PT X a tA):PT X (.UnaryOp .Not a pos) (xw tA):=by
 intro pins s σ H Q I h;exact isTrue_not (ha pins s σ H (fun c H1=>Q (!c) H1) I h)
noncomputable def yD(t:TT)(ta tb:TE):TE:=fun σ H Q=>t σ H fun c H1=>if c=true then ta σ H1 Q else tb σ H1 Q
theorem mL{c:Expr}(hc:PT X c tA)(ha:PE X a ta)(hb:PE X b tb):PE X (.IfExp c a b pos) (yD tA ta tb):=by
 intro pins s σ H Q I h;refine wpAny_IfExp (yy (hc pins s σ H _ I h) fun d s1 ⟨H1,I1,q1⟩=>?_)
 cases d with
 | true=>exact ha pins s1 σ H1 Q I1 q1
 | false=>exact hb pins s1 σ H1 Q I1 q1
end
noncomputable def zX(K:W.Frag)(H:Hp)(a:Addr)(xs:List V):Prop :=
 Rd H a (.lst xs) \/
  ∃(o:Obj)(its:Array AR)(n:Nat),K.lookup a=some o/\o.cls = .type "list" /\ o.dict=none/\o.data = .seq its n/\its.size<=sizeLine/\bB xs its.toList
noncomputable def zW(K:W.Frag)(H:Hp)(a:Addr)(xs:List V):Prop :=
 Rd H a (.tup xs) \/
  ∃(o:Obj)(its:Array AR)(n:Nat),K.lookup a=some o/\o.cls = .type "tuple" /\ o.data = .seq its n/\its.size<=sizeLine/\bB xs its.toList/\o.dict=none
noncomputable def xR:AR->Option V
 | .none=>some .non
 | .bool b=>some (.bl b)
 | .int i _=>some (.int i)
 | .str x _=>some (.str x)
 | .bytes b _=>some (.byt b)
 | .float b _=>some (.flt b)
 | .ref a=>some (.ref a)
 | .type n=>some (.ty n)
 | _=>none
theorem RelV.abs{x:V}{u:AR}(r:RelV x u):xR u=some x:=by
 cases x with
 | non=>cases r;rfl
 | bl _=>cases r;rfl
 | int _=>obtain⟨t,rfl⟩:=r;rfl
 | str _=>obtain⟨t,rfl⟩:=r;rfl
 | byt _=>obtain⟨t,rfl⟩:=r;rfl
 | flt _=>obtain⟨t,rfl⟩:=r;rfl
 | ref _=>cases r;rfl
 | ty _=>cases r;rfl
theorem RelV.inj{x y:V}{u:AR}(r:RelV x u)(q:RelV y u):x=y:=Bn (r.abs.symm.trans q.abs)
theorem bB.inj:∀{xs ys:List V}{us:List AR},bB xs us->bB ys us->xs=ys
 | _,_,_,.nil,.nil=>rfl
 | _,_,_,.cons r t,.cons r' t'=>by rw[r.inj r',bB.inj t t']
section
variable{X:Cx}{pins:List (Addr×Obj)}{σ:St}{H:Hp}{s:AS}{a:Addr}{xs ys:List V}
theorem Inv.list(I:Inv X pins σ H s)(h:zX X.K H a xs):∃its:List AR,bB xs its/\PlainL s.heap a its.toArray/\xs.length<=sizeLine:=by
 rcases h with h|⟨o,its,n,hk,hc,hd,hs,hz,r⟩
 · obtain⟨z,its,n,r,e⟩:=h.ok I.hok;exact⟨its,r,⟨_,n,e,rfl,rfl,rfl⟩,z⟩
 · refine⟨its.toList,r,⟨o,n,I.kIn a o hk,hc,hd,by simpa using hs⟩,?_⟩;have e:=r.length;simp only[Ec]at e;omega
theorem Inv.tuple(I:Inv X pins σ H s)(h:zW X.K H a xs):∃its:List AR,bB xs its/\IsTup s.heap a its.toArray/\xs.length<=sizeLine:=by
 rcases h with h|⟨o,its,n,hk,hc,hs,hz,r,hd⟩
 · obtain⟨z,its,r,p⟩:=h.ok I.hok;exact⟨its,r,p.tup,z⟩
 · refine⟨its.toList,r,⟨o,I.kIn a o hk,hc,n,by simpa using hs⟩,?_⟩;have e:=r.length;simp only[Ec]at e;omega
theorem Inv.list_inj(I:Inv X pins σ H s)(h:zX X.K H a xs)(h':zX X.K H a ys):xs=ys:=by
 obtain⟨its,r,⟨o,n,e,_,_,d⟩,_⟩:=I.list h;obtain⟨its',r',⟨o',n',e',_,_,d'⟩,_⟩:=I.list h';rw[e]at e';cases e';rw[d]at d'
 injection d' with d1 _
 have:its=its':=by simpa using congrArg Array.toList d1
 subst this;exact r.inj r'
theorem Inv.tupleD(I:Inv X pins σ H s)(h:zW X.K H a xs):∃ob,s.heap.get? a=some ob/\ob.cls = .type "tuple" /\ ob.dict=none:=by
 rcases h with h|⟨o,its,n,hk,hc,hs,hz,r,hd⟩
 · obtain⟨z,its,r,⟨o,e1,e2,_,e3⟩⟩:=h.ok I.hok;exact⟨o,e1,e2,e3⟩
 · exact⟨o,I.kIn a o hk,hc,hd⟩
theorem Inv.tuple_inj(I:Inv X pins σ H s)(h:zW X.K H a xs)(h':zW X.K H a ys):xs=ys:=by
 obtain⟨its,r,⟨o,e,_,n,d⟩,_⟩:=I.tuple h;obtain⟨its',r',⟨o',e',_,n',d'⟩,_⟩:=I.tuple h';rw[e]at e';cases e';rw[d]at d'
 injection d' with d1 _
 have:its=its':=by simpa using congrArg Array.toList d1
 subst this;exact r.inj r'
end
abbrev Cx.wish(X:Cx)(E:AR->AS->Prop):Cx:={X with xe:=E}
abbrev Cx.nox(X:Cx):Cx:=X.wish fun _ _=>False
theorem Cx.Ok.wish{X:Cx}(ok:X.Ok)(E:AR->AS->Prop):(X.wish E).Ok :=
 ⟨ok.mod,ok.kind,ok.glob,ok.blt,ok.above,ok.inj,ok.has,ok.cab,ok.hd,ok.frames,ok.stk,ok.exf,ok.bs,ok.bsz,ok.noex,ok.exfs,ok.funs,ok.frf⟩
theorem Cx.Ok.unwish{X:Cx}(ok:(X.wish E).Ok):X.Ok :=
 ⟨ok.mod,ok.kind,ok.glob,ok.blt,ok.above,ok.inj,ok.has,ok.cab,ok.hd,ok.frames,ok.stk,ok.exf,ok.bs,ok.bsz,ok.noex,ok.exfs,ok.funs,ok.frf⟩
section
variable{X:Cx}{pins:List (Addr×Obj)}{σ:St}{H:Hp}{s:AS}{E:AR->AS->Prop}
theorem Inv.wish(I:Inv X pins σ H s)(E:AR->AS->Prop):Inv (X.wish E) pins σ H s:=⟨I.ok.wish E,I.os,I.bare,I.base,I.loc,I.cell,I.free,I.freeC,I.pin,I.hok,I.len⟩
theorem Inv.unwish(I:Inv (X.wish E) pins σ H s):Inv X pins σ H s:=⟨I.ok.unwish,I.os,I.bare,I.base,I.loc,I.cell,I.free,I.freeC,I.pin,I.hok,I.len⟩
theorem SP.unwish{D:Ends}{f:Flow}{s':AS}(h:SP (X.wish E) pins D f s'):SP X pins D f s':=by
 cases f with
 | next=>obtain⟨σ',H',I,q⟩:=h;exact⟨σ',H',I.unwish,q⟩
 | brk=>obtain⟨σ',H',I,q⟩:=h;exact⟨σ',H',I.unwish,q⟩
 | cont=>obtain⟨σ',H',I,q⟩:=h;exact⟨σ',H',I.unwish,q⟩
 | ret u=>obtain⟨v,σ',H',I,r,q⟩:=h;exact⟨v,σ',H',I.unwish,r,q⟩
theorem Ag.nox{st:List Stmt}{t:TS}(h:Ag X.nox st t):Ag X st t:=fun pins s σ H D I hw =>
 Df (h pins s σ H D (I.wish _) hw) (fun _ _ q=>q.unwish) fun _ _ z=>Cr z
end
section
variable{X:Cx}{st:Stmt}{rest:List Stmt}{t u:TS}{e:Expr}{te:TE}{pos:Pos}
noncomputable def uR:TS:=fun D σ H=>D.nx σ H
noncomputable def wI(t u:TS):TS:=fun D σ H=>t {D with nx:=u D} σ H
theorem fy:Ag X [] uR:=fun _ _ σ H _ I h=>Ed ⟨σ,H,I,h⟩
theorem aX(h1:PS X st t)(h2:Ag X rest u):Ag X (st::rest) (wI t u):=by
 intro pins s σ H D I h;refine wpAny_execs_cons (yy (h1 pins s σ H {D with nx:=u D} I h) fun f s1 q=>?_)
 cases f with
 | next =>
   obtain⟨σ',H',I',q⟩:=q
   exact h2 pins s1 σ' H' D I' q
 | ret v=>exact q
 | brk=>exact q
 | cont=>exact q
theorem cO(h1:PS X st t):Ag X [st] t:=by
 intro pins s σ H D I h;refine wpAny_execs_cons (yy (h1 pins s σ H D I h) fun f s1 q=>?_)
 cases f with
 | next=>exact Ed q
 | ret v=>exact q
 | brk=>exact q
 | cont=>exact q
theorem Inv.quiet{σ:St}{H:Hp}(I:Inv X pins σ H s):interactive X.env=false:=by simp[interactive,I.ok.kind]
noncomputable def uS(te:TE):TS:=fun D σ H=>te σ H fun _ H1=>D.nx σ H1
theorem kJ(he:PE X e te)(hs:autoParam (C4 e none pos.line X.env=pure false) æa._auto_1):PS X (.Expr e pos) (uS te):=by
 intro pins s σ H D I h;exact wpAny_Expr_any (yy (he pins s σ H _ I h) fun v s1 ⟨x,H1,I1,r1,q1⟩=>⟨σ,H1,I1,q1⟩) I.quiet hs
noncomputable def xq(te:TE):TS:=fun D σ H=>te σ H D.rt
theorem iP(he:PE X e te):PS X (.Return (some e) pos) (xq te):=by
 intro pins s σ H D I h;exact wpAny_Return_some (yy (he pins s σ H _ I h) fun v s1 ⟨x,H1,I1,r1,q1⟩=>⟨x,σ,H1,I1,r1,q1⟩)
noncomputable def xA(c:TT)(t u:TS):TS:=fun D σ H=>c σ H fun b H1=>if b=true then t D σ H1 else u D σ H1
theorem mG{c:Expr}{a b:List Stmt}{tc:TT}(hc:PT X c tc)(ha:Ag X a t)(hb:Ag X b u):PS X (.If c a b pos) (xA tc t u):=by
 intro pins s σ H D I h;refine wpAny_If (yy (hc pins s σ H _ I h) fun d s1 ⟨H1,I1,q1⟩=>?_)
 cases d with
 | true=>exact ha pins s1 σ H1 D I1 q1
 | false=>exact hb pins s1 σ H1 D I1 q1
noncomputable def rV:TS:=fun _ _ _=>False
theorem mF:PS X st rV:=fun _ _ _ _ _ _ h=>h.elim
end
abbrev TG:=V->St->Hp->(St->Hp->Prop)->Prop
abbrev zV:=List V->St->Hp->(St->Hp->Prop)->Prop
noncomputable def PG(X:Cx)(target:Expr)(t:TG):Prop :=
 ∀ (pins:List (Addr×Obj))(s:AS)(σ:St)(H:Hp)(v:V)(u:AR)(Q:St->Hp->Prop),Inv X pins σ H s->RelV v u->t v σ H Q ->
   Bi (BH X.prog X.w) X.A (FK target X.env u) (fun _ s'=>∃σ' H',Inv X pins σ' H' s'/\Q σ' H') X.xe s
noncomputable def Al(X:Cx)(ts:List Expr)(t:zV):Prop :=
 ∀ (pins:List (Addr×Obj))(s:AS)(σ:St)(H:Hp)(vs:List V)(us:List AR)(Q:St->Hp->Prop),Inv X pins σ H s->bB vs us->t vs σ H Q ->
   Bi (BH X.prog X.w) X.A (F9 ((C5 ts X.env).map (·.2)) us) (fun _ s'=>∃σ' H',Inv X pins σ' H' s'/\Q σ' H') X.xe s
abbrev vJ:=V->V->V->Hp->(Hp->Prop)->Prop
noncomputable def xb(X:Cx)(t:vJ):Prop :=
 ∀ (pins:List (Addr×Obj))(s:AS)(σ:St)(H:Hp)(o i v:V)(ov iv u:AR)(Q:Hp->Prop),Inv X pins σ H s->RelV o ov->RelV i iv->RelV v u->t o i v H Q ->
   Bi (BH X.prog X.w) X.A (setItem ov iv u) (fun _ s'=>∃H',Inv X pins σ H' s'/\Q H') X.xe s
abbrev zT:=V->V->Hp->VK->Prop
noncomputable def Ai(X:Cx)(op:Gu)(t:zT):Prop :=
 ∀ (pins:List (Addr×Obj))(s:AS)(σ:St)(H:Hp)(x y:V)(v u:AR)(Q:VK),Inv X pins σ H s->RelV x v->RelV y u->t x y H Q ->
   Bi (BH X.prog X.w) X.A (inplaceOp op v u) (EP X pins σ Q) X.xe s
section
variable{X:Cx}{pos:Pos}
noncomputable def nu(i:Nat):TG:=fun v σ H Q=>Q (σ.set i (some v)) H
theorem p5(hN:X.N.Nodup)(hi:X.N[i]?=some x)(hx:Loc X.env.scope x)(hf:autoParam (X.fn x=true\/X.env.scope.names.lookup x=some .local) æg._auto_1):PG X (.Name x pos) (nu i):=by
 intro pins s σ H v u Q I r h;exact wpAny_assign_Name (cR I hN hi hx r (fun s' I'=>⟨_,H,I',h⟩) hf)
noncomputable def xP:zV:=fun vs σ H Q=>vs=[]/\Q σ H
noncomputable def vz(t:TG)(u:zV):zV:=fun vs σ H Q=>∃v r,vs=v::r/\t v σ H fun σ' H'=>u r σ' H' Q
theorem pZ:Al X [] xP:=by
 intro pins s σ H vs us Q I r h;obtain⟨e,h⟩:=h;subst e;cases r;exact assignInOrder_nil ⟨σ,H,I,h⟩
theorem mK{e:Expr}{es:List Expr}{t:TG}{u:zV}(h1:PG X e t)(h2:Al X es u)
 (hs:autoParam ((C5 (e::es) X.env).map (·.2)=FK e X.env::(C5 es X.env).map (·.2)) æa._auto_1):Al X (e::es) (vz t u):=by
 intro pins s σ H vs us Q I r h;obtain⟨v,vr,e1,h⟩:=h;subst e1
 cases r with
 | cons r rr =>
   rw[hs];refine Ep (yy (h1 pins s σ H _ _ _ I r h) fun _ s1 ⟨σ1,H1,I1,q1⟩=>?_);exact h2 pins s1 σ1 H1 _ _ Q I1 rr q1
noncomputable def xN(K:W.Frag)(n:Nat)(t:zV):TG:=fun v σ H Q=>∃a xs,v = .ref a/\zW K H a xs/\xs.length=n/\t xs σ H Q
theorem sF{es:List Expr}{t:zV}(hc:X.calm=true)(h:Al X es t)
 (hn:autoParam ((C5 es X.env).length=n) æa._auto_1)(hst:autoParam ((C5 es X.env).findIdx? (·.1)=none) æa._auto_1):PG X (.Tuple es k pos) (xN X.K n t):=by
 intro pins s σ H v u Q I r hw;obtain⟨a,xs,e1,hq,hl,hw⟩:=hw;subst e1;cases r;obtain⟨its,rv,ht,hz⟩:=I.tuple hq;refine assign_Tuple_tuple (I.ok.hd hc) ht (by simp[hn,<- hl,rv.length]) hst fun h' hx=>?_;have I1:Inv X pins σ H {s with heap:=h' }:=I.kept (t':=s.toks) fun b o e=>hx b o (BE (A0 e)) e;exact h pins _ σ H xs _ Q I1 (by simpa using rv) hw
noncomputable def xO(to ti:TE)(t:vJ):TG:=fun v σ H Q=>to σ H fun o H1=>ti σ H1 fun i H2=>t o i v H2 fun H3=>Q σ H3
theorem iR{o i:Expr}{to ti:TE}{t:vJ}(ho:PE X o to)(hi:PE X i ti)(hs:xb X t)
 (ha:autoParam (∀v,FK (.Subscript o i pos) X.env v=(do
  let ov <- Gg [v] (eval o X.env)
  let iv <- Gg [v,ov] (eval i X.env)
  standAt pos
  Gg [v,ov,iv] (setItem ov iv v)
  release [v,ov,iv] [])) æc._auto_1):PG X (.Subscript o i pos) (xO to ti t):=by
 intro pins s σ H v u Q I r h;rw[ha];refine AO (Dz (yy (ho pins s σ H _ I h) fun ov s1 ⟨x,H1,I1,r1,q1⟩=>?_));refine AO (Dz (yy (hi pins s1 σ H1 _ I1 q1) fun iv s2 ⟨y,H2,I2,r2,q2⟩=>?_));refine AO (EL (AO (Dz (yy (hs pins s2 σ H2 x y v ov iv u _ I2 r1 r2 r q2) fun _ s3 ⟨H3,I3,q3⟩=>?_))));exact wpAny_release ⟨σ,H3,I3,q3⟩
noncomputable def uV(te:TE)(g:TG):TS:=fun D σ H=>te σ H fun x H1=>g x σ H1 D.nx
theorem gq{e:Expr}{te:TE}{g:TG}(he:PE X e te)(hg:PG X tg g)(hs:autoParam (EM [tg] e pos.line X.env=pure false) æa._auto_1)(hw:autoParam (EN [tg] e X.env=pure none) æa._auto_1)
 (h1:autoParam ((C5 [tg] X.env).map (·.2)=[FK tg X.env]) æa._auto_1):PS X (.Assign [tg] e pos) (uV te g):=by
 intro pins s σ H D I h;refine wpAny_Assign_stores (yy (he pins s σ H _ I h) fun v s1 ⟨x,H1,I1,r1,q1⟩=>?_) hs hw;rw[h1];exact yy (hg pins s1 σ H1 x v _ I1 r1 q1) fun _ s2 q=>q
theorem cT{e:Expr}{te:TE}(hN:X.N.Nodup)(hi:X.N[i]?=some x)(hx:Loc X.env.scope x)(he:PE X e te)(hs:autoParam (C4 e (some (.Name x pos')) pos.line X.env=pure false) æa._auto_1)(hf:autoParam (X.fn x=true\/X.env.scope.names.lookup x=some .local) æg._auto_1) :
 PS X (.Assign [.Name x pos'] e pos) (uV te (nu i)):=by
 intro pins s σ H D I h;refine wpAny_Assign_Name (yy (he pins s σ H _ I h) fun v s1 ⟨y,H1,I1,r1,q1⟩=>?_) hs;exact cR I1 hN hi hx r1 (fun s2 I2=>⟨_,H1,I2,q1⟩) hf
noncomputable def xv(i j:Nat)(ta:TA):TS:=fun D σ H=>ta σ H fun vs H1=>∃v w,vs=[v,w]/\D.nx ((σ.set i (some v)).set j (some w)) H1
theorem sv{y:Str}{a b:Expr}{ta:TA}{py pt:Pos}{kt k2 pt2}(hc:X.calm=true)(hN:X.N.Nodup)(hi:X.N[i]?=some x)(hj:X.N[j]?=some y)(hij:i≠j)
 (hx:X.env.scope.names.lookup x=some .local)(hy:X.env.scope.names.lookup y=some .local)(ha:PA X [a,b] ta)
 (hw:EN [.Tuple [.Name x px,.Name y py] kt pt] (.Tuple [a,b] k2 pt2) X.env=pure (some [x,y]))
 (hs:autoParam (EM [.Tuple [.Name x px,.Name y py] kt pt] (.Tuple [a,b] k2 pt2) pos.line X.env=pure false) æa._auto_1) :
 PS X (.Assign [.Tuple [.Name x px,.Name y py] kt pt] (.Tuple [a,b] k2 pt2) pos) (xv i j ta):=by
 intro pins s σ H D I h;rw[exec_Assign_arm];refine AO (EL ?_);rw[hs];refine AO (AX ?_);rw[if_neg (by decide)];refine AO (Tuple_ (yy (ha _ pins s σ H _ I h) fun us s1 ⟨vs,H1,I1,r1,q1⟩=>?_));obtain⟨v,w,e1,q1⟩:=q1;subst e1
 obtain⟨u1,u2,rfl,rv,rw'⟩:∃u1 u2,us=[u1,u2]/\RelV v u1/\RelV w u2:=by
  cases r1 with
  | cons p q =>
    cases q with
    | cons p' q' =>
      cases q';exact⟨_,_,rfl,p,p'⟩
 refine Cm ?_ (by show 2<=sizeLine;decide);have I2:Inv X pins σ H1 {s1 with heap:=s1.heap.push {cls:=.type "tuple", data:=.seq [u1,u2].toArray}}:=I1.kept (t':=s1.toks) fun b o e=>AT _ e;rw[hw];refine AO (AX ?_);show Bi (BH X.prog X.w) X.A (do rule "assign.swapped-stores"; let items <- unpackItems (.ref s1.heap.objs.size) 2 none;F9 [fun v=>bindName X.env y v,fun v=>bindName X.env x v] items.reverse;pure Flow.next) _ _ _;refine AO (Gh (AO (unpackItems_tuple (items:=#[u1,u2]) (I.ok.hd hc) (IsTup.new s1.heap _) fun h' hx'=>?_)));have I3:=I2.kept (h':=h') (t':=s1.toks) fun b o e=>hx' b o (BE (A0 e)) e;show Bi _ _ (F9 [fun v=>bindName X.env y v,fun v=>bindName X.env x v] [u2,u1] >>= fun _=>pure Flow.next) _ _ _;refine AO (Ep (wpAny_bindName (cR I3 hN hj (.inl hy) rw' (fun s2 I4=>?_) (.inr hy))));refine Ep (wpAny_bindName (cR I4 hN hi (.inl hx) rv (fun s3 I5=>assignInOrder_nil (AX ?_)) (.inr hx)));rw[List.set_comm _ _ (EK hij)]at I5;exact⟨_,H1,I5,q1⟩
noncomputable def xC(i:Nat)(te:TE)(ti:zT):TS:=fun D σ H=>∃x,σ[i]?=some (some x)/\te σ H fun y H1=>ti x y H1 fun z H2=>D.nx (σ.set i (some z)) H2
theorem sx{e:Expr}{te:TE}{op:Gu}{ti:zT}(hN:X.N.Nodup)(hi:X.N[i]?=some x)(hx:Loc X.env.scope x)(he:PE X e te)(ho:Ai X op ti)(hf:autoParam (X.fn x=true\/X.env.scope.names.lookup x=some .local) æg._auto_1) :
 PS X (.AugAssign (.Name x pos') op e pos) (xC i te ti):=by
 intro pins s σ H D I h;obtain⟨v,e1,h⟩:=h;obtain⟨m,hn,hl⟩:=I.loc;have vis:zN X.env.scope x:=by rcases hx with k|k;exact .inl k;exact .inr (.inl k)
 obtain⟨u,r,l⟩:=hl i x v hi e1 vis;refine wpAny_AugAssign_Name ?_
 have go:Bi (BH X.prog X.w) X.A (eval e X.env) (fun w s₂=>Bi (BH X.prog X.w) X.A (inplaceOp op u w) (fun r s₃=>Bi (BH X.prog X.w) X.A (storeName X.env x r) (fun _=>SP X pins D .next) X.xe s₃) X.xe s₂) X.xe s:=by
  refine yy (he pins s σ H _ I h) fun w s1 ⟨y,H1,I1,r1,q1⟩=>?_;refine yy (ho pins s1 σ H1 v y u w _ I1 r r1 q1) fun z s2 ⟨zv,H2,I2,r2,q2⟩=>?_;exact cR I2 hN hi hx r2 (fun s3 I3=>⟨_,H2,I3,q2⟩) hf
 rcases l with⟨hk,hm⟩|⟨hk,c,hc,hcell⟩
 · exact FE I.ok.kind hk hn hm go
 · rcases hk with hk|hk
   · exact FV I.ok.kind hk hc hcell go
   · rcases hx with k|k
     · have:X.env.scope.names.lookup x=some .free:=hk;rw[k]at this;cases this
     · have:X.env.scope.names.lookup x=some .free:=hk;rw[k]at this;cases this
noncomputable def zj(f:Int->Int->Int):zT:=fun x y H Q=>∃i j,x = .int i/\y = .int j/\Q (.int (f i j)) H
theorem tH:Ai X .Add (zj fun i j=>i+j):=by
 intro pins s σ H x y v u Q I r1 r2 h;obtain⟨i,j,e1,e2,q⟩:=h;subst e1;subst e2;obtain⟨t,rfl⟩:=r1;obtain⟨t',rfl⟩:=r2;exact iadd_int ⟨.int _,H,I.tok _,⟨_,rfl⟩,q⟩
end
section
variable{X:Cx}{pos:Pos}
noncomputable def rT(c:TT)(tb:TS):TS:=fun D σ H=>∃W:Nat->St->Hp->Prop,(∃m,W m σ H)/\∀m σ H,W m σ H ->
 c σ H fun b H1=>if b=true then ∃N:St->Hp->Prop,(∀σ' H',N σ' H'->∃m',m'<m/\W m' σ' H')/\tb {D with nx:=N,ct:=N,bk:=D.nx} σ H1 else D.nx σ H1
theorem iO{c:Expr}{body:List Stmt}{tc:TT}{tb:TS}(hp:Gv (BH X.prog X.w) X.A X.env X.xe)(hc:PT X c tc)(hb:Ag X body tb):PS X (.While c body [] pos) (rT tc tb):=by
 intro pins s σ H D I h;obtain⟨W,⟨m0,w0⟩,turn⟩:=h;refine wpAny_While (codeAny_whileLoop (fun n s'=>∃σ' H',Inv X pins σ' H' s'/\W n σ' H') ?_ m0 ⟨σ,H,I,w0⟩);rintro n s1 ⟨σ1,H1,I1,w1⟩;refine CQ hp (yy (hc pins s1 σ1 H1 _ I1 (turn n σ1 H1 w1)) fun b s2 ⟨H2,I2,q2⟩=>?_)
 cases b with
 | true =>
   obtain⟨N,hN,q2⟩:=q2;rw[if_pos rfl];refine CQ hp (yy (hb pins s2 σ1 H2 _ I2 q2) fun f s3 q3=>?_)
   cases f with
   | next =>
     obtain⟨σ3,H3,I3,n3⟩:=q3;obtain⟨m',hm,w3⟩:=hN σ3 H3 n3
     exact⟨m',hm,σ3,H3,I3,w3⟩
   | cont =>
     obtain⟨σ3,H3,I3,n3⟩:=q3;obtain⟨m',hm,w3⟩:=hN σ3 H3 n3
     exact⟨m',hm,σ3,H3,I3,w3⟩
   | brk=>exact q3
   | ret v=>exact q3
 | false =>
   rw[if_neg Bs];exact Ed ⟨σ1,H2,I2,q2⟩
end
structure It where
 go:Nat->Hp->Prop
 yld:Nat->Hp->V->Hp->Prop
 stop:Nat->Hp->Prop
noncomputable def jJ(X:Cx)(pins:List (Addr×Obj))(H:Hp)(b:Addr):Prop :=
 H b=none/\b≠X.env.locals/\b∉X.fs/\(b∈X.ex\/X.s₀.heap.objs.size<=b)/\(∀x c,X.env.cells.lookup x=some c->c≠b)/\∀p∈X.pn++pins,p.1≠b
theorem Inv.fpOk{X:Cx}{σ:St}{H H':Hp}{b:Addr}(I:Inv X pins σ H s)(hb:s.heap.objs.size<=b)(hn:H' b=none):jJ X pins H' b:=by
 refine⟨hn,Er (A7 I.lt hb),I.nofs hb,.inr (Ca I.sz hb),fun x c e z=>?_,fun p hp z=>?_⟩
 · obtain⟨v,q⟩:=I.cell x c e;exact absurd (A7 q.lt (by rw[z];exact hb)) (BX _)
 · exact absurd (A7 (A0 (I.pin p hp).1) (by rw[z];exact hb)) (BX _)
structure Turn (P:Bd) (w:BM) (K:W.Frag) (tg:Expr) (J:It) (fp:List Addr) (it:Addr) (tn:Nat->Heap->Prop):Prop where
 mem:it∈fp
 obj:∀i h,tn i h->∀b∈fp,∃o,h.get? b=some o/\∀v,o.data ≠ .cell v
 keep:∀i h h',tn i h->(∀b∈fp,∀o,h.get? b=some o->h'.get? b=some o)->tn i h'
 item:∀(X:Cx),X.prog=P->X.w=w->X.K=K->X.calm=true->∀(i:Nat)(pins:List (Addr×Obj))(s:AS)(σ:St)(H:Hp)(E:AR->AS->Prop),Inv X pins σ H s->(∀b∈fp,jJ X pins H b)->tn i s.heap->J.go i H ->
  Bi (BH P w) X.A (FM (.ref it)) (fun r s1=>∃u,r=some u /\
   Bi (BH P w) X.A (Ee tg (.ref it) u) (fun _ s2=>∃x H',Inv X pins σ H' s2/\RelV x u/\J.yld i H x H'/\tn (i+1) s2.heap/\∀b∈fp,H' b=none) E s1) E s
 done:∀(X:Cx),X.prog=P->X.w=w->X.K=K->X.calm=true->∀(i:Nat)(pins:List (Addr×Obj))(s:AS)(σ:St)(H:Hp)(E:AR->AS->Prop),Inv X pins σ H s->(∀b∈fp,jJ X pins H b)->tn i s.heap->J.stop i H ->
  Bi (BH P w) X.A (FM (.ref it)) (fun r s1=>r=none/\Inv X pins σ H s1) E s
 self:∀(A:BJ)(i:Nat)(s:AS)(Q:AR->AS->Prop)(E:AR->AS->Prop),tn i s.heap->Q (.ref it) s->Bi (BH P w) A (pyIter (.ref it)) Q E s
abbrev TI:=St->Hp->(It->Hp->Prop)->Prop
noncomputable def Ak(X:Cx)(pins:List (Addr×Obj))(σ:St)(tg:Expr)(R:It->Hp->Prop)(itv:AR)(s2:AS):Prop :=
 ∃(it:Addr)(fp:List Addr)(tn:Nat->Heap->Prop)(J:It)(H':Hp),itv = .ref it/\Inv X pins σ H' s2/\Turn X.prog X.w X.K tg J fp it tn/\tn 0 s2.heap/\(∀b∈fp,jJ X pins H' b)/\R J H'
noncomputable def PI(X:Cx)(tg iter:Expr)(wi:TI):Prop :=
 ∀ (pins:List (Addr×Obj))(s:AS)(σ:St)(H:Hp)(R:It->Hp->Prop),Inv X pins σ H s->wi σ H R ->
   Bi (BH X.prog X.w) X.A (eval iter X.env) (fun v s1=>Bi (BH X.prog X.w) X.A (pyIter v) (Ak X pins σ tg R) X.xe s1) X.xe s
theorem lw{M:Model}{u:AR}{n:String}{vs:Array AR}{Q:Unit->AS->Prop}(ho:s.heap.get? it=some o)(hc:o.cls = .type n)(hd:o.data = .fields vs)
 (hn:["enumerate", "zip", "dict_itemiterator", "dict_reverseitemiterator", "odict_iterator", "itertools.zip_longest", "itertools.pairwise"].contains n=false)(hQ:Q () s):Bi M A (Ee tg (.ref it) u) Q E s:=by
 unfold Ee
 cases tg<;>first
  | exact AX hQ
  | (cases u<;>first
      | exact AX hQ
      | (refine AO (wpAny_load ho ?_)
         rw[hc,hd];show Bi M A (if(["enumerate", "zip", "dict_itemiterator", "dict_reverseitemiterator", "odict_iterator", "itertools.zip_longest", "itertools.pairwise"].contains n&&vs[0]?==some (E_ _))=true then _ else _) Q E s;rw[if_neg (by intro h;rw[hn,Bool.false_and]at h;cases h)]
         exact AX hQ))
noncomputable def AA(K:W.Frag)(a:Addr):It :=
 ⟨fun i H=>∃xs x,zX K H a xs/\xs[i]?=some x,fun i H x H'=>H'=H/\∀xs,zX K H a xs->xs[i]?=some x,fun i H=>∃xs,zX K H a xs/\xs.length<=i⟩
noncomputable def Ay(K:W.Frag)(a:Addr):It :=
 ⟨fun i H=>∃xs x,zW K H a xs/\xs[i]?=some x,fun i H x H'=>H'=H/\∀xs,zW K H a xs->xs[i]?=some x,fun i H=>∃xs,zW K H a xs/\xs.length<=i⟩
noncomputable def Az(lo:Int)(n:Nat):It:=⟨fun i _=>i<n,fun i H x H'=>H'=H/\x = .int (lo+i),fun i _=>n<=i⟩
theorem jY{w:BM}{K:W.Frag}(a it:Addr):Turn P w K tg (AA K a) [it] it (fun i h=>h.IsListIter it a i) where
 mem:=by simp
 obj:=fun i h st b hb=>by
  have e:b=it:=by simpa using hb
  subst e;obtain⟨o,e,c,d⟩:=st;exact⟨o,e,fun v z=>by rw[d]at z;cases z⟩
 keep:=fun i h h' st k=>st.at fun o e=>k it (by simp) o e
 item:=by
  intro X hP hw hK hc i pins s σ H E I hf st hg;subst hP hw hK;obtain⟨xs,x,hq,hx⟩:=hg;obtain⟨its,rv,p,hz⟩:=I.list hq;obtain⟨u,hu,ru⟩:=rv.get hx;obtain⟨f0,f1,f2,f3,f4,f5⟩:=hf it (by simp);refine wpAny_pyNext_list_item st p.isList (x:=u) (by simpa using hu) fun h' st' sb=>?_;have I1:Inv X pins σ H {s with heap:=h' }:=I.turned (t':=s.toks) (fun b o hb e=>(sb.2 b hb).trans e) f0 f1 f3 f4 f5;obtain⟨o,e,c,d⟩:=id st';exact⟨u,rfl,lw (s:={s with heap:=h' }) e c d (by decide) ⟨x,H,I1,ru,⟨rfl,fun ys hy=>by rw[I.list_inj hy hq];exact hx⟩,st',fun b hb=>(hf b hb).1⟩⟩
 done:=by
  intro X hP hw hK hc i pins s σ H E I hf st hg;subst hP hw hK;obtain⟨xs,hq,hx⟩:=hg;obtain⟨its,rv,p,hz⟩:=I.list hq;obtain⟨f0,f1,f2,f3,f4,f5⟩:=hf it (by simp);have hl:=rv.length;exact wpAny_pyNext_list_end (I.ok.hd hc) st p.isList (by simp;omega) fun h' eb=>⟨rfl,I.turned (t':=s.toks) (fun b o hb e=>eb b o hb e) f0 f1 f3 f4 f5⟩
 self:=fun _ _ _ _ _ st h=>wpAny_pyIter_listiter st h
theorem jn{w:BM}{K:W.Frag}(a it:Addr):Turn P w K tg (Ay K a) [it] it (fun i h=>h.IsTupleIter it a i) where
 mem:=by simp
 obj:=fun i h st b hb=>by
  have e:b=it:=by simpa using hb
  subst e;obtain⟨o,e,c,d⟩:=st;exact⟨o,e,fun v z=>by rw[d]at z;cases z⟩
 keep:=fun i h h' st k=>st.at fun o e=>k it (by simp) o e
 item:=by
  intro X hP hw hK hc i pins s σ H E I hf st hg;subst hP hw hK;obtain⟨xs,x,hq,hx⟩:=hg;obtain⟨its,rv,p,hz⟩:=I.tuple hq;obtain⟨u,hu,ru⟩:=rv.get hx;obtain⟨f0,f1,f2,f3,f4,f5⟩:=hf it (by simp);refine wpAny_pyNext_tuple_item st (show s.heap.IsTuple a its.toArray from p) (x:=u) (by simpa using hu) fun h' st' sb=>?_;have I1:Inv X pins σ H {s with heap:=h' }:=I.turned (t':=s.toks) (fun b o hb e=>(sb.2 b hb).trans e) f0 f1 f3 f4 f5;obtain⟨o,e,c,d⟩:=id st';exact⟨u,rfl,lw (s:={s with heap:=h' }) e c d (by decide) ⟨x,H,I1,ru,⟨rfl,fun ys hy=>by rw[I.tuple_inj hy hq];exact hx⟩,st',fun b hb=>(hf b hb).1⟩⟩
 done:=by
  intro X hP hw hK hc i pins s σ H E I hf st hg;subst hP hw hK;obtain⟨xs,hq,hx⟩:=hg;obtain⟨its,rv,p,hz⟩:=I.tuple hq;obtain⟨f0,f1,f2,f3,f4,f5⟩:=hf it (by simp);have hl:=rv.length;exact wpAny_pyNext_tuple_end (I.ok.hd hc) st (show s.heap.IsTuple a its.toArray from p) (by simp;omega) fun h' eb=>⟨rfl,I.turned (t':=s.toks) (fun b o hb e=>eb b o hb e) f0 f1 f3 f4 f5⟩
 self:=fun _ _ _ _ _ st h=>wpAny_pyIter_tupleiter st h
theorem jo{w:BM}{K:W.Frag}(it:Addr)(lo:Int)(n:Nat):Turn P w K tg (Az lo n) [it] it (fun i h=>IsRangeIter h it (lo+(i:Nat)*1) ((n:Int)-(i:Nat)) 1) where
 mem:=by simp
 obj:=fun i h st b hb=>by
  have e:b=it:=by simpa using hb
  subst e
  exact⟨_,st,fun v z=>by
   have z':Data.fields _=Data.cell v:=z
   cases z'⟩
 keep:=fun i h h' st k=>k it (by simp) _ st
 item:=by
  intro X hP hw hK hc i pins s σ H E I hf st hg;subst hP hw hK;obtain⟨f0,f1,f2,f3,f4,f5⟩:=hf it (by simp);have W:=Walks.range (prog:=X.prog) (w:=X.w) (I.ok.hd hc) it lo 1 n;refine W.item i s _ _ hg st fun v h' tk hv st' kk=>?_;obtain⟨t,rfl⟩:=hv;have I1:Inv X pins σ H {s with heap:=h',toks:=tk}:=I.turned (fun b o hb e=>kk b o (by simpa using hb) e) f0 f1 f3 f4 f5;refine⟨_,rfl,lw (s:={s with heap:=h',toks:=tk}) (n := "range_iterator") st' rfl rfl (by decide) ⟨.int (lo+i),H,I1,⟨t,?_⟩,⟨rfl,rfl⟩,st',fun b hb=>(hf b hb).1⟩⟩;rw[DW]
 done:=by
  intro X hP hw hK hc i pins s σ H E I hf st hg;subst hP hw hK;obtain⟨f0,f1,f2,f3,f4,f5⟩:=hf it (by simp);exact wpAny_pyNext_range_end (I.ok.hd hc) st (by have:n<=i:=hg;omega) fun h' eb=>⟨rfl,I.turned (t':=s.toks) (fun b o hb e=>eb b o hb e) f0 f1 f3 f4 f5⟩
 self:=fun _ _ _ _ _ st h=>wpAny_pyIter_rangeiter st h
section
variable{X:Cx}{tg:Expr}
noncomputable def vj(K:W.Frag)(tl:TE):TI:=fun σ H R=>tl σ H fun x H1=>∃a,x = .ref a/\(∃xs,zX K H1 a xs)/\R (AA K a) H1
noncomputable def xL(K:W.Frag)(tl:TE):TI:=fun σ H R=>tl σ H fun x H1=>∃a,x = .ref a/\(∃xs,zW K H1 a xs)/\R (Ay K a) H1
theorem pY{l:Expr}{tl:TE}(hl:PE X l tl):PI X tg l (vj X.K tl):=by
 intro pins s σ H R I h;refine yy (hl pins s σ H _ I h) fun v s1 ⟨x,H1,I1,r1,q1⟩=>?_;obtain⟨a,e,⟨xs,hq⟩,q⟩:=q1;subst e;cases r1;obtain⟨its,rv,p,hz⟩:=I1.list hq;refine EA p.isList ?_;refine⟨s1.heap.objs.size,[s1.heap.objs.size],_,_,H1,rfl,I1.kept (t':=s1.toks) fun b o e=>AT _ e,jY a _,⟨_,A3 _ rfl,rfl,rfl⟩,fun b hb=>?_,q⟩;have e:b=s1.heap.objs.size:=by simpa using hb
 subst e;exact I1.fpOk (AY _) (I1.hok.fresh (AY _))
theorem sC{l:Expr}{tl:TE}(hl:PE X l tl):PI X tg l (xL X.K tl):=by
 intro pins s σ H R I h;refine yy (hl pins s σ H _ I h) fun v s1 ⟨x,H1,I1,r1,q1⟩=>?_;obtain⟨a,e,⟨xs,hq⟩,q⟩:=q1;subst e;cases r1;obtain⟨its,rv,p,hz⟩:=I1.tuple hq;refine wpAny_pyIter_tuple (show s1.heap.IsTuple a its.toArray from p) ?_;refine⟨s1.heap.objs.size,[s1.heap.objs.size],_,_,H1,rfl,I1.kept (t':=s1.toks) fun b o e=>AT _ e,jn a _,⟨_,A3 _ rfl,rfl,rfl⟩,fun b hb=>?_,q⟩;have e:b=s1.heap.objs.size:=by simpa using hb
 subst e;exact I1.fpOk (AY _) (I1.hok.fresh (AY _))
theorem iI{σ:St}{H:Hp}{R:It->Hp->Prop}{lo hi:Int}{t u v:Tok}{tk:Nat}(I:Inv X pins σ H s)(h1 : -(2^62)<=lo)(h2:lo<2^62)(h3 : -(2^62)<=hi)(h4:hi<2^62)
 (q:R (Az lo (hi-lo).toNat) H):Bi (BH X.prog X.w) X.A (pyIter (.ref s.heap.objs.size)) (Ak X pins σ tg R) E {s with heap:=s.heap.push {cls:=.type "range", data:=.fields #[.int lo t,.int hi u,.int 1 v]},toks:=tk}:=by
 refine wpAny_pyIter_range (IsRange.new ..) (small_one h1 h2 h3 h4) ?_;have I1:Inv X pins σ H {s with heap:=s.heap.push {cls:=.type "range", data:=.fields #[.int lo t,.int hi u,.int 1 v]},toks:=tk}:=I.kept fun b o e=>AT _ e
 refine⟨(s.heap.push {cls:=.type "range", data:=.fields #[.int lo t,.int hi u,.int 1 v]}).objs.size,[(s.heap.push {cls:=.type "range", data:=.fields #[.int lo t,.int hi u,.int 1 v]}).objs.size],_,_,H,rfl,
  I1.kept (t':=tk) fun b o e=>AT _ e,jo _ lo (hi-lo).toNat,?_,fun b hb=>?_,q⟩
 · have e1:lo+((0:Nat):Int)*1=lo:=by simp
   have e2:(((hi-lo).toNat:Nat):Int)-((0:Nat):Int)=Builtin.Range.rangeSize lo hi 1:=by rw[rangeSize_one];split<;>omega
   show IsRangeIter _ _ (lo+((0:Nat):Int)*1) ((((hi-lo).toNat:Nat):Int)-((0:Nat):Int)) 1;rw[e1,e2];exact A3 _ rfl
 · have e:b=(s.heap.push {cls:=.type "range", data:=.fields #[.int lo t,.int hi u,.int 1 v]}).objs.size:=by simpa using hb
   subst e;exact I1.fpOk (AY _) (I1.hok.fresh (AY _))
noncomputable def vh(ta:TA):TI:=fun σ H R=>ta σ H fun vs H1=>∃j:Int,vs=[.int j] /\ -(2^62)<=j/\j<2^62/\R (Az 0 j.toNat) H1
noncomputable def vg(ta:TA):TI:=fun σ H R=>ta σ H fun vs H1=>∃i j:Int,vs=[.int i,.int j]/\(-(2^62)<=i/\i<2^62 /\ -(2^62)<=j/\j<2^62)/\R (Az i (j-i).toNat) H1
theorem kO{a:Expr}{ta:TA}{p:Pos}(hg:Gl X "range")(hm:X.mg "range" = none)(ha:PA X [a] ta)(hs:autoParam (AW [a] X.env=[(false,eval a X.env)]) æa._auto_1):PI X tg (.Call (.Name "range" p) [a] [] pos) (vh ta):=by
 intro pins s σ H R I h;refine Call_ (dk I hg hm boot_range (BP (yy (ha pos pins s σ H _ I h) fun us s1 ⟨vs,H1,I1,r1,q1⟩=>?_) hs rfl));obtain⟨j,e,q1,q2,q⟩:=q1;subst e
 cases r1 with
 | cons r rr =>
   cases rr;obtain⟨t,rfl⟩:=r;exact call_range_1 (iI I1 (by omega) (by omega) q1 q2 (by simpa using q))
theorem kM{a b:Expr}{ta:TA}{p:Pos}(hg:Gl X "range")(hm:X.mg "range" = none)(ha:PA X [a,b] ta)(hs:autoParam (AW [a,b] X.env=[(false,eval a X.env),(false,eval b X.env)]) æa._auto_1)(hs2:autoParam (AW [b] X.env=[(false,eval b X.env)]) æa._auto_1) :
 PI X tg (.Call (.Name "range" p) [a,b] [] pos) (vg ta):=by
 intro pins s σ H R I h;refine Call_ (dk I hg hm boot_range (BP (yy (ha pos pins s σ H _ I h) fun us s1 ⟨vs,H1,I1,r1,q1⟩=>?_) (by rw[hs,hs2]) (by rw[hs2];rfl)));obtain⟨i,j,e,⟨q1,q2,q3,q4⟩,q⟩:=q1;subst e
 cases r1 with
 | cons r rr =>
   cases rr with
   | cons r' rr =>
     cases rr;obtain⟨t,rfl⟩:=r;obtain⟨t',rfl⟩:=r';exact call_range_2 (iI I1 q1 q2 q3 q4 q)
noncomputable def xB(wi:TI)(g:TG)(tb:TS):TS:=fun D σ H=>wi σ H fun J H1=>∃W:Nat->Nat->St->Hp->Prop,(∃m,W 0 m σ H1)/\∀i m σ H,W i m σ H ->
 (J.stop i H/\D.nx σ H)\/(J.go i H/\∃N:St->Hp->Prop,(∀σ' H',N σ' H'->∃m',m'<m/\W (i+1) m' σ' H')/\∀x H',J.yld i H x H'->g x σ H' fun σ2 H2=>tb {D with nx:=N,ct:=N,bk:=D.nx} σ2 H2)
noncomputable def gr(fp:List Addr)(h:Heap):List (Addr×Obj):=fp.filterMap fun b=>(h.get? b).map fun o=>(b,o)
theorem cB{b:Addr}(hb:b∈fp)(e:h.get? b=some o):(b,o)∈gr fp h:=List.mem_filterMap.mpr ⟨b,hb,by rw[e];rfl⟩
theorem kX{p:Addr×Obj}(hp:p∈gr fp h):p.1∈fp/\h.get? p.1=some p.2:=by
 obtain⟨b,hb,e⟩:=List.mem_filterMap.mp hp
 cases q:h.get? b with
 | none=>rw[q]at e;cases e
 | some o =>
   rw[q]at e;have e':(b,o)=p:=Bn e;subst e';exact⟨hb,q⟩
theorem Inv.pinned{σ:St}{H:Hp}(I:Inv X pins σ H s)(hf:∀b∈fp,jJ X pins H b)(ho:∀b∈fp,∃o,s.heap.get? b=some o/\∀v,o.data ≠ .cell v):Inv X (pins++gr fp s.heap) σ H s :=
 I.pins_of fun p hp=>(Ce.mp hp).elim (fun z=>I.pin p (BF _ z)) fun z=>by
  obtain⟨hb,e⟩:=kX z;obtain⟨f0,f1,f2,_⟩:=hf p.1 hb;obtain⟨o,e',d⟩:=ho p.1 hb;rw[e]at e';cases e';exact⟨e,f0,f1,f2,d⟩
theorem Inv.unpinned{pl:List (Addr×Obj)}{σ:St}{H:Hp}(I:Inv X (pins++pl) σ H s):Inv X pins σ H s:=I.pins_of fun p hp=>I.pin p (BF _ (FC _ hp))
theorem sw{iter:Expr}{body:List Stmt}{wi:TI}{g:TG}{tb:TS}(hp:Gv (BH X.prog X.w) X.A X.env X.xe)(hc:X.calm=true)(hi:PI X tg iter wi)(hg:PG X tg g)(hb:Ag X body tb)
 (hs:autoParam (∀x,CS iter X.env x=pure x) æc._auto_1):PS X (.For tg iter body [] pos) (xB wi g tb):=by
 intro pins s σ H D I h;refine wpAny_For (yy (hi pins s σ H _ I h) fun v s1 h1=>yy h1 fun itv s2 h2=>?_) hs;obtain⟨it,fp,tn,J,H2,e,I2,T,st2,f2,W,⟨m0,w0⟩,turn⟩:=h2;subst e;have stat:∀{H':Hp},(∀b∈fp,H' b=none)->∀b∈fp,jJ X pins H' b:=fun hn b hb=>⟨hn b hb,(f2 b hb).2⟩;refine codeAny_forLoop_any (fun n s'=>∃i σ' H',Inv X pins σ' H' s'/\tn i s'.heap/\(∀b∈fp,H' b=none)/\W i n σ' H') ?_ m0 ⟨0,σ,H2,I2,st2,fun b hb=>(f2 b hb).1,w0⟩;rintro n s3 ⟨i,σ3,H3,I3,st3,fr3,w3⟩;rcases turn i n σ3 H3 w3 with⟨stop,qn⟩|⟨go,N,hN,step⟩
 · refine CQ hp (yy (T.done X rfl rfl rfl hc i pins s3 σ3 H3 X.xe I3 (stat fr3) st3 stop) fun r s4 ⟨hr,I4⟩=>?_);subst hr;exact Ed ⟨σ3,H3,I4,qn⟩
 · refine CQ hp (yy (T.item X rfl rfl rfl hc i pins s3 σ3 H3 X.xe I3 (stat fr3) st3 go) fun r s4 ⟨u,hr,h4⟩=>?_);subst hr;refine CQ hp (yy h4 fun _ s5 ⟨x,H5,I5,r5,y5,st5,fr5⟩=>?_);have I5':=I5.pinned (stat fr5) (T.obj _ _ st5);refine CQ hp (yy (hg _ s5 σ3 H5 x u _ I5' r5 (step x H5 y5)) fun _ s6 ⟨σ6,H6,I6,q6⟩=>?_);refine CQ hp (yy (hb _ s6 σ6 H6 _ I6 q6) fun f s7 q7=>?_)
   have again:∀{σ7:St}{H7:Hp},Inv X (pins++gr fp s5.heap) σ7 H7 s7->N σ7 H7->∃m,m<n/\∃i σ' H',Inv X pins σ' H' s7/\tn i s7.heap/\(∀b∈fp,H' b=none)/\W i m σ' H':=fun{σ7 H7} I7 n7=>by
    obtain⟨m',hm,w7⟩:=hN σ7 H7 n7;refine⟨m',hm,i+1,σ7,H7,I7.unpinned,T.keep _ _ _ st5 fun b hb o e=>(I7.pin (b,o) (BF _ (BF _ (cB hb e)))).1,fun b hb=>?_,w7⟩;obtain⟨o,e,d⟩:=T.obj _ _ st5 b hb;exact(I7.pin (b,o) (BF _ (BF _ (cB hb e)))).2.1
   cases f with
   | next=>obtain⟨σ7,H7,I7,n7⟩:=q7;exact again I7 n7
   | cont=>obtain⟨σ7,H7,I7,n7⟩:=q7;exact again I7 n7
   | brk=>obtain⟨σ7,H7,I7,q7⟩:=q7;exact⟨σ7,H7,I7.unpinned,q7⟩
   | ret v=>obtain⟨x7,σ7,H7,I7,r7,q7⟩:=q7;exact⟨x7,σ7,H7,I7.unpinned,r7,q7⟩
end
abbrev R2:=V->V->Hp->VK->Prop
noncomputable def Ao(X:Cx)(f:AR->AR->Sem AR)(r:R2):Prop :=
 ∀ (pins:List (Addr×Obj))(s:AS)(σ:St)(H:Hp)(x y:V)(v u:AR)(Q:VK),Inv X pins σ H s->RelV x v->RelV y u->r x y H Q ->
   Bi (BH X.prog X.w) X.A (f v u) (EP X pins σ Q) X.xe s
noncomputable def zP(X:Cx)(f:AR->Sem AR)(r:V->Hp->VK->Prop):Prop :=
 ∀ (pins:List (Addr×Obj))(s:AS)(σ:St)(H:Hp)(x:V)(v:AR)(Q:VK),Inv X pins σ H s->RelV x v->r x H Q ->
   Bi (BH X.prog X.w) X.A (f v) (EP X pins σ Q) X.xe s
noncomputable def d4(X:Cx)(f:AR)(r:List V->Hp->VK->Prop):Prop :=
 ∀ (pins:List (Addr×Obj))(s:AS)(σ:St)(H:Hp)(xs:List V)(us:List AR)(Q:VK),Inv X pins σ H s->bB xs us->r xs H Q ->
   Bi (BH X.prog X.w) X.A (call f us) (EP X pins σ Q) X.xe s
noncomputable def yC(r:R2)(ta tb:TE):TE:=fun σ H Q=>ta σ H fun x H1=>tb σ H1 fun y H2=>r x y H2 Q
noncomputable def yz(r:V->Hp->VK->Prop)(ta:TE):TE:=fun σ H Q=>ta σ H fun x H1=>r x H1 Q
noncomputable def rI(C:Int->Int->Prop)(g:Int->Int->V):R2:=fun x y H Q=>∃i j,x = .int i/\y = .int j/\C i j/\Q (g i j) H
noncomputable def yS(g:Int->Int->V):R2:=fun x y H Q=>∃i j,x = .int i/\y = .int j/\Q (g i j) H
noncomputable def rU(g:Int->V):V->Hp->VK->Prop:=fun x H Q=>∃i,x = .int i/\Q (g i) H
section
variable{X:Cx}{a b c:Expr}{ta tb tc:TE}{pos:Pos}
theorem vE(ha:PE X a ta)(hb:PE X b tb){σ:St}{H:Hp}{R:V->V->Hp->Prop}(I:Inv X pins σ H s)
 (h:ta σ H fun x H1=>tb σ H1 fun y H2=>R x y H2){f:AR->AR->Sem AR}
 (hf:∀v u s2 x y H2,Inv X pins σ H2 s2->RelV x v->RelV y u->R x y H2->Bi (BH X.prog X.w) X.A (f v u) Q X.xe s2) :
 Bi (BH X.prog X.w) X.A (eval a X.env) (fun v s₁=>Bi (BH X.prog X.w) X.A (eval b X.env) (fun u s₂=>Bi (BH X.prog X.w) X.A (f v u) Q X.xe s₂) X.xe s₁) X.xe s:=by
 refine yy (ha pins s σ H _ I h) fun v s1 ⟨x,H1,I1,r1,q1⟩=>?_;refine yy (hb pins s1 σ H1 _ I1 q1) fun u s2 ⟨y,H2,I2,r2,q2⟩=>?_;exact hf v u s2 x y H2 I2 r1 r2 q2
theorem ca{op:Gu}{r:R2}(ho:Ao X (Dp op) r)(ha:PE X a ta)(hb:PE X b tb):PE X (.BinOp a op b pos) (yC r ta tb):=by
 intro pins s σ H Q I h;exact wpAny_BinOp (vE ha hb I h fun v u s2 x y H2 I2 rx ry q=>ho pins s2 σ H2 x y v u Q I2 rx ry q)
theorem sG{op:UnaryOp}{r:V->Hp->VK->Prop}(ho:zP X (unaryOp op) r)(ha:PE X a ta):PE X (.UnaryOp op a pos) (yz r ta):=by
 intro pins s σ H Q I h;exact UnaryOp_ (yy (ha pins s σ H _ I h) fun v s1 ⟨x,H1,I1,r1,q1⟩=>ho pins s1 σ H1 x v Q I1 r1 q1)
theorem yY{f:AR->AR->Sem AR}{C:Int->Int->Prop}{g:Int->Int->Int}
 (rule:∀(i j:Int)(t u:Tok)(s:AS)(Q:AR->AS->Prop)(E:AR->AS->Prop),C i j->Q (.int (g i j) s.toks) {s with toks:=s.toks+1}->Bi (BH X.prog X.w) X.A (f (.int i t) (.int j u)) Q E s) :
 Ao X f (rI C fun i j=>.int (g i j)):=by
 intro pins s σ H x y v u Q I rx ry h;obtain⟨i,j,rfl,rfl,hc,q⟩:=h;obtain⟨t,rfl⟩:=rx;obtain⟨t',rfl⟩:=ry;exact rule i j t t' s _ _ hc ⟨.int (g i j),H,I.tok _,⟨_,rfl⟩,q⟩
theorem wN{f:AR->AR->Sem AR}{g:Int->Int->Int}
 (rule:∀(i j:Int)(t u:Tok)(s:AS)(Q:AR->AS->Prop)(E:AR->AS->Prop),Q (.int (g i j) s.toks) {s with toks:=s.toks+1}->Bi (BH X.prog X.w) X.A (f (.int i t) (.int j u)) Q E s) :
 Ao X f (yS fun i j=>.int (g i j)):=by
 intro pins s σ H x y v u Q I rx ry h;obtain⟨i,j,rfl,rfl,q⟩:=h;obtain⟨t,rfl⟩:=rx;obtain⟨t',rfl⟩:=ry;exact rule i j t t' s _ _ ⟨.int (g i j),H,I.tok _,⟨_,rfl⟩,q⟩
theorem u_{f:AR->AR->Sem AR}{g:Int->Int->Bool}
 (rule:∀(i j:Int)(t u:Tok)(s:AS)(Q:AR->AS->Prop)(E:AR->AS->Prop),Q (.bool (g i j)) s->Bi (BH X.prog X.w) X.A (f (.int i t) (.int j u)) Q E s) :
 Ao X f (yS fun i j=>.bl (g i j)):=by
 intro pins s σ H x y v u Q I rx ry h;obtain⟨i,j,rfl,rfl,q⟩:=h;obtain⟨t,rfl⟩:=rx;obtain⟨t',rfl⟩:=ry;exact rule i j t t' s _ _ ⟨.bl (g i j),H,I,rfl,q⟩
noncomputable def xg(i j:Int):Prop:=0<j/\j<1073741824
noncomputable def uq(i j:Int):Prop:=0<=j/\j<=1000000/\i.natAbs<2^64
theorem eJ:Ao X (Dp .Add) (yS fun i j=>.int (i+j)):=wN fun _ _ _ _ _ _ _ q=>add_int q
theorem sN:Ao X (Dp .Sub) (yS fun i j=>.int (i-j)):=wN fun _ _ _ _ _ _ _ q=>sub_int q
theorem cr:Ao X (Dp .Mod) (rI (fun _ j=>j≠0) fun i j=>.int (i.fmod j)):=yY fun _ _ _ _ _ _ _ hc q=>mod_int' hc q
theorem oA:Ao X (Dp .Pow) (rI uq fun i j=>.int (i^j.toNat)):=yY fun _ _ _ _ _ _ _ hc q=>pow_int_small hc.1 hc.2.1 hc.2.2 q
theorem yp{f:AR->Sem AR}{g:Int->Int}
 (rule:∀(i:Int)(t:Tok)(s:AS)(Q:AR->AS->Prop)(E:AR->AS->Prop),Q (.int (g i) s.toks) {s with toks:=s.toks+1}->Bi (BH X.prog X.w) X.A (f (.int i t)) Q E s) :
 zP X f (rU fun i=>.int (g i)):=by
 intro pins s σ H x v Q I rx h;obtain⟨i,rfl,q⟩:=h;obtain⟨t,rfl⟩:=rx;exact rule i t s _ _ ⟨.int (g i),H,I.tok _,⟨_,rfl⟩,q⟩
theorem oh:zP X (unaryOp .USub) (rU fun i=>.int (-i)):=yp fun _ _ _ _ _ q=>neg_int q
end
noncomputable def xE:V->V->Bool
 | .non,.non=>true | .non,.int _=>true | .int _,.non=>true | .non,.bl _=>true | .bl _,.non=>true | .non,.str _=>true | .str _,.non=>true
 | .int _,.int _=>true | .bl _,.bl _=>true | .str _,.str _=>true | .byt _,.byt _=>true
 | .int _,.str _=>true | .str _,.int _=>true | .bl _,.str _=>true | .str _,.bl _=>true
 | _,_=>false
noncomputable def yT:R2:=fun x y H Q=>xE x y=true/\Q (.bl (decide (x=y))) H
theorem qL{i j:Int}:decide (V.int i=V.int j)=(i==j):=by
 rw[Ef];simp
theorem tW{i j:Bool}:decide (V.bl i=V.bl j)=(i==j):=by
 rw[Ef];simp
theorem qK{i j:Str}:decide (V.str i=V.str j)=(i==j):=by
 rw[Ef];simp
theorem qM{i j:Array UInt8}:decide (V.byt i=V.byt j)=(i.toList==j.toList):=by
 rw[Ef];cases i;cases j;simp
section
variable{X:Cx}{a b c:Expr}{ta tb tc:TE}{pos:Pos}
theorem bM{σ:St}{H:Hp}{Q:VK}{k k':Bool}(I:Inv X pins σ H s)(q:Q (.bl k) H)(e:k=k'):EP X pins σ Q (.bool k') s:=by
 subst e;exact⟨.bl k,H,I,rfl,q⟩
theorem u9:Ao X (C9 .Eq) yT:=by
 intro pins s σ H x y v u Q I rx ry h;obtain⟨hs,q⟩:=h
 cases x with
 | non =>
   cases rx
   cases y with
   | non=>cases ry;exact PySem.EqNone.eq_none_none (bM I q (by simp))
   | bl j=>cases ry;exact PySem.EqNone.eq_none_bool (bM I q (by simp))
   | int j=>obtain⟨t',rfl⟩:=ry;exact PySem.EqNone.eq_none_int (bM I q (by simp))
   | str j=>obtain⟨t',rfl⟩:=ry;exact PySem.EqNone.eq_none_str (bM I q (by simp))
   | _=>exact absurd (show false=true from hs) Bs
 | bl i =>
   cases rx
   cases y with
   | non=>cases ry;exact PySem.EqNone.eq_bool_none (bM I q (by simp))
   | bl j=>cases ry;exact eq_bool (bM I q tW)
   | str j=>obtain⟨t',rfl⟩:=ry;exact PySem.EqMixed.eq_bool_str (bM I q (by simp))
   | _=>exact absurd (show false=true from hs) Bs
 | int i =>
   obtain⟨t,rfl⟩:=rx
   cases y with
   | non=>cases ry;exact PySem.EqNone.eq_int_none (bM I q (by simp))
   | int j=>obtain⟨t',rfl⟩:=ry;exact eq_int (bM I q qL)
   | str j=>obtain⟨t',rfl⟩:=ry;exact PySem.EqMixed.eq_int_str (bM I q (by simp))
   | _=>exact absurd (show false=true from hs) Bs
 | str i =>
   obtain⟨t,rfl⟩:=rx
   cases y with
   | non=>cases ry;exact PySem.EqNone.eq_str_none (bM I q (by simp))
   | bl j=>cases ry;exact PySem.EqMixed.eq_str_bool (bM I q (by simp))
   | int j=>obtain⟨t',rfl⟩:=ry;exact PySem.EqMixed.eq_str_int (bM I q (by simp))
   | str j=>obtain⟨t',rfl⟩:=ry;exact eq_str (bM I q qK)
   | _=>exact absurd (show false=true from hs) Bs
 | byt i =>
   obtain⟨t,rfl⟩:=rx
   cases y with
   | byt j=>obtain⟨t',rfl⟩:=ry;exact W.eq_bytes (bM I q qM)
   | _=>exact absurd (show false=true from hs) Bs
 | _=>cases y<;>exact absurd (show false=true from hs) Bs
theorem kS:Ao X (C9 .Lt) (yS fun i j=>.bl (decide (i<j))):=u_ fun _ _ _ _ _ _ _ q=>lt_int q
theorem kU:Ao X (C9 .Gt) (yS fun i j=>.bl (decide (j<i))):=u_ fun _ _ _ _ _ _ _ q=>gt_int q
theorem u8:Ao X (C9 .GtE) (yS fun i j=>.bl (decide (j<=i))):=u_ fun _ _ _ _ _ _ _ q=>ge_int q
theorem bC(b:Expr){op:CmpOp}(h:autoParam (op ≠ .In) æb._auto_1)(h2:autoParam (op ≠ .NotIn) æb._auto_1):DA op b=false:=by
 have e1:(op==CmpOp.In)=false:=by cases op<;>first|rfl|exact absurd rfl h
 have e2:(op==CmpOp.NotIn)=false:=by cases op<;>first|rfl|exact absurd rfl h2
 cases b<;>simp[DA,e1,e2]
theorem p7{op:CmpOp}{r:R2}(ho:Ao X (C9 op) r)(ha:PE X a ta)(hb:PE X b tb)(hm:DA op b=false):PE X (.Compare a [op] [b] pos) (yC r ta tb):=by
 intro pins s σ H Q I h;exact wpAny_Compare1 (vE ha hb I h fun v u s2 x y H2 I2 rx ry q=>ho pins s2 σ H2 x y v u Q I2 rx ry q) hm
noncomputable def uP(t:TE):TT:=fun σ H Q=>t σ H fun x H'=>∃k,x = .bl k/\Q k H'
theorem c8{op:CmpOp}{r:R2}(ho:Ao X (C9 op) r)(ha:PE X a ta)(hb:PE X b tb)(hm:DA op b=false):PT X (.Compare a [op] [b] pos) (uP (yC r ta tb)):=by
 intro pins s σ H Q I h
 refine wpAny_isTrue_Compare1 (yy (ha pins s σ H _ I h) fun v s1 ⟨x,H1,I1,r1,q1⟩=>yy (hb pins s1 σ H1 _ I1 q1) fun u s2 ⟨y,H2,I2,r2,q2⟩ =>
  yy (ho pins s2 σ H2 x y v u _ I2 r1 r2 q2) fun c s3 ⟨z,H3,I3,r3,k,e,q3⟩=>?_) hm
 subst e;cases r3;exact wpAny_truthy_bool ⟨H3,I3,q3⟩
theorem gA:(sizeLine:Nat)<2^63:=by rw[sizeLine_eq];decide
theorem vals1{x:V}(r:bB [x] us):∃u,us=[u]/\RelV x u:=by
 cases r with
 | cons r1 r2=>cases r2;exact⟨_,rfl,r1⟩
theorem vals2{x y:V}(r:bB [x,y] us):∃u w',us=[u,w']/\RelV x u/\RelV y w':=by
 cases r with
 | cons r1 r2 =>
   cases r2 with
   | cons r3 r4=>cases r4;exact⟨_,_,rfl,r1,r3⟩
theorem fP:d4 X (.builtin "abs") (fun xs H Q=>∃i,xs=[.int i]/\Q (.int (if i<0 then -i else i)) H):=by
 intro pins s σ H xs us Q I r h;obtain⟨i,rfl,q⟩:=h;obtain⟨u,rfl,t,rfl⟩:=vals1 r;exact call_abs_int fun u tk=>⟨.int (if i<0 then -i else i),H,I.tok _,⟨_,rfl⟩,q⟩
theorem lN(hc:X.calm=true):d4 X (.builtin "max") (fun xs H Q=>∃i j,xs=[.int i,.int j]/\Q (.int (if j>i then j else i)) H):=by
 intro pins s σ H xs us Q I r h;obtain⟨i,j,rfl,q⟩:=h;obtain⟨u,w',rfl,⟨t,rfl⟩,⟨t',rfl⟩⟩:=vals2 r;refine max_two_ints (I.ok.hd hc) fun h' tk k=>⟨_,H,I.kept k,?_,q⟩;by_cases hj:j>i
 · rw[if_pos hj,if_pos hj];exact⟨_,rfl⟩
 · rw[if_neg hj,if_neg hj];exact⟨_,rfl⟩
theorem ii:d4 X (.builtin "divmod") (fun xs H Q=>∃i j,xs=[.int i,.int j]/\xg i j/\∀p,H p=none->Q (.ref p) (upd H p (.tup [.int (i / j),.int (i%j)]))):=by
 intro pins s σ H xs us Q I r h;obtain⟨i,j,rfl,⟨h1,h2⟩,q⟩:=h;obtain⟨u,w',rfl,⟨t,rfl⟩,⟨t',rfl⟩⟩:=vals2 r;refine divmod_int (by omega) ?_ (.inl (PyProof.noPylong_small (by omega)));rw[Dk i (by omega),Int.fmod_eq_emod_of_nonneg i (by omega)];have hn:H s.heap.objs.size=none:=I.hok.fresh (AY _);refine⟨.ref s.heap.objs.size,_,?_,rfl,q _ hn⟩;refine I.laid (fun b o e=>AT _ e) (AY _) ⟨by simp only[Bb,C_];rw[sizeLine_eq];decide,[.int (i / j) s.toks,.int (i%j) (s.toks+1)],.cons ⟨_,rfl⟩ (.cons ⟨_,rfl⟩ .nil),?_⟩;exact⟨_,A3 s.heap rfl,rfl,⟨0,rfl⟩,rfl⟩
end
section
variable{prog:Bd}{w:BM}{A:BJ}{E:AR->AS->Prop}{s:AS}{K:W.Frag}{x dx C f:Addr}{mA:Str->Option AR}{name:Str}{v:AR}
end
noncomputable def ue(f:Str)(v:V):List (Str×V)->List (Str×V)
 | []=>[(f,v)]
 | (g,x)::r=>if g=f then(g,v)::r else(g,x)::ue f v r
section
variable{P:Bd}{w:BM}{H H':Hp}{h h':Heap}{a C dx:Addr}{fs fs':List (Str×V)}
end
section
variable{X:Cx}{pins:List (Addr×Obj)}{σ:St}{H:Hp}{s:AS}{a C dx:Addr}{fs:List (Str×V)}{f:Str}{v:V}{A:BJ}{E:AR->AS->Prop}
end
section
variable{X:Cx}{o e value:Expr}{f:Str}{pos pos' tpos:Pos}{ta tv:TE}
end
section
variable{X:Cx}{pins:List (Addr×Obj)}{σ:St}{H:Hp}{s:AS}{A:BJ}{E:AR->AS->Prop}{Q:AR->AS->Prop}{c:AR}{b:Bool}
end
structure Room (k:Nat) (A:BJ):Prop where
 hd:A.handled=none
 dp:A.depth+3*k+5<recursionLimit
 un:A.units+16*k+200<F_
 gd:A.guards=some []
theorem Room.mono(r:Room k A)(h:j<=k):Room j A:=⟨r.hd,by have:=r.dp;omega,by have:=r.un;omega,r.gd⟩
theorem Room.deeper(r:Room (k+1) A)(env:Env):Room k (A.deeper env) :=
 ⟨r.hd,by have:=r.dp;show A.depth+1+3*k+5<_;omega,by have:=r.un;show A.units+3+16*k+200<_;omega,r.gd⟩
theorem Room.depth(r:Room k A):A.depth<recursionLimit:=by have:=r.dp;omega
theorem Room.units(r:Room k A):A.units+64<F_:=by have:=r.un;omega
noncomputable def xx:TA:=fun _ H Q=>Q [] H
noncomputable def uT(ta:TE)(tr:TA):TA:=fun σ H Q=>ta σ H fun x H1=>tr σ H1 fun xs H2=>Q (x::xs) H2
section
variable{X:Cx}{e:Expr}{es:List Expr}{te:TE}{t:TA}{pos:Pos}
theorem cH:PA X [] xx:=fun _ _ _ _ H Q I h=>Calls.spliced_nil ⟨[],H,I,.nil,h⟩
theorem bu(ha:PE X e te)(hr:PA X es t)(hs:autoParam (AW (e::es) X.env=(false,eval e X.env)::AW es X.env) æa._auto_1):PA X (e::es) (uT te t):=by
 intro pos pins s σ H Q I h;rw[hs];show Bi _ _ (spliced ((false,eval e X.env)::Cj pos (AW es X.env))) _ _ s;refine Calls.spliced_cons (yy (ha pins s σ H _ I h) fun u s1 ⟨x,H1,I1,r1,q1⟩=>?_);exact yy (hr pos pins s1 σ H1 _ I1 q1) fun us s2 ⟨xs,H2,I2,r2,q2⟩=>⟨x::xs,H2,I2,.cons r1 r2,q2⟩
noncomputable def xo(t:TA):TE:=fun σ H Q=>t σ H fun xs H1=>xs.length<=sizeLine/\∀p,H1 p=none->Q (.ref p) (upd H1 p (.tup xs))
noncomputable def xy(t:TA):TE:=fun σ H Q=>t σ H fun xs H1=>xs.length<=sizeLine/\∀p,H1 p=none->Q (.ref p) (upd H1 p (.lst xs))
theorem sI{x1}(h:PA X es t):PE X (.Tuple es x1 pos) (xo t):=by
 intro pins s σ H Q I hq;refine wpAny_Tuple_spliced (yy (h pos pins s σ H _ I hq) fun us s1 ⟨xs,H1,I1,r,z,q⟩=>⟨by rw[<- r.length];exact z,?_⟩);have hf:H1 s1.heap.objs.size=none:=I1.hok.fresh (AY _);refine⟨.ref s1.heap.objs.size,upd H1 s1.heap.objs.size (.tup xs),I1.laid (t':=s1.toks) (fun b u e=>AT _ e) (AY _) ?_,rfl,q _ hf⟩;exact⟨z,us,r,lS.new _ _⟩
theorem ox(h:PA X es t):PE X (.List es pos) (xy t):=by
 intro pins s σ H Q I hq;refine wpAny_List_spliced (yy (h pos pins s σ H _ I hq) fun us s1 ⟨xs,H1,I1,r,z,q⟩=>⟨by rw[<- r.length];exact z,?_⟩);have hf:H1 s1.heap.objs.size=none:=I1.hok.fresh (AY _);refine⟨.ref s1.heap.objs.size,upd H1 s1.heap.objs.size (.lst xs),I1.laid (t':=s1.toks) (fun b u e=>AT _ e) (AY _) ?_,rfl,q _ hf⟩;exact⟨z,us,0,r,A3 _ rfl⟩
end
abbrev Sp:=List V->Hp->VK->XK->Prop
abbrev AH:=List Env->Hp->AS->XK->AR->AS->Prop
structure Env0 (P:Bd) (w:BM) (K:W.Frag) (mg:Str->Option AR) (base:Heap) (A:BJ) (outer:List Env) (s:AS) (H:Hp):Prop where
 frames:A.frames=some outer
 mod:Mod K mg base
 bs:∀b o,base.get? b=some o->s.heap.get? b=some o/\H b=none
 bsz:base.objs.size<=s.heap.objs.size
 funs:s.heap.FunFrames base outer
 frf:∀b∈frs outer,H b=none
 hok:AE P w H s.heap
 bare:FT s.gens
noncomputable def CE(outer:List Env)(P:Bd)(w:BM)(H:Hp)(s:AS)(Q:VK)(u:AR)(s':AS):Prop :=
 ∃v H',s'.os=s.os/\FT s'.gens/\Un (frs outer) [] H H' s.heap s'.heap/\AE P w H' s'.heap/\RelV v u/\Q v H'
noncomputable def CR(CX:AH)(outer:List Env)(P:Bd)(w:BM)(H:Hp)(s:AS)(Q:VK)(E:XK)(r:Result)(s':AS):Prop :=
 match r with
 | .ok (.ret u)=>CE outer P w H s Q u s'
 | .ok _=>False
 | .error e=>CX outer H s E e s'
structure FnOk (P:Bd) (w:BM) (K:W.Frag) (mg:Str->Option AR) (base:Heap) (CX:AH) (k:Nat) (f:Addr) (fd:CZ) (ps:List Str) (sp:Sp):Prop where
 len:∀vs H Q E,sp vs H Q E->vs.length=ps.length
 run:∀(A:BJ)(outer:List Env)(s:AS)(H:Hp)(args:Args)(us:List AR)(vs:List V)(Q:VK)(E:XK),Room k A->Env0 P w K mg base A outer s H->Gw s fd args (ps.zip us)->bB vs us->sp vs H Q E ->
  Et (BH P w) A (.call (.ref f) args) (CR CX outer P w H s Q E) s
section
variable{X:Cx}{pins:List (Addr×Obj)}{σ:St}{H:Hp}{s s':AS}
theorem Inv.env0(I:Inv X pins σ H s):Env0 X.prog X.w X.K X.mg X.base X.A X.stack s H :=
 ⟨I.ok.frames,I.ok.mod,I.bs,Ca I.ok.bsz I.sz,I.stack,I.stkFree,I.hok,I.bare⟩
theorem Inv.after{Q:VK}{u:AR}(I:Inv X pins σ H s)(h:CE X.stack X.prog X.w H s Q u s'):EP X pins σ Q u s':=by
 obtain⟨v,H',os,bare,un,hok,r,q⟩:=h;obtain⟨hh,g,d,t,os'⟩:=s';obtain rfl:os'=s.os:=os;exact⟨v,H',I.call (h':=hh) (g':=g) (d':=d) (t':=t) (ch:=[]) un hok bare (fun b z=>absurd z (by simp)),r,q⟩
end
noncomputable def uU(sp:Sp)(dvs:List V)(E:XK)(t:TA):TE:=fun σ H Q=>t σ H fun vs H1=>sp (vs++dvs) H1 Q E
noncomputable def Binds(K:W.Frag)(fd:CZ)(ps:List Str)(ds:List AR):Prop :=
 ∀(s:AS)(us:List AR),K.In s.heap->(us++ds).length=ps.length->Gw s fd ⟨us,[]⟩ (ps.zip (us++ds))
theorem Binds.all{K:W.Frag}(h:∀us:List AR,us.length=ps.length->bindArgs fd ⟨us,[]⟩=pure (ps.zip us)):Binds K fd ps []:=fun s us _ hl=>by
 rw[Co]at hl ⊢;exact .of_eq (h us hl)
noncomputable def lQ(CX:AH)(X:Cx)(E:XK):Prop:=∀(pins:List (Addr×Obj))(σ:St)(H:Hp)(s:AS)(e:AR)(s':AS),Inv X pins σ H s->CX X.stack H s E e s'->X.xe e s'
section
variable{X:Cx}{CX:AH}{k:Nat}{f C:Addr}{fd:CZ}{ps:List Str}{sp:Sp}{dvs:List V}{ds:List AR}{E:XK}{x m:Str}{p pos apos:Pos}{e o:Expr}{es:List Expr}{ta:TE}{t:TA}
theorem r8{σ:St}{H:Hp}{Q:VK}{vs:List V}(F:FnOk X.prog X.w X.K X.mg X.base CX k f fd ps sp)(hr:Room k X.A)(hb:Binds X.K fd ps ds)(hd:bB dvs ds)(hx:lQ CX X E)
 (I:Inv X pins σ H s)(r:bB vs us)(h:sp (vs++dvs) H Q E):Bi (BH X.prog X.w) X.A (call (.ref f) us) (EP X pins σ Q) X.xe s:=by
 have r2:bB (vs++dvs) (us++ds):=r.append hd;have hl:(us++ds).length=ps.length:=by rw[<- r2.length];exact F.len _ _ _ _ h
 refine wpAny_call (D0 (F.run X.A X.stack s H ⟨us,[]⟩ (us++ds) (vs++dvs) Q E hr I.env0 (hb s us I.kIn hl) r2 h) fun r s' hq=>?_)
 cases r with
 | error e=>exact hx pins σ H s e s' I hq
 | ok fl =>
   cases fl with
   | ret u=>exact I.after hq
   | next=>exact Cr hq
   | brk=>exact Cr hq
   | cont=>exact Cr hq
theorem kP(F:FnOk X.prog X.w X.K X.mg X.base CX k f fd ps sp)(hr:Room k X.A)(hg:Gl X x)(hm:X.mg x=some (.ref f))(hk:W.keepIn X.K (.ref f)=true)(hb:Binds X.K fd ps ds)(hd:bB dvs ds)(hx:lQ CX X E)
 (ha:PA X (e::es) t)(hdb:autoParam ((x==("__debug__" : Str))=false) æb._auto_1)(he:autoParam (AW (e::es) X.env=(false,eval e X.env)::AW es X.env) æa._auto_1)(hpl:autoParam ((Cj pos (AW es X.env)).any (·.1)=false) æa._auto_1) :
 PE X (.Call (.Name x p) (e::es) [] pos) (uU sp dvs E t):=by
 intro pins s σ H Q I h;refine DB (lj I hg hm ?_ hdb);refine W.callWith_K (h₀:=X.base) I.ok.mod.kin hk (yy (ha pos pins s σ H _ I h) fun us s1 ⟨vs,H1,I1,r,q⟩=>⟨I1.kIn,?_⟩) he hpl;exact r8 F hr hb hd hx I1 r q
end
section
variable{X:Cx}{CX:AH}{k:Nat}{f C:Addr}{fd:CZ}{ps ks:List Str}{sp:Sp}{E:XK}{x m:Str}{p pos apos kpos:Pos}{e o:Expr}{es:List Expr}{kws:List Dl}{te ta:TE}{t tk:TA}{nm:Option Str}
variable{g:List AR->List AR->List AR}{gV:List V->List V->List V}
end
structure FnScope (N P:List Str) (sc:Scope):Prop where
 kind:sc.kind = .function
 co:sc.isCoroutine=false
 gen:sc.isGenerator=false
 nd:N.Nodup
 pre:N.take P.length=P
 par:∀x∈P,sc.names.lookup x=some .local\/sc.names.lookup x=some .cell
 nofree:∀y∈sc.names,y.2 ≠ .free
theorem gH{kindOf:Str->Option DC}{x:Str}:∀{binds:List (Str×AR)}{m:Str->Option AR},(∀v,(x,v)∉binds)->bindL kindOf binds m x=m x
 | [],_,_=>rfl
 | (n,v)::r,m,h=>by
   unfold bindL;rw[gH fun w hw=>h w (AU _ hw)];split
   · have:x≠n:=by rintro rfl;exact h v AZ
     simp[this]
   · rfl
theorem gK{kindOf:Str->Option DC}{x:Str}:∀{binds:List (Str×AR)}{m:Str->Option AR},(∀v,(x,v)∉binds)->bindC kindOf binds m x=m x
 | [],_,_=>rfl
 | (n,v)::r,m,h=>by
   unfold bindC;rw[gK fun w hw=>h w (AU _ hw)];split
   · rfl
   · have:x≠n:=by rintro rfl;exact h v AZ
     simp[this]
theorem gJ{kindOf:Str->Option DC}{x:Str}{v:AR}:∀{P:List Str}{vs:List AR}{i:Nat}{m:Str->Option AR},P.Nodup->P[i]?=some x->vs[i]?=some v->kindOf x=some .local ->
 bindL kindOf (P.zip vs) m x=some v
 | [],_,_,_,_,h,_,_=>by simp at h
 | _::_,[],_,_,_,_,h,_=>by simp at h
 | p::P,w::vs,0,m,nd,h1,h2,hk=>by
   simp at h1 h2;subst h1;subst h2;show bindL kindOf ((p,w)::P.zip vs) m p=_;unfold bindL;rw[gH fun v hv=>(CD.mp nd).1 (Cp hv).1,if_pos hk]
   simp
 | p::P,w::vs,i+1,m,nd,h1,h2,hk=>by
   show bindL kindOf ((p,w)::P.zip vs) m x=_;unfold bindL;exact gJ (i:=i) (CD.mp nd).2 (by simpa using h1) (by simpa using h2) hk
theorem gL{kindOf:Str->Option DC}{x:Str}{v:AR}:∀{P:List Str}{vs:List AR}{i:Nat}{m:Str->Option AR},P.Nodup->P[i]?=some x->vs[i]?=some v->kindOf x≠some .local ->
 bindC kindOf (P.zip vs) m x=some v
 | [],_,_,_,_,h,_,_=>by simp at h
 | _::_,[],_,_,_,_,h,_=>by simp at h
 | p::P,w::vs,0,m,nd,h1,h2,hk=>by
   simp at h1 h2;subst h1;subst h2;show bindC kindOf ((p,w)::P.zip vs) m p=_;unfold bindC;rw[gK fun v hv=>(CD.mp nd).1 (Cp hv).1,if_neg hk]
   simp
 | p::P,w::vs,i+1,m,nd,h1,h2,hk=>by
   show bindC kindOf ((p,w)::P.zip vs) m x=_;unfold bindC;exact gL (i:=i) (CD.mp nd).2 (by simpa using h1) (by simpa using h2) hk
noncomputable def start(N:List Str)(vs:List V):St:=vs.map some++C6 (N.length-vs.length) none
noncomputable def lV(CX:AH)(P:Bd)(w:BM)(K:W.Frag)(mg:Str->Option AR)(base:Heap)(N:List Str)(qual:Str)(scope:Scope)(f:Addr)(cd:AR)(A:BJ)(outer:List Env)(s:AS)(H:Hp)(E:XK):Cx where
 prog:=P
 w:=w
 K:=K
 mg:=mg
 base:=base
 A:=A.deeper (EY qual scope s.heap.objs.size f cd)
 N:=N
 s₀:=s
 H₀:=H
 env:=EY qual scope s.heap.objs.size f cd
 outer:=outer
 stack:=EY qual scope s.heap.objs.size f cd::outer
 ex:=[]
 calm:=true
 fn:=fun _=>true
 pn:=[]
 xe:=fun e s'=>Bi (BH P w) (A.deeper (EY qual scope s.heap.objs.size f cd)) (leaving (EY qual scope s.heap.objs.size f cd) e) (fun _ s''=>CX outer H s E e s'') (fun e' s''=>CX outer H s E e' s'') s'
theorem jh{sc:Scope}(h:sc.names.lookup x=some .cell):∃c,(Ck n sc.names []).lookup x=some c:=by
 have q:=W.cellsFrom_some sc.names n [] (.inl h);exact CT.mp q
theorem lr{CX:AH}{w:BM}{K:W.Frag}{base:Heap}{N:List Str}{cd:AR}{outer:List Env}{s1:AS}{H:Hp}{E:XK}{vs:List V}
 (S:FnScope N ps scope)(hd:A.handled=none)(e0:Env0 P w K mg base A outer s H)(hl:vs.length=ps.length)(r:bB vs us)
 (x:InCallC s s.heap.objs.size (bindL (EY qual scope s.heap.objs.size f cd).kindOf (ps.zip us) fun _=>none) (Ck (s.heap.objs.size+1) scope.names []) (bindC (EY qual scope s.heap.objs.size f cd).kindOf (ps.zip us) fun _=>none) s1) :
 Inv (lV CX P w K mg base N qual scope f cd A outer s H E) [] (start N vs) H s1:=by
 have hpl:ps.length<=N.length:=by have:=congrArg Gx S.pre;rw[List.length_take]at this;omega
 obtain⟨h1,tk,rfl,hk⟩:=x.done;have noA:∀b:Addr,b∉(lV CX P w K mg base N qual scope f cd A outer s H E).ex:=fun b z=>absurd (show b∈([]:List Addr)from z) (by simp)
 refine⟨⟨e0.mod,S.kind,rfl,rfl,AY _,fun y z c h1 h2=>?_,fun y hy=>?_,fun y c _ h=>?_,fun _=>hd,BJ.frames_deeper e0.frames,.inr ⟨rfl,rfl⟩,fun b z=>absurd z (noA b),e0.bs,e0.bsz,fun b _ _=>noA b,fun b z=>absurd z (noA b),e0.funs,e0.frf⟩,
  rfl,e0.bare,Un.kept hk,⟨_,x.toInCall.ns,fun i y v h1 h2 h3=>?_⟩,fun y c h=>⟨_,x.cell y c h⟩,e0.hok.fresh (AY _),fun y c h=>?_,fun p hp=>absurd (show p∈([]:List (Addr×Obj))from hp) (by simp),e0.hok.kept hk,?_⟩
 · exact name_of_addr x.apart (BU h1) (BU h2)
 · have hy:scope.names.lookup y=some .cell\/scope.names.lookup y=some .free:=hy;rcases hy with hy|hy
   · exact jh hy
   · exact absurd rfl (S.nofree _ (BU hy))
 · exact E9 (x.above y c (BU h))
 · have hi:i<vs.length:=by
     unfold start at h2;by_cases hi:i<vs.length
     · exact hi
     · rw[Em (by simpa using hi)]at h2;rw[EO]at h2;split at h2<;>cases h2
   have ha:vs[i]?=some v:=by
    unfold start at h2;rw[Dn (by simpa using hi),Bp]at h2
    cases e:vs[i]? with
    | none=>rw[e]at h2;cases h2
    | some a=>rw[e]at h2;cases h2;rfl
   obtain⟨u,hu,rv⟩:=r.get ha
   have hp:ps[i]?=some y:=by
    rw[<- S.pre,List.getElem?_take_of_lt (by omega)];exact h1
   have ndP:ps.Nodup:=by rw[<- S.pre];exact S.nd.sublist (List.take_sublist _ _)
   refine⟨u,rv,?_⟩;rcases S.par y (D9 hp)with k|k
   · exact .inl ⟨k,gJ ndP hp hu k⟩
   · obtain⟨c,e⟩:=jh (n:=s.heap.objs.size+1) k;refine .inr ⟨.inl k,c,e,?_⟩;have q:=x.cell y c e;rw[gL ndP hp hu (by show scope.names.lookup y≠_;rw[k];decide)]at q;exact q
 · exact e0.hok.fresh (E9 (x.above y c (BU h)))
 · unfold start;show _=N.length;rw[Be,AV,List.length_replicate];omega
theorem vD{CX:AH}{w:BM}{K:W.Frag}{base:Heap}{name:Str}{params:Arguments}{body:List Stmt}{dV kV doc pm cdv ct oc:AR}{an od:Option Addr}
 {osl:Array (Option AR)}{N:List Str}{sp:Sp}(lk:K.lookup f=some ⟨oc,od,.func (W.fnOf name qual params body scope dV kV doc pm an cdv ct),osl⟩)(hcd:W.codeIn K cdv qual=true)(S:FnScope N ps scope)
 (len:∀vs H Q E,sp vs H Q E->vs.length=ps.length)
 (hbody:∀(A:BJ)(outer:List Env)(s:AS)(H:Hp)(vs:List V)(Q:VK)(E:XK),Room k (A.deeper (EY qual scope s.heap.objs.size f cdv))->sp vs H Q E ->
  ∃t,Ag (lV CX P w K mg base N qual scope f cdv A outer s H E) body t/\t {nx:=fun _ H'=>Q .non H',rt:=Q} (start N vs) H) :
 FnOk P w K mg base CX (k+1) f (W.fnOf name qual params body scope dV kV doc pm an cdv ct) ps sp:=by
 refine⟨len,fun A outer s H args us vs Q E hr e0 hb r hsp=>?_⟩;have hl:=len _ _ _ _ hsp;have KX:K.In s.heap:=e0.mod.kin.keeps fun b o e=>(e0.bs b o e).1;have lim:s.heap.NoLimit:=e0.mod.nolimit.keeps fun b o e=>(e0.bs b o e).1
 have hkind:∀y∈ps.zip us,scope.names.lookup y.1=some .local\/(scope.names.lookup y.1=some .cell/\((Ck (s.heap.objs.size+1) scope.names []).lookup y.1).isSome=true):=fun⟨n,v⟩ hy=>by
  rcases S.par n (Cp hy).1 with q|q
  · exact .inl q
  · exact .inr ⟨q,W.cellsFrom_some _ _ _ (.inl q)⟩
 refine codeAny_call_function hr.depth (KX _ _ lk) rfl S.co S.gen rfl (W.codeRec_of KX hcd) (hb _ _ _ _ ?_);refine wpAny_newFunctionEnv_cells S.kind hkind fun env he s1 x=>?_;subst he;refine⟨lim.keeps x.toInCall.keep,codeAny_func ?_⟩;obtain⟨t,ht,hq⟩:=hbody A outer s H vs Q E (hr.deeper _) hsp;have I:Inv (lV CX P w K mg base N qual scope f cdv A outer s H E) [] (start N vs) H s1:=lr S hr.hd e0 hl r x;refine Df (ht [] s1 (start N vs) H _ I hq) (fun fl s' hs=>?_) fun e s' hs=>hs
 have fin:∀{σ':St}{H':Hp}{v:V}{u:AR},Inv (lV CX P w K mg base N qual scope f cdv A outer s H E) [] σ' H' s'->RelV v u->Q v H'->CE outer P w H s Q u s' :=
  fun{σ' H' v u} J rv q=>⟨v,H',J.os,J.bare,J.base,J.hok,rv,q⟩
 cases fl with
 | ret u =>
   obtain⟨v,σ',H',J,rv,q⟩:=hs
   exact fin J rv q
 | next =>
   obtain⟨σ',H',J,q⟩:=hs
   exact fin (v:=V.non) (u:=CI) J rfl q
 | brk =>
   obtain⟨_,_,_,q⟩:=hs
   exact Cr q
 | cont =>
   obtain⟨_,_,_,q⟩:=hs;exact Cr q
section
variable{X:Cx}{x:Str}{p pos:Pos}{e:Expr}{es:List Expr}{t:TA}{id T:String}{r:List V->Hp->VK->Prop}
noncomputable def yE(r:List V->Hp->VK->Prop)(t:TA):TE:=fun σ H Q=>t σ H fun vs H1=>r vs H1 Q
theorem cz(hc:d4 X (.builtin id) r)(hg:Gl X x)(hm:X.mg x=none)(hv:Du x=some (.builtin id))(ha:PA X (e::es) t)(hn:autoParam (x ≠ "__name__") æb._auto_1)(hdb:autoParam ((x==("__debug__" : Str))=false) æb._auto_1)
 (he:autoParam (AW (e::es) X.env=(false,eval e X.env)::AW es X.env) æa._auto_1)(hpl:autoParam ((Cj pos (AW es X.env)).any (·.1)=false) æa._auto_1):PE X (.Call (.Name x p) (e::es) [] pos) (yE r t):=by
 intro pins s σ H Q I h;refine DB (dk I hg hm hv ?_ hn hdb);exact PyProof.Rows.callWith_builtin1 (yy (ha pos pins s σ H _ I h) fun us s1 ⟨vs,H1,I1,r1,q1⟩=>hc pins s1 σ H1 vs us Q I1 r1 q1) he hpl
theorem gt(hc:d4 X (.type T) r)(hg:Gl X x)(hm:X.mg x=none)(hv:Du x=some (.type T))(ha:PA X (e::es) t)(hn:autoParam (x ≠ "__name__") æb._auto_1)(hdb:autoParam ((x==("__debug__" : Str))=false) æb._auto_1)
 (he:autoParam (AW (e::es) X.env=(false,eval e X.env)::AW es X.env) æa._auto_1)(hpl:autoParam ((Cj pos (AW es X.env)).any (·.1)=false) æa._auto_1):PE X (.Call (.Name x p) (e::es) [] pos) (yE r t):=by
 intro pins s σ H Q I h;refine DB (dk I hg hm hv ?_ hn hdb);exact BP (yy (ha pos pins s σ H _ I h) fun us s1 ⟨vs,H1,I1,r1,q1⟩=>hc pins s1 σ H1 vs us Q I1 r1 q1) he hpl
end
end L2
variable{H H' F F' F₀ H₀:L2.Hp}{v:L2.V}{X:L2.Cx}{σ:L2.St}{vs:List L2.V}
namespace HT
open PySem PyProof.Rows
section
open PySem.SeqAt
open PySem.AutoSeq1 (wpAny_loadPart')
open PySem.MeetsSeq PySem.MeetsSeq2 PySem.MeetsSeq3
end
section
variable{prog:Bd}{w:BM}{A:BJ}{E:AR->AS->Prop}{s:AS}
theorem cat_tup{t b:Addr}{vs ws:List AR}(ht:IsTup s.heap t vs.toArray)(hb:IsTup s.heap b ws.toArray)(hv:vs≠[])
 (h1:ws=[]->Q (.ref t) s)(h2:ws≠[]->Q (.ref s.heap.objs.size) {s with heap:=s.heap.push {cls:=.type "tuple", data:=.seq (vs++ws).toArray}})
 (hsz:vs.length+ws.length<=sizeLine):Bi (BH prog w) A (Dp .Add (.ref t) (.ref b)) Q E s:=by
 obtain⟨⟨cls,dd,data,sl⟩,ho,hc,n,hd⟩:=id ht;obtain⟨⟨cls2,dd2,data2,sl2⟩,ho2,hc2,n2,hd2⟩:=id hb;simp only at hc hd hc2 hd2;subst hc hd hc2 hd2;have e:vs.toArray++ws.toArray=(vs++ws).toArray:=by simp
 by_cases hw:ws=[]
 · exact Gm ⟨_,ho,rfl⟩ ⟨_,ho2,rfl⟩ EZ Ga DS DE (Dw _ _)
     (tuple_addW1 t b vs.toArray ws.toArray n n2 dd dd2 sl sl2 (by simpa using hv) (by simp[hw])) ⟨ho,ho2,h1 hw⟩
 · refine Gm ⟨_,ho,rfl⟩ ⟨_,ho2,rfl⟩ EZ Ga DS DE (Dw _ _)
     (tuple_addW2 t b vs.toArray ws.toArray n n2 dd dd2 sl sl2 (by simpa using hv) (by simpa using hw) (by rw[A4,A4];exact hsz)) ⟨ho,ho2,?_⟩
   rw[e];exact h2 hw
noncomputable def sIx(n d:Nat):Option Int->Nat
 | none=>d
 | some v=>if v<0 then(v+(n:Int)).toNat else min v.toNat n
theorem sIx_none(n d:Nat):sIx n d none=d:=rfl
theorem sIx_nat(n d k:Nat):sIx n d (some (k:Int))=min k n:=by
 show(if(k:Int)<0 then((k:Int)+(n:Int)).toNat else min (k:Int).toNat n)=min k n;rw[if_neg (by omega),Cb]
end
end HT
namespace L2
abbrev TO:=St->Hp->(Option Int->Hp->Prop)->Prop
noncomputable def PO(X:Cx)(e:Option Expr)(t:TO):Prop :=
 ∀ (pins:List (Addr×Obj))(s:AS)(σ:St)(H:Hp)(Q:Option Int->Hp->Prop),Inv X pins σ H s->t σ H Q ->
   Bi (BH X.prog X.w) X.A (evalPart e X.env) (fun u s'=>∃o H',Inv X pins σ H' s'/\IsPart u o/\Q o H') X.xe s
noncomputable def pF:TO:=fun _ H Q=>Q none H
noncomputable def uQ(t:TE):TO:=fun σ H Q=>t σ H fun x H1=>∃i,x = .int i/\Q (some i) H1
section
variable{X:Cx}{e:Expr}{te:TE}{lo hi:Option Expr}{tl th:TO}{pos p2:Pos}
theorem kL:PO X none pF:=by
 intro pins s σ H Q I h;rw[Gb];exact AX ⟨none,H,I,.none,h⟩
theorem g_(h:PE X e te):PO X (some e) (uQ te):=by
 intro pins s σ H Q I hw;rw[evalPart_some];refine yy (h pins s σ H _ I hw) fun u s1 ⟨x,H1,I1,r1,q1⟩=>?_;obtain⟨i,rfl,q⟩:=q1;obtain⟨t,rfl⟩:=r1;exact⟨some i,H1,I1,.int i t,q⟩
noncomputable def z9(X:Cx)(r:V->Option Int->Option Int->Hp->VK->Prop):Prop :=
 ∀ (pins:List (Addr×Obj))(s:AS)(σ:St)(H:Hp)(x:V)(v vl vu:AR)(lo hi:Option Int)(sl:Addr)(Q:VK),Inv X pins σ H s->RelV x v->s.heap.IsSliceOf sl vl vu .none->IsPart vl lo->IsPart vu hi->r x lo hi H Q ->
   ∃T id,typeLookup (.type T) "__getitem__" = pure (some (.builtin id))/\s.TypeIs v T/\Bi (BH X.prog X.w) X.A (getItem v (.ref sl)) (EP X pins σ Q) X.xe s
noncomputable def yA(r:V->Option Int->Option Int->Hp->VK->Prop)(te:TE)(tl th:TO):TE:=fun σ H Q=>te σ H fun x H1=>tl σ H1 fun l H2=>th σ H2 fun u H3=>r x l u H3 Q
theorem iS{r:V->Option Int->Option Int->Hp->VK->Prop}(hr:z9 X r)(he:PE X e te)(hl:PO X lo tl)(hu:PO X hi th):PE X (.Subscript e (.Slice lo hi none p2) pos) (yA r te tl th):=by
 intro pins s σ H Q I h;refine Subscript_ (yy (he pins s σ H _ I h) fun v s1 ⟨x,H1,I1,r1,q1⟩=>?_);refine wpAny_Slice (yy (hl pins s1 σ H1 _ I1 q1) fun vl s2 ⟨l,H2,I2,pl,q2⟩=>yy (hu pins s2 σ H2 _ I2 q2) fun vu s3 ⟨u,H3,I3,pu,q3⟩=>?_);rw[Gb];refine AX ?_;have I4:Inv X pins σ H3 {s3 with heap:=s3.heap.push {cls:=.type "slice", data:=.fields #[vl,vu,.none]}}:=I3.kept (t':=s3.toks) fun b ob q=>AT _ q;obtain⟨T,id,hT,ht,hg⟩:=hr pins {s3 with heap:=s3.heap.push {cls:=.type "slice", data:=.fields #[vl,vu,.none]}} σ H3 x v vl vu l u s3.heap.objs.size Q I4 r1 (Heap.IsSliceOf.new ..) pl pu q3;show Bi (BH X.prog X.w) X.A (subscriptTail e (.Slice lo hi none p2) v (.ref s3.heap.objs.size)) (EP X pins σ Q) X.xe {s3 with heap:=s3.heap.push {cls:=.type "slice", data:=.fields #[vl,vu,.none]}};exact tail_any (ops:=[.ref s3.heap.objs.size,v]) ht hT hg (by with_unfolding_all rfl)
noncomputable def oJ(xs:List V)(lo hi:Option Int):List V:=(xs.drop (HT.sIx xs.length 0 lo)).take (HT.sIx xs.length xs.length hi-HT.sIx xs.length 0 lo)
theorem hZ(xs:List V)(lo hi:Option Int):(oJ xs lo hi).length<=xs.length:=by
 unfold oJ;rw[List.length_take,List.length_drop];omega
noncomputable def pN(K:W.Frag):R2:=fun x y H Q=>∃a b xs ys,x = .ref a/\y = .ref b/\zW K H a xs/\zW K H b ys/\xs≠[]/\xs.length+ys.length<=sizeLine /\
 (ys=[]->Q (.ref a) H)/\(ys≠[]->∀p,H p=none->Q (.ref p) (upd H p (.tup (xs++ys))))
theorem bB.nil_iff{xs:List V}(r:bB xs us):us=[]↔xs=[]:=by
 cases r with
 | nil=>simp
 | cons _ _=>simp
theorem p9:Ao X (Dp .Add) (pN X.K):=by
 intro pins s σ H x y v u Q I rx ry h;obtain⟨a,b,xs,ys,rfl,rfl,ha,hb,hx,hz,q1,q2⟩:=h;cases rx;cases ry;obtain⟨its,r1,p1,_⟩:=I.tuple ha;obtain⟨its2,r2,p2,_⟩:=I.tuple hb;refine HT.cat_tup p1 p2 (fun z=>hx (r1.nil_iff.mp z)) (fun z=>⟨.ref a,H,I,rfl,q1 (r2.nil_iff.mp z)⟩) (fun z=>?_) (by rw[<- r1.length,<- r2.length];exact hz);refine⟨.ref s.heap.objs.size,_,I.laid (t':=s.toks) (o:=.tup (xs++ys)) (fun b ob q=>AT _ q) (AY _) ?_,rfl,q2 (fun w=>z (r2.nil_iff.mpr w)) _ (I.hok.fresh (AY _))⟩;exact⟨by rw[Be];exact hz,_,r1.append r2,lS.new _ _⟩
end
noncomputable def ixN(n:Nat)(i:Int):Option Nat:=if 0<=i then(if i<n then some i.toNat else none)else if -(n:Int)<=i then some (i+n).toNat else none
noncomputable def atI{α:Type}(xs:List α)(i:Int):Option α:=(ixN xs.length i).bind fun j=>xs[j]?
theorem lq{i:Int}(h:ixN n i=some j):seqIndex? i n=some j/\j<n /\ -(n:Int)<=i/\i<n:=by
 unfold ixN at h;by_cases h0:0<=i
 · rw[if_pos h0]at h;by_cases h1:i<n
   · rw[if_pos h1]at h;have e:i.toNat=j:=Bn h;exact⟨by rw[FW h0 h1,e],by omega,by omega,h1⟩
   · rw[if_neg h1]at h;cases h
 · rw[if_neg h0]at h;by_cases h1 : -(n:Int)<=i
   · rw[if_pos h1]at h;have e:(i+n).toNat=j:=Bn h;exact⟨by rw[Gn (by omega) h1,e],by omega,h1,by omega⟩
   · rw[if_neg h1]at h;cases h
theorem ik{xs:List α}{i:Int}{v:α}(h:atI xs i=some v):∃j,seqIndex? i xs.length=some j/\xs[j]?=some v/\j<xs.length /\ -(xs.length:Int)<=i/\i<xs.length:=by
 unfold atI at h
 cases e:ixN xs.length i with
 | none=>rw[e]at h;cases h
 | some j =>
   rw[e]at h;obtain⟨h1,h2,h3,h4⟩:=lq e;exact⟨j,h1,h,h2,h3,h4⟩
theorem df{xs:List α}{v:α}(h:xs[j]?=some v):atI xs (j:Int)=some v:=by
 have hj:j<xs.length:=(A2.mp h).1
 have e:ixN xs.length (j:Int)=some j:=by
  unfold ixN;rw[if_pos (by omega),if_pos (by omega)];simp
 unfold atI;rw[e];exact h
noncomputable def lP(b:Expr):Prop:=∀o i,subscripted b false o i=operate [o,i] (getItem o i)
noncomputable def Av(X:Cx)(r:R2):Prop :=
 ∀ (value slice:Expr)(pins:List (Addr×Obj))(s:AS)(σ:St)(H:Hp)(x y:V)(v u:AR)(Q:VK),Inv X pins σ H s->RelV x v->RelV y u->r x y H Q ->
   subscripted slice false v u=operate [v,u] (getItem v u)->Bi (BH X.prog X.w) X.A (subscriptTail value slice v u) (EP X pins σ Q) X.xe s
noncomputable def Aq(X:Cx)(id:String)(r:V->List V->Hp->VK->Prop):Prop :=
 ∀ (pins:List (Addr×Obj))(s:AS)(σ:St)(H:Hp)(x:V)(xs:List V)(v:AR)(us:List AR)(Q:VK),Inv X pins σ H s->RelV x v->bB xs us->r x xs H Q ->
   Bi (BH X.prog X.w) X.A (call (.builtin id) (v::us)) (EP X pins σ Q) X.xe s
section
variable{X:Cx}{a b:Expr}{ta tb:TE}{pos:Pos}
theorem Av.or{r r':R2}(h:Av X r)(h':Av X r'):Av X (fun x y H Q=>r x y H Q\/r' x y H Q):=by
 intro value slice pins s σ H x y v u Q I rx ry q hs;rcases q with q|q
 · exact h value slice pins s σ H x y v u Q I rx ry q hs
 · exact h' value slice pins s σ H x y v u Q I rx ry q hs
theorem bS{r:R2}(hr:Av X r)(ha:PE X a ta)(hb:PE X b tb)(hs:lP b):PE X (.Subscript a b pos) (yC r ta tb):=by
 intro pins s σ H Q I h;exact Subscript_ (vE ha hb I h fun v u s2 x y H2 I2 rx ry q=>hr a b pins s2 σ H2 x y v u Q I2 rx ry q (hs _ _))
noncomputable def wL(K:W.Frag):R2:=fun x y H Q=>∃p xs i v,x = .ref p/\y = .int i/\zX K H p xs/\atI xs i=some v/\Q v H
noncomputable def wJ(K:W.Frag):R2:=fun x y H Q=>∃p xs i v,x = .ref p/\y = .int i/\zW K H p xs/\atI xs i=some v/\Q v H
noncomputable def wK:R2:=fun x y H Q=>∃z i c,x = .str z/\y = .int i/\z.length<=sizeLine/\atI z.cps.toList i=some c/\Q (.str ⟨#[c]⟩) H
theorem vf:Av X (wL X.K):=by
 intro value slice pins s σ H x y v u Q I rx ry h hs;obtain⟨p,xs,i,z,rfl,rfl,hq,he,q⟩:=h;cases rx;obtain⟨t,rfl⟩:=ry;obtain⟨its,r,pl,hz⟩:=I.list hq;obtain⟨j,h1,h2,h3,h4,h5⟩:=ik he;obtain⟨w,ew,rw'⟩:=r.get h2;have hl:=r.length;have hn:=gA;have fin:EP X pins σ Q w s:=⟨z,H,I,rw',q⟩;by_cases h0:0<=i
 · have hj:i.toNat=j:=by
     rw[FW h0 h5]at h1;exact Bn h1
   exact item_listR pl.isList h0 (by omega) (by rw[hj];simpa using ew) fin hs
 · have hj:(i+(its.toArray.size:Int)).toNat=j:=by
     rw[Gn (by omega) h4]at h1;rw[A4,<- hl];exact Bn h1
   exact E4 (x:=w) pl.isList.typeIs slot_list_getitem.lookup
    (wpAny_getItem_list_neg (Q:=fun r s'=>r=w/\EP X pins σ Q r s') pl.isList (by omega) (by rw[A4]<;>omega) (by omega) (by rw[hj];simpa using ew) ⟨rfl,fin⟩) hs
theorem wP:Av X (wJ X.K):=by
 intro value slice pins s σ H x y v u Q I rx ry h hs;obtain⟨p,xs,i,z,rfl,rfl,hq,he,q⟩:=h;cases rx;obtain⟨t,rfl⟩:=ry;obtain⟨its,r,pl,hz⟩:=I.tuple hq;obtain⟨j,h1,h2,h3,h4,h5⟩:=ik he;obtain⟨w,ew,rw'⟩:=r.get h2;have hl:=r.length;have hn:=gA;have fin:EP X pins σ Q w s:=⟨z,H,I,rw',q⟩
 exact E4 (x:=w) pl.typeIs slot_tuple_getitem.lookup
  (getItem_tuple (j:=j) (Q:=fun r s'=>r=w/\EP X pins σ Q r s') pl (by omega) (by omega) (by rw[A4,<- hl];exact h1) (by simpa using ew) ⟨rfl,fin⟩) hs
theorem tE:Av X wK:=by
 intro value slice pins s σ H x y v u Q I rx ry h hs;obtain⟨z,i,c,rfl,rfl,hz,he,q⟩:=h;obtain⟨t,rfl⟩:=rx;obtain⟨t',rfl⟩:=ry;obtain⟨j,h1,h2,h3,h4,h5⟩:=ik he;have hl:z.cps.toList.length=z.length:=by simp[Str.length]
 rw[hl]at h1 h4 h5;have hn:=gA
 exact tail_any (typeIs_str s z t) slot_str_getitem.lookup (getItem_str (c:=c) (by
  have e1:decide (i < -(2^63:Int))=false:=decide_eq_false (by omega);have e2:decide (i ≥ 2^63)=false:=decide_eq_false (by omega)
  rw[e1,e2,Bool.or_false]) (by rw[h1];simpa using h2) ⟨.str ⟨#[c]⟩,H,I.tok _,⟨_,rfl⟩,q⟩) hs
noncomputable def yR(K:W.Frag):R2:=fun x y H Q=>wL K x y H Q\/wJ K x y H Q\/wK x y H Q
theorem aV:Av X (yR X.K):=vf.or (wP.or tE)
theorem jv(its:List AR)(n j:Nat)(u:AR):FB (·.setIfInBounds j u) {cls:=.type "list", data:=.seq its.toArray n}={cls:=.type "list", data:=.seq (its.set j u).toArray n}:=by
 simp[FB]
theorem Inv.lst{pins:List (Addr×Obj)}{σ:St}{H:Hp}{s:AS}{p:Addr}{xs:List V}(I:Inv X pins σ H s)(h:H p=some (.lst xs)) :
 ∃(its:List AR)(n:Nat),bB xs its/\s.heap.get? p=some {cls:=.type "list", data:=.seq its.toArray n}/\xs.length<=sizeLine:=by
 obtain⟨z,its,n,r,e⟩:=I.hok p _ h;exact⟨its,n,r,e,z⟩
theorem Inv.lstUpd{p:Addr}{xs ys:List V}{its its':List AR}{n':Nat}{f:Obj->Obj}(I:Inv X pins σ H s)(h:H p=some (.lst xs))
 (ho:s.heap.get? p=some {cls:=.type "list", data:=.seq its.toArray n})(hf:f {cls:=.type "list", data:=.seq its.toArray n}={cls:=.type "list", data:=.seq its'.toArray n' })(r:bB ys its')(hz:ys.length<=sizeLine)(t:Nat) :
 Inv X pins σ (upd H p (.lst ys)) {s with heap:=s.heap.update p f,toks:=t}:=by
 have e:(s.heap.update p f).get? p=some {cls:=.type "list", data:=.seq its'.toArray n' }:=by
  rw[D1 f ho (by rw[hf]<;>rfl),hf]
 refine I.write (x:=p) (e:=p) (by rw[h];trivial) (.inl rfl) (fun b u hb q=>(E5 _ _ (EK hb)).trans q) ⟨_,e⟩ ?_;exact⟨hz,its',n',r,e⟩
noncomputable def se:V->V->V->Hp->(Hp->Prop)->Prop:=fun o i v H Q=>∃p xs k j,o = .ref p/\i = .int k/\H p=some (.lst xs)/\ixN xs.length k=some j/\Q (upd H p (.lst (xs.set j v)))
theorem dD:xb X se:=by
 intro pins s σ H o i v ov iv u Q I ro ri rv h;obtain⟨p,xs,k,j,rfl,rfl,hp,hj,q⟩:=h;cases ro;obtain⟨t,rfl⟩:=ri;obtain⟨its,n,r,ho,hz⟩:=I.lst hp;obtain⟨h1,h2,h3,h4⟩:=lq hj;have hl:=r.length;have hn:=gA
 have I':Inv X pins σ (upd H p (.lst (xs.set j v))) {s with heap:=s.heap.update p (FB (·.setIfInBounds j u))} :=
  I.lstUpd hp ho (jv its n j u) (r.set rv j) (by rw[List.length_set];exact hz) s.toks
 by_cases h0:0<=k
 · have hk:k.toNat=j:=by
     rw[FW h0 h4]at h1;exact Bn h1
   exact W.ki_setAt ho h0 (by omega) (by rw[A4,<- hl];exact h4) (by rw[hk];exact⟨_,I',q⟩)
 · have hk:(k+(its.toArray.size:Int)).toNat=j:=by
     rw[Gn (by omega) h3]at h1;rw[A4,<- hl];exact Bn h1
   exact W.ki_setBack ho (by omega) (by rw[A4,<- hl];exact h3) (by omega) (by rw[hk];exact⟨_,I',q⟩)
theorem f_(lo hi:Option Int)(n:Nat):(DX lo hi none n).1=((HT.sIx n 0 lo:Nat):Int)/\(DX lo hi none n).2.1=((HT.sIx n n hi:Nat):Int)/\(DX lo hi none n).2.2=1:=by
 refine⟨?_,?_,rfl⟩
 · cases lo with
   | none=>simp[DX,HT.sIx]
   | some i =>
     simp only[DX,HT.sIx,Option.getD_none,show(1:Int)>0 by decide,if_true];by_cases h:i<0
     · simp only[h,if_true]<;>omega
     · simp only[h,if_false]<;>omega
 · cases hi with
   | none=>simp[DX,HT.sIx]
   | some i =>
     simp only[DX,HT.sIx,Option.getD_none,show(1:Int)>0 by decide,if_true];by_cases h:i<0
     · simp only[h,if_true]<;>omega
     · simp only[h,if_false]<;>omega
theorem eX(its:List AR)(lo hi:Option Int):slicePick its.toArray lo hi none=((its.drop (HT.sIx its.length 0 lo)).take (HT.sIx its.length its.length hi-HT.sIx its.length 0 lo)).toArray:=by
 obtain⟨h1,h2,h3⟩:=f_ lo hi its.toArray.size;unfold slicePick;rw[h1,h2,h3];simp only[sliceRange_one,pick_run,A4]<;>rfl
noncomputable def xG(K:W.Frag):V->Option Int->Option Int->Hp->VK->Prop:=fun x lo hi H Q=>∃a xs,x = .ref a/\zX K H a xs/\∀p,H p=none->Q (.ref p) (upd H p (.lst (oJ xs lo hi)))
theorem j6:z9 X (xG X.K):=by
 intro pins s σ H x v vl vu lo hi sl Q I rx hs pl pu h;obtain⟨a,xs,rfl,hx,q⟩:=h;cases rx;obtain⟨its,r,ht,hz⟩:=I.list hx;have hlen:=r.length;refine⟨"list", _,slot_list_getitem.lookup,ht.isList.typeIs,?_⟩;refine EB ht.isList hs pl pu .none (by simp) ?_ (by rw[A4]<;>omega);rw[eX,<- hlen];refine⟨.ref s.heap.objs.size,_,I.laid (t':=s.toks) (o:=.lst (oJ xs lo hi)) (fun b ob q=>AT _ q) (AY _) ?_,rfl,q _ (I.hok.fresh (AY _))⟩;exact⟨Ca (hZ xs lo hi) hz,_,0,(r.drop (HT.sIx xs.length 0 lo)).take (HT.sIx xs.length xs.length hi-HT.sIx xs.length 0 lo),A3 _ rfl⟩
theorem bQ:d4 X (.builtin "len") (fun xs H Q=>∃p ys,xs=[.ref p]/\(zX X.K H p ys\/zW X.K H p ys)/\Q (.int ys.length) H):=by
 intro pins s σ H xs us Q I r h;obtain⟨p,ys,rfl,hq,q⟩:=h;obtain⟨u,rfl,rx⟩:=vals1 r;cases rx;have hn:=gA;rcases hq with hq|hq
 · obtain⟨its,r',pl,hz⟩:=I.list hq;have hlen:=r'.length;exact Calls.call_len_list pl.isList (by simp only[A4]<;>omega) ⟨.int ys.length,H,I.tok _,⟨s.toks+1,by rw[A4,hlen]⟩,q⟩
 · obtain⟨its,r',pl,hz⟩:=I.tuple hq;have hlen:=r'.length;exact len_tuple pl (by simp only[A4]<;>omega) ⟨.int ys.length,H,I.tok _,⟨s.toks+1,by rw[A4,hlen]⟩,q⟩
theorem gG:d4 X (.type "list") (fun xs H Q=>∃p ys,xs=[.ref p]/\(zX X.K H p ys\/zW X.K H p ys)/\∀l,H l=none->Q (.ref l) (upd H l (.lst ys))):=by
 intro pins s σ H xs us Q I r h;obtain⟨p,ys,rfl,hq,q⟩:=h;obtain⟨u,rfl,rx⟩:=vals1 r;cases rx
 have fin:∀(its:List AR),bB ys its->ys.length<=sizeLine->∀(h':Heap)(c':Nat),(∀b o',s.heap.get? b=some o'->h'.get? b=some o') ->
  h'.get? s.heap.objs.size=some {cls:=.type "list", dict:=none,data:=.seq its.toArray c',slots:=#[]}->EP X pins σ Q (.ref s.heap.objs.size) {s with heap:=h' }:=fun its r' hz h' c' kp e =>
  ⟨.ref s.heap.objs.size,_,I.laid (t':=s.toks) kp (AY _) (show cj X.prog X.w _ h' _ (.lst ys)from⟨hz,its,c',r',e⟩),rfl,q _ (I.hok.fresh (AY _))⟩
 rcases hq with hq|hq
 · obtain⟨its,r',pl,hz⟩:=I.list hq;have hlen:=r'.length;obtain⟨o,ho,hc,n,hd⟩:=pl.isList;exact call_list_seq p (.inl rfl) ho hc hd (fun h' c' kp e=>fin its r' hz h' c' kp e) (by simp only[A4]<;>omega)
 · obtain⟨its,r',pl,hz⟩:=I.tuple hq;have hlen:=r'.length;obtain⟨o,ho,hc,n,hd⟩:=pl;exact call_list_seq p (.inr rfl) ho hc hd (fun h' c' kp e=>fin its r' hz h' c' kp e) (by simp only[A4]<;>omega)
theorem fO:d4 X (.type "tuple") (fun xs H Q=>∃p ys,xs=[.ref p]/\((zX X.K H p ys/\∀l,H l=none->Q (.ref l) (upd H l (.tup ys)))\/(zW X.K H p ys/\Q (.ref p) H))):=by
 intro pins s σ H xs us Q I r h;obtain⟨p,ys,rfl,h⟩:=h;obtain⟨u,rfl,rx⟩:=vals1 r;cases rx;rcases h with⟨hq,q⟩|⟨hq,q⟩
 · obtain⟨its,r',pl,hz⟩:=I.list hq;have hlen:=r'.length;refine call_tuple_list pl.isList (fun h' kp=>?_) (by simp only[A4]<;>omega);have I1:Inv X pins σ H {s with heap:=h' }:=I.kept (t':=s.toks) kp
   have I2:Inv X pins σ (upd H h'.objs.size (.tup ys)) {s with heap:=h'.push {cls:=.type "tuple", data:=.seq its.toArray}} :=
    I1.laid (t':=s.toks) (fun b o e=>AT _ e) (AY _) (show cj X.prog X.w _ _ _ (.tup ys)from⟨hz,its,r',lS.new _ _⟩)
   exact⟨.ref h'.objs.size,_,I2,rfl,q _ (I1.hok.fresh (AY _))⟩
 · obtain⟨its,r',pl,hz⟩:=I.tuple hq;exact call_tuple_same pl ⟨.ref p,H,I,rfl,q⟩
noncomputable def yq(K:W.Frag)(T:String)(x:V)(H:Hp):Prop:=match x with
 | .str _=>T = "str"
 | .int _=>T = "int"
 | .ref p=>(T = "list" /\ ∃xs,zX K H p xs)\/(T = "tuple" /\ ∃xs,zW K H p xs) \/
     (T = "dict" /\ ((∃kvs,H p=some (.dK kvs))\/∃kvs,H p=some (.dT kvs)))\/(T = "set" /\ ∃S n,H p=some (.set S n))
 | _=>False
theorem rP{T:String}{x:V}{v:AR}(I:Inv X pins σ H s)(r:RelV x v)(ty:yq X.K T x H) :
 s.TypeIs v T/\∀a,v = .ref a->∃ob,s.heap.get? a=some ob/\ob.dict=none:=by
 cases x with
 | str z =>
   obtain⟨t,rfl⟩:=r;cases(show T = "str" from ty)
   exact⟨typeIs_str s z t,fun _ e=>nomatch e⟩
 | int i =>
   obtain⟨t,rfl⟩:=r;cases(show T = "int" from ty)
   exact⟨typeIs_int s i t,fun _ e=>nomatch e⟩
 | ref p =>
   cases r;rcases ty with⟨rfl,xs,hq⟩|⟨rfl,xs,hq⟩|⟨rfl,hk⟩|⟨rfl,S,n,hk⟩
   · obtain⟨its,_,pl,_⟩:=I.list hq;refine⟨pl.isList.typeIs,fun a e=>?_⟩;cases e;obtain⟨o,n,e,c,hd,_⟩:=pl;exact⟨o,e,hd⟩
   · obtain⟨o,e1,e2,e3⟩:=I.tupleD hq;refine⟨⟨o,e1,e2⟩,fun a e=>?_⟩;cases e;exact⟨o,e1,e3⟩
   · have z:∃o,s.heap.get? p=some o/\o.ExactDict:=by
       rcases hk with⟨kvs,hk⟩|⟨kvs,hk⟩
       · obtain⟨_,_,_,_,o,_,_,e,ex,_⟩:=I.hok p _ hk;exact⟨o,e,ex⟩
       · obtain⟨_,_,_,_,o,_,_,e,ex,_⟩:=I.hok p _ hk;exact⟨o,e,ex⟩
     obtain⟨o,e,ex⟩:=z;refine⟨⟨o,e,ex.1⟩,fun a e2=>?_⟩;cases e2;exact⟨o,e,ex.2.1⟩
   · obtain⟨o,_,_,_,e,ex,_⟩:=I.hok p _ hk;refine⟨⟨o,e,ex.1⟩,fun a e2=>?_⟩;cases e2
     exact⟨o,e,ex.2.1⟩
 | _=>exact Cr ty
noncomputable def yF(K:W.Frag)(T:String)(r:V->List V->Hp->VK->Prop)(to:TE)(t:TA):TE:=fun σ H Q=>to σ H fun x H1=>yq K T x H1/\t σ H1 fun xs H2=>r x xs H2 Q
variable{o e:Expr}{es:List Expr}{to:TE}{t:TA}{name:Str}{apos cpos:Pos}{T id:String}{r:V->List V->Hp->VK->Prop}
theorem p8(pa:PlainAttrs T)(slot:Slot T name id)(hty:typeOf (.builtin id)=pure (.type "method_descriptor"))(hm:Aq X id r)(ho:PE X o to)(ha:PA X (e::es) t)
 (hbase:autoParam (C0 o name X.env (eval o X.env)=eval o X.env) æa._auto_1)
 (hfew:autoParam (((Cj cpos (AW (e::es) X.env)).all (fun x=>!x.1)&&(EQ cpos (Ds [] X.env)).all (fun x=>x.1.isSome)
  && decide ((e::es).length+([]:List Dl).length+(if([]:List Dl).isEmpty then 0 else 1)<30))=true) æa._auto_1)
 (hline:autoParam ((apos.endLine==cpos.line)=true) æa._auto_1)(hs:autoParam (AW (e::es) X.env=(false,eval e X.env)::AW es X.env) æa._auto_1)(hplain:autoParam ((Cj cpos (AW es X.env)).any (·.1)=false) æa._auto_1) :
 PE X (.Call (.Attribute o name apos) (e::es) [] cpos) (yF X.K T r to t):=by
 intro pins s σ H Q I h;refine wpAny_Call_method_late hbase hfew hline rfl (yy (ho pins s σ H _ I h) fun v s1 ⟨x,H1,I1,r1,ty,q1⟩=>?_);obtain⟨h1,h2⟩:=rP I1 r1 ty;refine⟨T,id,pa,slot,hty,h1,h2,?_⟩;have hA:=ha cpos pins s1 σ H1 _ I1 q1;rw[hs]at hA ⊢;refine Calls.callWith_builtin (by show(false||(Cj cpos (AW es X.env)).any (·.1))=false;rw[hplain]<;>rfl) (Calls.evalArgs_plain ?_);exact yy hA fun us s2 ⟨vs,H2,I2,r2,q2⟩=>hm pins s2 σ H2 x vs v us Q I2 r1 r2 q2
end
noncomputable def Ar(X:Cx)(id:String)(r:V->List V->Hp->VK->Prop):Prop :=
 ∀ (pins:List (Addr×Obj))(s:AS)(σ:St)(H:Hp)(x:V)(xs:List V)(v:AR)(us:List AR)(Q:VK),Inv X pins σ H s->RelV x v->bB xs us->r x xs H Q ->
   Bi (BH X.prog X.w) X.A (call (.builtin id) (v::us)) (EP X pins σ Q) X.xe s
theorem bB.one:∀{x:V}{us:List AR},bB [x] us->∃u,us=[u]/\RelV x u
 | _,_,.cons r .nil=>⟨_,rfl,r⟩
theorem bB.eraseIdx:∀{xs:List V}{us:List AR}(i:Nat),bB xs us->bB (xs.eraseIdx i) (us.eraseIdx i)
 | _,_,_,.nil=>.nil
 | _,_,0,.cons _ t=>t
 | _,_,i+1,.cons r t=>.cons r (bB.eraseIdx i t)
theorem bB.reverse{xs:List V}(h:bB xs us):bB xs.reverse us.reverse:=by
 induction h with
 | nil=>exact .nil
 | cons r t ih=>rw[Dg,Dg];exact bB.append ih (.cons r .nil)
theorem gB{α:Type}:∀(l:List α)(i:Nat),(l.eraseIdx i).length<=l.length
 | [],_=>AY _
 | _::_,0=>Nat.le_succ _
 | _::r,i+1=>Nat.succ_le_succ (gB r i)
section
variable{X:Cx}{pins:List (Addr×Obj)}{σ:St}{H:Hp}{s:AS}{l b:Addr}{xs ys zs:List V}
theorem Inv.lset{its its':List AR}{f:Array AR->Array AR}(I:Inv X pins σ H s)(hH:H l=some (.lst xs))
 (e:s.heap.get? l=some {cls:=.type "list", data:=.seq its.toArray n})(hf:f its.toArray=its'.toArray)(hv:bB ys its')(hz:ys.length<=sizeLine) :
 Inv X pins σ (upd H l (.lst ys)) {s with heap:=s.heap.update l (FB f),toks:=t' }:=by
 have q:=PySem.IsL.update e f;rw[hf]at q;refine I.write (x:=l) (e:=l) (by rw[hH];exact trivial) (.inl rfl) (fun b' u hb hu=>(E5 s.heap (FB f) (EK hb)).trans hu) ⟨_,q⟩ ?_;exact⟨hz,its',_,hv,q⟩
theorem Inv.lnew{its:List AR}(I:Inv X pins σ H s)(hv:bB ys its)(hz:ys.length<=sizeLine) :
 Inv X pins σ (upd H s.heap.objs.size (.lst ys)) {s with heap:=s.heap.push {cls:=.type "list", data:=.seq its.toArray},toks:=t' } :=
 I.laid (fun _ _ q=>AT _ q) (AY _) ⟨hz,its,0,hv,A3 _ rfl⟩
theorem Inv.fresh(I:Inv X pins σ H s):H s.heap.objs.size=none:=I.hok.fresh (AY _)
theorem Inv.lstM(I:Inv X pins σ H s)(hH:H l=some (.lst xs)):xs.length<=sizeLine/\∃(its:List AR)(n:Nat),bB xs its/\xs.length=its.length/\s.heap.get? l=some {cls:=.type "list", data:=.seq its.toArray n}:=by
 obtain⟨z,its,n,r,e⟩:=I.hok l _ hH;exact⟨z,its,n,r,r.length,e⟩
theorem mM(h:n<=sizeLine):Dx n=false:=by
 unfold Dx;exact decide_eq_false (by omega)
end
section
variable{X:Cx}
noncomputable def kD:V->List V->Hp->VK->Prop:=fun x vs H Q=>∃l xs y,x = .ref l/\vs=[y]/\H l=some (.lst xs)/\xs.length<sizeLine/\Q .non (upd H l (.lst (xs++[y])))
theorem dS:Ar X "list.append" kD:=by
 intro pins s σ H x vs v us Q I rx rv h;obtain⟨l,xs,y,rfl,rfl,hH,hz,q⟩:=h;cases rx;obtain⟨u,rfl,ru⟩:=rv.one;obtain⟨z,its,n,r,hl,e⟩:=I.lstM hH;refine Gi F.slot_list_append ⟨_,e,rfl⟩ F.entry_list_append (F.args_list_append_2 _ _) (PySem.list_append l its.toArray n u (by rw[A4];omega)) ⟨e,?_⟩;refine⟨.non,_,I.lset (its':=its++[u]) hH e (by simp) (r.append (.cons ru .nil)) ?_,rfl,q⟩;rw[Be,List.length_singleton];omega
noncomputable def kC:V->List V->Hp->VK->Prop:=fun x vs H Q=>∃l b xs zs,x = .ref l/\vs=[.ref b]/\H l=some (.lst xs)/\H b=some (.lst zs)/\xs.length+zs.length<=sizeLine/\Q .non (upd H l (.lst (xs++zs)))
theorem kZ:Ar X "list.extend" kC:=by
 intro pins s σ H x vs v us Q I rx rv h;obtain⟨l,b,xs,zs,rfl,rfl,hH,hB,hz,q⟩:=h;cases rx;obtain⟨u,rfl,ru⟩:=rv.one;cases ru;obtain⟨z,its,n,r,hl,e⟩:=I.lstM hH;obtain⟨z2,its2,n2,r2,hl2,e2⟩:=I.lstM hB;have hsz:its.toArray.size+its2.toArray.size<=sizeLine:=by rw[A4,A4];omega
 have hlong:¬(!its.toArray.isEmpty&&Dx (its.toArray.size+its2.toArray.size))=true:=by
  rw[mM hsz,Bool.and_false];exact Bs
 refine Gi F.slot_list_extend ⟨_,e,rfl⟩ F.entry_list_extend (F.args_list_extend_2 _ _)
  (AutoSeq1.list_extend_list_list_0 l its.toArray n b its2.toArray n2 hlong (by rw[A4];omega) (by omega)) ⟨e,e2,?_⟩
 refine⟨.non,_,I.lset (its':=its++its2) hH e (by simp) (r.append r2) ?_,rfl,q⟩;rw[Be];omega
noncomputable def sf:V->List V->Hp->VK->Prop:=fun x vs H Q=>∃l xs i k y,x = .ref l/\vs=[.int i]/\H l=some (.lst xs) /\ -(2^63)<=i/\i<2^63/\seqIndex? i xs.length=some k/\xs[k]?=some y/\Q y (upd H l (.lst (xs.eraseIdx k)))
theorem mO:Ar X "list.pop" sf:=by
 intro pins s σ H x vs v us Q I rx rv h;obtain⟨l,xs,i,k,y,rfl,rfl,hH,h1,h2,hk,hy,q⟩:=h;cases rx;obtain⟨u,rfl,ru⟩:=rv.one;obtain⟨t,rfl⟩:=ru;obtain⟨z,its,n,r,hl,e⟩:=I.lstM hH;obtain⟨w,hw,rw'⟩:=r.get hy
 refine Gi F.slot_list_pop ⟨_,e,rfl⟩ F.entry_list_pop (F.args_list_pop_2 _ _)
  (MeetsSeq.list_pop_at l its.toArray n i t k w (fitsIndex_both h1 h2) (by rw[A4,<- hl];exact hk) (by rw[<- Fa];exact hw) (by rw[A4];omega)) ⟨e,?_⟩
 refine⟨y,_,I.lset (its':=its.eraseIdx k) hH e ?_ (r.eraseIdx k) ?_,rw',q⟩
 · show its.toArray.eraseIdxIfInBounds k=(its.eraseIdx k).toArray;rw[List.eraseIdxIfInBounds_toArray]
 · have:=gB xs k;omega
noncomputable def wM:R2:=fun x y H Q=>∃l b xs zs,x = .ref l/\y = .ref b/\H l=some (.lst xs)/\H b=some (.lst zs)/\xs.length+zs.length<=sizeLine/\∀p,H p=none->Q (.ref p) (upd H p (.lst (xs++zs)))
theorem sP:Ao X (Dp .Add) wM:=by
 intro pins s σ H x y v u Q I rx ry h;obtain⟨l,b,xs,zs,rfl,rfl,hH,hB,hz,q⟩:=h;cases rx;cases ry;obtain⟨z,its,n,r,hl,e⟩:=I.lstM hH;obtain⟨z2,its2,n2,r2,hl2,e2⟩:=I.lstM hB;refine PySem.P.add_list e e2 ?_ (by rw[A4,A4];omega);have ea:its.toArray++its2.toArray=(its++its2).toArray:=by simp
 rw[ea];exact⟨.ref _,_,I.lnew (t':=s.toks) (r.append r2) (by rw[Be];omega),rfl,q _ I.fresh⟩
end
section
variable{prog:Bd}{w:BM}{A:BJ}{E:AR->AS->Prop}{s:AS}
end
section
variable{X:Cx}
end
section
variable{κ:Type}[DecidableEq κ]
end
section
variable{P:Bd}{w:BM}{H:Hp}{h:Heap}{a:Addr}
end
section
variable{X:Cx}{pins:List (Addr×Obj)}{σ:St}{H:Hp}{s:AS}{a:Addr}{y v:V}{u r:AR}{o:Option V}{A:BJ}{E:AR->AS->Prop}
theorem Inv.big(I:Inv X pins σ H s):DV<s.heap.objs.size:=by
 have h:Bu<s.heap.objs.size:=(I.mod.glob.keeps I.bk).lt;exact Nat.lt_trans (by decide) h
theorem lF{ob:HO}(I:Inv X pins σ H s)(mu:Ap (H a))(hs:Cn a s.heap h')(he:∃q,h'.get? a=some q)(new:cj X.prog X.w (upd H a ob) h' a ob) :
 Inv X pins σ (upd H a ob) {s with heap:=h',toks:=t' } :=
 I.write (x:=a) (e:=a) mu (.inl rfl) (fun b q hb z=>(hs.2 b hb).trans z) he new
end
section
variable{X:Cx}{pins:List (Addr×Obj)}{σ:St}{H:Hp}{s:AS}{a:Addr}{kvs:List (As×V)}{k:As}{u:AR}{A:BJ}{E:AR->AS->Prop}
end
section
variable{X:Cx}{o i e value:Expr}{pos pos' tpos:Pos}{td ty tv:TE}
end
section
variable{X:Cx}{pos:Pos}
end
structure M1 (X:Cx) (o:Expr) (m:Str) (apos:Pos) (e:Expr) (cpos:Pos):Prop where
 base:C0 o m X.env (eval o X.env)=eval o X.env
 few:((Cj cpos (AW [e] X.env)).all (fun x=>!x.1)&&(EQ cpos (Ds [] X.env)).all (fun x=>x.1.isSome)
  && decide (([e]:List Expr).length+([]:List Dl).length+(if([]:List Dl).isEmpty then 0 else 1)<30))=true
 line:(apos.endLine==cpos.line)=true
 trees:Cj cpos (AW [e] X.env)=[(false,eval e X.env)]
structure M2 (X:Cx) (o:Expr) (m:Str) (apos:Pos) (e f:Expr) (cpos:Pos):Prop where
 base:C0 o m X.env (eval o X.env)=eval o X.env
 few:((Cj cpos (AW [e,f] X.env)).all (fun x=>!x.1)&&(EQ cpos (Ds [] X.env)).all (fun x=>x.1.isSome)
  && decide (([e,f]:List Expr).length+([]:List Dl).length+(if([]:List Dl).isEmpty then 0 else 1)<30))=true
 line:(apos.endLine==cpos.line)=true
 trees:Cj cpos (AW [e,f] X.env)=[(false,eval e X.env),(false,eval f X.env)]
section
variable{X:Cx}{pins:List (Addr×Obj)}{σ:St}{H:Hp}{s:AS}{a:Addr}{y d:V}{u r:AR}{o:Option V}{A:BJ}{E:AR->AS->Prop}
end
section
variable{X:Cx}{o e f:Expr}{apos cpos:Pos}{td ty tx:TE}
end
section
variable{X:Cx}{pins:List (Addr×Obj)}{σ:St}{H:Hp}{s:AS}{a:Addr}{kvs:List (As×V)}{A:BJ}{E:AR->AS->Prop}
end
section
variable{X:Cx}{pins:List (Addr×Obj)}{σ:St}{H:Hp}{s:AS}{a:Addr}{y:V}{u:AR}{A:BJ}{E:AR->AS->Prop}
end
end L2
namespace Att
open PySem PySem.W PySem.Calls PyProof.Rows
theorem dU{P:GH}:∀(ns:List Int)(vs:List AR),WellAll P h vs (ns.map WData.int)->FX vs ns:=by
 intro ns
 induction ns with
 | nil =>
   intro vs w;rw[D2]at w;cases w
   exact .nil
 | cons n ns ih =>
   intro vs w;rw[A1]at w
   cases w with
   | cons a b =>
     cases a;exact .cons _ _ (ih _ b)
theorem j_{l:GI}(hn:l.most=some n){P:GH}{args:List WData}{vals:List AR}
 (hpre:l.row.toRowW.claim.pre args=true)(hwl:WellAll P h vals args) :
 ∃a vs ns,vals=[BY a]/\args=[WData.list (ns.map WData.int)]/\h.get? a=some {cls:=.type "list", data:=.seq vs.toArray}/\FX vs ns/\ns.length<=n:=by
 have hsh:WShape.hasAll [] args [.list .int]=true:=(pre_splitW hpre).1;have hc:l.pre.holds [] {args:=args}=true:=(pre_splitW hpre).2;obtain⟨d,r,rfl,h1,h2⟩:=hasAllW_cons hsh;obtain rfl:=hasAllW_nil h2;obtain⟨xs,rfl,h3⟩:=hasW_list h1;obtain⟨ns,rfl⟩:=items_int h3
 have hlen:ns.length<=n:=by
  unfold GI.pre at hc
  have h4:(WTm.not (.lt (.lit (.int (n:Int))) (.len (.arg 0)))).holds [] {args:=[.list (ns.map .int)]}=true:=by
   have h4:=(holds_andW hc).1;rw[hn]at h4;exact h4
  have h5:=condW_of h4 (w_not (w_lt w_lit (w_len_list (w_arg rfl))));rw[AV]at h5;refine Nat.le_of_not_lt fun q=>?_;have q':(n:Int)<((ns.length:Nat):Int):=by omega
  first
   | (rw[decide_eq_true q']at h5;exact absurd h5 (by decide))
   | (simp at h5;omega)
 cases hwl with
 | cons w1 w2 =>
   cases w2
   cases w1 with
   | list ho hall=>exact⟨_,_,ns,rfl,rfl,ho,dU ns _ hall,hlen⟩
theorem kK(l:GI)(args:List WData):l.row.toRowW.claim.post args (.bool true) args=true :=
 postW_of (r:=l.row.toRowW) (X:=(true==true))
  (show WShape.has [] (.bool true) .bool=true by first|rfl|decide|simp[WShape.has,WShape.arms,WShape.armsAll])
  (show(WTm.eq .res (.lit (.bool true))).value [] {args:=args,res:=some (.bool true),after:=args}=some (.bool (true==true))from w_eq_bool (w_res rfl) w_lit) rfl
theorem attach_call{l:GI}{q:Bd}{YP:BM->Heap->Prop}{d:DefRec}
 (hn:l.most=some n)(hdf:d.params.defaults=[])
 (call:∀(w:BM)(s₀ s₁:AS)(mg mb:Str->Option AR)(fa:Addr)(o:Obj)(pm cd doc:AR)(a:Addr)(vs:List AR)(ns:List Int),
  Ground q loose [] XP w s₀ mg mb s₁.heap->YP w s₁.heap ->
  s₁.heap.get? fa=some o->o.data = .func (docDef d.name d.params d.body d.scope pm cd doc)->s₁.heap.CodeRec cd d.name->mg d.name=some (.ref fa) ->
  s₁.heap.get? a=some {cls:=.type "list", data:=.seq vs.toArray}->FX vs ns->ns.length<=n->s₁.gens = #[] ->
  Et (BH l.prog w) Gj (.call (.ref fa) ⟨[.ref a],[]⟩) (fun r s'=>r = .ok (.ret (.bool true))/\OldK s₁.heap s'.heap/\s'.os=s₁.os/\FT s'.gens) s₁) :
 WalkO q loose XP YP l.row.toRowW d [] (fun f vs=>PySem.call f vs):=by
 intro w s₀ s₁ mg mb G Y fa o pm cd doc dV kV ho hd hcd hD hmg hg args vals as hpre hlay hrd hwl hlo;obtain rfl:dV = .none:=Dflts.none hD hdf;obtain rfl:kV = .none:=Dflts.noKw hD;obtain⟨a,vs,ns,rfl,rfl,hobj,hints,hlen⟩:=j_ hn hpre hwl;refine enter_call (D0 (call w s₀ s₁ mg mb fa o pm cd doc a vs ns G Y ho (fd_plain hd) hcd hmg hobj hints hlen hg) fun r s' hq=>?_);obtain⟨rfl,h2,h3,h4⟩:=hq;exact⟨.inl ⟨.bool true,.bool true,[],rfl,fun _=>rfl,.bool true,kK l _,fun _=>⟨Gc.nil,fun _ hm=>(nomatch hm)⟩⟩,h2,h3,h4⟩
section
variable{prog:Bd}{w:BM}{A:BJ}{E:AR->AS->Prop}{s:AS}{K:Frag}
end
end Att
namespace L2
theorem fW:∀{vs:List AR}{ns:List Int},FX vs ns->bB (ns.map V.int) vs
 | _,_,.nil=>.nil
 | _,_,.cons n t h=>.cons ⟨t,rfl⟩ (fW h)
noncomputable def vL(H:Hp):Prop:=∀b,H b=none\/∃o xs,H b=some (.frz o (.lst xs))
theorem mX{w:BM}{K:W.Frag}{mb:Str->Option AR}{CX:AH}{fa:Addr}{sp:Sp}{s₁:AS}{vs:List AR}
 (KX:K.In s₁.heap)(hns:s₁.heap.Ns Bu mg)(hb:s₁.heap.Ns builtinsNs mb)(hbb:∀x:Str,x ≠ "__name__" -> mb x=Du x)(hlim:s₁.heap.NoLimit)(hg:s₁.gens = #[])
 (ha:s₁.heap.get? a=some {cls:=.type "list", data:=.seq vs.toArray})(hi:FX vs ns)(hl:ns.length<=sizeLine)(hr:Room k Gj)
 (F:∀base:Heap,K.In base->base.Ns Bu mg->FnOk P w K mg base CX k fa fd [x] sp)(hbind:∀(s:AS)(u:AR),Gw s fd ⟨[u],[]⟩ [(x,u)])
 (hsp:∀H:Hp,vL H->zX K H a (ns.map V.int)->sp [.ref a] H (fun v _=>v = .bl true) fun _ _ _=>False)
 (hCX:∀H e s',CX [] H s₁ (fun _ _ _=>False) e s'->False) :
 Et (BH P w) Gj (.call (.ref fa) ⟨[.ref a],[]⟩) (fun r s'=>r = .ok (.ret (.bool true))/\OldK s₁.heap s'.heap/\s'.os=s₁.os/\FT s'.gens) s₁:=by
 have rv:=fW hi;have lenV:=hi.length
 have core:∀H:Hp,vL H->zX K H a (ns.map V.int)->AE P w H s₁.heap->(∀b,H b≠none->b=a)->(H a≠none->K.lookup a=none) ->
  Et (BH P w) Gj (.call (.ref fa) ⟨[.ref a],[]⟩) (fun r s'=>r = .ok (.ret (.bool true))/\OldK s₁.heap s'.heap/\s'.os=s₁.os/\FT s'.gens) s₁:=by
  intro H hO hS hok hA hK;have base_of:∀{b:Addr}{o:Obj},s₁.heap.get? b=some o->H b=none->(nh s₁.heap H).get? b=some o:=fun e n=>na e n
  have noA:∀{b:Addr}{o:Obj}{es:Array Eb}{ep:Nat},s₁.heap.get? b=some o->o.data = .dict es ep->H b=none:=fun{b o es ep} e d=>by
   cases q:H b with
   | none=>rfl
   | some u =>
     have e':b=a:=hA b (by rw[q];simp);subst e';rw[ha]at e;cases e;have d':Data.seq vs.toArray _=Data.dict es ep:=d;cases d'
  have nsK:∀{b:Addr}{m:Str->Option AR},s₁.heap.Ns b m->(nh s₁.heap H).Ns b m:=fun{b m} ⟨o,es,ep,e,d,r⟩=>⟨o,es,ep,base_of e (noA e d),d,r⟩
  have hKb:K.In (nh s₁.heap H):=fun b o e=>base_of (KX b o e) (by
   cases q:H b with
   | none=>rfl
   | some u =>
     have e':b=a:=hA b (by rw[q];simp);subst e'
     rw[hK (by rw[q];simp)]at e;cases e)
  have hM:Mod K mg (nh s₁.heap H):=⟨hKb,nsK hns,⟨mb,nsK hb,hbb⟩,let ⟨mc,h1,h2⟩:=hlim;⟨mc,nsK h1,h2⟩⟩;have e0:Env0 P w K mg (nh s₁.heap H) Gj [] s₁ H:=⟨rfl,hM,fun b o e=>qe e,Nat.le_of_eq (lv _ _),trivial,fun b hb=>absurd (show b∈([]:List Addr)from hb) (by simp),hok,.of_eq hg⟩;refine D0 ((F _ hKb (nsK hns)).run Gj [] s₁ H ⟨[.ref a],[]⟩ [.ref a] [.ref a] _ _ hr e0 (hbind s₁ (.ref a)) (.cons rfl .nil) (hsp H hO hS)) fun r s' h=>?_
  cases r with
  | error e=>exact(hCX H e s' h).elim
  | ok fl =>
    cases fl with
    | next=>exact Cr h
    | brk=>exact Cr h
    | cont=>exact Cr h
    | ret u =>
      obtain⟨v,H',os,bare,un,hok',r',q⟩:=h;have q':v = .bl true:=q;subst q';obtain rfl:u=AR.bool true:=r';refine⟨rfl,OldK.of_keep fun b o e=>?_,os,bare⟩
      cases q:H b with
      | none=>exact un.keep b o e q (by intro z;exact absurd (show b∈([]:List Addr)from z) (by simp)) (by simp)
      | some u =>
        rcases hO b with z|⟨ob,xs,z⟩
        · rw[q]at z;cases z
        · have z2:=un.frzs b ob _ z;obtain⟨e1,_⟩:=hok b _ z;obtain⟨e2,_⟩:=hok' b _ z2;rw[e]at e1;cases e1;exact e2
 cases hk:K.lookup a with
 | some o =>
   have e:=KX a o hk;rw[ha]at e;cases e
   refine core (fun _=>none) (fun _=>.inl rfl) (.inr ⟨_,vs.toArray,_,hk,rfl,rfl,rfl,by rw[A4,lenV];exact hl,by simpa using rv⟩) (fun b u z=>by have z':(none:Option HO)=some u:=z;cases z') (fun b z=>absurd rfl z) fun z=>absurd rfl z
 | none =>
   refine core (fun b=>if b=a then some (.frz {cls:=.type "list", data:=.seq vs.toArray} (.lst (ns.map V.int)))else none) (fun b=>?_) (.inl (.inr ⟨{cls:=.type "list", data:=.seq vs.toArray},if_pos rfl⟩)) (fun b u z=>?_) (fun b z=>?_) fun _=>hk
   · by_cases hb:b=a
     · exact .inr ⟨_,_,if_pos hb⟩
     · exact .inl (if_neg hb)
   · by_cases hb:b=a
     · have z':=(if_pos hb).symm.trans z;cases z';subst hb;exact⟨ha,by rw[AV];exact hl,vs,_,rv,ha⟩
     · have z':=(if_neg hb).symm.trans z;cases z'
   · by_cases hb:b=a
     · exact hb
     · exact absurd (if_neg hb) z
theorem walk_of{l:W.OpenLaw}{q:Bd}{YP:BM->Heap->Prop}{d:DefRec}{K:GH->W.Frag}{CX:BM->AH}{sp:BM->Sp}
 (hn:l.most=some n)(hn2:n<=sizeLine)(hdf:d.params.defaults=[])(hr:Room k Gj)
 (hY:∀(w:BM)(h:Heap),YP w h->(K w.params).In h)
 (F:∀(w:BM)(mg:Str->Option AR)(fa:Addr)(h:Heap),(K w.params).In h->h.Ns Bu mg->mg d.name=some (.ref fa) ->
  ∃ fd:CZ,(∀(s:AS)(u:AR),Gw s fd ⟨[u],[]⟩ [(x,u)]) /\
    ∀base:Heap,(K w.params).In base->base.Ns Bu mg->FnOk l.prog w (K w.params) mg base (CX w) k fa fd [x] (sp w))
 (hsp:∀(w:BM)(H:Hp)(a:Addr)(ns:List Int),ns.length<=n->vL H->zX (K w.params) H a (ns.map V.int)->sp w [.ref a] H (fun v _=>v = .bl true) fun _ _ _=>False)
 (hCX:∀(w:BM)(H:Hp)(s:AS)(e:AR)(s':AS),CX w [] H s (fun _ _ _=>False) e s'->False) :
 W.WalkO q loose XP YP l.row.toRowW d [] (fun f vs=>PySem.call f vs):=by
 refine Att.attach_call hn hdf fun w s₀ s₁ mg mb fa o pm cd doc a vs ns G Y ho hd hcd hmg hobj hints hlen hg=>?_;have KX:=hY w _ Y;obtain⟨fd,hb,hF⟩:=F w mg fa _ KX G.T.g hmg;exact mX KX G.T.g G.T.b G.T.builtins G.T.nolimit hg hobj hints (Ca hlen hn2) hr hF hb (fun H hO hS=>hsp w H a ns hlen hO hS) fun H e s'=>hCX w H s₁ e s'
abbrev AI:AH:=fun _ _ _ _ _ _=>False
abbrev E0:XK:=fun _ _ _=>False
theorem sK:lQ AI X E0:=fun _ _ _ _ _ _ _ h=>h.elim
structure Fun (K:W.Frag) (x qual:Str) (st:Stmt) (f:Addr) (fd:CZ):Prop where
 ex:∃(oc:AR)(od:Option Addr)(kV doc pm:AR)(an:Option Addr)(cdv ct:AR)(osl:Array (Option AR)),
  fd=W.fnOf x qual (defArgs st) (defBody st) (defScope st) .none kV doc pm an cdv ct/\K.lookup f=some ⟨oc,od,.func fd,osl⟩/\W.codeIn K cdv qual=true
 kp:W.keepIn K (.ref f)=true
section
variable{P:Bd}{w:BM}{K:W.Frag}{mg:Str->Option AR}{base:Heap}
theorem Fun.ok{st:Stmt}{N:List Str}{sp:Sp}(F:Fun K x qual st f fd)(S:FnScope N ps (defScope st))(len:∀vs H Q E,sp vs H Q E->vs.length=ps.length)
 (hbody:∀(cdv:AR)(A:BJ)(outer:List Env)(s:AS)(H:Hp)(vs:List V)(Q:VK)(E:XK),Room k (A.deeper (EY qual (defScope st) s.heap.objs.size f cdv))->sp vs H Q E ->
  ∃t,Ag (lV AI P w K mg base N qual (defScope st) f cdv A outer s H E).nox (defBody st) t/\t {nx:=fun _ H'=>Q .non H',rt:=Q} (start N vs) H):FnOk P w K mg base AI (k+1) f fd ps sp:=by
 obtain⟨oc,od,kV,doc,pm,an,cdv,ct,osl,rfl,lk,hcd⟩:=F.ex;refine vD lk hcd S len fun A outer s H vs Q E hr hsp=>?_;obtain⟨t,h,q⟩:=hbody cdv A outer s H vs Q E hr hsp;exact⟨t,h.nox,q⟩
theorem Fun.binds{st:Stmt}(F:Fun K x qual st f fd)
 (h:∀(kV doc pm:AR)(an:Option Addr)(cdv ct:AR)(us:List AR),us.length=ps.length->bindArgs (W.fnOf x qual (defArgs st) (defBody st) (defScope st) .none kV doc pm an cdv ct) ⟨us,[]⟩=pure (ps.zip us)):Binds K fd ps []:=by
 obtain⟨oc,od,kV,doc,pm,an,cdv,ct,osl,rfl,lk,hcd⟩:=F.ex;exact .all (h kV doc pm an cdv ct)
theorem lB{st:Stmt}{oc:AR}{od an:Option Addr}{osl:Array (Option AR)}{kV doc pm cdv ct:AR}(l:K.lookup f=some ⟨oc,od,.func (W.fnOf x qual (defArgs st) (defBody st) (defScope st) .none kV doc pm an cdv ct),osl⟩)
 (c:W.codeIn K cdv qual=true)(k:W.keepIn K (.ref f)=true):Fun K x qual st f (W.fnOf x qual (defArgs st) (defBody st) (defScope st) .none kV doc pm an cdv ct):=⟨⟨oc,od,kV,doc,pm,an,cdv,ct,osl,rfl,l,c⟩,k⟩
end
section
variable{X:Cx}
theorem pv(i:Nat)(hN:autoParam (X.N[i]?=some x) æa._auto_1)(hv:autoParam (zN X.env.scope x) æd._auto_1)(hd:autoParam ((x==("__debug__" : Str))=false) æb._auto_1)
 (hcd:autoParam ((x==("__classdict__" : Str))=false) æb._auto_1):PE X (.Name x pos) (wH i):=eG hN hv hd hcd
end
noncomputable def aZ(H H':Hp):Prop:=∀b o,H b=some o->H' b=some o
theorem aZ.refl(H:Hp):aZ H H:=fun _ _ h=>h
theorem aZ.trans{H1 H2:Hp}(a:aZ H H1)(b:aZ H1 H2):aZ H H2:=fun c o h=>b c o (a c o h)
theorem aZ.free(e:aZ H H'){l:Addr}(h:H' l=Option.none):H l=Option.none:=by
 cases q:H l with
 | none=>rfl
 | some o =>
   rw[e l o q]at h;cases h
section
variable{X:Cx}
end
section
variable{κ:Type}[DecidableEq κ]
end
end L2
namespace L2.VL
noncomputable def RO(F:Hp)(o:HO):Prop:=∃(c:Addr)(ns:List Int)(a l t:Int),o = .lst [.ref c,.int a,.int l,.int t]/\F c=some (.lst (ns.map V.int))/\ns.length<=63/\0<=a/\0<=l/\0<=t
theorem RO.mono{o:HO}(s:aZ F F')(h:RO F o):RO F' o:=by
 obtain⟨c,ns,a,l,t,e,q,r⟩:=h;exact⟨c,ns,a,l,t,e,s _ _ q,r⟩
mutual
inductive Rep (K:W.Frag) (F:Hp):V->AN->Prop
 | non:Rep K F .non .none
 | bl (b:Bool):Rep K F (.bl b) (.bool b)
 | int (i:Int):Rep K F (.int i) (.int i)
 | str (x:Str):Rep K F (.str x) (.str x)
 | tup {a:Addr} {vs:List V} {ds:List AN}:zW K F a vs->Reps K F vs ds->Rep K F (.ref a) (.tuple ds)
 | lst {a:Addr} {vs:List V} {ds:List AN}:F a=some (.lst vs)->Reps K F vs ds->Rep K F (.ref a) (.list ds)
inductive Reps (K:W.Frag) (F:Hp):List V->List AN->Prop
 | nil:Reps K F [] []
 | cons {v:V} {d:AN} {vs:List V} {ds:List AN}:Rep K F v d->Reps K F vs ds->Reps K F (v::vs) (d::ds)
end
theorem cL{K:W.Frag}{xs:List V}(e:aZ H H')(h:zW K H a xs):zW K H' a xs:=by
 rcases h with(h|⟨o,h⟩)|h
 · exact .inl (.inl (e _ _ h))
 · exact .inl (.inr ⟨o,e _ _ h⟩)
 · exact .inr h
theorem kf{K:W.Frag}{xs:List V}(e:aZ H H')(h:zX K H a xs):zX K H' a xs:=by
 rcases h with(h|⟨o,h⟩)|h
 · exact .inl (.inl (e _ _ h))
 · exact .inl (.inr ⟨o,e _ _ h⟩)
 · exact .inr h
mutual
theorem Rep.mono{K:W.Frag}{F F':Hp}(s:aZ F F'):∀{v:V}{d:AN},Rep K F v d->Rep K F' v d
 | _,_,.non=>.non
 | _,_,.bl b=>.bl b
 | _,_,.int i=>.int i
 | _,_,.str x=>.str x
 | _,_,.tup h r=>.tup (cL s h) (Reps.mono s r)
 | _,_,.lst h r=>.lst (s _ _ h) (Reps.mono s r)
theorem Reps.mono{K:W.Frag}{F F':Hp}(s:aZ F F'):∀{vs:List V}{ds:List AN},Reps K F vs ds->Reps K F' vs ds
 | _,_,.nil=>.nil
 | _,_,.cons h r=>.cons (Rep.mono s h) (Reps.mono s r)
end
theorem Reps.length{K:W.Frag}{F:Hp}:∀{vs:List V}{ds:List AN},Reps K F vs ds->vs.length=ds.length
 | _,_,.nil=>rfl
 | _,_,.cons _ r=>by simp[Reps.length r]
theorem Reps.get{K:W.Frag}{F:Hp}:∀{vs:List V}{ds:List AN}{i:Nat}{d:AN},Reps K F vs ds->ds[i]?=some d->∃v,vs[i]?=some v/\Rep K F v d
 | _,_,_,_,.nil,e=>by simp at e
 | _,_,0,_,.cons h _,e=>by simp at e;subst e;exact⟨_,rfl,h⟩
 | _,_,i+1,d,.cons _ r,e=>by
   obtain⟨v,h1,h2⟩:=Reps.get (i:=i) (d:=d) r (by simpa using e);exact⟨v,by simpa using h1,h2⟩
theorem Reps.append{K:W.Frag}{F:Hp}:∀{vs us:List V}{ds es:List AN},Reps K F vs ds->Reps K F us es->Reps K F (vs++us) (ds++es)
 | _,_,_,_,.nil,s=>s
 | _,_,_,_,.cons h r,s=>.cons h (Reps.append r s)
theorem Reps.snoc{K:W.Frag}{ds:List AN}(r:Reps K F vs ds)(h:Rep K F v d):Reps K F (vs++[v]) (ds++[d]):=r.append (.cons h .nil)
theorem Reps.take{K:W.Frag}{F:Hp}:∀{vs:List V}{ds:List AN}(n:Nat),Reps K F vs ds->Reps K F (vs.take n) (ds.take n)
 | _,_,0,_=>.nil
 | _,_,_+1,.nil=>.nil
 | _,_,n+1,.cons h r=>.cons h (Reps.take n r)
theorem Reps.drop{K:W.Frag}{F:Hp}:∀{vs:List V}{ds:List AN}(n:Nat),Reps K F vs ds->Reps K F (vs.drop n) (ds.drop n)
 | _,_,0,r=>r
 | _,_,_+1,.nil=>.nil
 | _,_,n+1,.cons _ r=>Reps.drop n r
theorem Reps.nil_iff{K:W.Frag}(h:Reps K F vs []):vs=[]:=by cases h;rfl
mutual
theorem Rep.reads{X:Cx}{pins:List (Addr×Obj)}{σ:St}{H F:Hp}{s:AS}(I:Inv X pins σ H s)(sub:aZ F H):∀{v:V}{d:AN},Rep X.K F v d->∀u,RelV v u->∃as,Reads s.heap u d as
 | _,_,.non,u,r=>by cases(show u=CI from r);exact⟨_,.none⟩
 | _,_,.bl b,u,r=>by cases(show u=AR.bool b from r);exact⟨_,.bool b⟩
 | _,_,.int i,u,r=>by obtain⟨t,q⟩:=(show ∃t,u=F8 i t from r);cases q;exact⟨_,.int i t⟩
 | _,_,.str x,u,r=>by obtain⟨t,q⟩:=(show ∃t,u=AR.str x t from r);cases q;exact⟨_,.str x t⟩
 | _,_,.tup (a:=a) h q,u,r=>by
   cases(show u=BY a from r);obtain⟨its,rv,⟨o,h1,h2,n,h3⟩,hz⟩:=I.tuple (cL sub h);obtain⟨as,ra⟩:=Reps.reads I sub q its rv
   exact⟨_,.tuple h1 h2 h3 (by simpa using ra)⟩
 | _,_,.lst (a:=a) h q,u,r=>by
   cases(show u=BY a from r);obtain⟨its,rv,p,hz⟩:=I.list (.inl (.inl (sub _ _ h)));obtain⟨o,h1,h2,n,h3⟩:=p.isList;obtain⟨as,ra⟩:=Reps.reads I sub q its rv;exact⟨_,.list h1 h2 h3 (by simpa using ra)⟩
theorem Reps.reads{X:Cx}{pins:List (Addr×Obj)}{σ:St}{H F:Hp}{s:AS}(I:Inv X pins σ H s)(sub:aZ F H):∀{vs:List V}{ds:List AN},Reps X.K F vs ds->∀us,bB vs us->∃as,ReadsAll s.heap us ds as
 | _,_,.nil,us,r=>by cases r;exact⟨_,.nil⟩
 | _,_,.cons h q,us,r=>by
   cases r with
   | cons r1 r2 =>
     obtain⟨as,a1⟩:=Rep.reads I sub h _ r1;obtain⟨bs,a2⟩:=Reps.reads I sub q _ r2;exact⟨_,.cons a1 a2⟩
end
structure ReelOk (F H:Hp) (r:Addr):Prop where
 ex:∃o,H r=some o/\RO F o
noncomputable def Aa(rl:Option Addr)(F H:Hp):Prop:=∀r,rl=some r->F r=none/\ReelOk F H r
theorem Aa.live(h:Aa rl F H)(e:rl=some r):∃o,H r=some o:=by
 obtain⟨_,⟨o,q,_⟩⟩:=h r e;exact⟨_,q⟩
structure Grow (rl:Option Addr) (F H F' H':Hp):Prop where
 same:∀b o,H b=some o->rl≠some b->H' b=some o
 fs:aZ F F'
 sub:aZ F' H'
 old:∀b o,H b=some o->F' b=F b
 reel:Aa rl F' H'
theorem Grow.refl{rl:Option Addr}{F H:Hp}(s:aZ F H)(r:Aa rl F H):Grow rl F H F H:=⟨fun _ _ e _=>e,.refl F,s,fun _ _ _=>rfl,r⟩
theorem Grow.live{rl:Option Addr}{F H F' H':Hp}(g:Grow rl F H F' H'){b:Addr}{o:HO}(e:H b=some o):∃o',H' b=some o':=by
 by_cases h:rl=some b
 · exact g.reel.live h
 · exact⟨o,g.same b o e h⟩
theorem Grow.trans{rl:Option Addr}{F H F1 H1 F2 H2:Hp}(a:Grow rl F H F1 H1)(b:Grow rl F1 H1 F2 H2):Grow rl F H F2 H2 :=
 ⟨fun c o e n=>b.same c o (a.same c o e n) n,a.fs.trans b.fs,b.sub,fun c o e=>by obtain⟨o',e'⟩:=a.live e;rw[b.old c o' e',a.old c o e],b.reel⟩
theorem Grow.freeB(g:Grow rl F H F' H'){b:Addr}(e:H' b=none):H b=none:=by
 cases q:H b with
 | none=>rfl
 | some o=>obtain⟨o',e'⟩:=g.live q;rw[e]at e';cases e'
theorem Grow.laid{o:HO}(s:aZ F H)(r:Aa rl F H)(n:H a=none):Grow rl F H F (upd H a o):=by
 have ne:∀b u,H b=some u->b≠a:=fun b u e=>ay e n;refine⟨fun b u e _=>by rw[upd_ne (ne b u e)];exact e,.refl F,fun b u e=>by rw[upd_ne (ne b u (s b u e))];exact s b u e,fun _ _ _=>rfl,fun q e=>?_⟩;obtain⟨z,⟨u,h1,h2⟩⟩:=r q e;exact⟨z,⟨u,by rw[upd_ne (ne _ _ h1)];exact h1,h2⟩⟩
theorem Grow.data{o:HO}(s:aZ F H)(r:Aa rl F H)(n:H a=none):Grow rl F H (upd F a o) (upd H a o):=by
 have ne:∀b u,H b=some u->b≠a:=fun b u e=>ay e n;have neF:∀b u,F b=some u->b≠a:=fun b u e=>ne b u (s b u e);refine⟨fun b u e _=>by rw[upd_ne (ne b u e)];exact e,fun b u e=>by rw[upd_ne (neF b u e)];exact e,fun b u e=>?_,fun b u e=>by rw[upd_ne (ne b u e)],fun q e=>?_⟩
 · by_cases hb:b=a
   · subst hb;rw[ak]at e ⊢;exact e
   · rw[upd_ne hb]at e ⊢;exact s b u e
 · obtain⟨z,⟨u,h1,h2⟩⟩:=r q e;exact⟨by rw[upd_ne (ne _ _ h1)];exact z,⟨u,by rw[upd_ne (ne _ _ h1)];exact h1,RO.mono (fun b u e=>by rw[upd_ne (neF b u e)];exact e) h2⟩⟩
theorem Grow.freeze{F1 H1:Hp}{o:HO}(g:Grow rl F H F1 H1)(n:H a=none)(e:H1 a=some o)(f:F1 a=none)(hr:rl≠some a):Grow rl F H (upd F1 a o) H1:=by
 have neF:∀b u,F1 b=some u->b≠a:=fun b u q z=>by subst z;rw[f]at q;cases q
 refine⟨g.same,fun b u q=>by rw[upd_ne (neF b u (g.fs b u q))];exact g.fs b u q,fun b u q=>?_,fun b u q=>by rw[upd_ne (ay q n)];exact g.old b u q,fun q z=>?_⟩
 · by_cases hb:b=a
   · subst hb;rw[ak]at q;rw[e];exact q
   · rw[upd_ne hb]at q;exact g.sub b u q
 · obtain⟨z1,⟨u,h1,h2⟩⟩:=g.reel q z;exact⟨by rw[upd_ne (fun y=>hr (by rw[<- y];exact z))];exact z1,⟨u,h1,RO.mono (fun b u e=>by rw[upd_ne (neF b u e)];exact e) h2⟩⟩
inductive W where
 | d (x:AN)
 | ml (xs:List AN)
 | pk (xs:List AN)
 | reel
 | vv (v:V)
 | md (kvs:List (List As×AN))
 | mk (kvs:List (As×AN))
 | xm (kvs:List (List Int×AN))
 | nt (ds:List AN)
 | lk
 | sc (ns:List Int)
 | fd (kvs:List (As×AN))
 | xr (kvs:List (List Int×AN))
 | fw (kvs:List (As×AN))
 | ft (kvs:List (List As×AN))
 | xc (x:Str) (fs:List (Str×AN))
 | dp (kvs:List (As×AN)) (x:AN)
noncomputable def W.dat:W->Option AN
 | .d x=>some x
 | .ml xs=>some (.list xs)
 | .pk xs=>some (.list xs)
 | .nt ds=>some (.tuple ds)
 | _=>none
noncomputable def W.peek:W->W
 | .ml xs=>.pk xs
 | .md _=>.lk
 | .mk _=>.lk
 | .xm _=>.lk
 | w=>w
noncomputable def W.own:W->Bool
 | .ml _=>true
 | .md _=>true
 | .mk _=>true
 | .xm _=>true
 | _=>false
abbrev KD(K:W.Frag)(F:Hp):List (List As×V)->List (List As×AN)->Prop:=BC fun p q=>p.1=q.1/\Rep K F p.2 q.2
abbrev Au(K:W.Frag)(F:Hp):List (As×V)->List (As×AN)->Prop:=BC fun p q=>p.1=q.1/\Rep K F p.2 q.2
abbrev At(K:W.Frag)(F:Hp):List (Str×V)->List (Str×AN)->Prop:=BC fun p q=>p.1=q.1/\Rep K F p.2 q.2
noncomputable def vM(e C dx:Addr):Heap->Prop:=fun h=>∃oe vs,h.get? e=some oe/\oe.cls = .ref C/\oe.dict=some dx/\oe.data = .fields vs
noncomputable def oS(K:W.Frag)(rl:Option Addr)(F H:Hp)(v:V)(kvs:List (List As×AN)):Prop:=∃a us,v = .ref a/\F a=none/\rl≠some a/\H a=some (.dT us)/\KD K F us kvs
noncomputable def DAt(a:Addr)(xs:List (List Int×Addr×AR)):Heap->Prop:=fun h=>∃o es ep,h.get? a=some o/\o.ExactDict/\o.data = .dict es ep/\(∀(P:Bd)(w:BM),es.toList=xs.map (Gf (B_ (CH P w))))/\(xs.map (·.1)).Nodup/\(a==DV)=false/\xs.length<=sizeLine
noncomputable def DAtO(a:Addr)(u:List (List Int×Addr×AR)×Obj):Heap->Prop:=fun h=>DAt a u.1 h/\h.get? a=some u.2
noncomputable def KX(K:W.Frag)(F:Hp):List (List Int×Addr×AR)->List (List Int×AN)->Prop:=BC fun p q=>p.1=q.1/\zW K F p.2.1 (p.1.map V.int)/\∃v,RelV v p.2.2/\Rep K F v q.2
theorem KX.mono{K:W.Frag}{F F':Hp}{xs:List (List Int×Addr×AR)}{kvs:List (List Int×AN)}(h:KX K F xs kvs)(s:aZ F F'):KX K F' xs kvs:=BC.mapP h fun _ _ z=>⟨z.1,cL s z.2.1,let ⟨v,r,q⟩:=z.2.2;⟨v,r,q.mono s⟩⟩
noncomputable def jI(K:W.Frag)(rl:Option Addr)(F H:Hp)(v:V)(kvs:List (List Int×AN)):Prop:=∃a xs,v = .ref a/\F a=none/\rl≠some a/\H a=some (.ext (DAt a xs))/\KX K F xs kvs
noncomputable def oR(K:W.Frag)(rl:Option Addr)(F H:Hp)(v:V)(kvs:List (As×AN)):Prop:=∃a us,v = .ref a/\F a=none/\rl≠some a/\H a=some (.dK us)/\Au K F us kvs
noncomputable def d6(K:W.Frag)(rl:Option Addr)(F H:Hp)(v:V)(xs:List AN):Prop:=∃a vs,v = .ref a/\F a=none/\rl≠some a/\H a=some (.lst vs)/\Reps K F vs xs
noncomputable def cQ(K:W.Frag)(rl:Option Addr)(F H:Hp)(v:V):W->Prop
 | .d x=>Rep K F v x
 | .ml xs=>d6 K rl F H v xs
 | .pk xs=>d6 K rl F H v xs
 | .reel=>∃r,rl=some r/\v = .ref r
 | .vv u=>v=u
 | .md kvs=>oS K rl F H v kvs
 | .mk kvs=>oR K rl F H v kvs
 | .xm kvs=>jI K rl F H v kvs
 | .nt ds=>∃a vs,v = .ref a/\F a=some (.tup vs)/\Reps K F vs ds
 | .lk=>True
 | .sc ns=>∃a,v = .ref a/\zX K F a (ns.map V.int)
 | .fd kvs=>∃a us,v = .ref a/\F a=some (.dK us)/\Au K F us kvs
 | .xr kvs=>∃a us,v = .ref a/\F a=some (.ext (DAtO a us))/\KX K F us.1 kvs
 | .fw kvs=>∃a us o,v = .ref a/\F a=some (.frz o (.dK us))/\Au K F us kvs
 | .ft kvs=>∃a us o,v = .ref a/\F a=some (.frz o (.dT us))/\KD K F us kvs
 | .xc x fs=>∃e dx us C,v = .ref e/\W.nsIn K Bu x=some (some (.ref C))/\F e=some (.ext (vM e C dx))/\F dx=some (.xd us)/\At K F us fs
 | .dp kvs x=>∃a b us u o,v = .ref a/\F a=some (.tup [.ref b,u])/\F b=some (.frz o (.dK us))/\Au K F us kvs/\Rep K F u x
theorem oS.grow{K:W.Frag}{kvs:List (List As×AN)}(g:Grow rl F H F' H')(r:oS K rl F H v kvs):oS K rl F' H' v kvs:=by
 obtain⟨a,us,rfl,h1,h2,h3,h4⟩:=r;exact⟨a,us,rfl,by rw[g.old a _ h3];exact h1,h2,g.same a _ h3 h2,BC.mapP h4 fun _ _ z=>⟨z.1,z.2.mono g.fs⟩⟩
theorem oR.grow{K:W.Frag}{kvs:List (As×AN)}(g:Grow rl F H F' H')(r:oR K rl F H v kvs):oR K rl F' H' v kvs:=by
 obtain⟨a,us,rfl,h1,h2,h3,h4⟩:=r;exact⟨a,us,rfl,by rw[g.old a _ h3];exact h1,h2,g.same a _ h3 h2,BC.mapP h4 fun _ _ z=>⟨z.1,z.2.mono g.fs⟩⟩
theorem jI.grow{K:W.Frag}(g:Grow rl F H F' H')(r:jI K rl F H v kvs):jI K rl F' H' v kvs:=by
 obtain⟨a,us,rfl,h1,h2,h3,h4⟩:=r;exact⟨a,us,rfl,by rw[g.old a _ h3];exact h1,h2,g.same a _ h3 h2,h4.mono g.fs⟩
theorem d6.grow{K:W.Frag}(g:Grow rl F H F' H')(r:d6 K rl F H v xs):d6 K rl F' H' v xs:=by
 obtain⟨a,vs,rfl,h1,h2,h3,h4⟩:=r;exact⟨a,vs,rfl,by rw[g.old a _ h3];exact h1,h2,g.same a _ h3 h2,h4.mono g.fs⟩
theorem cQ.grow{K:W.Frag}{rl:Option Addr}{F H F' H':Hp}{v:V}{w:W}(g:Grow rl F H F' H')(r:cQ K rl F H v w):cQ K rl F' H' v w:=by
 cases w with
 | d x=>exact Rep.mono g.fs r
 | ml xs=>exact d6.grow g r
 | pk xs=>exact d6.grow g r
 | reel=>exact r
 | vv u=>exact r
 | md kvs=>exact oS.grow g r
 | mk kvs=>exact oR.grow g r
 | xm kvs=>exact jI.grow g r
 | nt ds=>obtain⟨a,vs,e,h,q⟩:=r;exact⟨a,vs,e,g.fs _ _ h,q.mono g.fs⟩
 | lk=>trivial
 | sc ns=>obtain⟨a,e,h⟩:=r;exact⟨a,e,kf g.fs h⟩
 | fd kvs=>obtain⟨a,us,e,h,q⟩:=r;exact⟨a,us,e,g.fs _ _ h,BC.mapP q fun _ _ z=>⟨z.1,z.2.mono g.fs⟩⟩
 | xr kvs=>obtain⟨a,us,e,h,q⟩:=r;exact⟨a,us,e,g.fs _ _ h,KX.mono q g.fs⟩
 | fw kvs=>obtain⟨a,us,o,e,h,q⟩:=r;exact⟨a,us,o,e,g.fs _ _ h,BC.mapP q fun _ _ z=>⟨z.1,z.2.mono g.fs⟩⟩
 | ft kvs=>obtain⟨a,us,o,e,h,q⟩:=r;exact⟨a,us,o,e,g.fs _ _ h,BC.mapP q fun _ _ z=>⟨z.1,z.2.mono g.fs⟩⟩
 | xc _ _=>obtain⟨a,dx,us,C,e,n,h1,h2,q⟩:=r;exact⟨a,dx,us,C,e,n,g.fs _ _ h1,g.fs _ _ h2,BC.mapP q fun _ _ z=>⟨z.1,z.2.mono g.fs⟩⟩
 | dp _ _=>obtain⟨a,b,us,u,o,e,h1,h2,q,z⟩:=r;exact⟨a,b,us,u,o,e,g.fs _ _ h1,g.fs _ _ h2,BC.mapP q fun _ _ z=>⟨z.1,z.2.mono g.fs⟩,z.mono g.fs⟩
theorem cQ.peek{K:W.Frag}{w:W}(r:cQ K rl F H v w):cQ K rl F H v w.peek:=by cases w<;>first|exact r|trivial
theorem d6.rep{K:W.Frag}(s:aZ F H)(r:d6 K rl F H v xs):Rep K H v (.list xs):=by
 obtain⟨a,vs,rfl,h1,h2,h3,h4⟩:=r;exact .lst h3 (h4.mono s)
theorem cQ.dat{K:W.Frag}{w:W}{x:AN}(s:aZ F H)(r:cQ K rl F H v w)(e:w.dat=some x):Rep K H v x:=by
 cases w with
 | d y=>cases e;exact Rep.mono s r
 | ml xs=>cases e;exact d6.rep s r
 | pk xs=>cases e;exact d6.rep s r
 | reel=>cases e
 | vv u=>cases e
 | md kvs=>cases e
 | mk kvs=>cases e
 | xm kvs=>cases e
 | nt ds=>cases e;obtain⟨a,vs,rfl,h,q⟩:=r;exact .tup (.inl (.inl (s _ _ h))) (q.mono s)
 | lk=>cases e
 | sc _=>cases e
 | fd _=>cases e
 | xr _=>cases e
 | fw _=>cases e
 | ft _=>cases e
 | xc _ _=>cases e
 | dp _ _=>cases e
theorem cQ.items{K:W.Frag}{w:W}(s:aZ F H)(r:cQ K rl F H v w)(e:w.dat=some (.list xs)):∃a vs,v = .ref a/\zX K H a vs/\Reps K F vs xs:=by
 have own:d6 K rl F H v xs->∃a vs,v = .ref a/\zX K H a vs/\Reps K F vs xs:=fun⟨a,vs,e1,_,_,e2,e3⟩=>⟨a,vs,e1,.inl (.inl e2),e3⟩
 cases w with
 | d y =>
   cases e
   cases(show Rep K F v (.list xs)from r)with
   | lst h q=>exact⟨_,_,rfl,.inl (.inl (s _ _ h)),q⟩
 | ml ys=>cases e;exact own r
 | pk ys=>cases e;exact own r
 | reel=>cases e
 | vv u=>cases e
 | md kvs=>cases e
 | mk kvs=>cases e
 | xm kvs=>cases e
 | nt ds=>cases e
 | lk=>cases e
 | sc _=>cases e
 | fd _=>cases e
 | xr _=>cases e
 | fw _=>cases e
 | ft _=>cases e
 | xc _ _=>cases e
 | dp _ _=>cases e
theorem cQ.itemsT{K:W.Frag}{w:W}(s:aZ F H)(r:cQ K rl F H v w)(e:w.dat=some (.tuple xs)):∃a vs,v = .ref a/\zW K H a vs/\Reps K F vs xs:=by
 cases w with
 | d y =>
   cases e
   cases(show Rep K F v (.tuple xs)from r)with
   | tup h q=>exact⟨_,_,rfl,cL s h,q⟩
 | ml ys=>cases e
 | pk ys=>cases e
 | reel=>cases e
 | vv u=>cases e
 | md kvs=>cases e
 | mk kvs=>cases e
 | xm kvs=>cases e
 | nt ds=>cases e;obtain⟨a,vs,rfl,h,q⟩:=r;exact⟨a,vs,rfl,.inl (.inl (s _ _ h)),q⟩
 | lk=>cases e
 | sc _=>cases e
 | fd _=>cases e
 | xr _=>cases e
 | fw _=>cases e
 | ft _=>cases e
 | xc _ _=>cases e
 | dp _ _=>cases e
noncomputable def d3(H:Hp)(v:V):W->Prop
 | .ml _=>∀a,v = .ref a->H a=none
 | .md _=>∀a,v = .ref a->H a=none
 | .mk _=>∀a,v = .ref a->H a=none
 | .xm _=>∀a,v = .ref a->H a=none
 | _=>True
theorem cQ.live{K:W.Frag}{w:W}(r:cQ K rl F H v w)(h:w.own=true):∃a o,v = .ref a/\H a=some o:=by
 cases w with
 | ml xs=>obtain⟨a,vs,e,_,_,hh,_⟩:=r;exact⟨a,_,e,hh⟩
 | md xs=>obtain⟨a,vs,e,_,_,hh,_⟩:=r;exact⟨a,_,e,hh⟩
 | mk xs=>obtain⟨a,vs,e,_,_,hh,_⟩:=r;exact⟨a,_,e,hh⟩
 | xm xs=>obtain⟨a,vs,e,_,_,hh,_⟩:=r;exact⟨a,_,e,hh⟩
 | _=>cases h
theorem d3.none{w:W}(n:d3 H v w)(h:w.own=true)(e:v = .ref a):H a=none:=by
 cases w with
 | ml xs=>exact n a e
 | md xs=>exact n a e
 | mk xs=>exact n a e
 | xm xs=>exact n a e
 | _=>cases h
abbrev En:=List (Option W)
structure VR (K:W.Frag) (rl:Option Addr) (F₀ H₀ F H:Hp) (σ:St) (ρ:En):Prop where
 g:Grow rl F₀ H₀ F H
 sl:∀(i:Nat) w,ρ[i]?=some (some w)->∃v,σ[i]?=some (some v)/\cQ K rl F H v w/\d3 H₀ v w
 ap:∀(i j:Nat)(x y:W) v,i≠j->ρ[i]?=some (some x)->ρ[j]?=some (some y)->x.own=true->y.own=true->σ[i]?=some (some v)->σ[j]?=some (some v)->False
 np:∀(i:Nat) xs,ρ[i]?≠some (some (W.pk xs))
 len:ρ.length=σ.length
section
variable{K:W.Frag}{rl:Option Addr}{F₀ H₀ F H F' H':Hp}{σ:St}{ρ:En}
theorem VR.sub(r:VR K rl F₀ H₀ F H σ ρ):aZ F H:=r.g.sub
theorem VR.reel(r:VR K rl F₀ H₀ F H σ ρ):Aa rl F H:=r.g.reel
theorem VR.grow(r:VR K rl F₀ H₀ F H σ ρ)(g:Grow rl F H F' H'):VR K rl F₀ H₀ F' H' σ ρ :=
 ⟨r.g.trans g,fun i w e=>let ⟨v,e1,e2,e3⟩:=r.sl i w e;⟨v,e1,e2.grow g,e3⟩,r.ap,r.np,r.len⟩
theorem VR.set(r:VR K rl F₀ H₀ F H σ ρ){H1 F1:Hp}(g:Grow rl F H F1 H1){w:W}(rw':cQ K rl F1 H1 v w)(hn:d3 H v w)(hp:∀xs,w ≠ .pk xs)(i:Nat):VR K rl F₀ H₀ F1 H1 (σ.set i (some v)) (ρ.set i (some w)):=by
 have r1:=r.grow g;refine⟨r1.g,fun j w' e=>?_,fun j k xs ys u hjk e1 e2 w1 w2 s1 s2=>?_,fun j xs z=>?_,by simp[r.len]⟩
 · by_cases hj:i=j
   · subst hj
     have hi:i<ρ.length:=by
      rw[BD]at e;by_cases hi:i<ρ.length
      · exact hi
      · simp[hi]at e
     rw[A9 hi]at e;cases e;refine⟨v,by rw[A9 (by rw[<- r.len];exact hi)],rw',?_⟩
     cases w with
     | ml xs=>exact fun a ea=>r.g.freeB (hn a ea)
     | d x=>trivial
     | pk xs=>trivial
     | reel=>trivial
     | vv u=>trivial
     | md xs=>exact fun a ea=>r.g.freeB (hn a ea)
     | mk xs=>exact fun a ea=>r.g.freeB (hn a ea)
     | xm xs=>exact fun a ea=>r.g.freeB (hn a ea)
     | nt ds=>trivial
     | lk=>trivial
     | sc _=>trivial
     | fd _=>trivial
     | xr _=>trivial
     | fw _=>trivial
     | ft _=>trivial
     | xc _ _=>trivial
     | dp _ _=>trivial
   · rw[A6 hj]at e;obtain⟨u,h1,h2,h3⟩:=r1.sl j w' e;exact⟨u,by rw[A6 hj];exact h1,h2,h3⟩
 · have key:∀(k:Nat)(x y:W),ρ[k]?=some (some y)->some (some w)=some (some x)->x.own=true->y.own=true->σ[k]?=some (some v)->False:=fun k x y d2 e1 o1 o2 s2=>by
     cases e1;obtain⟨u',h1,h2,h3⟩:=r.sl k _ d2;rw[s2]at h1;cases h1;obtain⟨a,o,ea,hh⟩:=h2.live o2;rw[hn.none o1 ea]at hh;cases hh
   by_cases hj:i=j
   · subst hj;have hk:i≠k:=hjk
     have hi:i<ρ.length:=by
      rw[BD]at e1;by_cases hi:i<ρ.length
      · exact hi
      · simp[hi]at e1
     rw[A9 hi]at e1;rw[A6 hk]at e2 s2;rw[A9 (by rw[<- r.len];exact hi)]at s1;cases s1;exact key k xs ys e2 e1 w1 w2 s2
   · by_cases hk:i=k
     · subst hk
       have hi:i<ρ.length:=by
        rw[BD]at e2;by_cases hi:i<ρ.length
        · exact hi
        · simp[hi]at e2
       rw[A9 hi]at e2;rw[A6 hj]at e1 s1;rw[A9 (by rw[<- r.len];exact hi)]at s2;cases s2;exact key j ys xs e1 e2 w2 w1 s1
     · rw[A6 hj]at e1 s1;rw[A6 hk]at e2 s2;exact r.ap j k xs ys u hjk e1 e2 w1 w2 s1 s2
 · rw[BD]at z;split at z
   · split at z
     · exact hp xs (Bn (Bn z))
     · cases z
   · exact r.np j xs z
theorem VR.freeze(r:VR K rl F₀ H₀ F H σ ρ){i:Nat}{xs:List AN}(e:ρ[i]?=some (some (.ml xs))):∃F1,VR K rl F₀ H₀ F1 H σ (ρ.set i (some (.d (.list xs)))):=by
 obtain⟨v,h1,h2,h3⟩:=r.sl i _ e;obtain⟨a,vs,rfl,f,hr,hh,q⟩:=(show d6 K rl F H v xs from h2);have hi:i<ρ.length:=(A2.mp e).1;have neF:∀b u,F b=some u->b≠a:=fun b u q z=>by subst z;rw[f]at q;cases q
 have fsm:aZ F (upd F a (.lst vs)):=fun b u z=>by rw[upd_ne (neF b u z)];exact z
 refine⟨upd F a (.lst vs),r.g.freeze (h3 a rfl) hh f hr,fun j w e1=>?_,fun j k ys zs u hjk e1 e2 w1 w2 s1 s2=>?_,fun j ys z=>?_,by simp[r.len]⟩
 · by_cases hj:i=j
   · subst hj;rw[A9 hi]at e1;cases e1;exact⟨.ref a,h1,.lst ak (q.mono fsm),trivial⟩
   · rw[A6 hj]at e1;obtain⟨u,g1,g2,g3⟩:=r.sl j w e1;refine⟨u,g1,?_,g3⟩
     have own:∀ys,(∀zs,w = .ml zs->ys=zs)->d6 K rl F H u ys->(∃b,u = .ref b/\b≠a)->d6 K rl (upd F a (.lst vs)) H u ys:=fun ys _ ⟨b,us,eb,f1,f2,f3,f4⟩ ⟨b',eb',ne⟩=>by
      rw[eb]at eb';cases eb';exact⟨b,us,eb,by rw[upd_ne ne];exact f1,f2,f3,f4.mono fsm⟩
     cases w with
     | d x=>exact Rep.mono fsm g2
     | reel=>exact g2
     | vv u=>exact g2
     | ml ys =>
       obtain⟨b,us,eb,f1,f2,f3,f4⟩:=(show d6 K rl F H u ys from g2);have ne:b≠a:=fun z=>r.ap i j _ _ (.ref a) hj e e1 rfl rfl h1 (by rw[g1,eb,z])
       exact⟨b,us,eb,by rw[upd_ne ne];exact f1,f2,f3,f4.mono fsm⟩
     | pk ys=>exact absurd e1 (r.np j ys)
     | md ys =>
       obtain⟨b,us,eb,f1,f2,f3,f4⟩:=(show oS K rl F H u ys from g2);have ne:b≠a:=fun z=>r.ap i j _ _ (.ref a) hj e e1 rfl rfl h1 (by rw[g1,eb,z])
       exact⟨b,us,eb,by rw[upd_ne ne];exact f1,f2,f3,BC.mapP f4 fun _ _ z=>⟨z.1,z.2.mono fsm⟩⟩
     | mk ys =>
       obtain⟨b,us,eb,f1,f2,f3,f4⟩:=(show oR K rl F H u ys from g2);have ne:b≠a:=fun z=>r.ap i j _ _ (.ref a) hj e e1 rfl rfl h1 (by rw[g1,eb,z])
       exact⟨b,us,eb,by rw[upd_ne ne];exact f1,f2,f3,BC.mapP f4 fun _ _ z=>⟨z.1,z.2.mono fsm⟩⟩
     | xm ys =>
       obtain⟨b,us,eb,f1,f2,f3,f4⟩:=(show jI K rl F H u ys from g2);have ne:b≠a:=fun z=>r.ap i j _ _ (.ref a) hj e e1 rfl rfl h1 (by rw[g1,eb,z])
       exact⟨b,us,eb,by rw[upd_ne ne];exact f1,f2,f3,KX.mono f4 fsm⟩
     | nt ds=>obtain⟨b,us,eb,f1,f2⟩:=g2;exact⟨b,us,eb,fsm _ _ f1,f2.mono fsm⟩
     | lk=>trivial
     | sc ns=>obtain⟨b,eb,f1⟩:=g2;exact⟨b,eb,kf fsm f1⟩
     | fd kvs=>obtain⟨b,us,eb,f1,f2⟩:=g2;exact⟨b,us,eb,fsm _ _ f1,BC.mapP f2 fun _ _ z=>⟨z.1,z.2.mono fsm⟩⟩
     | xr kvs=>obtain⟨b,us,eb,f1,f2⟩:=g2;exact⟨b,us,eb,fsm _ _ f1,KX.mono f2 fsm⟩
     | fw kvs=>obtain⟨b,us,o,eb,f1,f2⟩:=g2;exact⟨b,us,o,eb,fsm _ _ f1,BC.mapP f2 fun _ _ z=>⟨z.1,z.2.mono fsm⟩⟩
     | ft kvs=>obtain⟨b,us,o,eb,f1,f2⟩:=g2;exact⟨b,us,o,eb,fsm _ _ f1,BC.mapP f2 fun _ _ z=>⟨z.1,z.2.mono fsm⟩⟩
     | xc _ _=>obtain⟨b,dx,us,C,eb,n,f1,f3,f2⟩:=g2;exact⟨b,dx,us,C,eb,n,fsm _ _ f1,fsm _ _ f3,BC.mapP f2 fun _ _ z=>⟨z.1,z.2.mono fsm⟩⟩
     | dp _ _=>obtain⟨c,b,us,u,o,eb,f1,f3,f2,z⟩:=g2;exact⟨c,b,us,u,o,eb,fsm _ _ f1,fsm _ _ f3,BC.mapP f2 fun _ _ z=>⟨z.1,z.2.mono fsm⟩,z.mono fsm⟩
 · have nd:∀(j:Nat)(y:W),(ρ.set i (some (W.d (.list xs))))[j]?=some (some y)->y.own=true->ρ[j]?=some (some y):=fun j y z o=>by
     by_cases hj:i=j
     · subst hj;rw[A9 hi]at z;cases z;cases o
     · rw[A6 hj]at z;exact z
   exact r.ap j k ys zs u hjk (nd j ys e1 w1) (nd k zs e2 w2) w1 w2 s1 s2
 · rw[BD]at z;split at z
   · first|cases z|(split at z<;>cases z)
   · exact r.np j ys z
end
abbrev TV:=En->(W->Prop)->Prop
abbrev TB:=En->(Bool->Prop)->Prop
abbrev zQ:=En->(List W->Prop)->Prop
abbrev dB(K:W.Frag)(rl:Option Addr)(F H:Hp):List V->List W->Prop:=BC (cQ K rl F H)
noncomputable def PV(X:Cx)(rl:Option Addr)(e:Expr)(f:TV):Prop:=∃t,PE X e t/\∀{F₀ H₀ F H:Hp}{σ:St}{ρ:En},VR X.K rl F₀ H₀ F H σ ρ->∀(Qd:W->Prop)(Q:VK),f ρ Qd ->
 (∀v w F' H',Grow rl F H F' H'->cQ X.K rl F' H' v w->d3 H v w->Qd w->Q v H')->t σ H Q
noncomputable def PB(X:Cx)(rl:Option Addr)(e:Expr)(f:TB):Prop:=∃t,PT X e t/\∀{F₀ H₀ F H:Hp}{σ:St}{ρ:En},VR X.K rl F₀ H₀ F H σ ρ->∀(Qd:Bool->Prop)(Q:Bool->Hp->Prop),f ρ Qd ->
 (∀b F' H',Grow rl F H F' H'->Qd b->Q b H')->t σ H Q
noncomputable def Ad(X:Cx)(rl:Option Addr)(es:List Expr)(f:zQ):Prop:=∃t,PA X es t/\∀{F₀ H₀ F H:Hp}{σ:St}{ρ:En},VR X.K rl F₀ H₀ F H σ ρ->∀(Qd:List W->Prop)(Q:List V->Hp->Prop),f ρ Qd ->
 (∀vs ws F' H',Grow rl F H F' H'->dB X.K rl F' H' vs ws->Qd ws->Q vs H')->t σ H Q
noncomputable def W.fz:W->W
 | .ml xs=>.d (.list xs)
 | .nt ds=>.d (.tuple ds)
 | w=>w
theorem cQ.fz{K:W.Frag}{F1 H1:Hp}{w:W}(g:Grow rl F H F1 H1)(r:cQ K rl F1 H1 v w)(n:d3 H v w):∃F2,Grow rl F H F2 H1/\aZ F1 F2/\cQ K rl F2 H1 v w.fz:=by
 cases w with
 | d x=>exact⟨F1,g,.refl _,r⟩
 | pk xs=>exact⟨F1,g,.refl _,r⟩
 | reel=>exact⟨F1,g,.refl _,r⟩
 | vv u=>exact⟨F1,g,.refl _,r⟩
 | md u=>exact⟨F1,g,.refl _,r⟩
 | mk u=>exact⟨F1,g,.refl _,r⟩
 | xm u=>exact⟨F1,g,.refl _,r⟩
 | lk=>exact⟨F1,g,.refl _,r⟩
 | sc _=>exact⟨F1,g,.refl _,r⟩
 | fd _=>exact⟨F1,g,.refl _,r⟩
 | xr _=>exact⟨F1,g,.refl _,r⟩
 | fw _=>exact⟨F1,g,.refl _,r⟩
 | ft _=>exact⟨F1,g,.refl _,r⟩
 | xc _ _=>exact⟨F1,g,.refl _,r⟩
 | dp _ _=>exact⟨F1,g,.refl _,r⟩
 | nt ds=>obtain⟨a,vs,rfl,h,q⟩:=r;exact⟨F1,g,.refl _,.tup (.inl (.inl h)) q⟩
 | ml xs =>
   obtain⟨a,vs,rfl,f,hr,hh,q⟩:=(show d6 K rl F1 H1 v xs from r);have neF:∀b u,F1 b=some u->b≠a:=fun b u q z=>by subst z;rw[f]at q;cases q
   have fsm:aZ F1 (upd F1 a (.lst vs)):=fun b u z=>by rw[upd_ne (neF b u z)];exact z
   exact⟨upd F1 a (.lst vs),g.freeze (n a rfl) hh f hr,fsm,.lst ak (q.mono fsm)⟩
section
variable{X:Cx}{rl:Option Addr}{a b e:Expr}{es:List Expr}{fa fb fc:TV}{fs:zQ}{pos p:Pos}
noncomputable def vC(x:AN):TV:=fun _ Q=>Q (.d x)
theorem fj{x:AN}(h:PE X e (tC v))(r:∀F,Rep X.K F v x):PV X rl e (vC x) :=
 ⟨_,h,fun R Qd Q q k=>k v (.d x) _ _ (Grow.refl R.sub R.reel) (r _) trivial q⟩
theorem ac{i:Int}{j pos}:PV X rl (.Constant (.int i) j pos) (vC (.int i)):=fj aq fun _=>.int i
theorem dN{i:Bool}{j pos}:PV X rl (.Constant (.bool i) j pos) (vC (.bool i)):=fj u7 fun _=>.bl i
theorem pQ{u:AR}{pos:Pos}(hm:X.mg x=some u)(r:RelV v u)(h:∀F,Rep X.K F v d)(hg:autoParam (Gl X x) æa._auto_1)(hd:autoParam ((x==("__debug__" : Str))=false) æb._auto_1):PV X rl (.Name x pos) (vC d) :=
 fj (p6 hg hm r hd) h
noncomputable def dt(i:Nat):TV:=fun ρ Q=>∃w,ρ[i]?=some (some w)/\Q w.peek
theorem vn(i:Nat){pos:Pos}(hN:autoParam (X.N[i]?=some x) æa._auto_1)(hv:autoParam (zN X.env.scope x) æd._auto_1)(hd:autoParam ((x==("__debug__" : Str))=false) æb._auto_1)
 (hcd:autoParam ((x==("__classdict__" : Str))=false) æb._auto_1):PV X rl (.Name x pos) (dt i) :=
 ⟨_,eG hN hv hd hcd,fun R Qd Q ⟨w,e,q⟩ k=>by
  obtain⟨v,e1,r,_⟩:=R.sl i w e;refine⟨v,e1,k v w.peek _ _ (Grow.refl R.sub R.reel) r.peek ?_ q⟩
  cases w<;>trivial⟩
noncomputable def jW:zQ:=fun _ Q=>Q []
noncomputable def aD(f:TV)(fs:zQ):zQ:=fun ρ Q=>f ρ fun w=>fs ρ fun ws=>Q (w.fz::ws)
theorem ab:Ad X rl [] jW:=⟨_,cH,fun R Qd Q q k=>k [] [] _ _ (Grow.refl R.sub R.reel) .nil q⟩
theorem aa(h1:PV X rl e fa)(h2:Ad X rl es fs)(hs:autoParam (AW (e::es) X.env=(false,eval e X.env)::AW es X.env) æa._auto_1):Ad X rl (e::es) (aD fa fs):=by
 obtain⟨t,p1,k1⟩:=h1;obtain⟨ts,p2,k2⟩:=h2;refine⟨_,bu p1 p2 hs,fun R Qd Q q k=>?_⟩;refine k1 R _ _ q fun v w F1 H1 g1 r1 n1 q1=>?_;obtain⟨F2,g2,s2,r2⟩:=cQ.fz g1 r1 n1;refine k2 (R.grow g2) _ _ q1 fun vs ws F3 H3 g3 r3 q3=>?_;exact k (v::vs) (w.fz::ws) F3 H3 (g2.trans g3) (.cons (r2.grow g3) r3) q3
noncomputable def zO(X:Cx)(rl:Option Addr)(r:R2)(g:W->W->(W->Prop)->Prop):Prop:=∀{F H:Hp}{x y:V}{wx wy:W}(Qd:W->Prop)(Q:VK),aZ F H->Aa rl F H->cQ X.K rl F H x wx->cQ X.K rl F H y wy->g wx wy Qd ->
 (∀v w F' H',Grow rl F H F' H'->cQ X.K rl F' H' v w->d3 H v w->Qd w->Q v H')->r x y H Q
noncomputable def yl(g:W->W->(W->Prop)->Prop)(fa fb:TV):TV:=fun ρ Q=>fa ρ fun x=>fb ρ fun y=>g x y Q
theorem jN{r:R2}{g:W->W->(W->Prop)->Prop}(vo:zO X rl r g)(ha:PV X rl a fa)(hb:PV X rl b fb){e:Expr}(hp:∀ta tb,PE X a ta->PE X b tb->PE X e (yC r ta tb)):PV X rl e (yl g fa fb):=by
 obtain⟨ta,p1,k1⟩:=ha;obtain⟨tb,p2,k2⟩:=hb;refine⟨_,hp ta tb p1 p2,fun R Qd Q q k=>?_⟩;refine k1 R _ _ q fun v w F1 H1 g1 r1 n1 q1=>?_;refine k2 (R.grow g1) _ _ q1 fun v2 w2 F2 H2 g2 r2 n2 q2=>?_
 exact vo Qd Q g2.sub g2.reel (r1.grow g2) r2 q2 fun v3 w3 F3 H3 g3 r3 n3 q3=>k v3 w3 F3 H3 ((g1.trans g2).trans g3) r3 (by
  cases w3 with
  | ml xs=>exact fun a ea=>g1.freeB (g2.freeB (n3 a ea))
  | md xs=>exact fun a ea=>g1.freeB (g2.freeB (n3 a ea))
  | mk xs=>exact fun a ea=>g1.freeB (g2.freeB (n3 a ea))
  | xm xs=>exact fun a ea=>g1.freeB (g2.freeB (n3 a ea))
  | nt _=>trivial
  | lk=>trivial
  | sc _=>trivial
  | fd _=>trivial
  | xr _=>trivial
  | fw _=>trivial
  | ft _=>trivial
  | xc _ _=>trivial
  | dp _ _=>trivial
  | d _=>trivial
  | pk _=>trivial
  | reel=>trivial
  | vv _=>trivial) q3
theorem gn{op:Gu}{r:R2}{g:W->W->(W->Prop)->Prop}(ho:Ao X (Dp op) r)(vo:zO X rl r g)(ha:PV X rl a fa)(hb:PV X rl b fb):PV X rl (.BinOp a op b pos) (yl g fa fb) :=
 jN vo ha hb fun _ _ p1 p2=>ca ho p1 p2
noncomputable def gI(C:Int->Int->Prop)(g:Int->Int->AN):W->W->(W->Prop)->Prop:=fun x y Q=>∃i j,x = .d (.int i)/\y = .d (.int j)/\C i j/\Q (.d (g i j))
theorem aF{K:W.Frag}{i:Int}(h:Rep K F v (.int i)):v = .int i:=by cases h;rfl
theorem eQ{C:Int->Int->Prop}{g:Int->Int->V}{gd:Int->Int->AN}(h:∀K F i j,Rep K F (g i j) (gd i j)):zO X rl (rI C g) (gI C gd):=fun{F H x y wx wy} Qd Q s ra r1 r2 q k=>by
 obtain⟨i,j,rfl,rfl,c,q⟩:=q;exact⟨i,j,aF r1,aF r2,c,k _ (.d _) _ _ (Grow.refl s ra) (h _ _ i j) trivial q⟩
noncomputable def zA(g:Int->Int->AN):W->W->(W->Prop)->Prop:=fun x y Q=>∃i j,x = .d (.int i)/\y = .d (.int j)/\Q (.d (g i j))
theorem dC{g:Int->Int->V}{gd:Int->Int->AN}(h:∀K F i j,Rep K F (g i j) (gd i j)):zO X rl (yS g) (zA gd):=fun{F H x y wx wy} Qd Q s ra r1 r2 q k=>by
 obtain⟨i,j,rfl,rfl,q⟩:=q;exact⟨i,j,aF r1,aF r2,k _ (.d _) _ _ (Grow.refl s ra) (h _ _ i j) trivial q⟩
theorem v_add(ha:PV X rl a fa)(hb:PV X rl b fb):PV X rl (.BinOp a .Add b pos) (yl (zA fun i j=>.int (i+j)) fa fb):=gn eJ (dC fun _ _ _ _=>.int _) ha hb
theorem v_sub(ha:PV X rl a fa)(hb:PV X rl b fb):PV X rl (.BinOp a .Sub b pos) (yl (zA fun i j=>.int (i-j)) fa fb):=gn sN (dC fun _ _ _ _=>.int _) ha hb
noncomputable def AK(i:Int):Prop:=i.natAbs<2^60000
theorem AK.bits{i:Int}(h:AK i):Builtin.Int.intBits i<=60000:=FN.mpr h
noncomputable def bp(i j:Int):Prop:=i.natAbs<2^64\/j.natAbs<2^64\/(AK i/\AK j)
theorem bp.lt{i j:Int}(h:i.natAbs<2^64):bp i j:=.inl h
theorem bp.rt{i j:Int}(h:j.natAbs<2^64):bp i j:=.inr (.inl h)
theorem bp.bb{i j:Int}(h:AK i)(h':AK j):bp i j:=.inr (.inr ⟨h,h'⟩)
theorem bp.ok{i j:Int}(h:bp i j):IntMulOk i j:=by
 rcases h with h|h|h
 · exact .of_left (FN.mpr h)
 · exact .of_right (FN.mpr h)
 · exact IntMulOk.of_le h.1.bits h.2.bits (by decide)
theorem dR:Ao X (Dp .Mult) (rI bp fun i j=>.int (i*j)):=yY fun _ _ _ _ _ _ _ hc q=>mul_int q hc.ok
theorem v_mul(ha:PV X rl a fa)(hb:PV X rl b fb):PV X rl (.BinOp a .Mult b pos) (yl (gI bp fun i j=>.int (i*j)) fa fb):=gn dR (eQ fun _ _ _ _=>.int _) ha hb
noncomputable def io(_ j:Int):Prop:=j≠0/\j.natAbs<2^9000
theorem iV:Ao X (Dp .FloorDiv) (rI io fun i j=>.int (i.fdiv j)):=yY fun _ j _ _ _ _ _ hc q=>floordiv_int hc.1 q (.inl (PyProof.noPylong_of_log2 ((Nat.log2_lt (by have:=hc.1;omega)).mpr hc.2)))
theorem v_div(ha:PV X rl a fa)(hb:PV X rl b fb):PV X rl (.BinOp a .FloorDiv b pos) (yl (gI io fun i j=>.int (i.fdiv j)) fa fb):=gn iV (eQ fun _ _ _ _=>.int _) ha hb
theorem v_mod(ha:PV X rl a fa)(hb:PV X rl b fb):PV X rl (.BinOp a .Mod b pos) (yl (gI (fun _ j=>j≠0) fun i j=>.int (i.fmod j)) fa fb):=gn cr (eQ fun _ _ _ _=>.int _) ha hb
theorem v_pow(ha:PV X rl a fa)(hb:PV X rl b fb):PV X rl (.BinOp a .Pow b pos) (yl (gI uq fun i j=>.int (i^j.toNat)) fa fb):=gn oA (eQ fun _ _ _ _=>.int _) ha hb
noncomputable def uG(fa:TV):TV:=fun ρ Q=>fa ρ fun x=>∃i,x = .d (.int i)/\Q (.d (.int (-i)))
theorem uy(ha:PV X rl a fa):PV X rl (.UnaryOp .USub a pos) (uG fa):=by
 obtain⟨ta,p1,k1⟩:=ha;refine⟨_,sG oh p1,fun R Qd Q q k=>k1 R _ _ q fun v w F1 H1 g1 r1 n1 ⟨i,ew,q1⟩=>?_⟩;subst ew;exact⟨i,aF r1,k _ (.d _) F1 H1 g1 (.int _) trivial q1⟩
theorem l9{op:CmpOp}{r:R2}{g:W->W->(W->Prop)->Prop}(ho:Ao X (C9 op) r)(vo:zO X rl r g)(hm:DA op b=false)(ha:PV X rl a fa)(hb:PV X rl b fb):PV X rl (.Compare a [op] [b] pos) (yl g fa fb) :=
 jN vo ha hb fun _ _ p1 p2=>p7 ho p1 p2 hm
noncomputable def jV(f:TV):TB:=fun ρ Q=>f ρ fun w=>∃k,w = .d (.bool k)/\Q k
theorem kw{K:W.Frag}{i:Bool}(h:Rep K F v (.bool i)):v = .bl i:=by cases h;rfl
theorem cE{op:CmpOp}{r:R2}{g:W->W->(W->Prop)->Prop}(ho:Ao X (C9 op) r)(vo:zO X rl r g)(hm:DA op b=false)(ha:PV X rl a fa)(hb:PV X rl b fb):PB X rl (.Compare a [op] [b] pos) (jV (yl g fa fb)):=by
 obtain⟨ta,p1,k1⟩:=ha;obtain⟨tb,p2,k2⟩:=hb;refine⟨_,c8 ho p1 p2 hm,fun R Qd Q q k=>?_⟩;refine k1 R _ _ q fun v w F1 H1 g1 r1 n1 q1=>?_;refine k2 (R.grow g1) _ _ q1 fun v2 w2 F2 H2 g2 r2 n2 q2=>?_;refine vo _ _ g2.sub g2.reel (r1.grow g2) r2 q2 fun v3 w3 F3 H3 g3 r3 n3 ⟨kb,ew,q3⟩=>?_;subst ew;exact⟨kb,kw r3,k kb F3 H3 ((g1.trans g2).trans g3) q3⟩
theorem fV(ha:PV X rl e fa)(he:autoParam (∀whole,isTrue e X.env whole=(do let v <- whole;standAt e.pos;Gg [v] (truthy v))) æc._auto_1):PB X rl e (jV fa):=by
 obtain⟨ta,p1,k1⟩:=ha;refine⟨_,sr p1 he,fun R Qd Q q k=>k1 R _ _ q fun v w F1 H1 g1 r1 n1 ⟨kb,ew,q1⟩=>?_⟩;subst ew;exact⟨kb,kw r1,k kb F1 H1 g1 q1⟩
abbrev wX(p:Int->Int->Bool):=zA fun i j=>.bool (p i j)
theorem l4:zO X rl (yS fun i j=>.bl (decide (i<j))) (wX fun i j=>decide (i<j)):=dC fun _ _ _ _=>.bl _
theorem o6:zO X rl (yS fun i j=>.bl (decide (j<i))) (wX fun i j=>decide (j<i)):=dC fun _ _ _ _=>.bl _
noncomputable def u3(K:W.Frag)(neg:Bool):R2:=fun x y H Q=>∃dx dy,Rep K H x dx/\Rep K H y dy/\Cq dx=true/\Cq dy=true/\Q (.bl (if neg then !CC dx dy else CC dx dy)) H
theorem kW(hu:X.A.units+64<F_):Ao X (C9 .Eq) (u3 X.K false):=by
 intro pins s σ H x y v u Q I rx ry ⟨dx,dy,h1,h2,s1,s2,q⟩;obtain⟨as,a1⟩:=Rep.reads I (.refl H) h1 v rx;obtain⟨bs,a2⟩:=Rep.reads I (.refl H) h2 u ry;exact SeqAt.compareEq_shaped a1 a2 s1 s2 hu ⟨.bl _,H,I,rfl,q⟩
theorem sO(hu:X.A.units+64<F_):Ao X (C9 .NotEq) (u3 X.K true):=by
 intro pins s σ H x y v u Q I rx ry ⟨dx,dy,h1,h2,s1,s2,q⟩;obtain⟨as,a1⟩:=Rep.reads I (.refl H) h1 v rx;obtain⟨bs,a2⟩:=Rep.reads I (.refl H) h2 u ry;exact SeqAt.compareNe_shaped a1 a2 s1 s2 hu ⟨.bl _,H,I,rfl,q⟩
noncomputable def vw(neg:Bool):W->W->(W->Prop)->Prop:=fun x y Q=>∃dx dy,x.dat=some dx/\y.dat=some dy/\Cq dx=true/\Cq dy=true/\Q (.d (.bool (if neg then !CC dx dy else CC dx dy)))
theorem iA{neg:Bool}:zO X rl (u3 X.K neg) (vw neg):=fun{F H x y wx wy} Qd Q s ra r1 r2 q k=>by
 obtain⟨dx,dy,e1,e2,s1,s2,q⟩:=q;exact⟨dx,dy,r1.dat s e1,r2.dat s e2,s1,s2,k _ (.d _) _ _ (Grow.refl s ra) (.bl _) trivial q⟩
noncomputable def uZ(K:W.Frag)(neg:Bool):R2:=fun x y H Q=>∃dx ys,Rep K H x dx/\(Rep K H y (.list ys)\/Rep K H y (.tuple ys))/\Cq dx=true/\Dh ys=true/\Q (.bl (if neg then !(ys.any fun z=>CC z dx)else ys.any fun z=>CC z dx)) H
theorem fG{ys:List AN}(hu:A.units+65<F_)(h:Cq d=true):A.units+1+min (AN.depthAll ys) d.depth<F_:=by
 have h1:=SeqAt.depth_of_shaped h;have h2:min (AN.depthAll ys) d.depth<=d.depth:=Nat.min_le_right _ _;omega
theorem oB(hu:X.A.units+65<F_):Ao X (C9 .In) (uZ X.K false):=by
 intro pins s σ H x y v u Q I rx ry ⟨dx,ys,h1,h2,s1,s2,q⟩;obtain⟨as,a1⟩:=Rep.reads I (.refl H) h1 v rx;rcases h2 with h2|h2
 · obtain⟨bs,a2⟩:=Rep.reads I (.refl H) h2 u ry;exact SeqAt.in_list_reads a2 a1 s2 (C7 s1) (fG hu s1) ⟨.bl _,H,I,rfl,q⟩
 · obtain⟨bs,a2⟩:=Rep.reads I (.refl H) h2 u ry;exact SeqAt.in_tuple_reads a2 a1 s2 (C7 s1) (fG hu s1) ⟨.bl _,H,I,rfl,q⟩
theorem kR(hu:X.A.units+65<F_):Ao X (C9 .NotIn) (uZ X.K true):=by
 intro pins s σ H x y v u Q I rx ry ⟨dx,ys,h1,h2,s1,s2,q⟩;obtain⟨as,a1⟩:=Rep.reads I (.refl H) h1 v rx;rcases h2 with h2|h2
 · obtain⟨bs,a2⟩:=Rep.reads I (.refl H) h2 u ry;exact SeqAt.notIn_list_reads a2 a1 s2 (C7 s1) (fG hu s1) ⟨.bl _,H,I,rfl,q⟩
 · obtain⟨bs,a2⟩:=Rep.reads I (.refl H) h2 u ry;exact SeqAt.notIn_tuple_reads a2 a1 s2 (C7 s1) (fG hu s1) ⟨.bl _,H,I,rfl,q⟩
noncomputable def vt(neg:Bool):W->W->(W->Prop)->Prop:=fun x y Q=>∃dx ys,x.dat=some dx/\(y.dat=some (.list ys)\/y.dat=some (.tuple ys))/\Cq dx=true/\Dh ys=true/\Q (.d (.bool (if neg then !(ys.any fun z=>CC z dx)else ys.any fun z=>CC z dx)))
theorem jO{neg:Bool}:zO X rl (uZ X.K neg) (vt neg):=fun{F H x y wx wy} Qd Q s ra r1 r2 q k=>by
 obtain⟨dx,ys,e1,e2,s1,s2,q⟩:=q;exact⟨dx,ys,r1.dat s e1,e2.imp (fun e=>r2.dat s e) (fun e=>r2.dat s e),s1,s2,k _ (.d _) _ _ (Grow.refl s ra) (.bl _) trivial q⟩
noncomputable def uN(f g:TB):TB:=fun ρ Q=>f ρ fun b=>if b=true then g ρ Q else Q false
noncomputable def yk(f g:TB):TB:=fun ρ Q=>f ρ fun b=>if b=true then Q true else g ρ Q
noncomputable def wC(f:TB):TB:=fun ρ Q=>f ρ fun b=>Q (!b)
noncomputable def An(X:Cx)(rl:Option Addr)(e:Expr)(f:TB):Prop:=∃t,PW X e t/\∀{F₀ H₀ F H:Hp}{σ:St}{ρ:En},VR X.K rl F₀ H₀ F H σ ρ->∀(Qd:Bool->Prop)(Q:Bool->Hp->Prop),f ρ Qd ->
 (∀b F' H',Grow rl F H F' H'->Qd b->Q b H')->t σ H Q
variable{f g:TB}{rest:List Expr}
theorem An.pb(h:An X rl e f):PB X rl e f:=let ⟨t,p,k⟩:=h;⟨t,p.pt,k⟩
theorem pc(ha:PB X rl a f):An X rl (.BoolOp .And [a] pos) f:=let ⟨t,p,k⟩:=ha;⟨t,kE p,k⟩
theorem rm(ha:PB X rl a f):An X rl (.BoolOp .Or [a] pos) f:=let ⟨t,p,k⟩:=ha;⟨t,so p,k⟩
theorem rq(ha:PB X rl a f)(hb:An X rl (.BoolOp .And (b::rest) pos) g):An X rl (.BoolOp .And (a::b::rest) pos) (uN f g):=by
 obtain⟨t,p,k⟩:=ha;obtain⟨t2,p2,k2⟩:=hb;refine⟨_,ot p p2,fun R Qd Q q h=>k R _ _ q fun c F1 H1 g1 q1=>?_⟩
 cases c with
 | true=>exact k2 (R.grow g1) _ _ q1 fun c F2 H2 g2 q2=>h c F2 H2 (g1.trans g2) q2
 | false=>exact h false F1 H1 g1 q1
theorem ux(ha:PB X rl a f)(hb:An X rl (.BoolOp .Or (b::rest) pos) g):An X rl (.BoolOp .Or (a::b::rest) pos) (yk f g):=by
 obtain⟨t,p,k⟩:=ha;obtain⟨t2,p2,k2⟩:=hb;refine⟨_,u6 p p2,fun R Qd Q q h=>k R _ _ q fun c F1 H1 g1 q1=>?_⟩
 cases c with
 | true=>exact h true F1 H1 g1 q1
 | false=>exact k2 (R.grow g1) _ _ q1 fun c F2 H2 g2 q2=>h c F2 H2 (g1.trans g2) q2
theorem rn(ha:PB X rl a f):PB X rl (.UnaryOp .Not a pos) (wC f):=by
 obtain⟨t,p,k⟩:=ha;exact⟨_,su p,fun R Qd Q q h=>k R _ _ q fun c F1 H1 g1 q1=>h (!c) F1 H1 g1 q1⟩
noncomputable def rO(fa fb:TV):TV:=fun ρ Q=>fa ρ fun w=>∃c,w = .d (.bool c)/\if c=true then fb ρ Q else Q (.d (.bool false))
noncomputable def wB(fa fb:TV):TV:=fun ρ Q=>fa ρ fun w=>∃c,w = .d (.bool c)/\if c=true then Q (.d (.bool true))else fb ρ Q
noncomputable def rG(fa:TV):TV:=fun ρ Q=>fa ρ fun w=>∃c,w = .d (.bool c)/\Q (.d (.bool (!c)))
theorem d3.back{rl:Option Addr}{w:W}(g:Grow rl F H F' H')(n:d3 H' v w):d3 H v w:=by
 cases w with
 | ml xs=>exact fun a ea=>g.freeB (n a ea)
 | md xs=>exact fun a ea=>g.freeB (n a ea)
 | mk xs=>exact fun a ea=>g.freeB (n a ea)
 | xm xs=>exact fun a ea=>g.freeB (n a ea)
 | nt _=>trivial
 | lk=>trivial
 | sc _=>trivial
 | fd _=>trivial
 | xr _=>trivial
 | fw _=>trivial
 | ft _=>trivial
 | xc _ _=>trivial
 | dp _ _=>trivial
 | d _=>trivial
 | pk _=>trivial
 | reel=>trivial
 | vv _=>trivial
noncomputable def yn(t:TB)(fa fb:TV):TV:=fun ρ Q=>t ρ fun c=>if c=true then fa ρ Q else fb ρ Q
theorem jS{c:Expr}(hc:PB X rl c f)(ha:PV X rl a fa)(hb:PV X rl b fb):PV X rl (.IfExp c a b pos) (yn f fa fb):=by
 obtain⟨t,p,k⟩:=hc;obtain⟨t1,p1,k1⟩:=ha;obtain⟨t2,p2,k2⟩:=hb;refine⟨_,mL p p1 p2,fun R Qd Q q h=>k R _ _ q fun c F1 H1 g1 q1=>?_⟩
 cases c with
 | true=>exact k1 (R.grow g1) _ _ q1 fun v w F2 H2 g2 r2 n2 q2=>h v w F2 H2 (g1.trans g2) r2 (n2.back g1) q2
 | false=>exact k2 (R.grow g1) _ _ q1 fun v w F2 H2 g2 r2 n2 q2=>h v w F2 H2 (g1.trans g2) r2 (n2.back g1) q2
noncomputable def fM:List W->Option (List AN)
 | []=>some []
 | .d x::r=>(fM r).map (x :: ·)
 | _::_=>none
theorem cC{K:W.Frag}{F H:Hp}:∀{vs:List V}{ws:List W}{ds:List AN},dB K rl F H vs ws->fM ws=some ds->Reps K F vs ds
 | _,_,_,.nil,e=>by cases e;exact .nil
 | _,.d x::ws,ds,.cons r rs,e=>by
   have e:(fM ws).map (x :: ·)=some ds:=e
   cases q:fM ws with
   | none=>rw[q]at e;cases e
   | some es=>rw[q]at e;cases e;exact .cons r (cC rs q)
 | _,.ml x::ws,ds,.cons r rs,e=>by cases(show none=some ds from e)
 | _,.pk x::ws,ds,.cons r rs,e=>by cases(show none=some ds from e)
 | _,.reel::ws,ds,.cons r rs,e=>by cases(show none=some ds from e)
 | _,.vv u::ws,ds,.cons r rs,e=>by cases(show none=some ds from e)
 | _,.md u::ws,ds,.cons r rs,e=>by cases(show none=some ds from e)
 | _,.nt u::ws,ds,.cons r rs,e=>by cases(show none=some ds from e)
 | _,.lk::ws,ds,.cons r rs,e=>by cases(show none=some ds from e)
 | _,.sc _::ws,ds,.cons r rs,e=>by cases(show none=some ds from e)
 | _,.fd _::ws,ds,.cons r rs,e=>by cases(show none=some ds from e)
 | _,.xr _::ws,ds,.cons r rs,e=>by cases(show none=some ds from e)
 | _,.xc _ _::ws,ds,.cons r rs,e=>by cases(show none=some ds from e)
 | _,.mk _::ws,ds,.cons r rs,e=>by cases(show none=some ds from e)
 | _,.xm _::ws,ds,.cons r rs,e=>by cases(show none=some ds from e)
 | _,.fw _::ws,ds,.cons r rs,e=>by cases(show none=some ds from e)
 | _,.ft _::ws,ds,.cons r rs,e=>by cases(show none=some ds from e)
 | _,.dp _ _::ws,ds,.cons r rs,e=>by cases(show none=some ds from e)
noncomputable def uC(fs:zQ):TV:=fun ρ Q=>fs ρ fun ws=>∃ds,fM ws=some ds/\ds.length<=sizeLine/\Q (.d (.tuple ds))
noncomputable def uH(fs:zQ):TV:=fun ρ Q=>fs ρ fun ws=>∃ds,fM ws=some ds/\ds.length<=sizeLine/\Q (.ml ds)
theorem bO{x1}(h:Ad X rl es fs):PV X rl (.Tuple es x1 pos) (uC fs):=by
 obtain⟨t,p,k⟩:=h;refine⟨_,sI p,fun R Qd Q q h=>k R _ _ q fun vs ws F1 H1 g1 r1 ⟨ds,e1,z,q1⟩=>?_⟩;have rs:=cC r1 e1;refine⟨by rw[rs.length];exact z,fun p hp=>?_⟩;have g2:=g1.trans (Grow.data (a:=p) (o:=.tup vs) g1.sub g1.reel hp);exact h _ (.d (.tuple ds)) _ _ g2 (.tup (.inl (.inl ak)) (rs.mono (Grow.data (o:=.tup vs) g1.sub g1.reel hp).fs)) trivial q1
theorem cV{K:W.Frag}{p:Addr}{ds:List AN}(s:aZ F H)(ra:Aa rl F H)(hp:H p=none)(rs:Reps K F vs ds):d6 K rl F (upd H p (.lst vs)) (.ref p) ds:=by
 refine⟨p,vs,rfl,s.free hp,fun e=>?_,ak,rs⟩;obtain⟨o,q⟩:=ra.live e;rw[hp]at q;cases q
theorem bG(h:Ad X rl es fs):PV X rl (.List es pos) (uH fs):=by
 obtain⟨t,p,k⟩:=h;refine⟨_,ox p,fun R Qd Q q h=>k R _ _ q fun vs ws F1 H1 g1 r1 ⟨ds,e1,z,q1⟩=>?_⟩;have rs:=cC r1 e1;refine⟨by rw[rs.length];exact z,fun p hp=>?_⟩;exact h _ (.ml ds) _ _ (g1.trans (Grow.laid (a:=p) (o:=.lst vs) g1.sub g1.reel hp)) (cV g1.sub g1.reel hp rs) (fun a ea=>by cases ea;exact g1.freeB hp) q1
noncomputable def itemAt:AN->Int->Option AN
 | .list xs,i=>atI xs i
 | .tuple xs,i=>atI xs i
 | _,_=>none
theorem Reps.atI{K:W.Frag}{F:Hp}{vs:List V}{ds:List AN}{i:Int}{d:AN}(r:Reps K F vs ds)(e:L2.atI ds i=some d):∃v,L2.atI vs i=some v/\Rep K F v d:=by
 unfold L2.atI at e ⊢;rw[r.length]
 cases q:ixN ds.length i with
 | none=>rw[q]at e;cases e
 | some j =>
   rw[q]at e;exact r.get e
noncomputable def zy:W->W->(W->Prop)->Prop:=fun x y Q=>∃dx i z,x.dat=some dx/\y = .d (.int i)/\itemAt dx i=some z/\Q (.d z)
theorem uu:zO X rl (yR X.K) zy:=fun{F H x y wx wy} Qd Q s ra r1 r2 q k=>by
 obtain⟨dx,i,z,e1,rfl,e3,q⟩:=q;have ey:=aF r2;subst ey
 cases dx with
 | list xs =>
   obtain⟨a,vs,rfl,sq,rs⟩:=r1.items s e1;obtain⟨v,e4,rz⟩:=Reps.atI rs e3
   exact .inl ⟨a,vs,i,v,rfl,rfl,sq,e4,k _ (.d _) _ _ (Grow.refl s ra) rz trivial q⟩
 | tuple xs =>
   obtain⟨a,vs,rfl,sq,rs⟩:=r1.itemsT s e1;obtain⟨v,e4,rz⟩:=Reps.atI rs e3
   exact .inr (.inl ⟨a,vs,i,v,rfl,rfl,sq,e4,k _ (.d _) _ _ (Grow.refl s ra) rz trivial q⟩)
 | none=>cases e3
 | bool b=>cases e3
 | int b=>cases e3
 | str b=>cases e3
 | dict b=>cases e3
theorem cF(ha:PV X rl a fa)(hb:PV X rl b fb)(hs:lP b:=by exact fun _ _=>rfl):PV X rl (.Subscript a b pos) (yl zy fa fb):=jN uu ha hb fun _ _ p1 p2=>bS aV p1 p2 hs
noncomputable def gN(X:Cx)(rl:Option Addr)(r:List V->Hp->VK->Prop)(g:List W->(W->Prop)->Prop):Prop:=∀{F H:Hp}{vs:List V}{ws:List W}(Qd:W->Prop)(Q:VK),aZ F H->Aa rl F H->dB X.K rl F H vs ws->g ws Qd ->
 (∀v w F' H',Grow rl F H F' H'->cQ X.K rl F' H' v w->d3 H v w->Qd w->Q v H')->r vs H Q
noncomputable def d7(g:List W->(W->Prop)->Prop)(fs:zQ):TV:=fun ρ Q=>fs ρ fun ws=>g ws Q
theorem iB{r:List V->Hp->VK->Prop}{g:List W->(W->Prop)->Prop}{t:TA->TE}(vc:gN X rl r g)(ha:Ad X rl es fs){e:Expr}(hp:∀ta,PA X es ta->PE X e (yE r ta)):PV X rl e (d7 g fs):=by
 obtain⟨ta,p1,k1⟩:=ha;refine⟨_,hp ta p1,fun R Qd Q q k=>k1 R _ _ q fun vs ws F1 H1 g1 r1 q1=>?_⟩;exact vc Qd Q g1.sub g1.reel r1 q1 fun v w F2 H2 g2 r2 n2 q2=>k v w F2 H2 (g1.trans g2) r2 (n2.back g1) q2
theorem eW{id:String}{r:List V->Hp->VK->Prop}{g:List W->(W->Prop)->Prop}(hc:d4 X (.builtin id) r)(vc:gN X rl r g)(hm:X.mg x=none)(hv:Du x=some (.builtin id))(ha:Ad X rl (e::es) fs)(hg:autoParam (Gl X x) æa._auto_1)(hn:autoParam (x ≠ "__name__") æb._auto_1)(hdb:autoParam ((x==("__debug__" : Str))=false) æb._auto_1)
 (he:autoParam (AW (e::es) X.env=(false,eval e X.env)::AW es X.env) æa._auto_1)(hpl:autoParam ((Cj pos (AW es X.env)).any (·.1)=false) æa._auto_1):PV X rl (.Call (.Name x p) (e::es) [] pos) (d7 g fs) :=
 iB (t:=fun _=>tC .non) vc ha fun _ p1=>cz hc hg hm hv p1 hn hdb he hpl
theorem iC{T:String}{r:List V->Hp->VK->Prop}{g:List W->(W->Prop)->Prop}(hc:d4 X (.type T) r)(vc:gN X rl r g)(hm:X.mg x=none)(hv:Du x=some (.type T))(ha:Ad X rl (e::es) fs)(hg:autoParam (Gl X x) æa._auto_1)(hn:autoParam (x ≠ "__name__") æb._auto_1)(hdb:autoParam ((x==("__debug__" : Str))=false) æb._auto_1)
 (he:autoParam (AW (e::es) X.env=(false,eval e X.env)::AW es X.env) æa._auto_1)(hpl:autoParam ((Cj pos (AW es X.env)).any (·.1)=false) æa._auto_1):PV X rl (.Call (.Name x p) (e::es) [] pos) (d7 g fs) :=
 iB (t:=fun _=>tC .non) vc ha fun _ p1=>gt hc hg hm hv p1 hn hdb he hpl
theorem pM{K:W.Frag}{w:W}(r:dB K rl F H vs [w]):∃v,vs=[v]/\cQ K rl F H v w:=by
 cases r with
 | cons r1 r2=>cases r2;exact⟨_,rfl,r1⟩
theorem qU{K:W.Frag}{w w':W}(r:dB K rl F H vs [w,w']):∃v u,vs=[v,u]/\cQ K rl F H v w/\cQ K rl F H u w':=by
 cases r with
 | cons r1 r2 =>
   cases r2 with
   | cons r3 r4=>cases r4;exact⟨_,_,rfl,r1,r3⟩
noncomputable def uk:List W->(W->Prop)->Prop:=fun ws Q=>∃i,ws=[.d (.int i)]/\Q (.d (.int (if i<0 then -i else i)))
theorem rj:gN X rl (fun xs H Q=>∃i,xs=[.int i]/\Q (.int (if i<0 then -i else i)) H) uk:=fun{F H vs ws} Qd Q s ra r ⟨i,ew,q⟩ k=>by
 subst ew;obtain⟨v,rfl,r1⟩:=pM r;have e:=aF r1;subst e;exact⟨i,rfl,k _ (.d _) _ _ (Grow.refl s ra) (.int _) trivial q⟩
noncomputable def mW:AN->Option Nat
 | .list xs=>some xs.length
 | .tuple xs=>some xs.length
 | _=>none
noncomputable def uh:List W->(W->Prop)->Prop:=fun ws Q=>∃w d n,ws=[w]/\w.dat=some d/\mW d=some n/\Q (.d (.int n))
theorem rh:gN X rl (fun xs H Q=>∃p ys,xs=[.ref p]/\(zX X.K H p ys\/zW X.K H p ys)/\Q (.int ys.length) H) uh:=fun{F H vs ws} Qd Q s ra r ⟨w,d,n,ew,e1,e2,q⟩ k=>by
 subst ew;obtain⟨v,rfl,r1⟩:=pM r
 cases d with
 | list xs =>
   obtain⟨a,vs,rfl,sq,rs⟩:=r1.items s e1;cases e2
   exact⟨a,vs,rfl,.inl sq,k _ (.d _) _ _ (Grow.refl s ra) (by rw[rs.length];exact .int _) trivial q⟩
 | tuple xs =>
   obtain⟨a,vs,rfl,sq,rs⟩:=r1.itemsT s e1;cases e2
   exact⟨a,vs,rfl,.inr sq,k _ (.d _) _ _ (Grow.refl s ra) (by rw[rs.length];exact .int _) trivial q⟩
 | none=>cases e2
 | bool b=>cases e2
 | int b=>cases e2
 | str b=>cases e2
 | dict b=>cases e2
end
structure VEnds where
 nx:En->Prop
 rt:W->Prop
 bk:En->Prop:=fun _=>False
 ct:En->Prop:=fun _=>False
structure EndsOk (K:W.Frag) (rl:Option Addr) (F₀ H₀ Fs:Hp) (Dv:VEnds) (D:Ends):Prop where
 nx:∀F H σ ρ,aZ Fs F->VR K rl F₀ H₀ F H σ ρ->Dv.nx ρ->D.nx σ H
 rt:∀v w F H,Grow rl F₀ H₀ F H->cQ K rl F H v w->d3 H₀ v w->Dv.rt w->D.rt v H
 bk:∀F H σ ρ,aZ Fs F->VR K rl F₀ H₀ F H σ ρ->Dv.bk ρ->D.bk σ H
 ct:∀F H σ ρ,aZ Fs F->VR K rl F₀ H₀ F H σ ρ->Dv.ct ρ->D.ct σ H
theorem EndsOk.on{K:W.Frag}{Fs:Hp}{Dv:VEnds}{D:Ends}(ok:EndsOk K rl F₀ H₀ Fs Dv D)(s:aZ Fs F):EndsOk K rl F₀ H₀ F Dv D :=
 ⟨fun F1 H σ ρ s1=>ok.nx F1 H σ ρ (s.trans s1),ok.rt,fun F1 H σ ρ s1=>ok.bk F1 H σ ρ (s.trans s1),fun F1 H σ ρ s1=>ok.ct F1 H σ ρ (s.trans s1)⟩
abbrev zR:=VEnds->En->Prop
noncomputable def Ah(X:Cx)(rl:Option Addr)(st:Stmt)(t:zR):Prop:=∃T,PS X st T/\∀{F₀ H₀ F H:Hp}{σ:St}{ρ:En},VR X.K rl F₀ H₀ F H σ ρ->∀Dv D,EndsOk X.K rl F₀ H₀ F Dv D->t Dv ρ->T D σ H
noncomputable def jE(X:Cx)(rl:Option Addr)(st:List Stmt)(t:zR):Prop:=∃T,Ag X st T/\∀{F₀ H₀ F H:Hp}{σ:St}{ρ:En},VR X.K rl F₀ H₀ F H σ ρ->∀Dv D,EndsOk X.K rl F₀ H₀ F Dv D->t Dv ρ->T D σ H
section
variable{X:Cx}{rl:Option Addr}{st:Stmt}{rest body:List Stmt}{t u:zR}{a b c e:Expr}{es:List Expr}{fa fb:TV}{fs:zQ}{f:TB}{pos p:Pos}
noncomputable def rH:zR:=fun D ρ=>D.nx ρ
noncomputable def ww(t u:zR):zR:=fun D ρ=>t {D with nx:=u D} ρ
theorem eA:jE X rl [] rH:=⟨_,fy,fun R Dv D ok q=>ok.nx _ _ _ _ (.refl _) R q⟩
theorem au(h:Ah X rl st t):jE X rl [st] t:=let ⟨T,p,k⟩:=h;⟨T,cO p,k⟩
theorem ah(h:Ah X rl st t)(h2:jE X rl rest u):jE X rl (st::rest) (ww t u):=by
 obtain⟨T,p,k⟩:=h;obtain⟨T2,p2,k2⟩:=h2;exact⟨_,aX p p2,fun R Dv D ok q=>k R {Dv with nx:=u Dv} {D with nx:=T2 D} ⟨fun F H σ ρ s' R' q'=>k2 R' Dv D (ok.on s') q',ok.rt,ok.bk,ok.ct⟩ q⟩
noncomputable def uK(fa:TV):zR:=fun D ρ=>fa ρ fun _=>D.nx ρ
noncomputable def wz(fa:TV):zR:=fun D ρ=>fa ρ D.rt
theorem aO(h:PV X rl e fa):Ah X rl (.Return (some e) pos) (wz fa):=by
 obtain⟨t,p,k⟩:=h;exact⟨_,iP p,fun R Dv D ok q=>k R _ _ q fun v w F1 H1 g1 r1 n1 q1=>ok.rt v w F1 H1 (R.g.trans g1) r1 (n1.back R.g) q1⟩
noncomputable def uE:zR:=fun D _=>D.rt (.d .none)
noncomputable def uI(f:TB)(t u:zR):zR:=fun D ρ=>f ρ fun b=>if b=true then t D ρ else u D ρ
theorem jm{A B:List Stmt}(hc:PB X rl c f)(ha:jE X rl A t)(hb:jE X rl B u):Ah X rl (.If c A B pos) (uI f t u):=by
 obtain⟨t0,p0,k0⟩:=hc;obtain⟨t1,p1,k1⟩:=ha;obtain⟨t2,p2,k2⟩:=hb;refine⟨_,mG p0 p1 p2,fun R Dv D ok q=>k0 R _ _ q fun b F1 H1 g1 q1=>?_⟩
 cases b with
 | true=>exact k1 (R.grow g1) Dv D (ok.on g1.fs) q1
 | false=>exact k2 (R.grow g1) Dv D (ok.on g1.fs) q1
theorem lY:Ah X rl st (fun _ _=>False):=⟨_,mF,fun _ _ _ _ q=>q.elim⟩
noncomputable def W.isPk:W->Bool
 | .pk _=>true
 | _=>false
noncomputable def wv(i:Nat)(fa:TV):zR:=fun D ρ=>fa ρ fun w=>w.isPk=false/\D.nx (ρ.set i (some w))
theorem eh(i:Nat)(hN:X.N.Nodup)(he:PV X rl e fa)(hi:autoParam (X.N[i]?=some x) æa._auto_1)(hx:autoParam (Loc X.env.scope x) æe._auto_1)
 (hs:autoParam (C4 e (some (.Name x pos')) pos.line X.env=pure false) æa._auto_1)(hf:autoParam (X.fn x=true\/X.env.scope.names.lookup x=some .local) æf._auto_1) :
 Ah X rl (.Assign [.Name x pos'] e pos) (wv i fa):=by
 obtain⟨t,p,k⟩:=he;refine⟨_,cT hN hi hx p hs hf,fun R Dv D ok q=>k R _ _ q fun v w F1 H1 g1 r1 n1 ⟨hp,q1⟩=>?_⟩;exact ok.nx _ _ _ _ g1.fs (R.set g1 r1 n1 (fun xs z=>by subst z;cases hp) i) q1
noncomputable def nW(ρ:En):Prop:=∀(i:Nat)(w:W),ρ[i]?=some (some w)->w.own=false
theorem nW.set{ρ:En}(h:nW ρ)(i:Nat)(x:AN):nW (ρ.set i (some (.d x))):=fun j w z=>by
 rw[BD]at z;split at z
 · split at z
   · cases z;rfl
   · cases z
 · exact h j w z
abbrev zU:=AN->En->(En->Prop)->Prop
abbrev jH:=List AN->En->(En->Prop)->Prop
noncomputable def Am(X:Cx)(rl:Option Addr)(tg:Expr)(g:zU):Prop:=∃G,PG X tg G/\∀{F₀ H₀ F H:Hp}{σ:St}{ρ:En},VR X.K rl F₀ H₀ F H σ ρ->∀(v:V)(x:AN)(Qd:En->Prop)(Q:St->Hp->Prop),Rep X.K F v x->g x ρ Qd ->
 (∀F' H' σ' ρ',Grow rl F H F' H'->(nW ρ->nW ρ')->VR X.K rl F₀ H₀ F' H' σ' ρ'->Qd ρ'->Q σ' H')->G v σ H Q
noncomputable def uo(X:Cx)(rl:Option Addr)(tgs:List Expr)(g:jH):Prop:=∃G,Al X tgs G/\∀{F₀ H₀ F H:Hp}{σ:St}{ρ:En},VR X.K rl F₀ H₀ F H σ ρ->∀(vs:List V)(xs:List AN)(Qd:En->Prop)(Q:St->Hp->Prop),Reps X.K F vs xs->g xs ρ Qd ->
 (∀F' H' σ' ρ',Grow rl F H F' H'->(nW ρ->nW ρ')->VR X.K rl F₀ H₀ F' H' σ' ρ'->Qd ρ'->Q σ' H')->G vs σ H Q
noncomputable def qA(i:Nat):zU:=fun x ρ Q=>Q (ρ.set i (some (.d x)))
theorem al(i:Nat)(hN:X.N.Nodup)(hi:autoParam (X.N[i]?=some x) æa._auto_1)(hx:autoParam (Loc X.env.scope x) æe._auto_1)(hf:autoParam (X.fn x=true\/X.env.scope.names.lookup x=some .local) æf._auto_1):Am X rl (.Name x pos) (qA i) :=
 ⟨_,p5 hN hi hx hf,fun R v x Qd Q r q k=>k _ _ _ _ (Grow.refl R.sub R.reel) (fun n=>n.set i x) (R.set (w:=.d x) (Grow.refl R.sub R.reel) r trivial (fun _ z=>by cases z) i) q⟩
noncomputable def vq:jH:=fun xs ρ Q=>xs=[]/\Q ρ
noncomputable def nj(g:zU)(gs:jH):jH:=fun xs ρ Q=>∃y r,xs=y::r/\g y ρ fun ρ'=>gs r ρ' Q
theorem cn:uo X rl [] vq:=⟨_,pZ,fun R vs xs Qd Q r ⟨e,q⟩ k=>by subst e;exact⟨r.nil_iff,k _ _ _ _ (Grow.refl R.sub R.reel) (fun n=>n) R q⟩⟩
theorem aH{g:zU}{gs:jH}(h1:Am X rl e g)(h2:uo X rl es gs)(hs:autoParam ((C5 (e::es) X.env).map (·.2)=FK e X.env::(C5 es X.env).map (·.2)) æa._auto_1):uo X rl (e::es) (nj g gs):=by
 obtain⟨G,p,k⟩:=h1;obtain⟨G2,p2,k2⟩:=h2;refine⟨_,mK p p2 hs,fun R vs xs Qd Q r ⟨y,ys,ex,q⟩ h=>?_⟩;subst ex
 cases r with
 | cons r1 r2 =>
   refine⟨_,_,rfl,k R _ y _ _ r1 q fun F1 H1 σ1 ρ1 s1 n1 R1 q1=>?_⟩;exact k2 R1 _ ys _ _ (r2.mono s1.fs) q1 fun F2 H2 σ2 ρ2 s2 n2 R2 q2=>h F2 H2 σ2 ρ2 (s1.trans s2) (fun n=>n2 (n1 n)) R2 q2
noncomputable def vp(n:Nat)(gs:jH):zU:=fun x ρ Q=>∃xs,x = .tuple xs/\xs.length=n/\gs xs ρ Q
theorem dh{kk:Nat}{gs:jH}(hc:X.calm=true)(h:uo X rl es gs)(hn:autoParam ((C5 es X.env).length=n) æa._auto_1)(hst:autoParam ((C5 es X.env).findIdx? (·.1)=none) æa._auto_1):Am X rl (.Tuple es kk pos) (vp n gs):=by
 obtain⟨G,p,k⟩:=h;refine⟨_,sF hc p hn hst,fun R v x Qd Q r ⟨xs,ex,hl,q⟩ h=>?_⟩;subst ex
 cases r with
 | tup sq rs=>exact⟨_,_,rfl,cL R.sub sq,by rw[rs.length];exact hl,k R _ xs _ _ rs q h⟩
noncomputable def uM(fa:TV)(g:zU):zR:=fun D ρ=>fa ρ fun w=>∃x,w = .d x/\g x ρ D.nx
theorem nZ{g:zU}(he:PV X rl e fa)(hg:Am X rl tg g)(hs:autoParam (EM [tg] e pos.line X.env=pure false) æa._auto_1)(hw:autoParam (EN [tg] e X.env=pure none) æa._auto_1)
 (h1:autoParam ((C5 [tg] X.env).map (·.2)=[FK tg X.env]) æa._auto_1):Ah X rl (.Assign [tg] e pos) (uM fa g):=by
 obtain⟨t,p,k⟩:=he;obtain⟨G,p2,k2⟩:=hg;refine⟨_,gq p p2 hs hw h1,fun R Dv D ok q=>k R _ _ q fun v w F1 H1 g1 r1 n1 ⟨x,ew,q1⟩=>?_⟩;subst ew;exact k2 (R.grow g1) v x _ _ r1 q1 fun F2 H2 σ2 ρ2 s2 n2 R2 q2=>ok.nx _ _ _ _ (g1.fs.trans s2.fs) R2 q2
noncomputable def wA(i j:Nat)(fs:zQ):zR:=fun D ρ=>fs ρ fun ws=>∃x y,fM ws=some [x,y]/\D.nx ((ρ.set i (some (.d x))).set j (some (.d y)))
theorem qZ(i j:Nat){y:Str}{py pt:Pos}{kt k2 pt2}(hc:X.calm=true)(hN:X.N.Nodup)(ha:Ad X rl [a,b] fs)
 (hw:autoParam (EN [.Tuple [.Name x px,.Name y py] kt pt] (.Tuple [a,b] k2 pt2) X.env=pure (some [x,y])) æa._auto_1)(hi:autoParam (X.N[i]?=some x) æa._auto_1)(hj:autoParam (X.N[j]?=some y) æa._auto_1)(hij:autoParam (i≠j) æb._auto_1)
 (hx:autoParam (X.env.scope.names.lookup x=some .local) æa._auto_1)(hy:autoParam (X.env.scope.names.lookup y=some .local) æa._auto_1)
 (hs:autoParam (EM [.Tuple [.Name x px,.Name y py] kt pt] (.Tuple [a,b] k2 pt2) pos.line X.env=pure false) æa._auto_1) :
 Ah X rl (.Assign [.Tuple [.Name x px,.Name y py] kt pt] (.Tuple [a,b] k2 pt2) pos) (wA i j fs):=by
 obtain⟨t,p,k⟩:=ha;refine⟨_,sv hc hN hi hj hij hx hy p hw hs,fun R Dv D ok q=>k R _ _ q fun vs ws F1 H1 g1 r1 ⟨x,y,e1,q1⟩=>?_⟩;have rs:=cC r1 e1
 cases rs with
 | cons rx rs =>
   cases rs with
   | cons ry rs =>
     cases rs;have R1:=(R.grow g1).set (w:=.d x) (Grow.refl g1.sub g1.reel) rx trivial (fun _ z=>by cases z) i;exact⟨_,_,rfl,ok.nx _ _ _ _ g1.fs (R1.set (w:=.d y) (Grow.refl g1.sub g1.reel) ry trivial (fun _ z=>by cases z) j) q1⟩
structure VIt (K:W.Frag) (rl:Option Addr) (F:Hp) (J:It) (xs:List AN):Prop where
 go:∀i H x,xs[i]?=some x->aZ F H->J.go i H
 stop:∀i H,xs.length<=i->aZ F H->J.stop i H
 yld:∀i H v H' x F2,xs[i]?=some x->aZ F F2->aZ F2 H->Aa rl F2 H->J.yld i H v H'->∃F3,Grow rl F2 H F3 H'/\Rep K F3 v x
theorem VIt.of{K:W.Frag}{rl:Option Addr}{J:It}(go:∀i H x,xs[i]?=some x->aZ F H->J.go i H)(stop:∀i H,xs.length<=i->aZ F H->J.stop i H)
 (yld:∀i H v H' x,xs[i]?=some x->aZ F H->J.yld i H v H'->H'=H/\Rep K F v x):VIt K rl F J xs :=
 ⟨go,stop,fun i H v H' x F2 e s s2 ra y=>by
  obtain⟨e1,r⟩:=yld i H v H' x e (s.trans s2) y;subst e1
  exact⟨F2,Grow.refl s2 ra,r.mono s⟩⟩
noncomputable def Aj(X:Cx)(rl:Option Addr)(tg iter:Expr)(fi:En->(List AN->Prop)->Prop):Prop:=∃wi,PI X tg iter wi/\∀{F₀ H₀ F H:Hp}{σ:St}{ρ:En},VR X.K rl F₀ H₀ F H σ ρ->∀(Qd:List AN->Prop)(R:It->Hp->Prop),fi ρ Qd ->
 (∀J xs F' H',Grow rl F H F' H'->VIt X.K rl F' J xs->Qd xs->R J H')->wi σ H R
end
section
variable{X:Cx}{rl:Option Addr}{st:Stmt}{rest body:List Stmt}{t u:zR}{a b c e:Expr}{es:List Expr}{fa fb:TV}{fs:zQ}{f:TB}{pos p:Pos}{tg:Expr}
noncomputable def uJ(i:Nat)(t:zR):zR:=fun D ρ=>∃xs,ρ[i]?=some (some (.ml xs))/\t D (ρ.set i (some (.d (.list xs))))
theorem nE{K:W.Frag}{ρ:En}(r:VR K rl F₀ H₀ F H σ ρ)(e:ρ[i]?=some (some (.ml xs))):∃F1,aZ F F1/\VR K rl F₀ H₀ F1 H σ (ρ.set i (some (.d (.list xs)))):=by
 obtain⟨v,h1,h2,h3⟩:=r.sl i _ e;obtain⟨a,vs,ev,f,hr,hh,q⟩:=(show d6 K rl F H v xs from h2);obtain⟨F1,R1⟩:=r.freeze e;obtain⟨v',k1,k2,k3⟩:=R1.sl i _ (A9 (A2.mp e).1);have neF:∀b u,F b=some u->b≠a:=fun b u q z=>by subst z;rw[f]at q;cases q
 have fsm:aZ F (upd F a (.lst vs)):=fun b u z=>by rw[upd_ne (neF b u z)];exact z
 have hi:i<ρ.length:=(A2.mp e).1;refine⟨upd F a (.lst vs),fsm,r.g.freeze (h3 a ev) hh f hr,fun j w e1=>?_,R1.ap,R1.np,R1.len⟩;by_cases hj:i=j
 · subst hj;rw[A9 hi]at e1;cases e1;exact⟨v,h1,by rw[ev];exact .lst ak (q.mono fsm),trivial⟩
 · rw[A6 hj]at e1;obtain⟨u,g1,g2,g3⟩:=r.sl j w e1;refine⟨u,g1,?_,g3⟩
   cases w with
   | d x=>exact Rep.mono fsm g2
   | reel=>exact g2
   | vv u=>exact g2
   | ml ys =>
     obtain⟨b,us,eb,f1,f2,f3,f4⟩:=(show d6 K rl F H u ys from g2);have ne:b≠a:=fun z=>r.ap i j _ _ v hj e e1 rfl rfl h1 (by rw[g1,eb,z,ev])
     exact⟨b,us,eb,by rw[upd_ne ne];exact f1,f2,f3,f4.mono fsm⟩
   | pk ys=>exact absurd e1 (r.np j ys)
   | md ys =>
     obtain⟨b,us,eb,f1,f2,f3,f4⟩:=(show oS K rl F H u ys from g2);have ne:b≠a:=fun z=>r.ap i j _ _ v hj e e1 rfl rfl h1 (by rw[g1,eb,z,ev])
     exact⟨b,us,eb,by rw[upd_ne ne];exact f1,f2,f3,BC.mapP f4 fun _ _ z=>⟨z.1,z.2.mono fsm⟩⟩
   | mk ys =>
     obtain⟨b,us,eb,f1,f2,f3,f4⟩:=(show oR K rl F H u ys from g2);have ne:b≠a:=fun z=>r.ap i j _ _ v hj e e1 rfl rfl h1 (by rw[g1,eb,z,ev])
     exact⟨b,us,eb,by rw[upd_ne ne];exact f1,f2,f3,BC.mapP f4 fun _ _ z=>⟨z.1,z.2.mono fsm⟩⟩
   | xm ys =>
     obtain⟨b,us,eb,f1,f2,f3,f4⟩:=(show jI K rl F H u ys from g2);have ne:b≠a:=fun z=>r.ap i j _ _ v hj e e1 rfl rfl h1 (by rw[g1,eb,z,ev])
     exact⟨b,us,eb,by rw[upd_ne ne];exact f1,f2,f3,KX.mono f4 fsm⟩
   | nt ds=>obtain⟨b,us,eb,f1,f2⟩:=g2;exact⟨b,us,eb,fsm _ _ f1,f2.mono fsm⟩
   | lk=>trivial
   | sc ns=>obtain⟨b,eb,f1⟩:=g2;exact⟨b,eb,kf fsm f1⟩
   | fd kvs=>obtain⟨b,us,eb,f1,f2⟩:=g2;exact⟨b,us,eb,fsm _ _ f1,BC.mapP f2 fun _ _ z=>⟨z.1,z.2.mono fsm⟩⟩
   | xr kvs=>obtain⟨b,us,eb,f1,f2⟩:=g2;exact⟨b,us,eb,fsm _ _ f1,KX.mono f2 fsm⟩
   | fw kvs=>obtain⟨b,us,o,eb,f1,f2⟩:=g2;exact⟨b,us,o,eb,fsm _ _ f1,BC.mapP f2 fun _ _ z=>⟨z.1,z.2.mono fsm⟩⟩
   | ft kvs=>obtain⟨b,us,o,eb,f1,f2⟩:=g2;exact⟨b,us,o,eb,fsm _ _ f1,BC.mapP f2 fun _ _ z=>⟨z.1,z.2.mono fsm⟩⟩
   | xc _ _=>obtain⟨b,dx,us,C,eb,n,f1,f3,f2⟩:=g2;exact⟨b,dx,us,C,eb,n,fsm _ _ f1,fsm _ _ f3,BC.mapP f2 fun _ _ z=>⟨z.1,z.2.mono fsm⟩⟩
   | dp _ _=>obtain⟨c,b,us,u,o,eb,f1,f3,f2,z⟩:=g2;exact⟨c,b,us,u,o,eb,fsm _ _ f1,fsm _ _ f3,BC.mapP f2 fun _ _ z=>⟨z.1,z.2.mono fsm⟩,z.mono fsm⟩
theorem jL(i:Nat)(h:Ah X rl st t):Ah X rl st (uJ i t):=by
 obtain⟨T,p,k⟩:=h;refine⟨T,p,fun R Dv D ok ⟨xs,e,q⟩=>?_⟩;obtain⟨F1,s1,R1⟩:=nE R e;exact k R1 Dv D (ok.on s1) q
noncomputable def iL(fa:TV):En->(List AN->Prop)->Prop:=fun ρ Q=>fa ρ fun w=>∃xs,w.fz = .d (.list xs)/\Q xs
noncomputable def iT(fa:TV):En->(List AN->Prop)->Prop:=fun ρ Q=>fa ρ fun w=>∃xs,w.fz = .d (.tuple xs)/\Q xs
theorem cJ{l:Expr}(hl:PV X rl l fa):Aj X rl tg l (iL fa):=by
 obtain⟨t,p,k⟩:=hl;refine⟨_,pY p,fun R Qd Q q h=>k R _ _ q fun v w F1 H1 g1 r1 n1 ⟨xs,ew,q1⟩=>?_⟩;obtain⟨F2,g2,s2,r2⟩:=cQ.fz g1 r1 n1;rw[ew]at r2
 cases(show Rep X.K F2 v (.list xs)from r2)with
 | @lst a vs _ sq rs =>
   have sqH:∀H,aZ F2 H->zX X.K H a vs:=fun H s=>.inl (.inl (s _ _ sq));refine⟨a,rfl,⟨vs,sqH H1 g2.sub⟩,h _ xs F2 H1 g2 (.of (fun i H x e s=>?_) (fun i H hl s=>⟨vs,sqH H s,by rw[rs.length];exact hl⟩) (fun i H v H' x e s y=>?_)) q1⟩
   · obtain⟨v,ev,_⟩:=rs.get e;exact⟨vs,v,sqH H s,ev⟩
   · obtain⟨e',hy⟩:=y;obtain⟨v',ev,rv⟩:=rs.get e;have:=hy vs (sqH H s);rw[ev]at this;cases this;exact⟨e',rv⟩
theorem dI{l:Expr}(hl:PV X rl l fa):Aj X rl tg l (iT fa):=by
 obtain⟨t,p,k⟩:=hl;refine⟨_,sC p,fun R Qd Q q h=>k R _ _ q fun v w F1 H1 g1 r1 n1 ⟨xs,ew,q1⟩=>?_⟩;obtain⟨F2,g2,s2,r2⟩:=cQ.fz g1 r1 n1;rw[ew]at r2
 cases(show Rep X.K F2 v (.tuple xs)from r2)with
 | @tup a vs _ sq rs =>
   have sqH:∀H,aZ F2 H->zW X.K H a vs:=fun H s=>cL s sq;refine⟨a,rfl,⟨vs,sqH H1 g2.sub⟩,h _ xs F2 H1 g2 (.of (fun i H x e s=>?_) (fun i H hl s=>⟨vs,sqH H s,by rw[rs.length];exact hl⟩) (fun i H v H' x e s y=>?_)) q1⟩
   · obtain⟨v,ev,_⟩:=rs.get e;exact⟨vs,v,sqH H s,ev⟩
   · obtain⟨e',hy⟩:=y;obtain⟨v',ev,rv⟩:=rs.get e;have:=hy vs (sqH H s);rw[ev]at this;cases this;exact⟨e',rv⟩
noncomputable def aA(lo:Int)(n:Nat):List AN:=(Bq n).map fun(i:Nat)=>.int (lo+i)
theorem eF{lo:Int}{x:AN}(h:(aA lo n)[i]?=some x):i<n/\x = .int (lo+i):=by
 unfold aA at h;rw[Bp]at h;by_cases hi:i<n
 · rw[A5 (by simpa using hi)]at h;simp at h;exact⟨hi,h.symm⟩
 · rw[Fb (by simpa using hi)]at h;cases h
theorem b_{lo:Int}:(aA lo n).length=n:=by simp[aA]
theorem fT{K:W.Frag}(lo:Int)(n:Nat):VIt K rl F (Az lo n) (aA lo n) :=
 .of (fun i H x e s=>(eF e).1) (fun i H hl s=>by rw[b_]at hl;exact hl) (fun i H v H' x e s y=>by
  obtain⟨e1,e2⟩:=y;subst e2;rw[(eF e).2]
  exact⟨e1,.int _⟩)
noncomputable def zt(fs:zQ):En->(List AN->Prop)->Prop:=fun ρ Q=>fs ρ fun ws=>∃j:Int,ws=[.d (.int j)]/\(-(2^62)<=j/\j<2^62)/\Q (aA 0 j.toNat)
noncomputable def zr(fs:zQ):En->(List AN->Prop)->Prop:=fun ρ Q=>fs ρ fun ws=>∃i j:Int,ws=[.d (.int i),.d (.int j)]/\(-(2^62)<=i/\i<2^62 /\ -(2^62)<=j/\j<2^62)/\Q (aA i (j-i).toNat)
theorem bF(hm:X.mg "range" = none)(ha:Ad X rl [a] fs)(hg:autoParam (Gl X "range") æa._auto_1)(hs:autoParam (AW [a] X.env=[(false,eval a X.env)]) æa._auto_1):Aj X rl tg (.Call (.Name "range" p) [a] [] pos) (zt fs):=by
 obtain⟨t,p1,k⟩:=ha;refine⟨_,kO hg hm p1 hs,fun R Qd Q q h=>k R _ _ q fun vs ws F1 H1 g1 r1 ⟨j,ew,b,q1⟩=>?_⟩;subst ew;obtain⟨v,rfl,rv⟩:=pM r1;have e:=aF rv;subst e;exact⟨j,rfl,b.1,b.2,h _ _ F1 H1 g1 (fT 0 _) q1⟩
theorem jP(hm:X.mg "range" = none)(ha:Ad X rl [a,b] fs)(hg:autoParam (Gl X "range") æa._auto_1)(hs:autoParam (AW [a,b] X.env=[(false,eval a X.env),(false,eval b X.env)]) æa._auto_1)(hs2:autoParam (AW [b] X.env=[(false,eval b X.env)]) æa._auto_1):Aj X rl tg (.Call (.Name "range" p) [a,b] [] pos) (zr fs):=by
 obtain⟨t,p1,k⟩:=ha;refine⟨_,kM hg hm p1 hs hs2,fun R Qd Q q h=>k R _ _ q fun vs ws F1 H1 g1 r1 ⟨i,j,ew,b,q1⟩=>?_⟩;subst ew;obtain⟨v,u,rfl,rv,ru⟩:=qU r1;have e:=aF rv;have e':=aF ru;subst e e';exact⟨i,j,rfl,b,h _ _ F1 H1 g1 (fT i _) q1⟩
theorem VR.own{K:W.Frag}{F₀ H₀ F H:Hp}{σ:St}{ρ:En}(r:VR K rl F₀ H₀ F H σ ρ){i:Nat}{xs ys:List AN}{a:Addr}{us:List V}(e:ρ[i]?=some (some (.ml xs)))(es:σ[i]?=some (some (.ref a)))(rs:Reps K F us ys) :
 VR K rl F₀ H₀ F (upd H a (.lst us)) σ (ρ.set i (some (.ml ys))):=by
 obtain⟨v,h1,h2,h3⟩:=r.sl i _ e;rw[es]at h1;cases h1;obtain⟨a',vs,ev,f,hr,hh,q⟩:=(show d6 K rl F H (.ref a) xs from h2);cases ev;have n0:H₀ a=none:=h3 a rfl;have hi:i<ρ.length:=(A2.mp e).1;have neF:∀b u,F b=some u->b≠a:=fun b u q z=>by subst z;rw[f]at q;cases q
 have g:Grow rl F₀ H₀ F (upd H a (.lst us)):=by
  refine⟨fun b o q1 n=>by rw[upd_ne (ay q1 n0)];exact r.g.same b o q1 n,r.g.fs,fun b o q1=>by rw[upd_ne (neF b o q1)];exact r.sub b o q1,r.g.old,fun y z=>?_⟩;obtain⟨z1,⟨u,h1,h2⟩⟩:=r.reel y z;exact⟨z1,⟨u,by rw[upd_ne (fun q=>hr (by rw[<- q];exact z))];exact h1,h2⟩⟩
 refine⟨g,fun j w e1=>?_,fun j k ys' zs u hjk e1 e2 w1 w2 s1 s2=>?_,fun j ys' z=>?_,by simp[r.len]⟩
 · by_cases hj:i=j
   · subst hj;rw[A9 hi]at e1;cases e1;exact⟨_,es,⟨a,us,rfl,f,hr,ak,rs⟩,h3⟩
   · rw[A6 hj]at e1;obtain⟨u,g1,g2,g3⟩:=r.sl j w e1;refine⟨u,g1,?_,g3⟩
     cases w with
     | d x=>exact g2
     | reel=>exact g2
     | vv u=>exact g2
     | ml zs =>
       obtain⟨b,us',eb,f1,f2,f3,f4⟩:=(show d6 K rl F H u zs from g2);have ne:b≠a:=fun z=>r.ap i j _ _ (.ref a) hj e e1 rfl rfl es (by rw[g1,eb,z])
       exact⟨b,us',eb,f1,f2,by rw[upd_ne ne];exact f3,f4⟩
     | pk zs=>exact absurd e1 (r.np j zs)
     | md zs =>
       obtain⟨b,us',eb,f1,f2,f3,f4⟩:=(show oS K rl F H u zs from g2);have ne:b≠a:=fun z=>r.ap i j _ _ (.ref a) hj e e1 rfl rfl es (by rw[g1,eb,z])
       exact⟨b,us',eb,f1,f2,by rw[upd_ne ne];exact f3,f4⟩
     | mk zs =>
       obtain⟨b,us',eb,f1,f2,f3,f4⟩:=(show oR K rl F H u zs from g2);have ne:b≠a:=fun z=>r.ap i j _ _ (.ref a) hj e e1 rfl rfl es (by rw[g1,eb,z])
       exact⟨b,us',eb,f1,f2,by rw[upd_ne ne];exact f3,f4⟩
     | xm zs =>
       obtain⟨b,us',eb,f1,f2,f3,f4⟩:=(show jI K rl F H u zs from g2);have ne:b≠a:=fun z=>r.ap i j _ _ (.ref a) hj e e1 rfl rfl es (by rw[g1,eb,z])
       exact⟨b,us',eb,f1,f2,by rw[upd_ne ne];exact f3,f4⟩
     | nt ds=>exact g2
     | lk=>trivial
     | sc _=>exact g2
     | fd _=>exact g2
     | xr _=>exact g2
     | fw _=>exact g2
     | ft _=>exact g2
     | xc _ _=>exact g2
     | dp _ _=>exact g2
 · have nd:∀(j:Nat)(z:W),(ρ.set i (some (W.ml ys)))[j]?=some (some z)->z.own=true->∃z',ρ[j]?=some (some z')/\z'.own=true:=fun j zs z o=>by
     by_cases hj:i=j
     · subst hj;exact⟨_,e,rfl⟩
     · rw[A6 hj]at z;exact⟨zs,z,o⟩
   obtain⟨_,d1,o1⟩:=nd j _ e1 w1;obtain⟨_,d2,o2⟩:=nd k _ e2 w2;exact r.ap j k _ _ u hjk d1 d2 o1 o2 s1 s2
 · rw[BD]at z;split at z
   · first|cases z|(split at z<;>cases z)
   · exact r.np j ys' z
noncomputable def vI(K:W.Frag)(rl:Option Addr)(r:V->List V->Hp->VK->Prop)(g:List AN->List W->(List AN->Prop)->Prop):Prop :=
 ∀ {F H:Hp}{a:Addr}{vs args:List V}{xs:List AN}{ws:List W}(Qn:List AN->Prop)(Q:VK),aZ F H->H a=some (.lst vs)->Reps K F vs xs->dB K rl F H args ws->g xs ws Qn ->
   (∀us ys,Reps K F us ys->Qn ys->Q .non (upd H a (.lst us)))->r (.ref a) args H Q
noncomputable def rK(i:Nat)(g:List AN->List W->(List AN->Prop)->Prop)(fs:zQ):zR:=fun D ρ=>∃xs,ρ[i]?=some (some (.ml xs))/\fs ρ fun ws=>g xs ws fun ys=>D.nx (ρ.set i (some (.ml ys)))
theorem nY(i:Nat){nm:Str}{id:String}{r:V->List V->Hp->VK->Prop}{g:List AN->List W->(List AN->Prop)->Prop}{apos cpos:Pos}(slot:Slot "list" nm id)(hty:typeOf (.builtin id)=pure (.type "method_descriptor"))(hm:Aq X id r)(vm:vI X.K rl r g)(ha:Ad X rl (e::es) fs)
 (hN:autoParam (X.N[i]?=some x) æa._auto_1)(hv:autoParam (zN X.env.scope x) æd._auto_1)
 (hd:autoParam ((x==("__debug__" : Str))=false) æb._auto_1)(hcd:autoParam ((x==("__classdict__" : Str))=false) æb._auto_1)
 (hbase:autoParam (C0 (.Name x px) nm X.env (eval (.Name x px) X.env)=eval (.Name x px) X.env) æa._auto_1)
 (hfew:autoParam (((Cj cpos (AW (e::es) X.env)).all (fun x=>!x.1)&&(EQ cpos (Ds [] X.env)).all (fun x=>x.1.isSome)
  && decide ((e::es).length+([]:List Dl).length+(if([]:List Dl).isEmpty then 0 else 1)<30))=true) æa._auto_1)
 (hline:autoParam ((apos.endLine==cpos.line)=true) æa._auto_1)(hs:autoParam (AW (e::es) X.env=(false,eval e X.env)::AW es X.env) æa._auto_1)(hplain:autoParam ((Cj cpos (AW es X.env)).any (·.1)=false) æa._auto_1)
 (hsw:autoParam (C4 (.Call (.Attribute (.Name x px) nm apos) (e::es) [] cpos) none pos.line X.env=pure false) æa._auto_1) :
 Ah X rl (.Expr (.Call (.Attribute (.Name x px) nm apos) (e::es) [] cpos) pos) (rK i g fs):=by
 obtain⟨t,p1,k⟩:=ha;refine⟨_,kJ (p8 DF slot hty hm (eG hN hv hd hcd) p1 hbase hfew hline hs hplain) hsw,fun{F₀ H₀ F H σ ρ} R Dv D ok ⟨xs,e1,q⟩=>?_⟩;obtain⟨v,h1,h2,h3⟩:=R.sl i _ e1;obtain⟨a,vs,rfl,f,hr,hh,rs⟩:=(show d6 X.K rl F H v xs from h2);refine⟨.ref a,h1,.inl ⟨rfl,vs,.inl (.inl hh)⟩,k R _ _ q fun args ws F1 H1 g1 r1 q1=>?_⟩;refine vm _ _ g1.sub (g1.same a _ hh hr) (rs.mono g1.fs) r1 q1 fun us ys r2 q2=>?_;exact ok.nx _ _ _ _ g1.fs ((R.grow g1).own e1 h1 r2) q2
noncomputable def uj:List AN->List W->(List AN->Prop)->Prop:=fun xs ws Q=>∃x,fM ws=some [x]/\xs.length<sizeLine/\Q (xs++[x])
theorem re{K:W.Frag}:vI K rl kD uj:=fun{F H a vs args xs ws} Qn Q s ha rs ra ⟨x,e,z,q⟩ k=>by
 have r2:=cC ra e
 cases r2 with
 | cons rx r3 =>
   cases r3;exact⟨a,vs,_,rfl,rfl,ha,by rw[rs.length];exact z,k _ _ (rs.snoc rx) q⟩
noncomputable def ui:List AN->List W->(List AN->Prop)->Prop:=fun xs ws Q=>∃ys,fM ws=some [.list ys]/\xs.length+ys.length<=sizeLine/\Q (xs++ys)
theorem rd{K:W.Frag}:vI K rl kC ui:=fun{F H a vs args xs ws} Qn Q s ha rs ra ⟨ys,e,z,q⟩ k=>by
 have r2:=cC ra e
 cases r2 with
 | cons rx r3 =>
   cases r3
   cases rx with
   | lst hb ry=>exact⟨a,_,vs,_,rfl,rfl,ha,s _ _ hb,by rw[rs.length,ry.length];exact z,k _ _ (rs.append ry) q⟩
theorem n6(i:Nat){apos cpos:Pos}(ha:Ad X rl [e] fs)(hN:autoParam (X.N[i]?=some x) æa._auto_1)(hv:autoParam (zN X.env.scope x) æd._auto_1)
 (hd:autoParam ((x==("__debug__" : Str))=false) æb._auto_1)(hcd:autoParam ((x==("__classdict__" : Str))=false) æb._auto_1)
 (hbase:autoParam (C0 (.Name x px) "append" X.env (eval (.Name x px) X.env)=eval (.Name x px) X.env) æa._auto_1)
 (hfew:autoParam (((Cj cpos (AW [e] X.env)).all (fun x=>!x.1)&&(EQ cpos (Ds [] X.env)).all (fun x=>x.1.isSome)
  && decide (([e]).length+([]:List Dl).length+(if([]:List Dl).isEmpty then 0 else 1)<30))=true) æa._auto_1)
 (hline:autoParam ((apos.endLine==cpos.line)=true) æa._auto_1)(hs:autoParam (AW [e] X.env=(false,eval e X.env)::AW [] X.env) æa._auto_1)(hplain:autoParam ((Cj cpos (AW [] X.env)).any (·.1)=false) æa._auto_1)
 (hsw:autoParam (C4 (.Call (.Attribute (.Name x px) "append" apos) [e] [] cpos) none pos.line X.env=pure false) æa._auto_1) :
 Ah X rl (.Expr (.Call (.Attribute (.Name x px) "append" apos) [e] [] cpos) pos) (rK i uj fs) :=
 nY i EC ED dS re ha hN hv hd hcd hbase hfew hline hs hplain hsw
noncomputable def dg:W->Bool
 | .ml _=>false
 | .md _=>false
 | .mk _=>false
 | .xm _=>false
 | .pk _=>false
 | _=>true
noncomputable def yh(K:W.Frag)(rl:Option Addr)(P:List W->(AN->Prop)->Prop):Sp:=fun vs H Q _=>∃F ws,aZ F H/\Aa rl F H/\dB K rl F H vs ws/\ws.all dg=true/\P ws fun d=>∀v F' H',Grow rl F H F' H'->Rep K F' v d->Q v H'
noncomputable def cG(N:List Str)(ws:List W):En:=ws.map some++C6 (N.length-ws.length) none
theorem gm{K:W.Frag}{F H:Hp}:∀{vs:List V}{ws:List W}{i:Nat}{w:W},dB K rl F H vs ws->ws[i]?=some w->∃v,vs[i]?=some v/\cQ K rl F H v w
 | _,_,_,_,.nil,e=>by simp at e
 | _,_,0,_,.cons h _,e=>by simp at e;subst e;exact⟨_,rfl,h⟩
 | _,_,i+1,w,.cons _ r,e=>by
   obtain⟨v,h1,h2⟩:=gm (i:=i) (w:=w) r (by simpa using e);exact⟨v,by simpa using h1,h2⟩
theorem fZ{N:List Str}{ws:List W}{w:W}(h:(cG N ws)[i]?=some (some w)):ws[i]?=some w:=by
 unfold cG at h;by_cases hi:i<ws.length
 · rw[Dn (by simpa using hi),Bp]at h
   cases q:ws[i]? with
   | none=>rw[q]at h;cases h
   | some x=>rw[q]at h;cases h;rfl
 · rw[Em (by simpa using hi),EO]at h;split at h<;>cases h
theorem iy{K:W.Frag}{N:List Str}{ws:List W}(s:aZ F H)(ra:Aa rl F H)(r:dB K rl F H vs ws)(ok:ws.all dg=true):VR K rl F H F H (start N vs) (cG N ws):=by
 have hl:vs.length=ws.length:=De r;have no:∀(i:Nat) w,(cG N ws)[i]?=some (some w)->dg w=true:=fun i w e=>(Ct.mp ok) w (D9 (fZ e));refine⟨Grow.refl s ra,fun i w e=>?_,fun i j xs ys v _ e1 _ o _ _ _=>(by have:=no i _ e1;cases xs<;>first|exact Bool.noConfusion o|exact Bool.noConfusion this),fun i xs e=>(by have:=no i _ e;cases this),?_⟩
 · obtain⟨v,h1,h2⟩:=gm r (fZ e);refine⟨v,?_,h2,?_⟩
   · unfold start;rw[Dn (by simpa using(A2.mp h1).1),Bp,h1];rfl
   · have:=no i w e
     cases w with
     | ml xs=>cases this
     | md xs=>cases this
     | mk xs=>cases this
     | xm xs=>cases this
     | nt _=>trivial
     | lk=>trivial
     | sc _=>trivial
     | fd _=>trivial
     | xr _=>trivial
     | fw _=>trivial
     | ft _=>trivial
     | xc _ _=>trivial
     | dp _ _=>trivial
     | d _=>trivial
     | pk _=>trivial
     | reel=>trivial
     | vv _=>trivial
 · unfold cG start;simp[hl]
noncomputable def l_(Q:AN->Prop):VEnds:=⟨fun _=>Q .none,fun w=>∃d,w.fz = .d d/\Q d,fun _=>False,fun _=>False⟩
theorem yi{w:BM}{K:W.Frag}{base:Heap}{st:Stmt}{fa:Addr}{N:List Str}{Pd:List W->(AN->Prop)->Prop}{t:zR}
 (Fn:Fun K x qual st fa fd)(S:FnScope N ps (defScope st))(len:∀ws Q,Pd ws Q->ws.length=ps.length)
 (hbody:∀(cdv:AR)(A:BJ)(outer:List Env)(s:AS)(H:Hp)(E:XK),Room k (A.deeper (EY qual (defScope st) s.heap.objs.size fa cdv)) ->
  jE (lV AI P w K mg base N qual (defScope st) fa cdv A outer s H E).nox rl (defBody st) t)
 (hread:∀ws Q,Pd ws Q->t (l_ Q) (cG N ws)):FnOk P w K mg base AI (k+1) fa fd ps (yh K rl Pd):=by
 refine Fn.ok S (fun vs H Q E ⟨F,ws,_,_,r,_,q⟩=>(De r).trans (len ws _ q)) fun cdv A outer s H vs Q E hr h=>?_;obtain⟨F,ws,sm,ra,r,ok,q⟩:=h;obtain⟨T,p,kk⟩:=hbody cdv A outer s H E hr;refine⟨T,p,kk (iy sm ra r ok) (l_ _) _ ⟨?_,?_,fun _ _ _ _ _ _ z=>Cr z,fun _ _ _ _ _ _ z=>Cr z⟩ (hread ws _ q)⟩
 · intro F1 H1 σ1 ρ1 _ R1 q1;exact q1 .non F1 H1 R1.g .non
 · rintro v w1 F1 H1 g1 r1 n1 ⟨d,ed,q1⟩;obtain⟨F2,g2,s2,r2⟩:=cQ.fz g1 r1 n1;rw[ed]at r2;exact q1 v F2 H1 g2 r2
structure Dfn (P:Bd) (w:BM) (K:W.Frag) (mg:Str->Option AR) (base:Heap) (rl:Option Addr) (x:Str) (ps:List Str) (k:Nat) (Pd:List W->(AN->Prop)->Prop):Prop where
 mono:∀ws Q Q',(∀d,Q d->Q' d)->Pd ws Q->Pd ws Q'
 ex:∃f fd,mg x=some (.ref f)/\W.keepIn K (.ref f)=true/\Binds K fd ps []/\FnOk P w K mg base AI k f fd ps (yh K rl Pd)
noncomputable def uB(Pd:List W->(AN->Prop)->Prop)(fs:zQ):TV:=fun ρ Q=>fs ρ fun ws=>ws.all dg=true/\Pd ws fun d=>Q (.d d)
theorem am{Pd:List W->(AN->Prop)->Prop}(D:Dfn X.prog X.w X.K X.mg X.base rl x ps k Pd)(hr:Room k X.A)(ha:Ad X rl (e::es) fs)(hg:autoParam (Gl X x) æa._auto_1)
 (hdb:autoParam ((x==("__debug__" : Str))=false) æb._auto_1)(he:autoParam (AW (e::es) X.env=(false,eval e X.env)::AW es X.env) æa._auto_1)(hpl:autoParam ((Cj pos (AW es X.env)).any (·.1)=false) æa._auto_1) :
 PV X rl (.Call (.Name x p) (e::es) [] pos) (uB Pd fs):=by
 obtain⟨f,fd,hm,hk,hb,F⟩:=D.ex;obtain⟨t,p1,kk⟩:=ha;refine⟨_,kP F hr hg hm hk hb .nil sK p1 hdb he hpl,fun R Qd Q q h=>kk R _ _ q fun vs ws F1 H1 g1 r1 ⟨ok,q1⟩=>?_⟩;refine⟨F1,ws,g1.sub,g1.reel,by rw[Co];exact r1,ok,?_⟩;exact D.mono ws _ _ (fun d qd v F2 H2 g2 r2=>h v (.d d) F2 H2 (g1.trans g2) r2 trivial qd) q1
end
end L2.VL
variable{w:L2.VL.W}{ρ:L2.VL.En}
namespace L2
theorem de{env:Env}:∀(names:List (Str×DC))(acc:List (Str×Addr)),(∀x∈names,x.2 = .free->∃c,env.cells.lookup x.1=some c)->(∀x c,acc.lookup x=some c->env.cells.lookup x=some c) ->
 ∃ cl,(forIn names acc (fun(x:Str×DC)(cs:List (Str×Addr))=>if(x.2==BN)=true then do let c <- cellOf env x.1;pure (Da ((x.1,c)::cs))else pure (Da cs)):Sem (List (Str×Addr)))=pure cl /\
   (∀x c,cl.lookup x=some c->env.cells.lookup x=some c)/\(∀x,(acc.lookup x).isSome=true->(cl.lookup x).isSome=true)/\∀x,(x,BN)∈names->(cl.lookup x).isSome=true
 | [],acc,_,h2=>⟨acc,rfl,h2,fun _ z=>z,fun _ z=>nomatch z⟩
 | (n,k)::r,acc,h1,h2=>by
   by_cases hk:k = .free
   · subst hk;obtain⟨c,hc⟩:=h1 (n,.free) AZ rfl
     have h2':∀x c',((n,c)::acc).lookup x=some c'->env.cells.lookup x=some c':=fun x c' z=>by
      rw[BO]at z
      cases e:x==n with
      | true =>
        rw[e]at z;have e':x=n:=by simpa using e
        cases z;rw[e']
        exact hc
      | false =>
        rw[e]at z;exact h2 x c' z
     obtain⟨cl,e,g1,g2,g3⟩:=de r ((n,c)::acc) (fun x hx=>h1 x (AU _ hx)) h2';refine⟨cl,?_,g1,fun x z=>g2 x ?_,fun x z=>?_⟩
     · rw[DG];simp only[beq_self_eq_true,if_true];have e0:cellOf env n=pure c:=by unfold cellOf;rw[hc]
       rw[e0,pure_bind,pure_bind];exact e
     · rw[BO];split
       · rfl
       · exact z
     · rcases Bo.mp z with z|z
       · cases z;refine g2 _ ?_;rw[BO];simp
       · exact g3 x z
   · obtain⟨cl,e,g1,g2,g3⟩:=de r acc (fun x hx=>h1 x (AU _ hx)) h2;refine⟨cl,?_,g1,g2,fun x z=>?_⟩
     · rw[DG];have hb:(k==BN)=false:=by simpa using hk
       simp only[hb,DH,if_false];rw[pure_bind];exact e
     · rcases Bo.mp z with z|z
       · cases z;exact absurd rfl hk
       · exact g3 x z
theorem dY{env:Env}(h:∀x∈scope.names,x.2 = .free->∃c,env.cells.lookup x.1=some c) :
 ∃cl,closureFor scope env=pure cl/\(∀x c,cl.lookup x=some c->env.cells.lookup x=some c)/\∀x,(x,BN)∈scope.names->(cl.lookup x).isSome=true:=by
 obtain⟨cl,e,g1,_,g3⟩:=de scope.names [] h (fun _ _ z=>by cases z);refine⟨cl,?_,g1,g3⟩;unfold closureFor
 first
  | exact e
  | (simp only[bind_pure];exact e)
theorem gk{env:Env}(h:(relabel scope env).names.lookup x=some .cell\/(relabel scope env).names.lookup x=some .free):(x,BN)∈scope.names\/(x,Cy)∈scope.names:=by
 have key:∀names:List (Str×DC),∀k,(k = .cell\/k = .free) ->
  (names.map fun(n,k)=>if(k==BN&&env.scope.kind == .function&&env.kindOf n==some .cell)then(n,Cy)else(n,k)).lookup x=some k->(x,BN)∈names\/(x,Cy)∈names:=by
  intro names
  induction names with
  | nil=>intro k _ z;cases z
  | cons y r ih =>
    intro k hk z;obtain⟨n,kn⟩:=y;have step:((x,BN)∈r\/(x,Cy)∈r)->((x,BN)∈(n,kn)::r\/(x,Cy)∈(n,kn)::r):=fun z=>z.imp (AU _) (AU _);rw[A1]at z;dsimp only at z;by_cases hc:(kn==BN&&env.scope.kind == .function&&env.kindOf n==some .cell)=true
    · rw[if_pos hc,BO]at z
      have hf:kn = .free:=by
       have:=(Ba.mp (Ba.mp hc).1).1;simpa using this
      cases e:x==n with
      | true =>
        have e':x=n:=by simpa using e
        rw[e',<- hf]
        exact .inl AZ
      | false =>
        rw[e]at z;exact step (ih k hk z)
    · rw[if_neg hc,BO]at z
      cases e:x==n with
      | true =>
        rw[e]at z;have e':x=n:=by simpa using e
        cases z;rcases hk with hk|hk
        · rw[e',hk];exact .inr AZ
        · rw[e',hk];exact .inl AZ
      | false =>
        rw[e]at z;exact step (ih k hk z)
 rcases h with h|h
 · exact key scope.names .cell (.inl rfl) h
 · exact key scope.names .free (.inr rfl) h
theorem aL:∀(names:List (Str×DC))(n:Nat)(acc:List (Str×Addr)),Ck n names acc=Ck n names []++acc
 | [],_,_=>rfl
 | (x,k)::r,n,acc=>by
   unfold Ck;split
   · rw[aL r (n+1) ((x,n)::acc),aL r (n+1) [(x,n)],List.append_assoc];rfl
   · exact aL r n acc
theorem ci{x:Str}{c:Addr}:∀{names:List (Str×DC)}{n:Nat},(x,c)∈Ck n names []->(x,Cy)∈names
 | (y,k)::r,n,h=>by
   unfold Ck at h;split at h
   · rename_i hk;rw[aL]at h;rcases Ce.mp h with h|h
     · exact AU _ (ci h)
     · simp at h;have:k = .cell:=by simpa using hk
       rw[h.1,this];exact AZ
   · exact AU _ (ci h)
theorem c9{a b:List (Str×Addr)}:(a++b).lookup x=(a.lookup x).or (b.lookup x):=by
 induction a with
 | nil=>simp
 | cons y a ih =>
   obtain⟨n,c⟩:=y;rw[List.cons_append,BO,BO];cases x==n<;>simp[ih]
theorem hE{M:Model}{globals:Addr}{cl:List (Str×Addr)}{o:Env}{Q:Env->AS->Prop}
 (hQ:Q {scope,locals:=s.heap.objs.size,globals,cells:=Ck (s.heap.objs.size+1) scope.names cl,qual,func:=none,code:=o.code,frame:=o.frame,builtins:=o.builtins} {s with heap:=Gy (s.heap.push {cls:=.type "dict", data:=.dict #[]}) scope.names}) :
 Bi M A (Eu scope globals cl [] qual none .none (some o)) Q E s:=by
 simp only[Eu,Option.isSome_some,if_true];refine AO (wpAny_alloc ?_);refine AO (wpAny_layCells _ (fun name kind cells=>by cases hkc:kind==Cy<;>simp[hkc]) _ _ _ _ ?_);rw[show({s with heap:=s.heap.push {cls:=.type "dict", data:=.dict #[]}}:AS).heap.objs.size=s.heap.objs.size+1 from Cz ..];exact AO (AX (AX hQ))
noncomputable def br(X:Cx)(N':List Str)(scope:Scope)(cl:List (Str×Addr))(fp:List Addr)(pn:List (Addr×Obj))(s:AS)(H:Hp):Cx :=
 {X with N:=N',s₀:=s,H₀:=H,env:={compEnvC scope cl s.heap.objs.size X.env with cells:=Ck (s.heap.objs.size+1) scope.names cl},outer:=X.stack,ex:=fp,fn:=fun x=>scope.names.lookup x==some .cell,pn:=pn,xe:=fun _ _=>False}
abbrev jZ(ifs:List Expr)(env:Env):Sem Bool:=forIn ifs true fun c r=>if r=true then do let ok <- isTrue c env (eval c env);pure (Da ok)else pure (Da r)
noncomputable def Af(X:Cx)(ifs:List Expr)(t:TT):Prop :=
 ∀(pins:List (Addr×Obj))(s:AS)(σ:St)(H:Hp)(Q:Bool->Hp->Prop),Inv X pins σ H s->t σ H Q->Bi (BH X.prog X.w) X.A (jZ ifs X.env) (TP X pins σ Q) X.xe s
theorem pS:Af X [] (fun _ H Q=>Q true H):=fun _ _ _ H _ I h=>wpAny_tests_nil ⟨H,I,h⟩
theorem pR{c:Expr}{t:TT}(h:PT X c t):Af X [c] t:=fun pins s σ H Q I hw=>wpAny_tests_one (h pins s σ H Q I hw)
theorem lG{prog:Bd}{w:BM}{R:Result->AS->Prop}{elt target iter:Expr}{ifs:List Expr}{it acc:AR}{env:Env}(I:Nat->AS->Prop)
 (turn:∀n s,I n s->Bi (BH prog w) A (FM it) (fun r s₁=>(r=none/\R (.ok .next) s₁)\/∃v,r=some v /\
  Bi (BH prog w) A (Ee target it v) (fun _ s₂=>Bi (BH prog w) A (FK target env v) (fun _ s₃=>Bi (BH prog w) A (jZ ifs env) (fun ok s₄ =>
   if ok=true then Bi (BH prog w) A (eval elt env) (fun x s₅=>Bi (BH prog w) A (call (.builtin "list.append") [acc,x]) (fun _ s₆=>∃m,m<n/\I m s₆) (fun _ _=>False) s₅) (fun _ _=>False) s₄
   else ∃m,m<n/\I m s₄) (fun _ _=>False) s₃) (fun _ _=>False) s₂) (fun _ _=>False) s₁) (fun _ _=>False) s)
 (n:Nat)(h:I n s):Et (BH prog w) A (.compLoop (.ListComp elt [⟨target,iter,ifs,0⟩] scope pos) 0 it acc env) R s:=by
 refine codeAny_loop rfl I (fun n s hI=>?_) n h;show Bi _ A ((compTurn (.ListComp elt [⟨target,iter,ifs,0⟩] scope pos) 0 it acc env).onRaise (fun x=>do noteFrame x env;theTreesLotGoes x)) _ _ s;refine wpAny_noted ?_;rw[compTurn_list];refine AO (EL (AO (Df (turn n s hI) (fun r s₁ h₁=>?_) fun _ _ h'=>h'.elim)));rcases h₁ with⟨rfl,h₁⟩|⟨v,rfl,h₁⟩
 · exact AX h₁
 · refine AO (Df h₁ (fun _ s₂ h₂=>AO (Df h₂ (fun _ s₃ h₃=>AO (Df h₃ (fun ok s₄ h₄=>?_) fun _ _ z=>z.elim)) fun _ _ z=>z.elim)) fun _ _ z=>z.elim)
   cases ok with
   | false=>exact AX ⟨rfl,h₄⟩
   | true=>exact AO (AO (Df h₄ (fun x s₅ h₅=>AO (Df h₅ (fun _ s₆ h₆=>AX (AX ⟨rfl,h₆⟩)) fun _ _ z=>z.elim)) fun _ _ z=>z.elim))
noncomputable def nG(fr:List (Option Nat))(σ:St):St:=fr.map fun o=>o.bind fun j=>(σ[j]?).join
noncomputable def qW(fr:List (Option Nat))(N' N:List Str)(sc scX:Scope):Bool :=
 decide (fr.length=N'.length)&&(Bq fr.length).all fun i=>match fr[i]? with
  | some (some j)=>match N'[i]? with
    | some x=>decide (N[j]?=some x)&&decide (sc.names.lookup x=some .free)&&(decide (scX.names.lookup x=some .cell)||decide (scX.names.lookup x=some .free))
    | none=>false
  | _=>true
noncomputable def ud(sc scX:Scope):Bool :=
 decide (sc.kind = .function)&&sc.names.all fun y=>(decide (y.2 ≠ .cell)||decide (sc.names.lookup y.1=some .cell))&&(decide (y.2 ≠ .local)||decide (sc.names.lookup y.1=some .local)) &&
  (decide (y.2 ≠ .free)||(decide (scX.names.lookup y.1=some .cell)||decide (scX.names.lookup y.1=some .free)))
theorem qW.get{fr:List (Option Nat)}{N' N:List Str}{sc scX:Scope}(h:qW fr N' N sc scX=true):fr.length=N'.length/\∀(i j:Nat),fr[i]?=some (some j)->∃x,N'[i]?=some x/\N[j]?=some x/\sc.names.lookup x=some .free/\(scX.names.lookup x=some .cell\/scX.names.lookup x=some .free):=by
 unfold qW at h;obtain⟨h1,h2⟩:=Ba.mp h;refine⟨of_decide_eq_true h1,fun i j e=>?_⟩;have hi:i<fr.length:=(A2.mp e).1;have q:=Ct.mp h2 i (Cc.mpr hi);rw[e]at q;dsimp only at q
 cases en:N'[i]? with
 | none=>rw[en]at q;cases q
 | some x =>
   rw[en]at q;dsimp only at q;obtain⟨q1,q2⟩:=Ba.mp q;obtain⟨q3,q4⟩:=Ba.mp q1;exact⟨x,rfl,of_decide_eq_true q3,of_decide_eq_true q4,(BW.mp q2).imp of_decide_eq_true of_decide_eq_true⟩
theorem jx{k:DC}:∀{names:List (Str×DC)},names.lookup x=some k->(x,k)∈names:=fun h=>BU h
structure CompA where
 cl:List (Str×Addr)
 fp:List Addr
 pn:List (Addr×Obj)
 s:AS
 H:Hp
abbrev zI(X:Cx)(N':List Str)(scope:Scope)(y:CompA):Cx:=br X N' scope y.cl y.fp y.pn y.s y.H
noncomputable def pG(wi:TI)(fr:List (Option Nat))(g:CompA->TG)(tt:CompA->TT)(te:CompA->TE):TE:=fun σ H Q=>wi σ H fun J H1=>∀D,H1 D=none->∃Wv:Nat->Nat->List V->St->Hp->Prop,(∃m,Wv 0 m [] (nG fr σ) (upd H1 D (.lst []))) /\
 ∀ (z:CompA) i m acc σc H,Wv i m acc σc H->(J.stop i H/\Q (.ref D) H)\/(J.go i H/\∀x H',J.yld i H x H'->g z x σc H' fun σ2 H2=>tt z σ2 H2 fun b H3 =>
   if b=true then te z σ2 H3 fun y H4=>H4 D=some (.lst acc)/\acc.length<sizeLine/\∃m',m'<m/\Wv (i+1) m' (acc++[y]) σ2 (upd H4 D (.lst (acc++[y])))else ∃m',m'<m/\Wv (i+1) m' acc σ2 H3)
theorem dj{env:Env}:∀{names:List (Str×DC)}{x:Str},names.lookup x=some .free ->
 (names.map fun(n,k)=>if(k==BN&&env.scope.kind == .function&&env.kindOf n==some .cell)then(n,Cy)else(n,k)).lookup x=some .cell \/
 (names.map fun(n,k)=>if(k==BN&&env.scope.kind == .function&&env.kindOf n==some .cell)then(n,Cy)else(n,k)).lookup x=some .free
 | [],_,h=>by simp at h
 | (n,k)::r,x,h=>by
   have ih:=@dj env r x;rw[A1];dsimp only
   cases hx:x==n with
   | true =>
     simp only[BO,hx]at h;cases h;by_cases hc:((BN==BN)&&env.scope.kind == .function&&env.kindOf n==some .cell)=true
     · rw[if_pos hc];simp[BO,hx]
     · rw[if_neg hc];simp[BO,hx]
   | false =>
     simp only[BO,hx]at h;by_cases hc:(k==BN&&env.scope.kind == .function&&env.kindOf n==some .cell)=true
     · rw[if_pos hc];simp only[BO,hx];exact ih h
     · rw[if_neg hc];simp only[BO,hx];exact ih h
theorem h8{ex:Expr}{H3:Hp}{s3:AS}{D:Addr}{tn:Nat->Heap->Prop}{J:It}{Q:VK}
 {cl:List (Str×Addr)}(N':List Str)(fr:List (Option Nat))(hc:X.calm=true)(hkind:scope.kind = .function)(hcell:∀y∈scope.names,y.2 = .cell->scope.names.lookup y.1=some .cell)
 (hfree:∀y∈scope.names,y.2 = .free->X.env.kindOf y.1=some .cell\/X.env.kindOf y.1=some .free)(frl:fr.length=N'.length)
 (frg:∀(i j:Nat),fr[i]?=some (some j)->∃x,N'[i]?=some x/\X.N[j]?=some x/\scope.names.lookup x=some .free/\(X.env.scope.names.lookup x=some .cell\/X.env.scope.names.lookup x=some .free))
 (cl1:∀x c,cl.lookup x=some c->X.env.cells.lookup x=some c)(cl2:∀x,(x,BN)∈scope.names->(cl.lookup x).isSome=true)
 (I3:Inv X pins σ H3 s3)(T:Turn X.prog X.w X.K tg J fp it tn)(tn3:tn 0 s3.heap)(fpD:∀b∈fp,H3 b=none)(fp3:∀b∈fp,b<s3.heap.objs.size)
 (fpk:∀b∈fp,b≠X.env.locals/\b∉X.fs/\(b∈X.ex\/X.s₀.heap.objs.size<=b)/\(∀x c,X.env.cells.lookup x=some c->c≠b)/\∀p∈X.pn++pins,p.1≠b)
 (loop:∀s',Inv (br X N' scope cl fp (X.pn++pins) s3 H3) [] (nG fr σ) H3 s'->tn 0 s'.heap->(∀{H':Hp},(∀b∈fp,H' b=none)->∀b∈fp,jJ (br X N' scope cl fp (X.pn++pins) s3 H3) [] H' b) ->
  Et (BH X.prog X.w) X.A (.compStart ex 0 (.ref it) (.ref D) (br X N' scope cl fp (X.pn++pins) s3 H3).env) (fun r s5=>r = .ok .next/\∃σ5 H4,Inv (br X N' scope cl fp (X.pn++pins) s3 H3) [] σ5 H4 s5/\Q (.ref D) H4) s')
 {Rp:Addr->Result->AS->Prop}(fin:∀s5 H4 m,s5.heap.Ns s3.heap.objs.size m->(∀h',Cn s3.heap.objs.size s5.heap h'->Inv X pins σ H4 {s5 with heap:=h' })->jJ X pins H4 s3.heap.objs.size->Q (.ref D) H4->Rp s3.heap.objs.size (.ok .next) s5) :
 Bi (BH X.prog X.w) X.A (Eu scope X.env.globals cl [] X.env.qual none .none (some X.env)) (fun cenv s₄ =>
  Et (BH X.prog X.w) X.A (.compStart ex 0 (.ref it) (.ref D) {cenv with scope:=relabel scope X.env})
   (Rp cenv.locals) s₄) X.xe s3:=by
 refine hE ?_;have ok:=cellsFrom_ok scope.names (s3.heap.push {cls:=.type "dict", data:=.dict #[]}) (s3.heap.objs.size+1) [] ⟨fun _ _ hm=>(nomatch hm),Gc.nil⟩ (by rw[Cz];exact AY _);rw[Cz]at ok;have kp:∀b o,s3.heap.get? b=some o->(Gy (s3.heap.push {cls:=.type "dict", data:=.dict #[]}) scope.names).get? b=some o:=fun b o e=>pushCells_keeps _ _ b o (AT _ e);have hns₁:(Gy (s3.heap.push {cls:=.type "dict", data:=.dict #[]}) scope.names).Ns s3.heap.objs.size (fun _=>none):=(Heap.Ns.new s3.heap (.type "dict")).keeps (pushCells_keeps _ _);generalize Gy (s3.heap.push {cls:=.type "dict", data:=.dict #[]}) scope.names=h₁ at ok kp hns₁ ⊢
 have cs:∀x c,(Ck (s3.heap.objs.size+1) scope.names cl).lookup x=some c->(Ck (s3.heap.objs.size+1) scope.names []).lookup x=some c\/cl.lookup x=some c:=fun x c e=>by
  rw[aL,c9]at e
  cases q:(Ck (s3.heap.objs.size+1) scope.names []).lookup x with
  | none=>rw[q]at e;exact .inr (by simpa using e)
  | some c'=>rw[q]at e;exact .inl (by simpa using e)
 have own:∀x c,(Ck (s3.heap.objs.size+1) scope.names []).lookup x=some c->h₁.IsCell c none/\s3.heap.objs.size+1<=c:=fun x c e=>ok.empty x c (BU e)
 have clt:∀x c,cl.lookup x=some c->c<s3.heap.objs.size:=fun x c e=>by
  obtain⟨v,o,ho,_⟩:=I3.cell x c (cl1 x c e);exact A0 ho
 have frn:∀x,scope.names.lookup x=some .free->(Ck (s3.heap.objs.size+1) scope.names []).lookup x=none:=fun x e=>by
  cases q:(Ck (s3.heap.objs.size+1) scope.names []).lookup x with
  | none=>rfl
  | some c =>
    have:=hcell (x,.cell) (ci (BU q)) rfl;rw[e]at this;cases this
 have notC:∀b o,s3.heap.get? b=some o->b≠s3.heap.objs.size:=fun b o e=>BE (A0 e);have fpstk:∀b∈fp,b∉frs X.stack:=fun b hb z=>(Bo.mp (I3.stkSub b z)).elim (fpk b hb).1 (fpk b hb).2.1;have cellK:∀c v,s3.heap.IsCell c v->h₁.IsCell c v:=fun c v ⟨o,ho,hd⟩=>⟨o,kp c o ho,hd⟩
 have IY:Inv (br X N' scope cl fp (X.pn++pins) s3 H3) [] (nG fr σ) H3 {s3 with heap:=h₁}:=by
  refine⟨⟨I3.ok.mod,hkind,I3.ok.glob,I3.ok.blt,AY _,fun x y c e1 e2=>?_,fun x hx=>?_,fun x c _ e=>?_,I3.ok.hd,I3.ok.frames,.inl rfl,
   fun b hb=>⟨BE (fp3 b hb),fun x c e=>?_⟩,I3.bs,Ca I3.ok.bsz I3.sz,fun b o e hb=>?_,fun b hb=>fpstk b hb,I3.stack,I3.stkFree⟩,
   rfl,I3.bare,Un.kept kp,⟨_,hns₁,fun i x v e1 e2 e3=>?_⟩,fun x c e=>?_,I3.hok.fresh (AY _),fun x c e=>?_,fun p hp=>?_,I3.hok.kept kp,?_⟩
  · rcases cs x c e1 with q1|q1<;>rcases cs y c e2 with q2|q2
    · exact name_of_addr ok.apart (BU q1) (BU q2)
    · exact absurd (A7 (clt y c q2) (Di (own x c q1).2)) (BX _)
    · exact absurd (A7 (clt x c q1) (Di (own y c q2).2)) (BX _)
    · exact I3.ok.inj x y c (cl1 x c q1) (cl1 y c q2)
  · refine CT.mp ?_;show((Ck (s3.heap.objs.size+1) scope.names cl).lookup x).isSome=true;rcases gk hx with q|q
    · exact W.cellsFrom_some _ _ _ (.inr (cl2 x q))
    · exact W.cellsFrom_some _ _ _ (.inl (hcell _ q rfl))
  · rename_i hfn;rcases cs x c e with q|q
    · have:=(own x c q).2;show s3.heap.objs.size<=c;omega
    · have hfn:(scope.names.lookup x==some Cy)=true:=hfn;have hl:scope.names.lookup x=some .cell:=by simpa using hfn
      obtain⟨c',ec'⟩:=CT.mp (W.cellsFrom_some scope.names (s3.heap.objs.size+1) [] (.inl hl));have e':(Ck (s3.heap.objs.size+1) scope.names cl).lookup x=some c:=e;rw[aL,c9,ec']at e';simp at e';subst e';exact Di (own x c' ec').2
  · rcases cs x c e with q|q
    · exact fun z=>absurd (A7 (fp3 b hb) (Di (by rw[<- z];exact(own x c q).2))) (BX _)
    · exact(fpk b hb).2.2.2.1 x c (cl1 x c q)
  · rcases(fpk b hb).2.2.1 with z|z
    · exact I3.ok.noex b o e z
    · exact absurd (A7 (A0 e) (Ca I3.ok.bsz z)) (BX _)
  · have e2':(fr[i]?).map (fun o=>o.bind fun j=>(σ[j]?).join)=some (some v):=by unfold nG at e2;rw[Bp]at e2;exact e2
    cases ef:fr[i]? with
    | none=>rw[ef]at e2';cases e2'
    | some o =>
      cases o with
      | none=>rw[ef]at e2';cases e2'
      | some j =>
        rw[ef]at e2';have e3':(σ[j]?).join=some v:=Bn e2'
        have e4:σ[j]?=some (some v):=by
         cases q:σ[j]? with
         | none=>rw[q]at e3';cases e3'
         | some z=>rw[q]at e3';cases e3';rfl
        obtain⟨x',n1,n2,n3,n4⟩:=frg i j ef;have ex:x'=x:=Bn (n1.symm.trans e1);subst ex;obtain⟨m,hn,hl⟩:=I3.loc;obtain⟨u,ru,lk⟩:=hl j x' v n2 e4 (n4.elim (fun z=>.inr (.inl z)) fun z=>.inr (.inr z));refine⟨u,ru,?_⟩;rcases lk with⟨kl,_⟩|⟨_,c,ec,hcl⟩
        · exact absurd (show X.env.scope.names.lookup x'=some .local from kl) (by rcases n4 with z|z<;>rw[z]<;>decide)
        · obtain⟨c',ec'⟩:=CT.mp (cl2 x' (jx n3));have:=cl1 x' c' ec';rw[ec]at this;cases this;refine .inr ⟨dj n3,c,?_,cellK _ _ hcl⟩;show(Ck (s3.heap.objs.size+1) scope.names cl).lookup x'=some c;rw[aL,c9,frn x' n3];simpa using ec'
  · rcases cs x c e with q|q
    · exact⟨_,(own x c q).1⟩
    · obtain⟨v,z⟩:=I3.cell x c (cl1 x c q);exact⟨v,cellK _ _ z⟩
  · rcases cs x c e with q|q
    · exact I3.hok.fresh (by have:=(own x c q).2;omega)
    · exact I3.freeC x c (cl1 x c q)
  · rw[Co]at hp;obtain⟨e,n,ne,nf,d⟩:=I3.pin p hp;exact⟨kp _ _ e,n,notC _ _ e,fun z=>(Bo.mp (I3.stkSub p.1 z)).elim ne nf,d⟩
  · unfold nG;rw[AV];exact frl
 have stat:∀{H':Hp},(∀b∈fp,H' b=none)->∀b∈fp,jJ (br X N' scope cl fp (X.pn++pins) s3 H3) [] H' b:=fun hn b hb =>
  ⟨hn b hb,BE (fp3 b hb),fpstk b hb,.inl hb,fun x c e=>(by
   rcases cs x c e with q|q
   · exact fun z=>absurd (A7 (fp3 b hb) (Di (by rw[<- z];exact(own x c q).2))) (BX _)
   · exact(fpk b hb).2.2.2.1 x c (cl1 x c q)),fun p hp=>by rw[Co]at hp;exact(fpk b hb).2.2.2.2 p hp⟩
 refine D0 (loop _ IY (T.keep _ _ _ tn3 fun b _ o e=>kp b o e) stat) fun r s5 ⟨hr,σ5,H4,I5,qn⟩=>?_;subst hr;obtain⟨m,hn,_⟩:=I5.loc;refine fin s5 H4 m hn (fun h' hs'=>?_) (I3.fpOk (AY _) I5.free) qn;have k':∀b o,b≠s3.heap.objs.size->s5.heap.get? b=some o->h'.get? b=some o:=fun b o nb e=>hs'.extBut b o nb e;have u5:Un (frs X.stack) fp H3 H4 s3.heap s5.heap:=I5.base
 have un:Un (frs X.stack) fp H3 H4 s3.heap h' :=
  ⟨fun b o e n hb hx=>k' b o (notC b o e) (u5.keep b o e n hb hx),fun b o e n hb hx=>by obtain⟨sl,q⟩:=u5.slot b o e n hb hx;exact⟨sl,k' b _ (notC b o e) q⟩,u5.free,
   fun b o e hx=>by obtain⟨o',q⟩:=u5.there b o e hx;exact⟨o',k' b _ (notC b o e) q⟩,u5.tups,u5.frzs,u5.tbls⟩
 have nC:H4 s3.heap.objs.size=none:=I5.free
 have hok':AE X.prog X.w H4 h':=fun b u e=>(I5.hok b u e).stay (fun c v hcv q=>k' c v (by
  rintro rfl;rcases hcv with z|z
  · rw[<- z]at e;rw[nC]at e;cases e
  · rw[nC]at z;cases z) q) (fun _ q=>q) fun _ _ q=>q
 obtain⟨hh,g5,d5,t5,os5⟩:=s5;have os':os5=s3.os:=I5.os;subst os';have I':=Inv.call (s:=s3) (h':=h') (g':=g5) (d':=d5) (t':=t5) (ch:=fp) I3 un hok' I5.bare (fun b hb=>⟨(fpk b hb).2.2.1,(fpk b hb).1,(fpk b hb).2.2.2.1,(fpk b hb).2.2.2.2⟩);exact I'
theorem eN{elt iter:Expr}{ifs:List Expr}{g:TG}{tt:TT}{te:TE}{H3:Hp}{s3:AS}{D:Addr}{tn:Nat->Heap->Prop}{J:It}{Q:VK}
 {cl:List (Str×Addr)}(N':List Str)(fr:List (Option Nat))(hc:X.calm=true)(hkind:scope.kind = .function)(hcell:∀y∈scope.names,y.2 = .cell->scope.names.lookup y.1=some .cell)
 (hfree:∀y∈scope.names,y.2 = .free->X.env.kindOf y.1=some .cell\/X.env.kindOf y.1=some .free)(frl:fr.length=N'.length)
 (frg:∀(i j:Nat),fr[i]?=some (some j)->∃x,N'[i]?=some x/\X.N[j]?=some x/\scope.names.lookup x=some .free/\(X.env.scope.names.lookup x=some .cell\/X.env.scope.names.lookup x=some .free))
 (cl1:∀x c,cl.lookup x=some c->X.env.cells.lookup x=some c)(cl2:∀x,(x,BN)∈scope.names->(cl.lookup x).isSome=true)
 (I3:Inv X pins σ H3 s3)(T:Turn X.prog X.w X.K tg J fp it tn)(tn3:tn 0 s3.heap)(fpD:∀b∈fp,H3 b=none)(fp3:∀b∈fp,b<s3.heap.objs.size)
 (fpk:∀b∈fp,b≠X.env.locals/\b∉X.fs/\(b∈X.ex\/X.s₀.heap.objs.size<=b)/\(∀x c,X.env.cells.lookup x=some c->c≠b)/\∀p∈X.pn++pins,p.1≠b)
 (hg:PG (br X N' scope cl fp (X.pn++pins) s3 H3) tg g)(ht:Af (br X N' scope cl fp (X.pn++pins) s3 H3) ifs tt)(he:PE (br X N' scope cl fp (X.pn++pins) s3 H3) elt te)
 {Wv:Nat->Nat->List V->St->Hp->Prop}{m0:Nat}(w0:Wv 0 m0 [] (nG fr σ) H3)
 (turn:∀i m acc σc H,Wv i m acc σc H->(J.stop i H/\Q (.ref D) H)\/(J.go i H/\∀x H',J.yld i H x H'->g x σc H' fun σ2 H2=>tt σ2 H2 fun b H3 =>
  if b=true then te σ2 H3 fun y H4=>H4 D=some (.lst acc)/\acc.length<sizeLine/\∃m',m'<m/\Wv (i+1) m' (acc++[y]) σ2 (upd H4 D (.lst (acc++[y])))else ∃m',m'<m/\Wv (i+1) m' acc σ2 H3))
 {Rp:Addr->Result->AS->Prop}(fin:∀s5 H4 m,s5.heap.Ns s3.heap.objs.size m->(∀h',Cn s3.heap.objs.size s5.heap h'->Inv X pins σ H4 {s5 with heap:=h' })->jJ X pins H4 s3.heap.objs.size->Q (.ref D) H4->Rp s3.heap.objs.size (.ok .next) s5) :
 Bi (BH X.prog X.w) X.A (Eu scope X.env.globals cl [] X.env.qual none .none (some X.env)) (fun cenv s₄ =>
  Et (BH X.prog X.w) X.A (.compStart (.ListComp elt [⟨tg,iter,ifs,0⟩] scope pos) 0 (.ref it) (.ref D) {cenv with scope:=relabel scope X.env})
   (Rp cenv.locals) s₄) X.xe s3:=by
 refine h8 N' fr hc hkind hcell hfree frl frg cl1 cl2 I3 T tn3 fpD fp3 fpk (fun s' IY tY stat=>?_) fin
 have loop:Et (BH X.prog X.w) X.A (.compLoop (.ListComp elt [⟨tg,iter,ifs,0⟩] scope pos) 0 (.ref it) (.ref D) (br X N' scope cl fp (X.pn++pins) s3 H3).env)
  (fun r s5=>r = .ok .next/\∃σ5 H4,Inv (br X N' scope cl fp (X.pn++pins) s3 H3) [] σ5 H4 s5/\Q (.ref D) H4) s':=by
  refine lG (fun n s'=>∃i acc σ' H',Inv (br X N' scope cl fp (X.pn++pins) s3 H3) [] σ' H' s'/\tn i s'.heap/\(∀b∈fp,H' b=none)/\Wv i n acc σ' H') ?_ m0
   ⟨0,[],_,_,IY,tY,fpD,w0⟩
  rintro n s4 ⟨i,acc,σ4,H4,I4,st4,fr4,w4⟩;rcases turn i n acc σ4 H4 w4 with⟨stop,qn⟩|⟨go,step⟩
  · exact yy (T.done (br X N' scope cl fp (X.pn++pins) s3 H3) rfl rfl rfl hc i [] s4 σ4 H4 (fun _ _=>False) I4 (stat fr4) st4 stop) fun r s5 ⟨hr,I5⟩=>.inl ⟨hr,rfl,σ4,H4,I5,qn⟩
  · refine yy (T.item (br X N' scope cl fp (X.pn++pins) s3 H3) rfl rfl rfl hc i [] s4 σ4 H4 (fun _ _=>False) I4 (stat fr4) st4 go) fun r s5 ⟨u,hr,h5⟩=>.inr ⟨u,hr,?_⟩;refine yy h5 fun _ s6 ⟨x,H6,I6,r6,y6,st6,fr6⟩=>?_;have I6':=I6.pinned (stat fr6) (T.obj _ _ st6)
    have again:∀{σ7:St}{H7:Hp}{s7:AS},Inv (br X N' scope cl fp (X.pn++pins) s3 H3) ([]++gr fp s6.heap) σ7 H7 s7->∀{acc':List V}{m':Nat},m'<n->Wv (i+1) m' acc' σ7 H7 ->
     ∃m,m<n/\∃i acc σ' H',Inv (br X N' scope cl fp (X.pn++pins) s3 H3) [] σ' H' s7/\tn i s7.heap/\(∀b∈fp,H' b=none)/\Wv i m acc σ' H':=fun{σ7 H7 s7} I7 {acc' m'} hm w7=>by
     refine⟨m',hm,i+1,acc',σ7,H7,I7.unpinned,T.keep _ _ _ st6 fun b hb o e=>(I7.pin (b,o) (BF _ (BF _ (cB hb e)))).1,fun b hb=>?_,w7⟩;obtain⟨o,e,d⟩:=T.obj _ _ st6 b hb;exact(I7.pin (b,o) (BF _ (BF _ (cB hb e)))).2.1
    refine yy (hg _ s6 σ4 H6 x u _ I6' r6 (step x H6 y6)) fun _ s7 ⟨σ7,H7,I7,q7⟩=>?_;refine yy (ht _ s7 σ7 H7 _ I7 q7) fun ok s8 ⟨H8,I8,q8⟩=>?_
    cases ok with
    | false =>
      rw[if_neg Bs]at q8 ⊢;obtain⟨m',hm,w8⟩:=q8
      exact again I8 hm w8
    | true =>
      rw[if_pos rfl]at q8 ⊢;refine yy (he _ s8 σ7 H8 _ I8 q8) fun y s9 ⟨yv,H9,I9,r9,eD,hl,m',hm,w9⟩=>?_
      exact yy (dS (X:=br X N' scope cl fp (X.pn++pins) s3 H3) _ s9 σ7 H9 (.ref D) [yv] (.ref D) [y] (fun _ H'=>H'=upd H9 D (.lst (acc++[yv]))) I9 rfl (.cons r9 .nil) ⟨D,acc,yv,rfl,rfl,eD,hl,rfl⟩)
       fun _ s10 ⟨_,H10,I10,_,e10⟩=>by subst e10;exact again I10 hm w9
 exact codeAny_compStart_list loop (T.self X.A 0 _ _ _ tY loop)
section
variable{X:Cx}{elt tg iter:Expr}{ifs:List Expr}{scope:Scope}{pos:Pos}{wi:TI}{g:CompA->TG}{tt:CompA->TT}{te:CompA->TE}
theorem iU(N':List Str)(fr:List (Option Nat))(hc:X.calm=true)(hi:PI X tg iter wi)(hfr:qW fr N' X.N scope X.env.scope=true)(hsc:ud scope X.env.scope=true)
 (hg:∀y,PG (zI X N' scope y) tg (g y))(ht:∀y,Af (zI X N' scope y) ifs (tt y))(he:∀y,PE (zI X N' scope y) elt (te y))
 (hs:autoParam (∀x,CS iter X.env x=pure x) æc._auto_1):PE X (.ListComp elt [⟨tg,iter,ifs,0⟩] scope pos) (pG wi fr g tt te):=by
 intro pins s σ H Q I h;obtain⟨sk,sn⟩:=Ba.mp hsc;have hkind:scope.kind = .function:=of_decide_eq_true sk;have hall:=Ct.mp sn
 have hcell:∀y∈scope.names,y.2 = .cell->scope.names.lookup y.1=some .cell:=fun y hy hl=>by
  rcases BW.mp (Ba.mp (Ba.mp (hall y hy)).1).1 with z|z
  · exact absurd hl (of_decide_eq_true z)
  · exact of_decide_eq_true z
 have hnames:∀y∈scope.names,y.2 = .local->scope.names.lookup y.1=some .local:=fun y hy hl=>by
  rcases BW.mp (Ba.mp (Ba.mp (hall y hy)).1).2 with z|z
  · exact absurd hl (of_decide_eq_true z)
  · exact of_decide_eq_true z
 have hfree:∀y∈scope.names,y.2 = .free->X.env.kindOf y.1=some .cell\/X.env.kindOf y.1=some .free:=fun y hy hl=>by
  rcases BW.mp (Ba.mp (hall y hy)).2 with z|z
  · exact absurd hl (of_decide_eq_true z)
  · exact(BW.mp z).imp of_decide_eq_true of_decide_eq_true
 obtain⟨frl,frg⟩:=qW.get hfr;obtain⟨cl,hclos,cl1,cl2⟩:=dY (env:=X.env) (scope:=scope) fun y hy hl=>I.ok.has y.1 (hfree y hy hl);rw[eval_ListComp];refine EE (use:=none) rfl hs hclos hkind hnames (yy (hi pins s σ H _ I h) fun v s1 h1=>yy h1 fun itv s2 h2=>?_);obtain⟨it,fp,tn,J,H2,e,I2,T,st2,f2,q2⟩:=h2;subst e;refine Cm ?_;have hD:H2 s2.heap.objs.size=none:=I2.hok.fresh (AY _)
 have I3:Inv X pins σ (upd H2 s2.heap.objs.size (.lst [])) {s2 with heap:=s2.heap.push {cls:=.type "list", data:=.seq ([]:List AR).toArray}} :=
  I2.laid (t':=s2.toks) (fun b u e=>AT _ e) (AY _) ⟨by show 0<=sizeLine;exact Db _,[],0,.nil,A3 _ rfl⟩
 obtain⟨Wv,⟨m0,w0⟩,turn⟩:=q2 _ hD;have tn3:tn 0 (s2.heap.push {cls:=.type "list", data:=.seq ([]:List AR).toArray}):=T.keep _ _ _ st2 fun b _ o e=>AT _ e
 have fpD:∀b∈fp,(upd H2 s2.heap.objs.size (.lst [])) b=none:=fun b hb=>by
  obtain⟨o,e,_⟩:=T.obj _ _ st2 b hb;rw[upd_ne (BE (A0 e))];exact(f2 b hb).1
 have fp3:∀b∈fp,b<(s2.heap.push {cls:=.type "list", data:=.seq ([]:List AR).toArray}).objs.size:=fun b hb=>by
  obtain⟨o,e,_⟩:=T.obj _ _ tn3 b hb;exact A0 e
 exact eN N' fr hc hkind hcell hfree frl frg cl1 cl2 I3 T tn3 fpD fp3 (fun b hb=>(f2 b hb).2) (hg ⟨cl,fp,X.pn++pins,_,_⟩) (ht ⟨cl,fp,X.pn++pins,_,_⟩) (he ⟨cl,fp,X.pn++pins,_,_⟩) w0 (turn ⟨cl,fp,X.pn++pins,_,_⟩)
  (Rp:=compPost (BH X.prog X.w) X.A X.xe none (EP X pins σ Q) (.ref s2.heap.objs.size)) fun s5 H4 m hn k _ qn=>⟨m,hn,fun h' hs'=>⟨.ref _,H4,k h' hs',rfl,qn⟩⟩
theorem jr{b:Bool}{spos:Pos}{ix:Nat}(N':List Str)(fr:List (Option Nat))(hc:X.calm=true)(hi:PI X tg iter wi)(hfr:qW fr N' X.N scope X.env.scope=true)(hsc:ud scope X.env.scope=true)
 (hg:∀y,PG (zI X N' scope y) tg (g y))(ht:∀y,Af (zI X N' scope y) ifs (tt y))(he:∀y,PE (zI X N' scope y) elt (te y))(hN:X.N.Nodup)(hix:X.N[ix]?=some x)(hx:Loc X.env.scope x)
 (hf:X.fn x=true\/X.env.scope.names.lookup x=some .local)(hsw:C4 (.ListComp elt [⟨tg,iter,ifs,0⟩] scope pos) (some (.Name x px)) spos.line X.env=pure b)
 (hs:∀x,CS iter X.env x=pure x):PS X (.Assign [.Name x px] (.ListComp elt [⟨tg,iter,ifs,0⟩] scope pos) spos) (uV (pG wi fr g tt te) (nu ix)):=by
 cases b with
 | false=>exact cT hN hix hx (iU N' fr hc hi hfr hsc hg ht he hs) hsw hf
 | true =>
 intro pins s σ H DD I h;obtain⟨sk,sn⟩:=Ba.mp hsc;have hkind:scope.kind = .function:=of_decide_eq_true sk;have hall:=Ct.mp sn
 have hcell:∀y∈scope.names,y.2 = .cell->scope.names.lookup y.1=some .cell:=fun y hy hl=>by
  rcases BW.mp (Ba.mp (Ba.mp (hall y hy)).1).1 with z|z
  · exact absurd hl (of_decide_eq_true z)
  · exact of_decide_eq_true z
 have hnames:∀y∈scope.names,y.2 = .local->scope.names.lookup y.1=some .local:=fun y hy hl=>by
  rcases BW.mp (Ba.mp (Ba.mp (hall y hy)).1).2 with z|z
  · exact absurd hl (of_decide_eq_true z)
  · exact of_decide_eq_true z
 have hfree:∀y∈scope.names,y.2 = .free->X.env.kindOf y.1=some .cell\/X.env.kindOf y.1=some .free:=fun y hy hl=>by
  rcases BW.mp (Ba.mp (hall y hy)).2 with z|z
  · exact absurd hl (of_decide_eq_true z)
  · exact(BW.mp z).imp of_decide_eq_true of_decide_eq_true
 obtain⟨frl,frg⟩:=qW.get hfr;obtain⟨cl,hclos,cl1,cl2⟩:=dY (env:=X.env) (scope:=scope) fun y hy hl=>I.ok.has y.1 (hfree y hy hl);rw[exec_Assign_Name_used _ _ _ _ hsw];refine AO (EL (AO ?_));show Bi _ X.A (do let _ <- comprehension (.ListComp elt [⟨tg,iter,ifs,0⟩] scope pos) scope X.env _ (newList []) false (eval iter X.env) (some (FK (.Name x px) X.env))) _ _ s
 refine AO (Df (EE (use:=some (FK (.Name x px) X.env)) (Q:=fun _ s'=>SP X pins DD .next s') rfl hs hclos hkind hnames
  (yy (hi pins s σ H _ I h) fun v s1 h1=>yy h1 fun itv s2 h2=>?_)) (fun _ s' hq=>AX (AX hq)) fun _ _ e=>e)
 obtain⟨it,fp,tn,J,H2,e,I2,T,st2,f2,q2⟩:=h2;subst e;refine Cm ?_;have hD:H2 s2.heap.objs.size=none:=I2.hok.fresh (AY _)
 have I3:Inv X pins σ (upd H2 s2.heap.objs.size (.lst [])) {s2 with heap:=s2.heap.push {cls:=.type "list", data:=.seq ([]:List AR).toArray}} :=
  I2.laid (t':=s2.toks) (fun b u e=>AT _ e) (AY _) ⟨by show 0<=sizeLine;exact Db _,[],0,.nil,A3 _ rfl⟩
 obtain⟨Wv,⟨m0,w0⟩,turn⟩:=q2 _ hD;have tn3:tn 0 (s2.heap.push {cls:=.type "list", data:=.seq ([]:List AR).toArray}):=T.keep _ _ _ st2 fun b _ o e=>AT _ e
 have fpD:∀b∈fp,(upd H2 s2.heap.objs.size (.lst [])) b=none:=fun b hb=>by
  obtain⟨o,e,_⟩:=T.obj _ _ st2 b hb;rw[upd_ne (BE (A0 e))];exact(f2 b hb).1
 have fp3:∀b∈fp,b<(s2.heap.push {cls:=.type "list", data:=.seq ([]:List AR).toArray}).objs.size:=fun b hb=>by
  obtain⟨o,e,_⟩:=T.obj _ _ tn3 b hb;exact A0 e
 refine eN (Q:=fun v H1=>nu ix v σ H1 DD.nx) N' fr hc hkind hcell hfree frl frg cl1 cl2 I3 T tn3 fpD fp3 (fun b hb=>(f2 b hb).2) (hg ⟨cl,fp,X.pn++pins,_,_⟩) (ht ⟨cl,fp,X.pn++pins,_,_⟩) (he ⟨cl,fp,X.pn++pins,_,_⟩) w0 (turn ⟨cl,fp,X.pn++pins,_,_⟩)
  (Rp:=compPost (BH X.prog X.w) X.A X.xe (some (FK (.Name x px) X.env)) (fun _ s'=>SP X pins DD .next s') (.ref s2.heap.objs.size)) fun s5 H4 m hn k fpo qn=>?_
 show Bi _ X.A (FK (.Name x px) X.env (.ref s2.heap.objs.size)) _ _ s5;have I5:Inv X pins σ H4 s5:=k s5.heap (Cn.refl _ _);obtain⟨f0,f1,f2',f3,f4,f5⟩:=fpo;refine wpAny_assign_Name (fY I5 hN hix hx (v:=.ref s2.heap.objs.size) rfl (fun s6 I6 sb=>?_) hf);obtain⟨a,sb,ha⟩:=sb
 have hne:(s2.heap.push {cls:=.type "list", data:=.seq ([]:List AR).toArray}).objs.size≠a:=by
  rcases ha with rfl|ha
  · exact f1
  · exact fun z=>f4 x a ha z.symm
 refine⟨m,hn.at' fun o e=>sb.extBut _ o hne e,fun h' hs'=>?_⟩;exact⟨_,H4,I6.turned (t':=s6.toks) (fun b o hb e=>hs'.extBut b o hb e) f0 f1 f3 f4 f5,qn⟩
end
end L2
namespace L2.VL
noncomputable def W.cap:W->Option W
 | .d x=>some (.d x)
 | .reel=>some .reel
 | .vv u=>some (.vv u)
 | .sc ns=>some (.sc ns)
 | .fd kvs=>some (.fd kvs)
 | .xr kvs=>some (.xr kvs)
 | .fw kvs=>some (.fw kvs)
 | .ft kvs=>some (.ft kvs)
 | .xc x fs=>some (.xc x fs)
 | .dp kvs x=>some (.dp kvs x)
 | _=>none
noncomputable def jF(fr:List (Option Nat))(ρ:En):En:=fr.map fun o=>o.bind fun j=>((ρ[j]?).join).bind W.cap
noncomputable def ua(X:Cx)(rl:Option Addr)(ifs:List Expr)(f:TB):Prop:=∃t,Af X ifs t/\∀{F₀ H₀ F H:Hp}{σ:St}{ρ:En},VR X.K rl F₀ H₀ F H σ ρ->∀(Qd:Bool->Prop)(Q:Bool->Hp->Prop),f ρ Qd ->
 (∀b F' H',Grow rl F H F' H'->Qd b->Q b H')->t σ H Q
theorem ck:ua X rl [] (fun _ Q=>Q true):=⟨_,pS,fun R Qd Q q k=>k true _ _ (Grow.refl R.sub R.reel) q⟩
theorem nX{c:Expr}{f:TB}(h:PB X rl c f):ua X rl [c] f:=let ⟨t,p,k⟩:=h;⟨t,pR p,k⟩
theorem dF{fr:List (Option Nat)}(h:(jF fr ρ)[i]?=some (some w)):∃j w',fr[i]?=some (some j)/\ρ[j]?=some (some w')/\w'.cap=some w:=by
 unfold jF at h;rw[Bp]at h
 cases ef:fr[i]? with
 | none=>rw[ef]at h;cases h
 | some o =>
   cases o with
   | none=>rw[ef]at h;cases h
   | some j =>
     rw[ef]at h;have h':((ρ[j]?).join).bind W.cap=some w:=Bn h
     cases q:ρ[j]? with
     | none=>rw[q]at h';cases h'
     | some o =>
       cases o with
       | none=>rw[q]at h';cases h'
       | some w'=>rw[q]at h';exact⟨j,w',rfl,q,h'⟩
theorem ji{w':W}(h:w'.cap=some w):w=w'/\w.own=false/\∀xs,w ≠ .pk xs:=by
 cases w'<;>cases h<;>exact⟨rfl,rfl,(fun _ z=>by cases z)⟩
theorem lZ{K:W.Frag}{fr:List (Option Nat)}(R:VR K rl F₀ H₀ F H σ ρ)(g:Grow rl F H F H'):VR K rl F H F H' (nG fr σ) (jF fr ρ):=by
 refine⟨g,fun i w e=>?_,fun i j xs ys v _ e1 _ o1 _ _ _=>?_,fun i xs e=>?_,by simp[nG,jF]⟩
 · obtain⟨j,w',e1,e2,e3⟩:=dF e;obtain⟨rfl,n1,n2⟩:=ji e3;obtain⟨v,s1,r1,_⟩:=R.sl j w e2;refine⟨v,?_,r1.grow g,?_⟩
   · unfold nG;rw[Bp,e1];show some ((σ[j]?).join)=_;rw[s1];rfl
   · cases w with
     | ml xs=>cases n1
     | md xs=>cases n1
     | mk xs=>cases n1
     | xm xs=>cases n1
     | nt _=>trivial
     | lk=>trivial
     | sc _=>trivial
     | fd _=>trivial
     | xr _=>trivial
     | fw _=>trivial
     | ft _=>trivial
     | xc _ _=>trivial
     | dp _ _=>trivial
     | d _=>trivial
     | pk _=>trivial
     | reel=>trivial
     | vv _=>trivial
 · obtain⟨_,_,_,_,e3⟩:=dF e1;rw[(ji e3).2.1]at o1;cases o1
 · obtain⟨_,_,_,_,e3⟩:=dF e;exact absurd rfl ((ji e3).2.2 xs)
theorem jt{fr:List (Option Nat)}:nW (jF fr ρ):=fun i xs e=>by
 obtain⟨_,_,_,_,e3⟩:=dF e;exact(ji e3).2.1
theorem VR.other{K:W.Frag}(R:VR K rl F₀ H₀ F H σ ρ)(n:nW ρ){D:Addr}{o:HO}(h0:H₀ D=none)(f:F D=none)(hr:rl≠some D):VR K rl F₀ H₀ F (upd H D o) σ ρ:=by
 have neF:∀b u,F b=some u->b≠D:=fun b u q z=>by subst z;rw[f]at q;cases q
 have g:Grow rl F₀ H₀ F (upd H D o):=by
  refine⟨fun b o q1 n=>by rw[upd_ne (ay q1 h0)];exact R.g.same b o q1 n,R.g.fs,fun b o q1=>by rw[upd_ne (neF b o q1)];exact R.sub b o q1,R.g.old,fun y z=>?_⟩;obtain⟨z1,⟨u,h1,h2⟩⟩:=R.reel y z;exact⟨z1,⟨u,by rw[upd_ne (fun q=>hr (by rw[<- q];exact z))];exact h1,h2⟩⟩
 refine⟨g,fun i w e=>?_,R.ap,R.np,R.len⟩;obtain⟨v,h1,h2,h3⟩:=R.sl i w e;refine⟨v,h1,?_,h3⟩
 cases w with
 | d x=>exact h2
 | reel=>exact h2
 | vv u=>exact h2
 | ml xs=>cases n i _ e
 | md xs=>cases n i _ e
 | mk xs=>cases n i _ e
 | xm xs=>cases n i _ e
 | nt ds=>exact h2
 | lk=>trivial
 | sc _=>exact h2
 | fd _=>exact h2
 | xr _=>exact h2
 | fw _=>exact h2
 | ft _=>exact h2
 | xc _ _=>exact h2
 | dp _ _=>exact h2
 | pk xs=>exact absurd e (R.np i xs)
section
variable{X:Cx}{rl:Option Addr}{elt tg iter:Expr}{ifs:List Expr}{scope:Scope}{pos:Pos}{fi:En->(List AN->Prop)->Prop}{g:zU}{ft:TB}{fe:TV}
end
mutual
def xf:AN->Prop
 | .none=>True
 | .bool _=>True
 | .int i=>i.natAbs<2^1900
 | .str x=>AN.strOk x=true
 | .list xs=>im xs
 | .tuple xs=>im xs
 | .dict _=>False
def im:List AN->Prop
 | []=>True
 | x::xs=>xf x/\im xs
end
noncomputable def z_(d:AN):Prop:=xf d/\d.depth<=60/\d.bulk<=8000
section
variable{X:Cx}{rl:Option Addr}{a b e:Expr}{es:List Expr}{fa fb fc:TV}{fs:zQ}{pos p:Pos}
noncomputable def tM:List W->(W->Prop)->Prop:=fun ws Q=>∃w d,ws=[w]/\w.dat=some d/\z_ d/\Q (.d (.str d.shown))
noncomputable def yr:AN->String
 | .none => "NoneType"
 | .bool _ => "bool"
 | .int _ => "int"
 | .str _ => "str"
 | .list _ => "list"
 | .tuple _ => "tuple"
 | .dict _ => "dict"
noncomputable def wQ(d:AN)(T:String):Bool:=yr d==T||(yr d == "bool" && T == "int")
noncomputable def wG(T:String):Bool:=["int", "bool", "str", "list", "tuple"].contains T
noncomputable def wT:List W->(W->Prop)->Prop:=fun ws Q=>∃w d T,ws=[w,.vv (.ty T)]/\w.dat=some d/\wG T=true/\Q (.d (.bool (wQ d T)))
theorem fX(hm:X.mg "len" = none)(ha:Ad X rl [a] fs)(hg:autoParam (Gl X "len") æa._auto_1)(he:autoParam (AW [a] X.env=(false,eval a X.env)::AW [] X.env) æa._auto_1)(hpl:autoParam ((Cj pos (AW [] X.env)).any (·.1)=false) æa._auto_1) :
 PV X rl (.Call (.Name "len" p) [a] [] pos) (d7 uh fs):=eW bQ rh hm boot_len ha hg (by decide) (by decide) he hpl
theorem uz(hm:X.mg "abs" = none)(ha:Ad X rl [a] fs)(hg:autoParam (Gl X "abs") æa._auto_1)(he:autoParam (AW [a] X.env=(false,eval a X.env)::AW [] X.env) æa._auto_1)(hpl:autoParam ((Cj pos (AW [] X.env)).any (·.1)=false) æa._auto_1) :
 PV X rl (.Call (.Name "abs" p) [a] [] pos) (d7 uk fs):=eW fP rj hm (by first|rfl|exact boot_abs) ha hg (by decide) (by decide) he hpl
noncomputable def tK:List W->(W->Prop)->Prop:=fun ws Q=>∃i,ws=[.d (.int i)]/\i.natAbs.log2<1920/\Q (.d (.str (toString i)))
end
structure FnIn (K:W.Frag) (mg:Str->Option AR) (x:Str) (st:Stmt) (ps:List Str):Prop where
 ex:∃f fd,mg x=some (.ref f)/\Fun K x x st f fd/\Binds K fd ps []
structure Bz (mg:Str->Option AR):Prop where
 int_:mg "int" = none
 bool_:mg "bool" = none
 str_:mg "str" = none
 list_:mg "list" = none
 tuple_:mg "tuple" = none
 dict_:mg "dict" = none
 isinstance_:mg "isinstance" = none
 len_:mg "len" = none
 abs_:mg "abs" = none
 repr_:mg "repr" = none
 range_:mg "range" = none
 all_:mg "all" = none
 any_:mg "any" = none
 sum_:mg "sum" = none
 min_:mg "min" = none
 max_:mg "max" = none
 sorted_:mg "sorted" = none
 zip_:mg "zip" = none
 enumerate_:mg "enumerate" = none
 reversed_:mg "reversed" = none
 divmod_:mg "divmod" = none
 set_:mg "set" = none
section
variable{P:Bd}{w:BM}{K:W.Frag}{mg:Str->Option AR}{base:Heap}{rl:Option Addr}{x:Str}{st:Stmt}{N ps:List Str}{k:Nat}{Pd:List W->(AN->Prop)->Prop}{t:zR}
theorem Dfn.of(Fn:FnIn K mg x st ps)(S:FnScope N ps (defScope st))(mono:∀ws Q Q',(∀d,Q d->Q' d)->Pd ws Q->Pd ws Q')(len:∀ws Q,Pd ws Q->ws.length=ps.length)
 (hbody:∀{f:Addr}(cdv:AR)(A:BJ)(outer:List Env)(s:AS)(H:Hp)(E:XK),Room k (A.deeper (EY x (defScope st) s.heap.objs.size f cdv)) ->
  jE (lV AI P w K mg base N x (defScope st) f cdv A outer s H E).nox rl (defBody st) t)
 (hread:∀ws Q,Pd ws Q->t (l_ Q) (cG N ws)):Dfn P w K mg base rl x ps (k+1) Pd:=by
 obtain⟨f,fd,hm,F,hb⟩:=Fn.ex;exact⟨mono,f,fd,hm,F.kp,hb,yi F S len hbody hread⟩
end
section
variable{X:Cx}{rl:Option Addr}{e:Expr}{es:List Expr}{fa fb fc:TV}{fs:zQ}{pos p:Pos}
theorem q9(i:Nat){apos cpos:Pos}(ha:Ad X rl [e] fs)(hN:autoParam (X.N[i]?=some x) æa._auto_1)(hv:autoParam (zN X.env.scope x) æd._auto_1)
 (hd:autoParam ((x==("__debug__" : Str))=false) æb._auto_1)(hcd:autoParam ((x==("__classdict__" : Str))=false) æb._auto_1)
 (hbase:autoParam (C0 (.Name x px) "extend" X.env (eval (.Name x px) X.env)=eval (.Name x px) X.env) æa._auto_1)
 (hfew:autoParam (((Cj cpos (AW [e] X.env)).all (fun x=>!x.1)&&(EQ cpos (Ds [] X.env)).all (fun x=>x.1.isSome)
  && decide (([e]).length+([]:List Dl).length+(if([]:List Dl).isEmpty then 0 else 1)<30))=true) æa._auto_1)
 (hline:autoParam ((apos.endLine==cpos.line)=true) æa._auto_1)(hs:autoParam (AW [e] X.env=(false,eval e X.env)::AW [] X.env) æa._auto_1)(hplain:autoParam ((Cj cpos (AW [] X.env)).any (·.1)=false) æa._auto_1)
 (hsw:autoParam (C4 (.Call (.Attribute (.Name x px) "extend" apos) [e] [] cpos) none pos.line X.env=pure false) æa._auto_1) :
 Ah X rl (.Expr (.Call (.Attribute (.Name x px) "extend" apos) [e] [] cpos) pos) (rK i ui fs) :=
 nY i PySem.F.slot_list_extend PySem.F.type_list_extend kZ rd ha hN hv hd hcd hbase hfew hline hs hplain hsw
end
noncomputable def dO:List W->(AN->Prop)->Prop:=fun ws Q=>∃m:Int,ws=[.reel,.d (.int m)]/\0<m/\m<2^60/\∀k:Int,0<=k->k<m->Q (.int k)
theorem dO.mono:∀ws (Q Q':AN->Prop),(∀d,Q d->Q' d)->dO ws Q->dO ws Q':=fun _ _ _ h ⟨m,e,p,z,q⟩=>⟨m,e,p,z,fun k a b=>h _ (q k a b)⟩
theorem dO.len:∀ws (Q:AN->Prop),dO ws Q->ws.length=2:=fun _ _ ⟨m,e,_⟩=>by subst e;rfl
theorem fz_d(x:AN):(W.d x).fz = .d x:=rfl
theorem fz_ml(x:List AN):(W.ml x).fz = .d (.list x):=rfl
theorem fz_pk(x:List AN):(W.pk x).fz = .pk x:=rfl
theorem fz_reel:W.reel.fz = .reel:=rfl
theorem fz_vv(x:V):(W.vv x).fz = .vv x:=rfl
theorem pk_d(x:AN):L2.VL.W.peek (.d x) = .d x:=rfl
theorem pk_ml(x:List AN):L2.VL.W.peek (.ml x) = .pk x:=rfl
theorem pk_reel:L2.VL.W.peek .reel = .reel:=rfl
theorem pk_vv(x:V):L2.VL.W.peek (.vv x) = .vv x:=rfl
theorem dat_d(x:AN):(W.d x).dat=some x:=rfl
theorem dat_ml(x:List AN):(W.ml x).dat=some (.list x):=rfl
theorem dat_pk(x:List AN):(W.pk x).dat=some (.list x):=rfl
theorem isPk_d(x:AN):(W.d x).isPk=false:=rfl
theorem isPk_ml(x:List AN):(W.ml x).isPk=false:=rfl
theorem isPk_reel:W.reel.isPk=false:=rfl
theorem dats_nil:fM []=some []:=rfl
theorem dats_d(x:AN)(r:List W):fM (.d x::r)=(fM r).map (x :: ·):=rfl
theorem arg_d(x:AN):dg (.d x)=true:=rfl
theorem arg_reel:dg .reel=true:=rfl
theorem item_l(xs:List AN)(i:Int):L2.VL.itemAt (.list xs) i=L2.atI xs i:=rfl
theorem item_t(xs:List AN)(i:Int):L2.VL.itemAt (.tuple xs) i=L2.atI xs i:=rfl
theorem len_l(xs:List AN):mW (.list xs)=some xs.length:=rfl
theorem len_t(xs:List AN):mW (.tuple xs)=some xs.length:=rfl
theorem at0{α:Type}(x:α)(r:List α):L2.atI (x::r) 0=some x:=by simp[L2.atI,L2.ixN]
theorem at1{α:Type}(x y:α)(r:List α):L2.atI (x::y::r) 1=some y:=by
 have:(1:Int)<((x::y::r).length:Int):=by simp;omega
 simp only[L2.atI,L2.ixN];rw[if_pos (by decide),if_pos this];rfl
theorem dW{x y:Int}(h:y≠0):(x.fmod y).natAbs<y.natAbs:=by
 rcases Int.lt_or_gt_of_ne h with hy|hy
 · have h1:=Fd x y
   have e:x.fmod y = -((-x).fmod (-y)):=by
    have:=Int.neg_fmod_neg x y;omega
   have p:0 < -y:=by omega
   have b1:=CG (-x) p;have b2:=C8 (-x) p;omega
 · have b1:=CG x hy;have b2:=C8 x hy;omega
theorem nk(x y:Int):BI y (x.fmod y)=BI x y:=by
 have e:x.fmod y=x+y*(-(x.fdiv y)):=by
  have:=Fd x y;rw[Int.mul_neg];omega
 rw[e,Int.gcd_add_mul_left_right];exact Fe y x
theorem eqv_ii(a b:Int):CC (.int a) (.int b)=(a==b):=by simp[CC]
theorem shaped_i(a:Int):Cq (.int a)=true:=rfl
theorem shaped_b(a:Bool):Cq (.bool a)=true:=rfl
theorem cy{x y:Int}(h:y≠0)(b:y.natAbs<2^64):(x.fmod y).natAbs<2^64:=Nat.lt_trans (dW h) b
theorem io.of{i j:Int}(h:j≠0)(b:j.natAbs<2^64):io i j:=⟨h,A7 b (Ch (by decide) (by decide))⟩
theorem qC{a:Int}(h:b≠0):0<(BI a b:Int):=by
 have:=Int.gcd_pos_of_ne_zero_right a h;omega
theorem tJ{a:Int}(h:b≠0):(BI a b)<=b.natAbs:=Nat.le_of_dvd (by omega) (Int.gcd_dvd_natAbs_right a b)
theorem vF{xs:List α}{k:Int}(h0:0<=k)(h1:k<(xs.length:Int)):∃z,L2.atI xs k=some z/\z∈xs:=by
 obtain⟨n,rfl⟩:=Br h0;have hn:n<xs.length:=by omega
 exact⟨xs[n],df (A5 hn),B6 hn⟩
noncomputable def wW(neg:Bool):W->W->(W->Prop)->Prop:=fun x y Q=>∃a b:Str,x = .d (.str a)/\y = .d (.str b)/\Q (.d (.bool (if neg then !decide (a=b)else decide (a=b))))
section
variable{P:Bd}{w:BM}{K:W.Frag}{mg:Str->Option AR}{base:Heap}{rl:Option Addr}{x:Str}{st:Stmt}{N ps:List Str}{k:Nat}{Pd:List W->(List AN->Prop)->Prop}{t:zR}
end
section
variable{X:Cx}{rl:Option Addr}{e:Expr}{es:List Expr}{fs:zQ}{pos p:Pos}
noncomputable def uA(Pd:List W->(List AN->Prop)->Prop)(fs:zQ):TV:=fun ρ Q=>fs ρ fun ws=>ws.all dg=true/\Pd ws fun xs=>Q (.ml xs)
theorem pV(X:Cx)(rest:List Stmt):Ag X rest (fun D σ H=>∀pins s,Inv X pins σ H s->Bi (BH X.prog X.w) X.A (execs rest X.env) (SP X pins D) X.xe s):=fun pins s σ H D I h=>h pins s I
end
theorem nN(h:ns.length<=63):oJ (ns.map V.int) none (some 63)=ns.map V.int:=by
 unfold oJ;rw[HT.sIx_none]
 have e:HT.sIx (ns.map V.int).length (ns.map V.int).length (some 63)=(ns.map V.int).length:=by
  have:=HT.sIx_nat (ns.map V.int).length (ns.map V.int).length 63;rw[show((63:Nat):Int)=63 from rfl]at this;rw[this,AV];omega
 rw[e];simp;exact BK (by simp)
section
variable{X:Cx}{rl:Option Addr}{a b c e:Expr}{es:List Expr}{fa fb fc:TV}{fs:zQ}{pos p:Pos}
noncomputable def du:AN->Option (List AN)
 | .list xs=>some xs
 | .tuple xs=>some xs
 | _=>none
theorem seq_l(xs:List AN):du (.list xs)=some xs:=rfl
theorem seq_t(xs:List AN):du (.tuple xs)=some xs:=rfl
theorem du.of{o:Option AN}(h:o=some d)(e:du d=some xs):o=some (.list xs)\/o=some (.tuple xs):=by
 cases d<;>cases e
 · exact .inl h
 · exact .inr h
noncomputable def nq:List W->(W->Prop)->Prop:=fun ws Q=>∃w d xs,ws=[w]/\w.dat=some d/\du d=some xs/\Q (.d (.tuple xs))
theorem rg:gN X rl (fun xs H Q=>∃p ys,xs=[.ref p]/\((zX X.K H p ys/\∀l,H l=none->Q (.ref l) (upd H l (.tup ys)))\/(zW X.K H p ys/\Q (.ref p) H))) nq:=fun{F H vs ws} Qd Q s ra r ⟨w,d,xs,ew,ed1,ed2,q⟩ k=>by
 have ed:=du.of ed1 ed2;subst ew;obtain⟨v,rfl,r1⟩:=pM r;rcases ed with ed|ed
 · obtain⟨a,us,rfl,sq,rs⟩:=r1.items s ed;refine⟨a,us,rfl,.inl ⟨sq,fun l hl=>?_⟩⟩;have g:=Grow.data (a:=l) (o:=.tup us) s ra hl;exact k _ (.d (.tuple xs)) _ _ g (.tup (.inl (.inl ak)) (rs.mono g.fs)) trivial q
 · cases w with
   | d y =>
     cases ed
     cases(show Rep X.K F v (.tuple xs)from r1)with
     | tup sq rs=>exact⟨_,_,rfl,.inr ⟨cL s sq,k _ (.d (.tuple xs)) _ _ (Grow.refl s ra) (.tup sq rs) trivial q⟩⟩
   | ml ys=>cases ed
   | pk ys=>cases ed
   | reel=>cases ed
   | vv u=>cases ed
   | md u=>cases ed
   | mk u=>cases ed
   | xm u=>cases ed
   | lk=>cases ed
   | sc _=>cases ed
   | fd _=>cases ed
   | xr _=>cases ed
   | fw _=>cases ed
   | ft _=>cases ed
   | xc _ _=>cases ed
   | dp _ _=>cases ed
   | nt ds =>
     cases ed;obtain⟨b,us,rfl,h,q'⟩:=r1;exact⟨_,_,rfl,.inr ⟨.inl (.inl (s _ _ h)),k _ (.d (.tuple xs)) _ _ (Grow.refl s ra) (.tup (.inl (.inl h)) q') trivial q⟩⟩
theorem eV(hm:X.mg "tuple" = none)(ha:Ad X rl [a] fs)(hg:autoParam (Gl X "tuple") æa._auto_1)(he:autoParam (AW [a] X.env=(false,eval a X.env)::AW [] X.env) æa._auto_1)(hpl:autoParam ((Cj pos (AW [] X.env)).any (·.1)=false) æa._auto_1) :
 PV X rl (.Call (.Name "tuple" p) [a] [] pos) (d7 nq fs):=iC fO rg hm (by rfl) ha hg (by decide) (by decide) he hpl
noncomputable def tQ:List W->(W->Prop)->Prop:=fun ws Q=>∃w d xs,ws=[w]/\w.dat=some d/\du d=some xs/\Q (.ml xs)
noncomputable def uF(i j l:Nat)(fs:zQ):zR:=fun D ρ=>fs ρ fun ws=>∃x y z,fM ws=some [x,y,z]/\D.nx (((ρ.set i (some (.d x))).set j (some (.d y))).set l (some (.d z)))
end
section
variable{X:Cx}{rl:Option Addr}
noncomputable def wV:W->W->(W->Prop)->Prop:=fun x y Q=>∃b c,x = .d (.bool b)/\y = .d (.bool c)/\Q (.d (.bool (b==c)))
end
section
variable{X:Cx}{rl:Option Addr}{a b c e:Expr}{es:List Expr}{fa fb fc:TV}{fs:zQ}{pos p p2:Pos}
noncomputable def zz(f:Int->Int->AN):List W->(W->Prop)->Prop:=fun ws Q=>∃i j,ws=[.d (.int i),.d (.int j)]/\Q (.d (f i j))
theorem uw{f:Int->Int->V}{g:Int->Int->AN}(h:∀K F i j,Rep K F (f i j) (g i j)):gN X rl (fun xs H Q=>∃i j,xs=[.int i,.int j]/\Q (f i j) H) (zz g):=fun{F H vs ws} Qd Q s ra r ⟨i,j,ew,q⟩ k=>by
 subst ew;obtain⟨v,u,rfl,r1,r2⟩:=qU r;have e1:=aF r1;have e2:=aF r2;subst e1 e2;exact⟨i,j,rfl,k _ (.d _) _ _ (Grow.refl s ra) (h _ _ i j) trivial q⟩
theorem n8(hm:X.mg "max" = none)(ha:Ad X rl [a,b] fs)(hc:autoParam (X.calm=true) æa._auto_1)(hg:autoParam (Gl X "max") æa._auto_1)(he:autoParam (AW [a,b] X.env=(false,eval a X.env)::AW [b] X.env) æa._auto_1)(hpl:autoParam ((Cj pos (AW [b] X.env)).any (·.1)=false) æa._auto_1) :
 PV X rl (.Call (.Name "max" p) [a,b] [] pos) (d7 (zz fun i j=>.int (max i j)) fs) :=
 eW (lN hc) (uw (f:=fun i j=>.int (if j>i then j else i)) fun _ _ i j=>(show(if j>i then j else i)=max i j by split<;>omega) ▸ .int _) hm (by rfl) ha hg (by decide) (by decide) he hpl
noncomputable def fH:List W->(W->Prop)->Prop:=fun ws Q=>∃i j,ws=[.d (.int i),.d (.int j)]/\0<j/\j<1073741824/\Q (.d (.tuple [.int (i / j),.int (i%j)]))
theorem jQ:gN X rl (fun xs H Q=>∃i j,xs=[.int i,.int j]/\xg i j/\∀p,H p=none->Q (.ref p) (upd H p (.tup [.int (i / j),.int (i%j)]))) fH:=fun{F H vs ws} Qd Q s ra r ⟨i,j,ew,h1,h2,q⟩ k=>by
 subst ew;obtain⟨v,u,rfl,r1,r2⟩:=qU r;have e1:=aF r1;have e2:=aF r2;subst e1 e2;refine⟨i,j,rfl,⟨h1,h2⟩,fun p hp=>?_⟩;have g:=Grow.data (a:=p) (o:=.tup [.int (i / j),.int (i%j)]) s ra hp;exact k _ (.d _) _ _ g (.tup (.inl (.inl ak)) (.cons (.int _) (.cons (.int _) .nil))) trivial q
theorem l7(hm:X.mg "divmod" = none)(ha:Ad X rl [a,b] fs)(hg:autoParam (Gl X "divmod") æa._auto_1)(he:autoParam (AW [a,b] X.env=(false,eval a X.env)::AW [b] X.env) æa._auto_1)(hpl:autoParam ((Cj pos (AW [b] X.env)).any (·.1)=false) æa._auto_1) :
 PV X rl (.Call (.Name "divmod" p) [a,b] [] pos) (d7 fH fs):=eW ii jQ hm (by rfl) ha hg (by decide) (by decide) he hpl
noncomputable def tS:List W->(W->Prop)->Prop:=fun ws Q=>(∃i,ws=[.d (.int i)]/\Q (.d (.int i)))\/∃k:Bool,ws=[.d (.bool k)]/\Q (.d (.int (if k then 1 else 0)))
noncomputable def zk(C:Int->Int->Prop)(f:Int->Int->Int):zT:=fun x y H Q=>∃i j,x = .int i/\y = .int j/\C i j/\Q (.int (f i j)) H
theorem qu:Ai X .Add (zk (fun _ _=>True) fun i j=>i+j):=fun pins s σ H x y v u Q I r1 r2 ⟨i,j,e1,e2,_,q⟩=>tH pins s σ H x y v u Q I r1 r2 ⟨i,j,e1,e2,q⟩
theorem hJ:Ai X .Mult (zk bp fun i j=>i*j):=by
 intro pins s σ H x y v u Q I r1 r2 h;obtain⟨i,j,e1,e2,hc,q⟩:=h;subst e1;subst e2;obtain⟨t,rfl⟩:=r1;obtain⟨t',rfl⟩:=r2;exact imul_int ⟨.int _,H,I.tok _,⟨_,rfl⟩,q⟩ hc.ok
noncomputable def uL(i:Nat)(C:Int->Int->Prop)(f:Int->Int->Int)(fa:TV):zR:=fun D ρ=>∃n,ρ[i]?=some (some (.d (.int n)))/\fa ρ fun w=>∃m,w = .d (.int m)/\C n m/\D.nx (ρ.set i (some (.d (.int (f n m)))))
theorem iw(i:Nat){op:Gu}{C:Int->Int->Prop}{f:Int->Int->Int}(hN:X.N.Nodup)(ho:Ai X op (zk C f))(he:PV X rl e fa)(hi:autoParam (X.N[i]?=some x) æa._auto_1)(hx:autoParam (Loc X.env.scope x) æe._auto_1)
 (hf:autoParam (X.fn x=true\/X.env.scope.names.lookup x=some .local) æf._auto_1):Ah X rl (.AugAssign (.Name x pos') op e pos) (uL i C f fa):=by
 obtain⟨t,p,k⟩:=he;refine⟨_,sx hN hi hx p ho hf,fun R Dv D ok ⟨n,e1,q⟩=>?_⟩;obtain⟨v,s1,r1,_⟩:=R.sl i _ e1;have ev:=aF r1;subst ev;refine⟨_,s1,k R _ _ q fun v w F1 H1 g1 r1 n1 ⟨m,ew,hc,q1⟩=>?_⟩;subst ew;have ev:=aF r1;subst ev;exact⟨n,m,rfl,rfl,hc,ok.nx _ _ _ _ g1.fs (R.set g1 (v:=.int (f n m)) (w:=.d (.int (f n m))) (.int _) trivial (fun _ z=>by cases z) i) q1⟩
noncomputable def cutD(xs:List AN)(lo hi:Option Int):List AN:=(xs.drop (HT.sIx xs.length 0 lo)).take (HT.sIx xs.length xs.length hi-HT.sIx xs.length 0 lo)
theorem Reps.cut{K:W.Frag}{ds:List AN}(r:Reps K F vs ds)(lo hi:Option Int):Reps K F (oJ vs lo hi) (cutD ds lo hi):=by
 unfold oJ cutD;rw[r.length];exact(r.drop _).take _
abbrev zS:=En->(Option Int->Prop)->Prop
noncomputable def Ae(X:Cx)(rl:Option Addr)(o:Option Expr)(f:zS):Prop:=∃t,PO X o t/\∀{F₀ H₀ F H:Hp}{σ:St}{ρ:En},VR X.K rl F₀ H₀ F H σ ρ->∀(Qd:Option Int->Prop)(Q:Option Int->Hp->Prop),f ρ Qd ->
 (∀o F' H',Grow rl F H F' H'->Qd o->Q o H')->t σ H Q
noncomputable def yZ:zS:=fun _ Q=>Q none
noncomputable def y7(fa:TV):zS:=fun ρ Q=>fa ρ fun w=>∃i,w = .d (.int i)/\Q (some i)
theorem gR:Ae X rl none yZ:=⟨_,kL,fun R Qd Q q k=>k _ _ _ (Grow.refl R.sub R.reel) q⟩
theorem gQ(h:PV X rl e fa):Ae X rl (some e) (y7 fa):=by
 obtain⟨t,p,k⟩:=h;refine⟨_,g_ p,fun R Qd Q q h=>k R _ _ q fun v w F1 H1 g1 r1 n1 ⟨i,ew,q1⟩=>?_⟩;subst ew;exact⟨i,aF r1,h _ F1 H1 g1 q1⟩
noncomputable def uD(fa:TV)(fl fh:zS):TV:=fun ρ Q=>fa ρ fun w=>fl ρ fun l=>fh ρ fun h=>∃xs,w.dat=some (.list xs)/\Q (.ml (cutD xs l h))
theorem pf{lo hi:Option Expr}{fl fh:zS}(ha:PV X rl a fa)(hl:Ae X rl lo fl)(hh:Ae X rl hi fh):PV X rl (.Subscript a (.Slice lo hi none p2) pos) (uD fa fl fh):=by
 obtain⟨t,p,k⟩:=ha;obtain⟨tl,pl,kl⟩:=hl;obtain⟨th,ph,kh⟩:=hh;refine⟨_,iS j6 p pl ph,fun R Qd Q q h=>k R _ _ q fun v w F1 H1 g1 r1 n1 q1=>?_⟩;refine kl (R.grow g1) _ _ q1 fun l F2 H2 g2 q2=>kh ((R.grow g1).grow g2) _ _ q2 fun u F3 H3 g3 q3=>?_;obtain⟨xs,ed,q3⟩:=q3;have r3:=(r1.grow g2).grow g3;obtain⟨a,vs,rfl,sq,rs⟩:=r3.items g3.sub ed;have g:=(g1.trans g2).trans g3;exact⟨a,vs,rfl,sq,fun p hp=>h _ (.ml _) _ _ (g.trans (Grow.laid g3.sub g3.reel hp)) (cV g3.sub g3.reel hp (rs.cut l u)) (fun a ea=>by cases ea;exact g.freeB hp) q3⟩
noncomputable def nB:W->W->(W->Prop)->Prop:=fun x y Q=>∃xs ys,x.dat=some (.list xs)/\y.dat=some (.list ys)/\xs.length+ys.length<=sizeLine/\Q (.ml (xs++ys))
theorem cQ.lst{K:W.Frag}{F H:Hp}{v:V}{w:W}{xs:List AN}(s:aZ F H)(r:cQ K rl F H v w)(e:w.dat=some (.list xs)):∃a vs,v = .ref a/\H a=some (.lst vs)/\Reps K F vs xs:=by
 have own:d6 K rl F H v xs->∃a vs,v = .ref a/\H a=some (.lst vs)/\Reps K F vs xs:=fun⟨a,vs,e1,_,_,e2,e3⟩=>⟨a,vs,e1,e2,e3⟩
 cases w with
 | d y =>
   cases e
   cases(show Rep K F v (.list xs)from r)with
   | lst h q=>exact⟨_,_,rfl,s _ _ h,q⟩
 | ml ys=>cases e;exact own r
 | pk ys=>cases e;exact own r
 | reel=>cases e
 | vv u=>cases e
 | md u=>cases e
 | mk u=>cases e
 | xm u=>cases e
 | nt u=>cases e
 | lk=>cases e
 | sc _=>cases e
 | fd _=>cases e
 | xr _=>cases e
 | fw _=>cases e
 | ft _=>cases e
 | xc _ _=>cases e
 | dp _ _=>cases e
theorem o8:zO X rl wM nB:=fun{F H x y wx wy} Qd Q s ra r1 r2 q k=>by
 obtain⟨xs,ys,e1,e2,z,q⟩:=q;obtain⟨a,vs,rfl,h1,q1⟩:=r1.lst s e1;obtain⟨b,us,rfl,h2,q2⟩:=r2.lst s e2;refine⟨a,b,vs,us,rfl,rfl,h1,h2,by rw[q1.length,q2.length];exact z,fun p hp=>?_⟩;exact k _ (.ml _) _ _ (Grow.laid s ra hp) (cV s ra hp (q1.append q2)) (fun a ea=>by cases ea;exact hp) q
theorem jT(ha:PV X rl a fa)(hb:PV X rl b fb):PV X rl (.BinOp a .Add b pos) (yl nB fa fb):=gn sP o8 ha hb
noncomputable def rM(p p':Int->Int->Bool)(fa fb fc:TV):TV:=fun ρ Q=>fa ρ fun x=>fb ρ fun y=>∃i j,x = .d (.int i)/\y = .d (.int j) /\
 if p i j=true then fc ρ fun z=>∃k,z = .d (.int k)/\Q (.d (.bool (p' j k)))else Q (.d (.bool false))
structure GlD (K:W.Frag) (mg:Str->Option AR) (x:Str) (d:AN):Prop where
 ex:∃v u,mg x=some u/\RelV v u/\∀F,Rep K F v d
theorem rB(G:GlD X.K X.mg x d)(hg:autoParam (Gl X x) æa._auto_1)(hd:autoParam ((x==("__debug__" : Str))=false) æb._auto_1):PV X rl (.Name x pos) (vC d):=by
 obtain⟨v,u,h1,h2,h3⟩:=G.ex;exact pQ h1 h2 h3 hg hd
structure GlK (K:W.Frag) (x:Str) (d:AN):Prop where
 ex:∃v u,W.nsIn K Bu x=some (some u)/\RelV v u/\∀F,Rep K F v d
theorem GlK.of{K:W.Frag}(k:GlK K x d)(Y:K.In h)(G:h.Ns Bu mg):GlD K mg x d:=by
 obtain⟨v,u,h1,h2,h3⟩:=k.ex;exact⟨v,u,W.mg_of Y G h1,h2,h3⟩
end
end L2.VL
namespace L2
section
variable{X:Cx}{a b:Expr}{ta:TA}{p q pos pos2:Pos}
theorem eI{α β:Type}{R:α->β->Prop}:∀{xs:List α}{ys:List β},xs.length=ys.length->(∀(i:Nat) x y,xs[i]?=some x->ys[i]?=some y->R x y)->BC R xs ys
 | [],[],_,_=>.nil
 | x::xs,y::ys,hl,h=>.cons (h 0 x y rfl rfl) (eI (by simpa using hl) fun i x y e1 e2=>h (i+1) x y (by simpa using e1) (by simpa using e2))
 | [],_::_,hl,_=>by simp at hl
 | _::_,[],hl,_=>by simp at hl
noncomputable def fC(lo:Int)(n:Nat):List V:=(Bq n).map fun(i:Nat)=>V.int (lo+i)
theorem eS{lo:Int}{acc:Array AR}(h:ItemsOf (fun i v=>∃t,v = .int (lo+i*1) t) acc n):bB (fC lo n) acc.toList:=by
 obtain⟨h1,h2⟩:=h;refine eI ?_ ?_
 · simp[fC,h1]
 · intro i v u e1 e2;unfold fC at e1;rw[Bp]at e1;obtain⟨t,e4⟩:=h2 i u (by simpa using e2);by_cases hi:i<n
   · rw[A5 (by simpa using hi)]at e1;simp at e1;subst e1;exact⟨t,by rw[e4];simp⟩
   · rw[Fb (by simpa using hi)]at e1;cases e1
theorem jy{Q:VK}{lo hi:Int}{t u v:Tok}{tk:Nat}(hc:X.calm=true)(I:Inv X pins σ H s)(h1 : -(2^62)<=lo)(h2:lo<2^62)(h3 : -(2^62)<=hi)(h4:hi<2^62)(h5:(hi-lo).toNat<=2^24)
 (q:∀l,H l=none->Q (.ref l) (upd H l (.lst (fC lo (hi-lo).toNat)))):Bi (BH X.prog X.w) X.A (call (.type "list") [.ref s.heap.objs.size]) (EP X pins σ Q) X.xe {s with heap:=s.heap.push {cls:=.type "range", data:=.fields #[.int lo t,.int hi u,.int 1 v]},toks:=tk}:=by
 have I1:Inv X pins σ H {s with heap:=s.heap.push {cls:=.type "range", data:=.fields #[.int lo t,.int hi u,.int 1 v]},toks:=tk}:=I.kept fun b o e=>AT _ e;refine call_list_range (n:=(hi-lo).toNat) (I.ok.hd hc) (IsRange.new ..) (small_one h1 h2 h3 h4) (by rw[rangeSize_one];split<;>omega) h5 fun h' tk acc c hk hn hi=>?_;have hv:=eS hi;refine⟨.ref _,_,I1.laid (t':=tk) hk (AY _) (show cj X.prog X.w _ h' _ (.lst _)from⟨?_,acc.toList,c,hv,by rw[Array.toArray_toList];exact hn⟩),rfl,q _ (I1.hok.fresh (AY _))⟩;show(fC lo _).length<=sizeLine;rw[fC,AV,CV];exact Ca h5 (by decide)
noncomputable def xz(ta:TA):TE:=fun σ H Q=>ta σ H fun vs H1=>∃i j:Int,vs=[.int i,.int j]/\(-(2^62)<=i/\i<2^62 /\ -(2^62)<=j/\j<2^62)/\(j-i).toNat<=2^24/\∀l,H1 l=none->Q (.ref l) (upd H1 l (.lst (fC i (j-i).toNat)))
theorem js(hc:X.calm=true)(hl:Gl X "list")(hml:X.mg "list" = none)(hg:Gl X "range")(hm:X.mg "range" = none)(ha:PA X [a,b] ta)(hs:autoParam (AW [a,b] X.env=[(false,eval a X.env),(false,eval b X.env)]) æa._auto_1)(hs2:autoParam (AW [b] X.env=[(false,eval b X.env)]) æa._auto_1)
 (he:autoParam (AW [.Call (.Name "range" p) [a,b] [] pos2] X.env=(false,eval (.Call (.Name "range" p) [a,b] [] pos2) X.env)::AW [] X.env) æa._auto_1)(hpl:autoParam ((Cj pos (AW [] X.env)).any (·.1)=false) æa._auto_1) :
 PE X (.Call (.Name "list" q) [.Call (.Name "range" p) [a,b] [] pos2] [] pos) (xz ta):=by
 intro pins s σ H Q I h;refine DB (dk I hl hml (by rfl) ?_ (by decide) (by decide));refine BP ?_ he hpl;rw[he];show Bi _ _ (spliced ((false,eval (.Call (.Name "range" p) [a,b] [] pos2) X.env)::Cj pos (AW [] X.env))) _ _ s;refine Calls.spliced_cons ?_;refine Call_ (dk I hg hm boot_range (BP (yy (ha pos2 pins s σ H _ I h) fun us s1 ⟨vs,H1,I1,r1,q1⟩=>?_) (by rw[hs,hs2]) (by rw[hs2]<;>rfl)));obtain⟨i,j,e,⟨h1,h2,h3,h4⟩,h5,q1⟩:=q1;subst e
 cases r1 with
 | cons r rr =>
   cases rr with
   | cons r' rr =>
     cases rr;obtain⟨t,rfl⟩:=r;obtain⟨t',rfl⟩:=r';exact call_range_2 (Calls.spliced_nil (jy hc I1 h1 h2 h3 h4 h5 q1))
end
end L2
namespace L2.VL
section
variable{X:Cx}{rl:Option Addr}{a b c e:Expr}{es:List Expr}{fa fb fc:TV}{fs:zQ}{pos pos2 p q:Pos}
theorem jq{K:W.Frag}(lo:Int)(n:Nat):Reps K F (fC lo n) (aA lo n):=by
 unfold fC aA;generalize Bq n=l
 induction l with
 | nil=>exact .nil
 | cons x l ih=>exact .cons (.int _) ih
noncomputable def wD(fs:zQ):TV:=fun ρ Q=>fs ρ fun ws=>∃i j:Int,ws=[.d (.int i),.d (.int j)]/\(-(2^62)<=i/\i<2^62 /\ -(2^62)<=j/\j<2^62)/\(j-i).toNat<=2^24/\Q (.ml (aA i (j-i).toNat))
noncomputable def xk(fs:zQ):TV:=fun ρ Q=>fs ρ fun ws=>∃j:Int,ws=[.d (.int j)]/\(-(2^62)<=j/\j<2^62)/\j.toNat<=2^24/\Q (.ml (aA 0 j.toNat))
theorem jR(hml:X.mg "list" = none)(hm:X.mg "range" = none)(ha:Ad X rl [a,b] fs)(hc:autoParam (X.calm=true) æa._auto_1)(hl:autoParam (Gl X "list") æa._auto_1)(hg:autoParam (Gl X "range") æa._auto_1)(hs:autoParam (AW [a,b] X.env=[(false,eval a X.env),(false,eval b X.env)]) æa._auto_1)(hs2:autoParam (AW [b] X.env=[(false,eval b X.env)]) æa._auto_1)
 (he:autoParam (AW [.Call (.Name "range" p) [a,b] [] pos2] X.env=(false,eval (.Call (.Name "range" p) [a,b] [] pos2) X.env)::AW [] X.env) æa._auto_1)(hpl:autoParam ((Cj pos (AW [] X.env)).any (·.1)=false) æa._auto_1) :
 PV X rl (.Call (.Name "list" q) [.Call (.Name "range" p) [a,b] [] pos2] [] pos) (wD fs):=by
 obtain⟨t,p1,k⟩:=ha;refine⟨_,js hc hl hml hg hm p1 hs hs2 he hpl,fun R Qd Q q h=>k R _ _ q fun vs ws F1 H1 g1 r1 ⟨i,j,ew,z,y,q1⟩=>?_⟩;subst ew;obtain⟨v,u,rfl,rv,ru⟩:=qU r1;have e1:=aF rv;have e2:=aF ru;subst e1 e2;exact⟨i,j,rfl,z,y,fun l hl=>h _ (.ml _) _ _ (g1.trans (Grow.laid g1.sub g1.reel hl)) (cV g1.sub g1.reel hl (jq _ _)) (fun a ea=>by cases ea;exact g1.freeB hl) q1⟩
noncomputable def gT(i j:Nat)(fa:TV):zR:=fun D ρ=>∃xs ys,ρ[i]?=some (some (.ml xs))/\ρ[j]?=some (some (.ml ys))/\fa ρ fun w=>∃k y,w = .d (.int k)/\0<=k/\k<(ys.length:Int)/\ys.length<2^62/\ys[k.toNat]?=some y/\xs.length<sizeLine /\
 D.nx ((ρ.set j (some (.ml (ys.eraseIdx k.toNat)))).set i (some (.ml (xs++[y]))))
theorem Reps.erase{K:W.Frag}{F:Hp}:∀{vs:List V}{ds:List AN}(n:Nat),Reps K F vs ds->Reps K F (vs.eraseIdx n) (ds.eraseIdx n)
 | _,_,_,.nil=>by simp;exact .nil
 | _,_,0,.cons h r=>r
 | _,_,n+1,.cons h r=>.cons h (Reps.erase n r)
theorem jM(i j:Nat){y:Str}{py ap cp ap2 cp2:Pos}(hij:i≠j)(ha:PV X rl e fa)(hN:autoParam (X.N[i]?=some x) æa._auto_1)(hv:autoParam (zN X.env.scope x) æd._auto_1)(hN2:autoParam (X.N[j]?=some y) æa._auto_1)(hv2:autoParam (zN X.env.scope y) æd._auto_1)
 (hd:autoParam ((x==("__debug__" : Str))=false) æb._auto_1)(hcd:autoParam ((x==("__classdict__" : Str))=false) æb._auto_1)(hd2:autoParam ((y==("__debug__" : Str))=false) æb._auto_1)(hcd2:autoParam ((y==("__classdict__" : Str))=false) æb._auto_1)
 (hbase:autoParam (C0 (.Name x px) "append" X.env (eval (.Name x px) X.env)=eval (.Name x px) X.env) æa._auto_1)(hbase2:autoParam (C0 (.Name y py) "pop" X.env (eval (.Name y py) X.env)=eval (.Name y py) X.env) æa._auto_1)
 (hfew2:autoParam (((Cj cp2 (AW [e] X.env)).all (fun x=>!x.1)&&(EQ cp2 (Ds [] X.env)).all (fun x=>x.1.isSome)
  && decide (([e]).length+([]:List Dl).length+(if([]:List Dl).isEmpty then 0 else 1)<30))=true) æa._auto_1)
 (hline2:autoParam ((ap2.endLine==cp2.line)=true) æa._auto_1)(hs2:autoParam (AW [e] X.env=(false,eval e X.env)::AW [] X.env) æa._auto_1)(hplain2:autoParam ((Cj cp2 (AW [] X.env)).any (·.1)=false) æa._auto_1)
 (hfew:autoParam (((Cj cp (AW [.Call (.Attribute (.Name y py) "pop" ap2) [e] [] cp2] X.env)).all (fun x=>!x.1)&&(EQ cp (Ds [] X.env)).all (fun x=>x.1.isSome)
  && decide (([Expr.Call (.Attribute (.Name y py) "pop" ap2) [e] [] cp2]).length+([]:List Dl).length+(if([]:List Dl).isEmpty then 0 else 1)<30))=true) æa._auto_1)
 (hline:autoParam ((ap.endLine==cp.line)=true) æa._auto_1)(hs:autoParam (AW [.Call (.Attribute (.Name y py) "pop" ap2) [e] [] cp2] X.env=(false,eval (.Call (.Attribute (.Name y py) "pop" ap2) [e] [] cp2) X.env)::AW [] X.env) æa._auto_1)(hplain:autoParam ((Cj cp (AW [] X.env)).any (·.1)=false) æa._auto_1)
 (hsw:autoParam (C4 (.Call (.Attribute (.Name x px) "append" ap) [.Call (.Attribute (.Name y py) "pop" ap2) [e] [] cp2] [] cp) none pos.line X.env=pure false) æa._auto_1) :
 Ah X rl (.Expr (.Call (.Attribute (.Name x px) "append" ap) [.Call (.Attribute (.Name y py) "pop" ap2) [e] [] cp2] [] cp) pos) (gT i j fa):=by
 obtain⟨t,p1,k⟩:=ha;refine⟨_,kJ (p8 DF EC ED dS (eG hN hv hd hcd) (bu (p8 DF PySem.F.slot_list_pop PySem.F.type_list_pop mO (eG hN2 hv2 hd2 hcd2) (bu p1 cH hs2) hbase2 hfew2 hline2 hs2 hplain2) cH hs) hbase hfew hline hs hplain) hsw,fun{F₀ H₀ F H σ ρ} R Dv D ok ⟨xs,ys,e1,e2,q⟩=>?_⟩;obtain⟨v,h1,h2,h3⟩:=R.sl i _ e1;obtain⟨a,vs,rfl,f,hr,hh,rs⟩:=(show d6 X.K rl F H v xs from h2);obtain⟨v',h1',h2',h3'⟩:=R.sl j _ e2;obtain⟨a',vs',rfl,f',hr',hh',rs'⟩:=(show d6 X.K rl F H v' ys from h2');have hne:a≠a':=fun z=>R.ap i j _ _ (.ref a) hij e1 e2 rfl rfl h1 (by rw[h1',z]);refine⟨.ref a,h1,.inl ⟨rfl,vs,.inl (.inl hh)⟩,.ref a',h1',.inl ⟨rfl,vs',.inl (.inl hh')⟩,k R _ _ q fun v w F1 H1 g1 r1 n1 ⟨kk,y,ew,b1,b2,b3,ey,hz,q1⟩=>?_⟩;subst ew;have ev:=aF r1;subst ev;have hA:=g1.same a _ hh hr;have hA':=g1.same a' _ hh' hr';have rs1:=rs.mono g1.fs;have rs1':=rs'.mono g1.fs;obtain⟨vy,ey',ry⟩:=rs1'.get ey;refine⟨a',vs',kk,kk.toNat,vy,rfl,rfl,hA',by omega,by omega,?_,ey',?_⟩
 · have:kk<(vs'.length:Int):=by rw[rs'.length];exact b2
   exact FW b1 this
 · have R1:=(R.grow g1).own e2 h1' (rs1'.erase kk.toNat);have e1':(ρ.set j (some (.ml (ys.eraseIdx kk.toNat))))[i]?=some (some (.ml xs)):=by rw[A6 (EK hij)];exact e1
   refine⟨a,vs,vy,rfl,rfl,by rw[upd_ne hne];exact hA,by rw[rs.length];exact hz,?_⟩;exact ok.nx _ _ _ _ g1.fs (R1.own e1' h1 (rs1.snoc ry)) q1
end
theorem cA{f:AN->AN}:∀{xs:List AN}{os:List AN},BC (fun x o=>o=f x) xs os->os=xs.map f
 | _,_,.nil=>rfl
 | _,_,.cons h r=>by subst h;rw[cA r];rfl
theorem c_{β:Type}{xs:List α}{f:β->α->β}{a:β}(h:i<xs.length):(xs.take (i+1)).foldl f a=f ((xs.take i).foldl f a) xs[i]:=by
 rw[List.take_succ_eq_append_getElem h,List.foldl_append];rfl
end L2.VL
namespace L2
noncomputable def Ax(K:W.Frag)(a:Addr)(n:Nat):It :=
 ⟨fun i H=>i<n/\∃xs,zX K H a xs/\xs.length=n,fun i H x H'=>H'=H/\∀xs,zX K H a xs->xs[n-1-i]?=some x,fun i H=>n<=i⟩
theorem mh{w:BM}{K:W.Frag}(a it:Addr)(n:Nat):Turn P w K tg (Ax K a n) [it] it (fun i h=>h.IsRevIter it a ((n:Int)-1-(min i n:Nat))) where
 mem:=by simp
 obj:=fun i h st b hb=>by
  have e:b=it:=by simpa using hb
  subst e;obtain⟨o,e,c,d⟩:=st;exact⟨o,e,fun v z=>by rw[d]at z;cases z⟩
 keep:=fun i h h' st k=>st.at fun o e=>k it (by simp) o e
 item:=by
  intro X hP hw hK hc i pins s σ H E I hf st hg;subst hP hw hK;obtain⟨hi,xs,hq,hl⟩:=hg;obtain⟨its,rv,p,hz⟩:=I.list hq;have hx:xs[n-1-i]?=some xs[n-1-i]:=A5 (by omega);obtain⟨u,hu,ru⟩:=rv.get hx;obtain⟨f0,f1,f2,f3,f4,f5⟩:=hf it (by simp);have e1:(n:Int)-1-(min i n:Nat)=((n-1-i:Nat):Int):=by omega
  rw[e1]at st;refine wpAny_pyNext_rev_item st p.isList (x:=u) (by simpa using hu) fun h' st' sb=>?_;have I1:Inv X pins σ H {s with heap:=h' }:=I.turned (t':=s.toks) (fun b o hb e=>(sb.2 b hb).trans e) f0 f1 f3 f4 f5;have e2:((n-1-i:Nat):Int)-1=(n:Int)-1-(min (i+1) n:Nat):=by omega
  rw[e2]at st';obtain⟨o,e,c,d⟩:=id st';exact⟨u,rfl,lw (s:={s with heap:=h' }) e c d (by decide) ⟨_,H,I1,ru,⟨rfl,fun ys hy=>by rw[I.list_inj hy hq];exact hx⟩,st',fun b hb=>(hf b hb).1⟩⟩
 done:=by
  intro X hP hw hK hc i pins s σ H E I hf st hg;subst hP hw hK;have hg:n<=i:=hg;obtain⟨f0,f1,f2,f3,f4,f5⟩:=hf it (by simp);have e1:(n:Int)-1-(min i n:Nat) = -1:=by omega
  rw[e1]at st;exact wpAny_pyNext_rev_end (I.ok.hd hc) st fun h' eb=>⟨rfl,I.turned (t':=s.toks) (fun b o hb e=>eb b o hb e) f0 f1 f3 f4 f5⟩
 self:=fun _ _ _ _ _ st h=>FG st h
section
variable{X:Cx}{tg e:Expr}{ta te:TE}{p p2 pos:Pos}
noncomputable def xM(K:W.Frag)(t:TA):TI:=fun σ H R=>t σ H fun vs H1=>∃a xs,vs=[.ref a]/\zX K H1 a xs/\R (Ax K a xs.length) H1
theorem sE{a:Expr}{ta:TA}(hg:Gl X "reversed")(hm:X.mg "reversed" = none)(ha:PA X [a] ta)(hs:autoParam (AW [a] X.env=[(false,eval a X.env)]) æa._auto_1):PI X tg (.Call (.Name "reversed" p) [a] [] pos) (xM X.K ta):=by
 intro pins s σ H R I h;refine Call_ (dk I hg hm (by rfl) (BP (yy (ha pos pins s σ H _ I h) fun us s1 ⟨vs,H1,I1,r1,q1⟩=>?_) hs rfl) (by decide) (by decide));obtain⟨a,xs,e,hq,q⟩:=q1;subst e
 cases r1 with
 | cons r rr =>
   cases rr;cases r;obtain⟨its,rv,p,hz⟩:=I1.list hq;have hl:=rv.length;refine call_reversed_list p.isList ?_;refine FG (it:=s1.heap.objs.size) (l:=a) (i:=(xs.length:Int)-1) ⟨_,A3 _ rfl,rfl,by simp[hl,revObj]⟩ ?_;refine⟨s1.heap.objs.size,[s1.heap.objs.size],_,_,H1,rfl,I1.kept (t':=s1.toks) fun b o e=>AT _ e,mh a _ xs.length,?_,fun b hb=>?_,q⟩
   · exact⟨_,A3 _ rfl,rfl,by simp[hl,revObj]⟩
   · have e:b=s1.heap.objs.size:=by simpa using hb
     subst e;exact I1.fpOk (AY _) (I1.hok.fresh (AY _))
noncomputable def xp(K:W.Frag)(te:TE):TE:=fun σ H Q=>te σ H fun x H1=>∃a xs,x = .ref a/\zX K H1 a xs/\∀l,H1 l=none->Q (.ref l) (upd H1 l (.lst xs.reverse))
theorem sJ{p3 p4:Pos}(he:PE X e te):PE X (.Subscript e (.Slice none none (some (.UnaryOp .USub (.Constant (.int 1) j p3) p4)) p2) pos) (xp X.K te):=by
 intro pins s σ H Q I h;refine Subscript_ (yy (he pins s σ H _ I h) fun v s1 ⟨x,H1,I1,r1,q1⟩=>?_);obtain⟨a,xs,rfl,hq,q⟩:=q1;cases r1;refine wpAny_Slice ?_;rw[Gb];refine AX (AX ?_);refine yy (g_ (X:=X) (sG oh aq) pins s1 σ H1 (fun o H=>o=some (-1)/\H=H1) I1 ⟨1,rfl,-1,rfl,rfl,rfl⟩) fun vk s3 ⟨o,H3,I3,pk,eo,eH⟩=>?_;subst eo eH;have I4:Inv X pins σ H3 {s3 with heap:=s3.heap.push {cls:=.type "slice", data:=.fields #[.none,.none,vk]}}:=I3.kept (t':=s3.toks) fun b ob q=>AT _ q;obtain⟨its,rv,p,hz⟩:=I4.list hq;have hl:=rv.length;refine tail_any (ops:=[.ref a,.ref s3.heap.objs.size]) p.isList.typeIs slot_list_getitem.lookup ?_ (by with_unfolding_all rfl);refine EB p.isList (Heap.IsSliceOf.new ..) .none .none pk (by decide) ?_ (by rw[A4]<;>omega);rw[W.krv_pick];refine⟨.ref _,_,I4.laid (t':=s3.toks) (o:=.lst xs.reverse) (fun b ob q=>AT _ q) (AY _) ?_,rfl,q _ (I4.hok.fresh (AY _))⟩;exact⟨by rw[Eg];exact hz,its.reverse,0,rv.reverse,A3 _ rfl⟩
end
end L2
namespace L2.VL
section
variable{X:Cx}{rl:Option Addr}{a b c e tg:Expr}{es:List Expr}{fa fb fc:TV}{fs:zQ}{pos pos2 p p2 q:Pos}
theorem Reps.rev{K:W.Frag}{F:Hp}:∀{vs:List V}{ds:List AN},Reps K F vs ds->Reps K F vs.reverse ds.reverse
 | _,_,.nil=>.nil
 | _,_,.cons h r=>by rw[Dg,Dg];exact(Reps.rev r).snoc h
noncomputable def zq(fs:zQ):En->(List AN->Prop)->Prop:=fun ρ Q=>fs ρ fun ws=>∃xs,ws=[.d (.list xs)]/\Q xs.reverse
theorem fU(hm:X.mg "reversed" = none)(ha:Ad X rl [a] fs)(hg:autoParam (Gl X "reversed") æa._auto_1)(hs:autoParam (AW [a] X.env=[(false,eval a X.env)]) æa._auto_1):Aj X rl tg (.Call (.Name "reversed" p) [a] [] pos) (zq fs):=by
 obtain⟨t,p1,k⟩:=ha;refine⟨_,sE hg hm p1 hs,fun R Qd Q q h=>k R _ _ q fun vs ws F1 H1 g1 r1 ⟨xs,ew,q1⟩=>?_⟩;subst ew;obtain⟨v,rfl,rv⟩:=pM r1
 cases(show Rep X.K F1 v (.list xs)from rv)with
 | @lst a vs _ sq rs =>
   have sqH:∀H,aZ F1 H->zX X.K H a vs:=fun H s=>.inl (.inl (s _ _ sq));have hl:=rs.length;refine⟨a,vs,rfl,sqH H1 g1.sub,h _ xs.reverse F1 H1 g1 (.of (fun i H x e s=>⟨?_,vs,sqH H s,rfl⟩) (fun i H hl' s=>?_) (fun i H v H' x e s y=>?_)) q1⟩
   · have:=(A2.mp e).1;rw[Eg]at this;omega
   · show vs.length<=i;rw[Eg]at hl';omega
   · obtain⟨e',hy⟩:=y;obtain⟨v',ev,rv'⟩:=rs.rev.get e;have h1:=hy vs (sqH H s)
     have hi:i<vs.length:=by
      have:=(A2.mp ev).1;simpa using this
     rw[List.getElem?_reverse hi,h1]at ev;cases ev;exact⟨e',rv'⟩
noncomputable def po(fa:TV):TV:=fun ρ Q=>fa ρ fun w=>∃xs,w.dat=some (.list xs)/\Q (.ml xs.reverse)
theorem rA{p3 p4:Pos}(ha:PV X rl e fa):PV X rl (.Subscript e (.Slice none none (some (.UnaryOp .USub (.Constant (.int 1) j p3) p4)) p2) pos) (po fa):=by
 obtain⟨t,p1,k⟩:=ha;refine⟨_,sJ p1,fun R Qd Q q h=>k R _ _ q fun v w F1 H1 g1 r1 n1 ⟨xs,ed,q1⟩=>?_⟩;obtain⟨a,vs,rfl,sq,rs⟩:=r1.items g1.sub ed;exact⟨a,vs,rfl,sq,fun l hl=>h _ (.ml _) _ _ (g1.trans (Grow.laid g1.sub g1.reel hl)) (cV g1.sub g1.reel hl rs.rev) (fun a ea=>by cases ea;exact g1.freeB hl) q1⟩
end
end L2.VL
namespace L2
section
variable{X:Cx}
end
end L2
namespace L2.VL
section
variable{X:Cx}{rl:Option Addr}{a b c e:Expr}{es:List Expr}{fa fb fc:TV}{fs:zQ}{pos p p2:Pos}
noncomputable def wY(f:List Bool->Bool):List W->(W->Prop)->Prop:=fun ws Q=>∃(w:W)(bs:List Bool),ws=[w]/\w.dat=some (.list (bs.map .bool))/\Q (.d (.bool (f bs)))
end
end L2.VL
namespace L2.TM
section
variable{prog:Bd}{w:BM}{A:BJ}{E:AR->AS->Prop}{s:AS}{k:Int}{t:Tok}{l:Addr}{its:Array AR}
end
end L2.TM
namespace L2
section
variable{X:Cx}
end
end L2
namespace L2.VL
section
variable{X:Cx}{rl:Option Addr}{a b c e:Expr}{es:List Expr}{fa fb fc:TV}{fs:zQ}{pos p p2:Pos}
noncomputable def tN:W->W->(W->Prop)->Prop:=fun x y Q=>∃xs k,x = .d (.tuple xs)/\y = .d (.int k)/\xs≠[]/\1<=k/\k<2^62/\xs.length*k.toNat<=sizeLine/\Q (.d (.tuple (C6 k.toNat xs).flatten))
noncomputable def vA:W->W->(W->Prop)->Prop:=fun x y Q=>∃xs ys,x = .d (.tuple xs)/\y = .d (.tuple ys)/\xs≠[]/\xs.length+ys.length<=sizeLine/\Q (.d (.tuple (xs++ys)))
theorem o7:zO X rl (pN X.K) vA:=fun{F H x y wx wy} Qd Q s ra r1 r2 q k=>by
 obtain⟨xs,ys,rfl,rfl,hne,hz,q⟩:=q
 cases(show Rep X.K F x (.tuple xs)from r1)with
 | @tup a vs _ sq rs =>
   cases(show Rep X.K F y (.tuple ys)from r2)with
   | @tup b us _ sq2 rs2 =>
     refine⟨a,b,vs,us,rfl,rfl,cL s sq,cL s sq2,fun z=>hne ?_,by rw[rs.length,rs2.length];exact hz,fun e=>?_,fun e p hp=>?_⟩
     · subst z;cases rs;rfl
     · subst e;cases rs2;rw[Co]at q;exact k _ (.d (.tuple xs)) _ _ (Grow.refl s ra) (.tup sq rs) trivial q
     · have g:=Grow.data (a:=p) (o:=.tup (vs++us)) s ra hp;exact k _ (.d _) _ _ g (.tup (.inl (.inl ak)) ((rs.append rs2).mono g.fs)) trivial q
end
end L2.VL
namespace L2
section
variable{X:Cx}
theorem Room.u65(r:Room k A):A.units+65<F_:=by have:=r.un;omega
noncomputable def si(K:W.Frag):R2:=fun x y H Q=>∃a b ys,x = .ref a/\y = .ref b/\zW K H a []/\zW K H b ys/\Q (.ref b) H
theorem qa:Ao X (Dp .Add) (si X.K):=by
 intro pins s σ H x y v u Q I rx ry h;obtain⟨a,b,ys,rfl,rfl,ha,hb,q⟩:=h;cases rx;cases ry;obtain⟨its,r1,p1,_⟩:=I.tuple ha;obtain⟨its2,r2,p2,_⟩:=I.tuple hb;cases r1;obtain⟨⟨c1,d1,e1,sl1⟩,ho,hc,n,hd⟩:=p1;obtain⟨⟨c2,d2,e2,sl2⟩,ho2,hc2,n2,hd2⟩:=p2;cases hc;cases hd;cases hc2;cases hd2
 exact Gm ⟨_,ho,rfl⟩ ⟨_,ho2,rfl⟩ EZ Ga DS DE (Dw _ _)
  (tuple_addW0 a b _ its2.toArray n n2 d1 d2 sl1 sl2 rfl) ⟨ho,ho2,⟨.ref b,H,I,rfl,q⟩⟩
noncomputable def sg(K:W.Frag):R2:=fun x y H Q=>pN K x y H Q\/si K x y H Q
theorem p_:Ao X (Dp .Add) (sg X.K):=fun pins s σ H x y v u Q I rx ry h=>h.elim (p9 pins s σ H x y v u Q I rx ry) (qa pins s σ H x y v u Q I rx ry)
section
variable{prog:Bd}{w:BM}{A:BJ}{E:AR->AS->Prop}{s:AS}
end
end
end L2
namespace L2.VL
section
variable{X:Cx}{rl:Option Addr}{a b c e:Expr}{es:List Expr}{fa fb fc:TV}{fs:zQ}{pos p p2:Pos}
noncomputable def nD:W->W->(W->Prop)->Prop:=fun x y Q=>∃xs ys,x = .d (.tuple xs)/\y = .d (.tuple ys)/\xs.length+ys.length<=sizeLine/\Q (.d (.tuple (xs++ys)))
theorem o9:zO X rl (sg X.K) nD:=fun{F H x y wx wy} Qd Q s ra r1 r2 q k=>by
 obtain⟨xs,ys,rfl,rfl,hz,q⟩:=q;by_cases hx:xs=[]
 · subst hx
   cases(show Rep X.K F x (.tuple [])from r1)with
   | @tup a vs _ sq rs =>
     cases rs
     cases(show Rep X.K F y (.tuple ys)from r2)with
     | @tup b us _ sq2 rs2=>exact .inr ⟨a,b,us,rfl,rfl,cL s sq,cL s sq2,k _ (.d (.tuple ys)) _ _ (Grow.refl s ra) (.tup sq2 rs2) trivial q⟩
 · exact .inl (o7 Qd Q s ra r1 r2 ⟨xs,ys,rfl,rfl,hx,hz,q⟩ k)
theorem n_(ha:PV X rl a fa)(hb:PV X rl b fb):PV X rl (.BinOp a .Add b pos) (yl nD fa fb):=gn p_ o9 ha hb
theorem dE{K:W.Frag}{F:Hp}:∀{vs:List V}{ns:List Int},Reps K F vs (ns.map .int)->vs=ns.map V.int
 | _,[],h=>h.nil_iff
 | _,n::ns,.cons h r=>by rw[aF h,dE r];rfl
theorem i9{K:W.Frag}{F:Hp}:∀{ns:List Int},Reps K F (ns.map V.int) (ns.map .int)
 | []=>.nil
 | n::ns=>.cons (.int n) i9
noncomputable def tL:List W->(W->Prop)->Prop:=fun ws Q=>∃(ns:List Int),ws=[.d (.tuple (ns.map .int))]/\ns.length<64/\∀ns':List Int,ns'.Perm ns->ns'.Pairwise (· <= ·)->Q (.ml (ns'.map .int))
end
end L2.VL
namespace L2.TO
section
variable{prog:Bd}{w:BM}{A:BJ}{E:AR->AS->Prop}{s:AS}
end
end L2.TO
namespace L2
section
variable{X:Cx}{a b e:Expr}{ta:TA}{te:TE}{p p2 q pos pos2:Pos}
end
end L2
namespace L2.VL
section
variable{X:Cx}{rl:Option Addr}{a b c e:Expr}{es:List Expr}{fa fb fc:TV}{fs:zQ}{pos pos2 p q p2:Pos}
noncomputable def xj(fs:zQ):TV:=fun ρ Q=>fs ρ fun ws=>∃j:Int,ws=[.d (.int j)]/\(-(2^62)<=j/\j<2^62)/\j.toNat<=2^24/\Q (.d (.tuple (aA 0 j.toNat)))
noncomputable def rE(fa:TV):TV:=fun ρ Q=>fa ρ fun w=>∃xs,w = .d (.tuple xs)/\Q (.d (.tuple xs.reverse))
end
end L2.VL
namespace L2.TW
section
variable{prog:Bd}{w:BM}{A:BJ}{E:AR->AS->Prop}{s:AS}
end
end L2.TW
namespace L2
section
variable{X:Cx}
end
end L2
namespace L2.VL
section
variable{X:Cx}{rl:Option Addr}{a b c e:Expr}{es:List Expr}{fa fb fc:TV}{fs:zQ}{pos p p2:Pos}
noncomputable def wu(fa:TV)(fl fh:zS):TV:=fun ρ Q=>fa ρ fun w=>fl ρ fun l=>fh ρ fun h=>∃xs,w = .d (.tuple xs)/\Q (.d (.tuple (cutD xs l h)))
end
end L2.VL
namespace L2
abbrev xn(D:List (Str×Int)):List (AN×AN):=(D.map fun q=>(q.1,BA q.2)).map fun q=>(AN.str q.1,q.2)
section
variable{X:Cx}{e:Expr}{ty:TE}{px apos cpos:Pos}
end
end L2
namespace L2.VL
section
variable{X:Cx}{rl:Option Addr}{a b c e:Expr}{es:List Expr}{fa fb fc:TV}{fs:zQ}{pos p p2 px apos cpos:Pos}
noncomputable def rS(D:List (Str×Int))(k:Str):AN:=(PySem.Spec.lookup (.str k) (xn D)).getD .none
noncomputable def rC(D:List (Str×Int))(fk:TV):TV:=fun ρ Q=>fk ρ fun w=>∃k,w = .d (.str k)/\Q (.d (rS D k))
end
end L2.VL
set_option exponentiation.threshold 10000
namespace L2.VL
noncomputable def vd(a b:Int):AN:=.tuple [.int (a.fdiv (BI a b)),.int (b.fdiv (BI a b))]
theorem ly{a:Int}(hb:0<b)(z:b.natAbs<2^8000)(i:Int):io i (BI a b:Int):=by
 have h1:=qC (a:=a) (b:=b) (by omega);have h2:=tJ (a:=a) (b:=b) (by omega);exact⟨by omega,DI (by omega) (A7 z (Ch (by decide) (by decide)))⟩
structure IsEx (b:Int) (p:List Int):Prop where
 len:p.length=b.toNat
 zero:p.head?=some 0
 nd:p.Nodup
 rng:∀x∈p,0<=x/\x<b
noncomputable def exD(p:List Int):AN:=.tuple (p.map .int)
noncomputable def jA(lo:Int)(n:Nat):List Int:=(Bq n).map fun(i:Nat)=>lo+i
theorem g9(lo:Int)(n:Nat):aA lo n=(jA lo n).map .int:=by simp[aA,jA]
theorem jz(lo:Int)(n:Nat):(jA lo n).Nodup:=by
 unfold jA;exact Dj.mpr (Gc.imp (fun{a b} h z=>h (by omega)) List.nodup_range)
theorem m_{lo x:Int}:x∈jA lo n↔lo<=x/\x<lo+n:=by
 unfold jA;simp only[BB,Cc];constructor
 · rintro⟨k,hk,rfl⟩;omega
 · rintro⟨h1,h2⟩;exact⟨(x-lo).toNat,by omega,by omega⟩
theorem cf(lo:Int)(n:Nat):(jA lo n).length=n:=by simp[jA]
theorem qt{f:List Int}(hb:2<=b)(h0:f.head?=some 0)(p:f.Perm (0::jA 1 (b-1).toNat)):IsEx b f:=by
 have nd:(0::jA 1 (b-1).toNat).Nodup:=CD.mpr ⟨fun h=>by have:=m_.mp h;omega,jz _ _⟩;refine⟨?_,h0,p.nodup_iff.mpr nd,fun x hx=>?_⟩
 · rw[p.length_eq,Bb,cf];omega
 · rcases Bo.mp (p.mem_iff.mp hx)with rfl|h
   · omega
   · have:=m_.mp h;omega
theorem gw:∀(l:List Int)(k:Nat),(l.map BA).eraseIdx k=(l.eraseIdx k).map .int
 | [],_=>by simp
 | _::_,0=>rfl
 | x::l,k+1=>by simp[gw l k]
theorem eK:∀{l:List Int}{k:Nat}(h:k<l.length),(l[k]::l.eraseIdx k).Perm l
 | x::l,0,_=>.refl _
 | x::l,k+1,h=>by
   have h':k<l.length:=by simpa using h
   show(l[k]::x::l.eraseIdx k).Perm (x::l);exact(List.Perm.swap x l[k] _).trans (.cons x (eK h'))
theorem mI{f l:List Int}(h:k<l.length){c:List Int}(p:(f++l).Perm c):((f++[l[k]])++l.eraseIdx k).Perm c:=by
 have q:=eK h;have:((f++[l[k]])++l.eraseIdx k)=f++(l[k]::l.eraseIdx k):=by simp
 rw[this];exact(List.Perm.append_left f q).trans p
noncomputable def rowD(rows:List (Int×List Int)):AN:=.tuple (rows.map fun r=>.tuple [.int r.1,exD r.2])
structure IsRow (rows:List (Int×List Int)):Prop where
 lo:1<=rows.length
 hi:rows.length<=4
 ok:∀r∈rows,2<=r.1/\r.1<=16/\IsEx r.1 r.2
 co:rows.Pairwise fun x y=>BI x.1 y.1=1
noncomputable def lU(bs:List Int):Prop:=bs.length=4/\(∀b∈bs,2<=b/\b<=16)/\bs.Pairwise fun x y=>BI x y=1
instance (bs:List Int):Decidable (lU bs):=by unfold lU;infer_instance
theorem ki{d:Nat}{k:Int}(h:0<=k):HT.sIx n d (some k)=min k.toNat n:=by
 obtain⟨m,rfl⟩:=Br h;exact HT.sIx_nat n d m
theorem nM{k:Int}(h:0<=k):cutD xs (some k) none=xs.drop k.toNat:=by
 unfold cutD;rw[ki h,HT.sIx_none];by_cases hk:k.toNat<=xs.length
 · rw[Nat.min_eq_left hk];exact BK (by simp)
 · rw[Nat.min_eq_right (by omega),E1,DT (by omega)];simp
theorem oI{k:Int}(h:0<=k):cutD xs none (some k)=xs.take k.toNat:=by
 unfold cutD;rw[ki h,HT.sIx_none,List.drop_zero,Nat.sub_zero];by_cases hk:k.toNat<=xs.length
 · rw[Nat.min_eq_left hk]
 · rw[Nat.min_eq_right (by omega),BK (AY _),BK (by omega)]
theorem di{bs:List Int}(g:lU bs)(k m:Nat):((bs.drop k++bs.take k).take m).Pairwise (fun x y=>BI x y=1)/\∀b∈(bs.drop k++bs.take k).take m,2<=b/\b<=16:=by
 have p:(bs.drop k++bs.take k).Perm bs:=(List.perm_append_comm).trans (by rw[Fg]);have q:=(p.pairwise_iff (R:=fun x y=>BI x y=1) (fun{a b} h=>by rw[Fe];exact h)).mpr g.2.2;exact⟨q.sublist (List.take_sublist _ _),fun b hb=>g.2.1 b (p.mem_iff.mp (FH hb))⟩
theorem kr:∀{cs:List Int}{ds:List AN},BC (fun x d=>∃b p,x = .int b/\d = .tuple [.int b,exD p]/\IsEx b p) (cs.map BA) ds->∃rows:List (Int×List Int),ds=rows.map (fun r=>.tuple [.int r.1,exD r.2])/\rows.map (·.1)=cs/\∀r∈rows,IsEx r.1 r.2
 | [],_,h=>by cases h;exact⟨[],rfl,rfl,fun _ z=>nomatch z⟩
 | c::cs,_,h=>by
   cases h with
   | cons h r =>
     obtain⟨b,p,e1,e2,ex⟩:=h;cases e1;obtain⟨rows,h1,h2,h3⟩:=kr r;refine⟨(c,p)::rows,by simp[e2,h1],by simp[h2],fun r hr=>?_⟩;rcases Bo.mp hr with rfl|hr
     · exact ex
     · exact h3 r hr
theorem m7{bs:List Int}(g:lU bs){m:Nat}(h1:1<=m)(h4:m<=4)(e:rows.map (·.1)=(bs.drop k++bs.take k).take m)(hx:∀r∈rows,IsEx r.1 r.2):IsRow rows/\rows.length<=m:=by
 have hl:rows.length=min m 4:=by
  have:=congrArg Gx e;have hb:=g.1;simp at this;omega
 obtain⟨q1,q2⟩:=di g k m;rw[<- e]at q1 q2;refine⟨⟨by omega,by omega,fun r hr=>?_,Dj.mp q1⟩,by omega⟩;obtain⟨a,b⟩:=q2 r.1 (List.mem_map_of_mem hr);exact⟨a,b,hx r hr⟩
noncomputable def pr(a b:Int):AN:=.tuple [.int a,.int b]
noncomputable def needed(b n:Int):Nat:=((Bq 31).filter fun k=>decide (b^k<n)).length
theorem bE(h:1<=b)(hij:i<=j):b^i<=b^j:=by
 induction hij with
 | refl=>exact C1 _
 | step _ ih =>
   rw[Bj];have:0<=b^i:=Fh (Cu (by omega))
   exact Fi ih (by
    rename_i m _;have hm:0<b^m:=Cu (by omega);have:=Bc h (Fh hm)
    omega)
theorem iQ{a b:Int}(h0:0<=a)(h:a<=b):∀k:Nat,a^k<=b^k
 | 0=>by simp
 | k+1=>by
   rw[Bj,Bj];exact Cd (iQ h0 h k) h h0 (Int.pow_nonneg (by omega))
theorem bT{b:Int}(h:2<=b):∀k:Nat,(2:Int)^k<=b^k
 | 0=>by simp
 | k+1=>by
   rw[Bj,Bj];have:=bT h k;have h0:(0:Int)<=2^k:=Fh (Cu (by omega))
   calc (2:Int)^k*2<=b^k*2:=AQ this (by omega)
    _<=b^k*b:=Bc h (by omega)
theorem dn(e:Nat):∀n:Nat,e<=n->((Bq n).filter fun k=>decide (k<e)).length=e
 | 0,h=>by simp;omega
 | n+1,h=>by
   rw[Eh,List.filter_append,Be];by_cases he:e<=n
   · rw[dn e n he];simp;omega
   · have:e=n+1:=by omega
     subst this;have:(Bq n).filter (fun k=>decide (k<n+1))=Bq n:=List.filter_eq_self.mpr fun a ha=>by simp at ha ⊢;omega
     rw[this];simp
theorem gv{n:Int}{e:Nat}(hb:2<=b)(h1:n<=b^e)(h2:∀k<e,b^k<n)(hn:n<=2^31):needed b n=e:=by
 have he:e<=31:=by
  by_cases h:e<=31
  · exact h
  · have:=h2 31 (by omega);have:=bT hb 31;omega
 have key:∀k:Nat,decide (b^k<n)=decide (k<e):=fun k=>by
  by_cases hk:k<e
  · rw[decide_eq_true hk,decide_eq_true (h2 k hk)]
  · rw[decide_eq_false hk,decide_eq_false];have:=bE (b:=b) (by omega) (show e<=k by omega);omega
 unfold needed;rw[List.filter_congr fun k _=>key k];exact dn e 31 he
theorem gu(b n:Int):needed b n<=31:=by
 unfold needed;have:=D3 (fun k=>decide (b^k<n)) (Bq 31);simpa using this
noncomputable def aM(n:Int)(p:Int)(r:Int×List Int):Int:=p*max 1 ((r.1-1)*needed r.1 n)
theorem iF{n:Int}:∀(rows:List (Int×List Int))(p:Int),(∀r∈rows,2<=r.1/\r.1<=16/\IsEx r.1 r.2)->1<=p->1<=rows.foldl (aM n) p/\rows.foldl (aM n) p<=p*465^rows.length
 | [],p,_,hp=>by simp;omega
 | r::rows,p,h,hp=>by
   obtain⟨h1,h2,_⟩:=h r AZ;have hn:(needed r.1 n:Int)<=31:=by have:=gu r.1 n;omega
   have hb:(r.1-1)*needed r.1 n<=465:=by
    calc (r.1-1)*needed r.1 n<=(r.1-1)*31:=Bc hn (by omega)
     _<=465:=by omega
   have hm1:1<=max 1 ((r.1-1)*needed r.1 n):=by omega
   have hm2:max 1 ((r.1-1)*needed r.1 n)<=465:=by omega
   have hs1:1<=aM n p r:=by
    unfold aM;have:=Cd hp hm1 (by omega) (by omega);omega
   have hs2:aM n p r<=p*465:=by
    unfold aM;exact Bc hm2 (by omega)
   obtain⟨a,b⟩:=iF rows (aM n p r) (fun r hr=>h r (AU _ hr)) hs1;refine⟨a,Fi b ?_⟩;rw[Bb,Bj];have h0:(0:Int)<=465^rows.length:=Fh (Cu (by decide))
   calc aM n p r*465^rows.length<=(p*465)*465^rows.length:=AQ hs2 h0
    _=p*(465^rows.length*465):=by rw[ER,BL 465]
theorem bY{n:Int}(h:IsRow rows)(i:Nat):1<=(rows.take i).foldl (aM n) 1/\(rows.take i).foldl (aM n) 1<2^40:=by
 obtain⟨a,b⟩:=iF (n:=n) (rows.take i) 1 (fun r hr=>h.ok r (FH hr)) (by omega);refine⟨a,Int.lt_of_le_of_lt b ?_⟩;have hl:(rows.take i).length<=4:=by have:=h.hi;simp;omega
 have:=bE (b:=465) (by omega) hl;omega
theorem GlK.pair{K:W.Frag}{a:Int}{p:Addr}{sl:Array (Option AR)}{t u:Tok}(h1:W.nsIn K Bu x=some (some (.ref p)))
 (h2:K.lookup p=some ⟨.type "tuple", none,.seq #[.int a t,.int b u] n,sl⟩):GlK K x (pr a b):=by
 refine⟨.ref p,.ref p,h1,rfl,fun F=>.tup (vs:=[.int a,.int b]) (.inr ⟨_,_,n,h2,rfl,rfl,(by show 2<=sizeLine;decide),.cons ⟨t,rfl⟩ (.cons ⟨u,rfl⟩ .nil),rfl⟩) (.cons (.int a) (.cons (.int b) .nil))⟩
end L2.VL
set_option exponentiation.threshold 10000
namespace L2.VL
noncomputable def da(b:Nat):Nat->Nat->List Nat
 | 0,_=>[]
 | k+1,n=>if 2<=b/\0<n then(n%b)::da b k (n / b)else []
noncomputable def digs(b n:Nat):List Nat:=da b n n
theorem nL{b:Nat}(hb:2<=b):∀k n l:Nat,n<=k->n<=l->da b k n=da b l n:=by
 intro k
 induction k with
 | zero =>
   intro n l h1 _;have z:n=0:=by omega
   subst z
   cases l with
   | zero=>rfl
   | succ l=>rw[da,da,if_neg (by omega)]
 | succ k ih =>
   intro n l h1 h2
   cases l with
   | zero =>
     have z:n=0:=by omega
     subst z
     rw[da,da,if_neg (by omega)]
   | succ l =>
     rw[da,da];by_cases h:0<n
     · have q:=DJ h hb;rw[ih (n / b) l (by omega) (by omega)]
     · rw[if_neg (by omega),if_neg (by omega)]
theorem cw(b:Nat):digs b 0=[]:=rfl
theorem c5{b:Nat}(hb:2<=b)(hn:0<n):digs b n=(n%b)::digs b (n / b):=by
 cases n with
 | zero=>omega
 | succ n =>
   have q:=DJ hn hb;show da b (n+1) (n+1)=_::da b ((n+1) / b) ((n+1) / b);rw[da,if_pos (by omega),nL hb n ((n+1) / b) ((n+1) / b) (by omega) (AY _)]
theorem qI{b:Nat}(hb:2<=b):∀n:Nat,∀a∈digs b n,a<b:=by
 intro n
 induction n using Ei with
 | ind n ih =>
   intro a ha;by_cases hn:0<n
   · rw[c5 hb hn]at ha;rcases Bo.mp ha with rfl|ha
     · exact Nat.mod_lt _ (by omega)
     · exact ih (n / b) (DJ hn hb) a ha
   · have:n=0:=by omega
     subst this;rw[cw]at ha;cases ha
theorem nK{b:Nat}(hb:2<=b):∀n:Nat,0<n->b^(digs b n).length<=b*n:=by
 intro n
 induction n using Ei with
 | ind n ih =>
   intro hn;rw[c5 hb hn,Bb,Go];by_cases h:0<n / b
   · have:=ih (n / b) (DJ hn hb) h;have h2:b*(n / b)<=n:=Nat.mul_div_le n b
     calc b^(digs b (n / b)).length*b<=(b*(n / b))*b:=Dm b this
      _<=n*b:=Dm b h2
      _=b*n:=Nat.mul_comm _ _
   · have:n / b=0:=Nat.eq_zero_of_not_pos h;rw[this,cw];simp;exact Nat.le_mul_of_pos_right b hn
noncomputable def stepT(b:Int)(p:List Int)(t:Int)(a:Nat):Int:=t*b+p.getD a 0
theorem lx(ex:IsEx b p){a:Nat}(h:a<b.toNat):p[a]?=some (p.getD a 0)/\0<=p.getD a 0/\p.getD a 0<b:=by
 have hl:a<p.length:=by rw[ex.len];exact h
 have e:p.getD a 0=p[a]:=by simp[List.getD,hl]
 have:=ex.rng p[a] (B6 hl);rw[e];exact⟨A5 hl,this⟩
theorem qH{n:Int}(hb:0<=b)(hn:0<=n):n / b=((n.toNat / b.toNat:Nat):Int):=by
 obtain⟨k,rfl⟩:=Br hb;obtain⟨m,rfl⟩:=Br hn;simp
theorem mP{n:Int}(hb:0<=b)(hn:0<=n):n%b=((n.toNat%b.toNat:Nat):Int):=by
 obtain⟨k,rfl⟩:=Br hb;obtain⟨m,rfl⟩:=Br hn;simp
noncomputable def yp:AN->Int
 | .int i=>i
 | _=>0
section
variable{P:Bd}{w:BM}{K:W.Frag}{mg:Str->Option AR}{base:Heap}{rl:Option Addr}{x:Str}{st:Stmt}{N ps:List Str}{k:Nat}{Pd:List W->(List AN->Prop)->Prop}{t:zR}
end
section
variable{X:Cx}{rl:Option Addr}{a b c e:Expr}{es:List Expr}{fa fb fc:TV}{fs:zQ}{pos p p2 px apos cpos:Pos}
end
end L2.VL
namespace L2.IX
section
variable{prog:Bd}{w:BM}{A:BJ}{E:AR->AS->Prop}{s:AS}
end
end L2.IX
namespace L2
section
variable{X:Cx}
end
end L2
namespace L2.VL
section
variable{X:Cx}{rl:Option Addr}{a b c e:Expr}{es:List Expr}{fa fb fc:TV}{fs:zQ}{pos p p2 px apos cpos:Pos}
noncomputable def gC:AN->Bool
 | .none=>true
 | _=>false
noncomputable def wU(neg:Bool):W->W->(W->Prop)->Prop:=fun x y Q=>∃d,x.dat=some d/\y = .d .none/\Q (.d (.bool (if neg then !gC d else gC d)))
noncomputable def tO:W->W->(W->Prop)->Prop:=fun x y Q=>∃xs k,x.dat=some (.list xs)/\y = .d (.int k) /\ -(2^63)<=k/\k<2^63/\xs.length*k.toNat<=sizeLine/\Q (.ml (C6 k.toNat xs).flatten)
noncomputable def rF(i:Nat):zR:=fun D ρ=>∃xs,ρ[i]?=some (some (.ml xs))/\D.rt (.ml xs)
noncomputable def rN(i:Nat)(fa:TV):zR:=fun D ρ=>∃xs,ρ[i]?=some (some (.ml xs))/\fa ρ fun w=>∃ys,w.isPk=false/\w.dat=some (.list ys)/\xs.length+ys.length<=sizeLine/\D.nx (ρ.set i (some (.ml (xs++ys))))
end
end L2.VL
namespace L2.ZP
section
variable{prog:Bd}{w:BM}{A:BJ}{E:AR->AS->Prop}{s:AS}{it a:Addr}{k:Nat}{xs:Array AR}{v:AR}
theorem pE(st:s.heap.IsTupleIter it a k)(tu:s.heap.IsTuple a xs)(e:xs[k]?=some v)
 (q:∀g,g.IsTupleIter it a (k+1)->Cn it s.heap g->Q v {s with heap:=g}):Bi (BH prog w) A (Bl (.ref it)) Q E s:=by
 have ty:=st.typeIs;obtain⟨o,oe,oc,od⟩:=st;obtain⟨l,le,_,_,ld⟩:=tu;unfold Bl;have sl:=F.slot_tuple_iterator_next;refine AO (Cf (name:=CA "__next__") ty sl (Cv sl ty F.entry_tuple_iterator_next ?_ (F.args_tuple_iterator_next_1 _)));show Bi _ _ (do let z <- field (.ref it) 0;_) _ _ s;refine AO (CF oe od (x:=.ref a) rfl ?_);show Bi _ _ (ite ((BY a==CI)=true) _ _) _ _ s;rw[if_neg (show ¬(BY a == .none)=true by intro z;cases z)];show Bi _ _ (do let z <- field (.ref it) 1;_) _ _ s;refine AO (CF oe od (x:=.int k 0) rfl ?_);show Bi _ _ (do let z <- seqItems? (.ref a);_) _ _ s;refine AO (CO le ld ?_);simp only[Cb,e];refine AO (Ev oe od (by simp) (AX ⟨v,rfl,AX (q _ ?_ (Dt ..))⟩));refine⟨_,D1 _ oe (Fj (DK od _)),?_,?_⟩
 · exact(Obj.cls_mapFields ..).trans oc
 · rw[DK od];simp[E_]
theorem rR(hd:A.handled=none)(st:s.heap.IsTupleIter it a k)(tu:s.heap.IsTuple a xs)(e:xs[k]?=none)
 (q:∀g x,Gz it s.heap g->(∃o,g.get? x=some o/\o.cls = .type "StopIteration")->E (.ref x) {s with heap:=g}):Bi (BH prog w) A (Bl (.ref it)) Q E s:=by
 have ty:=st.typeIs;obtain⟨o,oe,oc,od⟩:=st;obtain⟨l,le,_,_,ld⟩:=tu;unfold Bl;have sl:=F.slot_tuple_iterator_next;refine AO (Cf (name:=CA "__next__") ty sl (Cv sl ty F.entry_tuple_iterator_next ?_ (F.args_tuple_iterator_next_1 _)));show Bi _ _ (do let z <- field (.ref it) 0;_) _ _ s;refine AO (CF oe od (x:=.ref a) rfl ?_);show Bi _ _ (ite ((BY a==CI)=true) _ _) _ _ s;rw[if_neg (show ¬(BY a == .none)=true by intro z;cases z)];show Bi _ _ (do let z <- field (.ref it) 1;_) _ _ s;refine AO (CF oe od (x:=.int k 0) rfl ?_);show Bi _ _ (do let z <- seqItems? (.ref a);_) _ _ s;refine AO (CO le ld ?_);simp only[Cb,e];refine AO (Gh (AO (Ev oe od (by simp) ?_)));show Bi _ _ (do let z <- newExc (.type "StopIteration") [];_) _ _ _;refine AO ?_;simp only[newExc,newTuple];refine AO (Cm ?_ (by size_fits));refine AO (m:=Ew _ _) (GB (a:=.none) (by first|rfl|(simp only[Ew];rfl)) (Cm ?_ (by size_fits)));simp only[raiseNew];refine AO (wpAny_handled ?_)
 first
  | rw[show A.in1.handled=none from hd]
  | rw[hd]
 refine AO (AX (wpAny_throw ?_));exact q _ _ (((Dt ..).extBut.push _).push _) ⟨_,A3 _ rfl,rfl⟩
end
noncomputable def AC(h:Heap)(it a:Addr)(xs:Array AR)(k:Nat):Prop:=(h.IsListIter it a k/\h.IsList a xs)\/(h.IsTupleIter it a k/\h.IsTuple a xs)
section
variable{prog:Bd}{w:BM}{A:BJ}{E:AR->AS->Prop}{s:AS}{it a:Addr}{k:Nat}{xs:Array AR}{v:AR}
theorem AC.item(st:AC s.heap it a xs k)(ne:a≠it)(e:xs[k]?=some v)
 (q:∀g,AC g it a xs (k+1)->Cn it s.heap g->Q v {s with heap:=g}):Bi (BH prog w) A (Bl (.ref it)) Q E s:=by
 rcases st with⟨h1,h2⟩|⟨h1,h2⟩
 · exact wpAny_nextOf_list_item h1 h2 e fun g h3 h4=>q g (.inl ⟨h3,h2.extBut h4.extBut ne⟩) h4
 · exact pE h1 h2 e fun g h3 h4=>q g (.inr ⟨h3,h2.extBut h4.extBut ne⟩) h4
theorem AC.fin(hd:A.handled=none)(st:AC s.heap it a xs k)(e:xs[k]?=none)
 (q:∀g x,Gz it s.heap g->(∃o,g.get? x=some o/\o.cls = .type "StopIteration")->E (.ref x) {s with heap:=g}):Bi (BH prog w) A (Bl (.ref it)) Q E s:=by
 rcases st with⟨h1,h2⟩|⟨h1,h2⟩
 · exact wpAny_nextOf_list_end hd h1 h2 e q
 · exact rR hd h1 h2 e q
theorem AC.keep(st:AC h it a xs k)(e1:∀o,h.get? it=some o->h'.get? it=some o)(e2:∀o,h.get? a=some o->h'.get? a=some o):AC h' it a xs k:=by
 rcases st with⟨⟨o,h1,r1⟩,⟨p,h2,r2⟩⟩|⟨⟨o,h1,r1⟩,⟨p,h2,r2⟩⟩
 · exact .inl ⟨⟨o,e1 _ h1,r1⟩,⟨p,e2 _ h2,r2⟩⟩
 · exact .inr ⟨⟨o,e1 _ h1,r1⟩,⟨p,e2 _ h2,r2⟩⟩
end
section
variable{prog:Bd}{w:BM}{A:BJ}{E:AR->AS->Prop}{s:AS}{z ti to i1 i2 a1 a2:Addr}{k1 k2:Nat}{xs ys:Array AR}{x y p q:AR}
theorem SameBut.keep{b:Addr}(sb:Cn a h h')(ne:b≠a):∀o,h.get? b=some o->h'.get? b=some o:=fun o e=>sb.extBut _ _ ne e
theorem oT(D:ZipApart z ti to i1 i2 a1 a2)(oz:Gk s.heap z ti to .none)(oi:Ej s.heap ti (.ref i1) (.ref i2))(oo:Ej s.heap to p q)
 (s1:AC s.heap i1 a1 xs k1)(s2:AC s.heap i2 a2 ys k2)(ex:xs[k1]?=some x)(ey:ys[k2]?=some y)
 (done:∀g,Gk g z ti to (E_ s.heap.objs.size)->Ej g to x y->AC g i1 a1 xs (k1+1)->AC g i2 a2 ys (k2+1)->Ej g s.heap.objs.size x y->g.objs.size=s.heap.objs.size+1 ->
  (∀b o,b≠z->b≠to->b≠i1->b≠i2->s.heap.get? b=some o->g.get? b=some o)->Q (.ref s.heap.objs.size) {s with heap:=g}) :
 Bi (BH prog w) A (Builtin.«zip.__next__» ⟨[.ref z],[]⟩) (fun r s'=>∃u,r = .done (.ret u)/\Q u s') E s:=by
 show Bi _ _ (do let c <- field (.ref z) 2;_) _ _ _;refine AO (CF oz rfl (x:=.bool false) rfl ?_);show Bi _ _ (do let c <- field (.ref z) 3;_) _ _ _;refine AO (CF oz rfl (x:=.ref ti) rfl ?_);refine AO (CO oi rfl ?_);show Bi _ _ (do let c <- B7 (.ref z);_) _ _ _;refine AO ?_;unfold B7;refine AO (CF oz rfl (x:=CI) rfl (AX ?_));simp only[if_true];refine AO (Gh (AO (CF oz rfl (x:=.ref to) rfl (AO (CK oz (by simp) fun g1 z1 b1=>?_)))));have z1:Gk g1 z ti to .ellipsis:=z1;refine AO ?_;simp only[DG,List.forIn_nil,List.zipIdx_cons,List.zipIdx_nil];have s1a:AC g1 i1 a1 xs k1:=s1.keep (SameBut.keep b1 D.i1z) (SameBut.keep b1 D.l1z);refine AO (AO (ES ?_));show Bi _ _ (do let c <- Bl (.ref i1);_) _ _ _;refine AO (s1a.item D.l1i1 ex fun g2 s1b b2=>AX ?_);have o2:Ej g2 to p q:=b2.extBut _ _ D.TOi1 (b1.extBut _ _ D.TOz oo);refine AO (CO o2 rfl (AO (D_ o2 fun g3 o3 b3=>?_)));have o3:Ej g3 to x q:=o3;refine AO (GC (AX ?_));have s2a:AC g3 i2 a2 ys k2:=((s2.keep (SameBut.keep b1 D.i2z) (SameBut.keep b1 D.l2z)).keep (SameBut.keep b2 D.i12.symm) (SameBut.keep b2 D.l2i1)).keep (SameBut.keep b3 D.TOi2.symm) (SameBut.keep b3 D.l2TO);refine AO (AO (ES ?_));show Bi _ _ (do let c <- Bl (.ref i2);_) _ _ _;refine AO (s2a.item D.l2i2 ey fun g4 s2b b4=>AX ?_);have o4:Ej g4 to x q:=b4.extBut _ _ D.TOi2 o3;refine AO (CO o4 rfl (AO (D_ o4 fun g5 o5 b5=>?_)));have o5:Ej g5 to x y:=o5;refine AO (GC (AX (AX ?_)));refine AO (CO o5 rfl (AO (wpAny_newTuple ?_)));have size:g5.objs.size=s.heap.objs.size:=by rw[b5.1,b4.1,b3.1,b2.1,b1.1]
 have z5:Gk g5 z ti to .ellipsis:=b5.extBut _ _ D.TOz.symm (b4.extBut _ _ D.i2z.symm (b3.extBut _ _ D.TOz.symm (b2.extBut _ _ D.i1z.symm z1)));have kp:∀b o,b≠z->b≠to->b≠i1->b≠i2->s.heap.get? b=some o->g5.get? b=some o:=fun b o n1 n2 n3 n4 e=>b5.extBut _ _ n2 (b4.extBut _ _ n4 (b3.extBut _ _ n2 (b2.extBut _ _ n3 (b1.extBut _ _ n1 e))));have s1c:AC g5 i1 a1 xs (k1+1):=((s1b.keep (SameBut.keep b3 D.TOi1.symm) (SameBut.keep b3 D.l1TO)).keep (SameBut.keep b4 D.i12) (SameBut.keep b4 D.l1i2)).keep (SameBut.keep b5 D.TOi1.symm) (SameBut.keep b5 D.l1TO);have s2c:AC g5 i2 a2 ys (k2+1):=s2b.keep (SameBut.keep b5 D.TOi2.symm) (SameBut.keep b5 D.l2TO);have zl:z<g5.objs.size:=A0 z5;show Bi _ _ (do Do (.ref z) (.ref g5.objs.size);_) _ _ _;refine AO ?_;unfold Do;have z6:Gk (g5.push {cls:=.type "tuple", data:=.seq #[x,y]}) z ti to .ellipsis:=AT _ z5;refine AO (CK z6 (by simp) fun g7 z7 b7=>?_);have z7:Gk g7 z ti to (E_ g5.objs.size):=z7;refine CK z7 (by simp) fun g8 z8 b8=>?_;have z8:Gk g8 z ti to (E_ g5.objs.size):=z8;have up:∀b o,b≠z->g5.get? b=some o->g8.get? b=some o:=fun b o n e=>b8.extBut _ _ n (b7.extBut _ _ n (AT _ e));have t8:Ej g8 g5.objs.size x y:=b8.extBut _ _ (Er zl) (b7.extBut _ _ (Er zl) (A3 _ rfl));have l8:g8.objs.size=g5.objs.size+1:=by rw[b8.1,b7.1,Cz]
 rw[size]at z8 t8 l8;refine AX ⟨_,rfl,?_⟩;show Q (.ref g5.objs.size) _;rw[size];exact done g8 z8 (up _ _ D.TOz o5) (s1c.keep (fun o e=>up _ o D.i1z e) fun o e=>up _ o D.l1z e) (s2c.keep (fun o e=>up _ o D.i2z e) fun o e=>up _ o D.l2z e) t8 l8 fun b o n1 n2 n3 n4 e=>up b o n1 (kp b o n1 n2 n3 n4 e)
theorem qY{Q:Fin->AS->Prop}(hd:A.handled=none)(D:ZipApart z ti to i1 i2 a1 a2)(oz:Gk s.heap z ti to .none)(oi:Ej s.heap ti (.ref i1) (.ref i2))(oo:Ej s.heap to p q)
 (s1:AC s.heap i1 a1 xs k1)(s2:AC s.heap i2 a2 ys k2)(e:xs[k1]?=none\/ys[k2]?=none)
 (q':∀g x,(∀b o,b≠z->b≠to->b≠i1->b≠i2->s.heap.get? b=some o->g.get? b=some o)->(∃o,g.get? x=some o/\o.cls = .type "StopIteration")->E (.ref x) {s with heap:=g}) :
 Bi (BH prog w) A (Builtin.«zip.__next__» ⟨[.ref z],[]⟩) Q E s:=by
 show Bi _ _ (do let c <- field (.ref z) 2;_) _ _ _;refine AO (CF oz rfl (x:=.bool false) rfl ?_);show Bi _ _ (do let c <- field (.ref z) 3;_) _ _ _;refine AO (CF oz rfl (x:=.ref ti) rfl ?_);refine AO (CO oi rfl ?_);show Bi _ _ (do let c <- B7 (.ref z);_) _ _ _;refine AO ?_;unfold B7;refine AO (CF oz rfl (x:=CI) rfl (AX ?_));simp only[if_true];refine AO (Gh (AO (CF oz rfl (x:=.ref to) rfl (AO (CK oz (by simp) fun g1 z1 b1=>?_)))));have z1:Gk g1 z ti to .ellipsis:=z1;refine AO ?_;simp only[DG,List.forIn_nil,List.zipIdx_cons,List.zipIdx_nil];have s1a:AC g1 i1 a1 xs k1:=s1.keep (SameBut.keep b1 D.i1z) (SameBut.keep b1 D.l1z);refine AO (AO (ES ?_));show Bi _ _ (do let c <- Bl (.ref i1);_) _ _ _
 have last:∀(g g':Heap)(u:Addr)(o:Obj),g.get? u=some o->o.cls = .type "StopIteration" -> Gk g z ti to .ellipsis->Cn z g g'->∃o,g'.get? u=some o/\o.cls = .type "StopIteration" := fun g g' u o h1 h2 h3 sb=>by
  have ne:u≠z:=fun c=>by rw[c,h3]at h1;cases h1;simp at h2
  exact⟨o,sb.extBut _ _ ne h1,h2⟩
 cases ex:xs[k1]? with
 | none =>
   refine AO (s1a.fin hd ex fun g2 u b2 ⟨o,ou,oc⟩=>?_);have z2:Gk g2 z ti to .ellipsis:=b2 _ _ D.i1z.symm z1
   exact CK z2 (by simp) fun g3 _ b3=>q' g3 u (fun b o n1 _ n3 _ e=>b3.extBut _ _ n1 (b2 _ _ n3 (b1.extBut _ _ n1 e))) (last g2 g3 u o ou oc z2 b3)
 | some x =>
   have ey:ys[k2]?=none:=e.elim (fun h=>by rw[ex]at h;cases h) id;refine AO (s1a.item D.l1i1 ex fun g2 s1b b2=>AX ?_);have o2:Ej g2 to p q:=b2.extBut _ _ D.TOi1 (b1.extBut _ _ D.TOz oo);refine AO (CO o2 rfl (AO (D_ o2 fun g3 o3 b3=>?_)));refine AO (GC (AX ?_));have s2a:AC g3 i2 a2 ys k2:=((s2.keep (SameBut.keep b1 D.i2z) (SameBut.keep b1 D.l2z)).keep (SameBut.keep b2 D.i12.symm) (SameBut.keep b2 D.l2i1)).keep (SameBut.keep b3 D.TOi2.symm) (SameBut.keep b3 D.l2TO);refine AO (AO (ES ?_));show Bi _ _ (do let c <- Bl (.ref i2);_) _ _ _;refine AO (s2a.fin hd ey fun g4 u b4 ⟨o,ou,oc⟩=>?_);have z4:Gk g4 z ti to .ellipsis:=b4 _ _ D.i2z.symm (b3.extBut _ _ D.TOz.symm (b2.extBut _ _ D.i1z.symm z1));exact CK z4 (by simp) fun g5 _ b5=>q' g5 u (fun b o n1 n2 n3 n4 e=>b5.extBut _ _ n1 (b4 _ _ n4 (b3.extBut _ _ n2 (b2.extBut _ _ n3 (b1.extBut _ _ n1 e))))) (last g4 g5 u o ou oc z4 b5)
end
noncomputable def zZ(b:Bool)(h:Heap)(a:Addr)(xs:Array AR):Prop:=bif b then h.IsTuple a xs else h.IsList a xs
noncomputable def zf(b:Bool):String:=bif b then "tuple_iterator" else "list_iterator"
theorem zZ.push{b:Bool}{h:Heap}{a:Addr}{xs:Array AR}(q:zZ b h a xs)(o:Obj):zZ b (h.push o) a xs:=by
 cases b with
 | true=>exact Heap.IsTuple.push q o
 | false=>exact Heap.IsList.push q o
section
variable{prog:Bd}{w:BM}{A:BJ}{E:AR->AS->Prop}{s:AS}{b b1 b2:Bool}{a a1 a2:Addr}{xs ys:Array AR}
theorem tG(st:zZ b s.heap a xs)(q:Q (.ref s.heap.objs.size) {s with heap:=s.heap.push {cls:=.type (zf b),data:=.fields #[.ref a,.int 0 0]}}):Bi (BH prog w) A (pyIter (.ref a)) Q E s:=by
 cases b with
 | true=>exact wpAny_pyIter_tuple st q
 | false=>exact EA st q
abbrev y1(h:Heap)(b1:Bool)(a1:Addr):Heap:=h.push {cls:=.type (zf b1),data:=.fields #[.ref a1,.int 0 0]}
abbrev y2(h:Heap)(b1 b2:Bool)(a1 a2:Addr):Heap:=(y1 h b1 a1).push {cls:=.type (zf b2),data:=.fields #[.ref a2,.int 0 0]}
abbrev y3(h:Heap)(b1 b2:Bool)(a1 a2:Addr):Heap:=(y2 h b1 b2 a1 a2).push {cls:=.type "tuple", data:=.seq #[.ref h.objs.size,.ref (y1 h b1 a1).objs.size]}
abbrev y4(h:Heap)(b1 b2:Bool)(a1 a2:Addr):Heap:=(y3 h b1 b2 a1 a2).push {cls:=.type "tuple", data:=.seq #[.none,.none]}
abbrev y5(h:Heap)(b1 b2:Bool)(a1 a2:Addr):Heap:=(y4 h b1 b2 a1 a2).push {cls:=.type "zip", data:=.fields #[.none,.bool false,.bool false,.ref (y2 h b1 b2 a1 a2).objs.size,.ref (y3 h b1 b2 a1 a2).objs.size]}
theorem oU(b1 b2:Bool)(a1 a2:Addr)(xs ys:Array AR) :
 Meets (Builtin.«zip.__new__» ⟨[.type "zip", .ref a1,.ref a2],[]⟩) (fun _ R s=>zZ b1 s.heap a1 xs/\zZ b2 s.heap a2 ys/\R (.ok (.ret (.ref (y4 s.heap b1 b2 a1 a2).objs.size))) {s with heap:=y5 s.heap b1 b2 a1 a2}) :=
 .of_wp fun prog w A R s h=>by
  obtain⟨hp,g,d,tk,os⟩:=s;obtain⟨q1,q2,h⟩:=h;have hsub:=sub_zip;have k1:zZ b1 (AS.heap ⟨hp,g,d,tk,os⟩) a1 xs:=q1;have k2:zZ b2 (AS.heap ⟨hp.push {cls:=.type (zf b1),data:=.fields #[.ref a1,.int 0 0]},g,d,tk,os⟩) a2 ys:=q2.push _
  wp_walk using tG k1,tG k2
  exact⟨_,rfl,h⟩
theorem nU(q1:zZ b1 s.heap a1 xs)(q2:zZ b2 s.heap a2 ys)
 (k:∀g,Gk g (s.heap.objs.size+4) (s.heap.objs.size+2) (s.heap.objs.size+3) .none->Ej g (s.heap.objs.size+2) (.ref s.heap.objs.size) (.ref (s.heap.objs.size+1))->Ej g (s.heap.objs.size+3) .none .none ->
  AC g s.heap.objs.size a1 xs 0->AC g (s.heap.objs.size+1) a2 ys 0->g.objs.size=s.heap.objs.size+5->(∀c o,s.heap.get? c=some o->g.get? c=some o)->Q (.ref (s.heap.objs.size+4)) {s with heap:=g}) :
 Bi (BH prog w) A (call (.type "zip") [.ref a1,.ref a2]) Q E s:=by
 refine callType_new F.called_zip (by decide) (F.typeCall_zip_2 _ _) (F.newCall_zip_2 _ _) (fun u=>F.args_object_init_3 u _ _) F.entry_zip_new (oU b1 b2 a1 a2 xs ys) ⟨q1,q2,?_⟩;have n1:(y1 s.heap b1 a1).objs.size=s.heap.objs.size+1:=Cz ..;have n2:(y2 s.heap b1 b2 a1 a2).objs.size=s.heap.objs.size+2:=by rw[Cz,n1]
 have n3:(y3 s.heap b1 b2 a1 a2).objs.size=s.heap.objs.size+3:=by rw[Cz,n2]
 have n4:(y4 s.heap b1 b2 a1 a2).objs.size=s.heap.objs.size+4:=by rw[Cz,n3]
 have n5:(y5 s.heap b1 b2 a1 a2).objs.size=s.heap.objs.size+5:=by rw[Cz,n4]
 have pu:∀{h:Heap}{o u:Obj}{c:Addr},h.get? c=some u->(h.push o).get? c=some u:=fun e=>AT _ e;have kp:∀c o,s.heap.get? c=some o->(y5 s.heap b1 b2 a1 a2).get? c=some o:=fun c o e=>pu (pu (pu (pu (pu e))));have f5:(y5 s.heap b1 b2 a1 a2).get? (y4 s.heap b1 b2 a1 a2).objs.size=some _:=A3 _ rfl;have f4:(y5 s.heap b1 b2 a1 a2).get? (y3 s.heap b1 b2 a1 a2).objs.size=some _:=pu (A3 _ rfl);have f3:(y5 s.heap b1 b2 a1 a2).get? (y2 s.heap b1 b2 a1 a2).objs.size=some _:=pu (pu (A3 _ rfl));have f2:(y5 s.heap b1 b2 a1 a2).get? (y1 s.heap b1 a1).objs.size=some _:=pu (pu (pu (A3 _ rfl)));have f1:(y5 s.heap b1 b2 a1 a2).get? s.heap.objs.size=some _:=pu (pu (pu (pu (A3 _ rfl))));show _/\_;rw[n2,n3,n4]at f5;rw[n1,n2]at f3;rw[n3]at f4;rw[n1]at f2;rw[n4]
 have mk:∀{b:Bool}{i a:Addr}{zs:Array AR},(y5 s.heap b1 b2 a1 a2).get? i=some {cls:=.type (zf b),data:=.fields #[.ref a,.int 0 0]}->zZ b s.heap a zs->AC (y5 s.heap b1 b2 a1 a2) i a zs 0:=fun{b i a zs} e q=>by
  cases b with
  | true=>obtain⟨o,h1,h2⟩:=(show s.heap.IsTuple a zs from q);exact .inr ⟨⟨_,e,rfl,rfl⟩,⟨o,kp _ _ h1,h2⟩⟩
  | false=>obtain⟨o,h1,h2⟩:=(show s.heap.IsList a zs from q);exact .inl ⟨⟨_,e,rfl,rfl⟩,⟨o,kp _ _ h1,h2⟩⟩
 exact⟨⟨_,f5,rfl⟩,k _ f5 f3 f4 (mk f1 q1) (mk f2 q2) n5 kp⟩
end
end L2.ZP
namespace L2
open PySem PySem.Spec PyProof.Rows L2.ZP
theorem Inv.turnedL{ch:List Addr}(I:Inv X pins σ H s)(k:∀b o,b∉ch->s.heap.get? b=some o->h'.get? b=some o)(hn:∀b∈ch,jJ X pins H b) :
 Inv X pins σ H {s with heap:=h',toks:=t' }:=by
 have nit:∀b u,H b=some u->b∉ch:=fun b u e z=>by rw[(hn b z).1]at e;cases e
 refine I.step (g':=s.gens) (d':=s.drawn) (ch:=ch) (fun b hb=>?_) (fun b o _ _ hc e _=>k b o hc e) (fun b o _ _ hc e _=>⟨o.slots,k b o hc e⟩) (fun _ _ _ _ n=>n) (fun b o hc e=>⟨o,k b o hc e⟩) (fun _ _ e=>e) (fun _ _ _ e=>e) (fun b ps e=>⟨#[],by rw[e];simp⟩) (fun m hm=>?_) (fun b u e=>?_) I.bare
 · obtain⟨_,h2,_,h4,h5,h6⟩:=hn b hb;exact⟨h4,h2,h5,h6⟩
 · obtain⟨o,es,ep,ho,r⟩:=hm;exact⟨o,es,ep,k _ o (fun z=>(hn _ z).2.1 rfl) ho,r⟩
 · refine(I.hok b u e).stay (fun c v hc q=>k c v ?_ q) (fun _ q=>q) fun _ _ q=>q;rcases hc with z|z
   · rw[z];exact nit b u e
   · exact nit c _ z
noncomputable def zY(b:Bool)(K:W.Frag)(H:Hp)(a:Addr)(xs:List V):Prop:=bif b then zW K H a xs else zX K H a xs
theorem Inv.sqB{b:Bool}{xs:List V}(I:Inv X pins σ H s)(h:zY b X.K H a xs):∃its,bB xs its/\zZ b s.heap a its.toArray:=by
 cases b with
 | true =>
   obtain⟨its,r,t,z⟩:=I.tuple h
   exact⟨its,r,t⟩
 | false =>
   obtain⟨its,r,p,z⟩:=I.list h;exact⟨its,r,p.isList⟩
theorem Inv.sqB_inj{b:Bool}{xs ys:List V}(I:Inv X pins σ H s)(h:zY b X.K H a xs)(h':zY b X.K H a ys):xs=ys:=by
 cases b with
 | true=>exact I.tuple_inj h h'
 | false=>exact I.list_inj h h'
noncomputable def Aw(K:W.Frag)(b1 b2:Bool)(a1 a2:Addr):It :=
 ⟨fun i H=>∃xs ys x y,zY b1 K H a1 xs/\zY b2 K H a2 ys/\xs[i]?=some x/\ys[i]?=some y,
  fun i H v H'=>∃x y p,(∀xs,zY b1 K H a1 xs->xs[i]?=some x)/\(∀ys,zY b2 K H a2 ys->ys[i]?=some y)/\H p=none/\v = .ref p/\H'=upd H p (.tup [x,y]),
  fun i H=>∃xs ys,zY b1 K H a1 xs/\zY b2 K H a2 ys/\(xs.length<=i\/ys.length<=i)⟩
noncomputable def AD(b:Bool)(h:Heap)(it a:Addr)(k:Nat):Prop:=bif b then h.IsTupleIter it a k else h.IsListIter it a k
theorem AD.it1{b:Bool}{xs:Array AR}(q:AD b h it a k)(r:zZ b h a xs):AC h it a xs k:=by
 cases b with
 | true=>exact .inr ⟨q,r⟩
 | false=>exact .inl ⟨q,r⟩
theorem AD.keep{b:Bool}(q:AD b h it a k)(e:∀o,h.get? it=some o->h'.get? it=some o):AD b h' it a k:=by
 cases b with
 | true=>obtain⟨o,h1,r⟩:=(show h.IsTupleIter it a k from q);exact⟨o,e _ h1,r⟩
 | false=>obtain⟨o,h1,r⟩:=(show h.IsListIter it a k from q);exact⟨o,e _ h1,r⟩
theorem AD.obj{b:Bool}(q:AD b h it a k):∃o,h.get? it=some o/\∀v,o.data ≠ .cell v:=by
 cases b with
 | true=>obtain⟨o,h1,_,d⟩:=(show h.IsTupleIter it a k from q);exact⟨o,h1,fun v z=>by rw[d]at z;cases z⟩
 | false=>obtain⟨o,h1,_,d⟩:=(show h.IsListIter it a k from q);exact⟨o,h1,fun v z=>by rw[d]at z;cases z⟩
theorem AC.ir{b:Bool}{xs:Array AR}{h0:Heap}(q:AC h it a xs k)(r:AD b h0 it a j)(s:zZ b h a xs):AD b h it a k:=by
 cases b with
 | true =>
   rcases q with⟨_,⟨o,e,c,_⟩⟩|⟨q,_⟩
   · obtain⟨o',e',c',_⟩:=(show h.IsTuple a xs from s);rw[e]at e';cases e';rw[c]at c';injection c' with z;exact absurd z (by decide)
   · exact q
 | false =>
   rcases q with⟨q,_⟩|⟨_,⟨o,e,c,_⟩⟩
   · exact q
   · obtain⟨o',e',c',_⟩:=(show h.IsList a xs from s);rw[e]at e';cases e';rw[c]at c';injection c' with z;exact absurd z (by decide)
noncomputable def ZS(b1 b2:Bool)(z ti to i1 i2 a1 a2:Addr)(i:Nat)(h:Heap):Prop:=Gk h z ti to .none/\Ej h ti (.ref i1) (.ref i2)/\(∃p q,Ej h to p q)/\AD b1 h i1 a1 i/\AD b2 h i2 a2 i
theorem zZ.of{b:Bool}{xs:Array AR}(q:zZ b h a xs)(e:∀o,h.get? a=some o->h'.get? a=some o):zZ b h' a xs:=by
 cases b with
 | true=>obtain⟨o,h1,r⟩:=(show h.IsTuple a xs from q);exact⟨o,e _ h1,r⟩
 | false=>obtain⟨o,h1,r⟩:=(show h.IsList a xs from q);exact⟨o,e _ h1,r⟩
theorem mf{w:BM}{K:W.Frag}{elts:List Expr}{kt:Nat}{pt:Pos}(b1 b2:Bool)(z ti to i1 i2 a1 a2:Addr)(D:ZipApart z ti to i1 i2 a1 a2) :
 Turn P w K (.Tuple elts kt pt) (Aw K b1 b2 a1 a2) [z,ti,to,i1,i2] z (ZS b1 b2 z ti to i1 i2 a1 a2) where
 mem:=by simp
 obj:=fun i h ⟨h1,h2,⟨p,q,h3⟩,h4,h5⟩ b hb=>by
  simp at hb;rcases hb with rfl|rfl|rfl|rfl|rfl
  · exact⟨_,h1,fun v c=>by cases c⟩
  · exact⟨_,h2,fun v c=>by cases c⟩
  · exact⟨_,h3,fun v c=>by cases c⟩
  · exact h4.obj
  · exact h5.obj
 keep:=fun i h h' ⟨h1,h2,⟨p,q,h3⟩,h4,h5⟩ k=>⟨k z (by simp) _ h1,k ti (by simp) _ h2,⟨p,q,k to (by simp) _ h3⟩,h4.keep fun o e=>k i1 (by simp) o e,h5.keep fun o e=>k i2 (by simp) o e⟩
 item:=by
  intro X hP hw hK hc i pins s σ H E I hf st hg;subst hP hw hK;obtain⟨h1,h2,⟨p,q,h3⟩,h4,h5⟩:=st;obtain⟨xs,ys,x,y,q1,q2,ex,ey⟩:=hg;obtain⟨its,r1,t1⟩:=I.sqB q1;obtain⟨jts,r2,t2⟩:=I.sqB q2;obtain⟨u,hu,ru⟩:=r1.get ex;obtain⟨v,hv,rv⟩:=r2.get ey;have ty:s.TypeIs (.ref z) "zip" := ⟨_,h1,rfl⟩;unfold FM
  refine AO (ET (Cf (name:=CA "__next__") ty F.slot_zip_next (Cv F.slot_zip_next ty F.entry_zip_next
   (oT D h1 h2 h3 (h4.it1 t1) (h5.it1 t2) (by simpa using hu) (by simpa using hv) fun g e1 e2 e3 e4 e5 e6 e7=>AX ?_) (F.args_zip_next_1 _))))
  have hz:s.heap.objs.size≠z:=Er (A0 h1);refine⟨.ref s.heap.objs.size,rfl,wpAny_letOwnedTupleGo_zip e1 fun g' f1 fb=>?_⟩;have hp:H s.heap.objs.size=none:=I.hok.fresh (AY _)
  have I1:Inv X pins σ (upd H s.heap.objs.size (.tup [x,y])) {s with heap:=s.heap.push {cls:=.type "tuple", data:=.seq [u,v].toArray}} :=
   I.laid (t':=s.toks) (o:=.tup [x,y]) (fun b ob e=>AT _ e) (AY _) ⟨(by show 2<=sizeLine;decide),[u,v],.cons ru (.cons rv .nil),lS.new _ _⟩
  have ne:∀b∈[z,ti,to,i1,i2],b≠s.heap.objs.size:=fun b hb e=>by
   simp at hb;rcases hb with rfl|rfl|rfl|rfl|rfl
   · exact hz e.symm
   · exact absurd (A0 h2) (by rw[e];exact BX _)
   · exact absurd (A0 h3) (by rw[e];exact BX _)
   · obtain⟨o,ho,_⟩:=h4.obj;exact absurd (A0 ho) (by rw[e];exact BX _)
   · obtain⟨o,ho,_⟩:=h5.obj;exact absurd (A0 ho) (by rw[e];exact BX _)
  have kg:∀b o,b∉[z,ti,to,i1,i2]->(s.heap.push {cls:=.type "tuple", data:=.seq [u,v].toArray}).get? b=some o->g'.get? b=some o:=fun b o hb e=>by
   simp at hb;obtain⟨n1,n2,n3,n4,n5⟩:=hb;refine fb.extBut _ _ n1 ?_;by_cases hbn:b=s.heap.objs.size
   · subst hbn;rw[A3 _ rfl]at e;cases e;exact e5
   · exact e7 b o n1 n3 n4 n5 (by rw[Heap.get?_push_ne _ _ _ hbn]at e;exact e)
  have fp1:∀b∈[z,ti,to,i1,i2],jJ X pins (upd H s.heap.objs.size (.tup [x,y])) b:=fun b hb=>by
   obtain⟨f0,fr⟩:=hf b hb;exact⟨by rw[upd_ne (ne b hb)];exact f0,fr⟩
  have I2:Inv X pins σ (upd H s.heap.objs.size (.tup [x,y])) {s with heap:=g' }:=I1.turnedL (t':=s.toks) kg fp1;have k8:∀b o,b≠z->g.get? b=some o->g'.get? b=some o:=fun b o n e=>fb.extBut _ _ n e;have t1':zZ b1 g a1 its.toArray:=zZ.of t1 fun o e=>e7 _ o D.l1z D.l1TO D.l1i1 D.l1i2 e;have t2':zZ b2 g a2 jts.toArray:=zZ.of t2 fun o e=>e7 _ o D.l2z D.l2TO D.l2i1 D.l2i2 e;refine⟨.ref s.heap.objs.size,_,I2,rfl,⟨x,y,_,fun xs' q'=>by rw[I.sqB_inj q' q1];exact ex,fun ys' q'=>by rw[I.sqB_inj q' q2];exact ey,hp,rfl,rfl⟩,⟨f1,k8 _ _ D.TIz (e7 _ _ D.TIz D.TITO D.TIi1 D.TIi2 h2),⟨_,_,k8 _ _ D.TOz e2⟩,(AC.ir e3 h4 t1').keep fun o e=>k8 _ o D.i1z e,(AC.ir e4 h5 t2').keep fun o e=>k8 _ o D.i2z e⟩,fun b hb=>(fp1 b hb).1⟩
 done:=by
  intro X hP hw hK hc i pins s σ H E I hf st hg;subst hP hw hK;obtain⟨h1,h2,⟨p,q,h3⟩,h4,h5⟩:=st;obtain⟨xs,ys,q1,q2,ex⟩:=hg;obtain⟨its,r1,t1⟩:=I.sqB q1;obtain⟨jts,r2,t2⟩:=I.sqB q2;have l1:=r1.length;have l2:=r2.length;have ty:s.TypeIs (.ref z) "zip" := ⟨_,h1,rfl⟩;unfold FM
  refine AO (ET (Cf (name:=CA "__next__") ty F.slot_zip_next (Cv F.slot_zip_next ty F.entry_zip_next
   (qY (I.ok.hd hc) D h1 h2 h3 (h4.it1 t1) (h5.it1 t2) (by simp;omega) fun g e kg ⟨o,ho,hoc⟩=>?_) (F.args_zip_next_1 _))))
  refine AO (wpAny_isInstance (T := "StopIteration") (b:=true) ⟨o,ho,hoc⟩ isSubtype_stop (AX ⟨rfl,?_⟩));exact I.turnedL (t':=s.toks) (fun b o hb e=>by simp at hb;exact kg b o hb.1 hb.2.2.1 hb.2.2.2.1 hb.2.2.2.2 e) hf
 self:=fun _ _ _ _ _ st h=>wpAny_pyIter_zip st.1 h
open PySem PySem.Spec PyProof.Rows L2.ZP
section
variable{X:Cx}{e1 e2:Expr}{ta:TA}{elts:List Expr}{kt:Nat}{pt p pos:Pos}
noncomputable def xK(K:W.Frag)(b1 b2:Bool)(t:TA):TI:=fun σ H R=>t σ H fun vs H1=>∃a1 a2 xs ys,vs=[.ref a1,.ref a2]/\zY b1 K H1 a1 xs/\zY b2 K H1 a2 ys/\R (Aw K b1 b2 a1 a2) H1
theorem sB(b1 b2:Bool)(hg:Gl X "zip")(hm:X.mg "zip" = none)(ha:PA X [e1,e2] ta)(hs:autoParam (AW [e1,e2] X.env=(false,eval e1 X.env)::AW [e2] X.env) æa._auto_1)(hpl:autoParam ((Cj pos (AW [e2] X.env)).any (·.1)=false) æa._auto_1) :
 PI X (.Tuple elts kt pt) (.Call (.Name "zip" p) [e1,e2] [] pos) (xK X.K b1 b2 ta):=by
 intro pins s σ H R I h;refine Call_ (dk I hg hm (by rfl) (BP (yy (ha pos pins s σ H _ I h) fun us s1 ⟨vs,H1,I1,r1,q1⟩=>?_) hs hpl) (by decide) (by decide));obtain⟨a1,a2,xs,ys,ev,q1,q2,q⟩:=q1;subst ev
 cases r1 with
 | cons r rr =>
   cases rr with
   | cons r' rr =>
     cases rr;cases r;cases r';obtain⟨its,v1,t1⟩:=I1.sqB q1;obtain⟨jts,v2,t2⟩:=I1.sqB q2;refine nU t1 t2 fun g f1 f2 f3 f4 f5 f6 kp=>wpAny_pyIter_zip f1 ?_
     have lt1:a1<s1.heap.objs.size/\a2<s1.heap.objs.size:=by
      constructor
      · cases b1 with
        | true=>obtain⟨o,ho,_⟩:=(show s1.heap.IsTuple a1 _ from t1);exact A0 ho
        | false=>obtain⟨o,ho,_⟩:=(show s1.heap.IsList a1 _ from t1);exact A0 ho
      · cases b2 with
        | true=>obtain⟨o,ho,_⟩:=(show s1.heap.IsTuple a2 _ from t2);exact A0 ho
        | false=>obtain⟨o,ho,_⟩:=(show s1.heap.IsList a2 _ from t2);exact A0 ho
     obtain⟨l1,l2⟩:=lt1;have ap:∀{n c:Nat},c<n->∀k:Nat,c≠n+k:=fun h k e=>by omega
     have D:ZipApart (s1.heap.objs.size+4) (s1.heap.objs.size+2) (s1.heap.objs.size+3) s1.heap.objs.size (s1.heap.objs.size+1) a1 a2:=by
      generalize hN:s1.heap.objs.size=N at l1 l2;exact⟨by simp,by simp,by simp,by simp,by simp,by simp,by simp,by simp,by simp,by simp,ap l1 4,ap l1 3,ap l1 0,ap l1 1,ap l2 4,ap l2 3,ap l2 0,ap l2 1⟩
     have kg:∀b o,s1.heap.get? b=some o->g.get? b=some o:=kp;have I2:Inv X pins σ H1 {s1 with heap:=g}:=I1.kept (t':=s1.toks) kg
     have ir:∀{b:Bool}{it a:Addr}{zs:Array AR},AC g it a zs 0->zZ b s1.heap a zs->AD b g it a 0:=fun{b it a zs} q r=>by
      have r':=zZ.of r fun o e=>kg _ o e
      cases b with
      | true =>
        rcases q with⟨_,⟨o,e,c,_⟩⟩|⟨q,_⟩
        · obtain⟨o',e',c',_⟩:=(show g.IsTuple a zs from r');rw[e]at e';cases e';rw[c]at c';injection c' with z;exact absurd z (by decide)
        · exact q
      | false =>
        rcases q with⟨q,_⟩|⟨_,⟨o,e,c,_⟩⟩
        · exact q
        · obtain⟨o',e',c',_⟩:=(show g.IsList a zs from r');rw[e]at e';cases e';rw[c]at c';injection c' with z;exact absurd z (by decide)
     refine⟨_,[s1.heap.objs.size+4,s1.heap.objs.size+2,s1.heap.objs.size+3,s1.heap.objs.size,s1.heap.objs.size+1],_,_,H1,rfl,I2,mf b1 b2 _ _ _ _ _ a1 a2 D,⟨f1,f2,⟨_,_,f3⟩,ir f4 t1,ir f5 t2⟩,fun b hb=>?_,q⟩
     have hb':s1.heap.objs.size<=b:=by
      simp at hb;rcases hb with rfl|rfl|rfl|rfl|rfl
      · exact D7 _ 4
      · exact D7 _ 2
      · exact D7 _ 3
      · exact AY _
      · exact D7 _ 1
     exact I1.fpOk hb' (I1.hok.fresh hb')
end
end L2
namespace L2.VL
section
variable{X:Cx}{rl:Option Addr}{a b:Expr}{elts:List Expr}{kt:Nat}{pt p pos:Pos}{fs:zQ}
noncomputable def jl(xs ys:List AN):List AN:=List.zipWith (fun x y=>.tuple [x,y]) xs ys
noncomputable def bV:AN->Bool
 | .tuple _=>true
 | _=>false
theorem oq{K:W.Frag}(r:Rep K F v d)(e:du d=some xs):∃a vs,v = .ref a/\Reps K F vs xs/\∀H,aZ F H->zY (bV d) K H a vs:=by
 cases r with
 | tup sq rs=>cases e;exact⟨_,_,rfl,rs,fun H s=>cL s sq⟩
 | lst h rs=>cases e;exact⟨_,_,rfl,rs,fun H s=>.inl (.inl (s _ _ h))⟩
 | non=>cases e
 | bl b=>cases e
 | int i=>cases e
 | str x=>cases e
theorem iq{ys:List AN}(h:(jl xs ys)[i]?=some d):∃x y,xs[i]?=some x/\ys[i]?=some y/\d = .tuple [x,y]:=by
 unfold jl at h;rw[List.getElem?_zipWith]at h
 cases ex:xs[i]? with
 | none=>rw[ex]at h;cases h
 | some x =>
   cases ey:ys[i]? with
   | none=>rw[ex,ey]at h;cases h
   | some y=>rw[ex,ey]at h;cases h;exact⟨x,y,rfl,rfl,rfl⟩
theorem rf(b1 b2:Bool)(hm:X.mg "zip" = none)(ha:Ad X rl [a,b] fs)(hg:autoParam (Gl X "zip") æa._auto_1)(hs:autoParam (AW [a,b] X.env=(false,eval a X.env)::AW [b] X.env) æa._auto_1)(hpl:autoParam ((Cj pos (AW [b] X.env)).any (·.1)=false) æa._auto_1) :
 Aj X rl (.Tuple elts kt pt) (.Call (.Name "zip" p) [a,b] [] pos) (fun ρ Q=>fs ρ fun ws=>∃dx dy xs ys,ws=[.d dx,.d dy]/\du dx=some xs/\du dy=some ys/\bV dx=b1/\bV dy=b2/\Q (jl xs ys)):=by
 obtain⟨t,p1,k⟩:=ha;refine⟨_,sB b1 b2 hg hm p1 hs hpl,fun R Qd Q q h=>k R _ _ q fun vs ws F1 H1 g1 r1 ⟨dx,dy,xs,ys,ew,e1,e2,kb1,kb2,q1⟩=>?_⟩;subst ew kb1 kb2;obtain⟨v,u,rfl,rv,ru⟩:=qU r1;obtain⟨a1,vs,rfl,rs,sq1⟩:=oq rv e1;obtain⟨a2,us,rfl,rt,sq2⟩:=oq ru e2;refine⟨a1,a2,vs,us,rfl,sq1 _ g1.sub,sq2 _ g1.sub,h _ (jl xs ys) F1 H1 g1 ⟨fun i H x e s=>?_,fun i H hl s=>?_,fun i H v H' x F2 e s s2 ra y=>?_⟩ q1⟩
 · obtain⟨x1,y1,ex,ey,_⟩:=iq e;obtain⟨v1,ev1,_⟩:=rs.get ex;obtain⟨u1,eu1,_⟩:=rt.get ey;exact⟨vs,us,v1,u1,sq1 _ s,sq2 _ s,ev1,eu1⟩
 · refine⟨vs,us,sq1 _ s,sq2 _ s,?_⟩;unfold jl at hl;rw[List.length_zipWith]at hl;rw[rs.length,rt.length];omega
 · obtain⟨x1,y1,ex,ey,ed⟩:=iq e;obtain⟨vx,vy,pp,hx,hy,hp,ev,eH⟩:=y;obtain⟨v1,ev1,rv1⟩:=rs.get ex;obtain⟨u1,eu1,ru1⟩:=rt.get ey;have h1:=hx vs (sq1 _ (s.trans s2));have h2:=hy us (sq2 _ (s.trans s2));rw[ev1]at h1;rw[eu1]at h2;cases h1;cases h2;subst ev eH ed;have g:=Grow.data (a:=pp) (o:=.tup [vx,vy]) s2 ra hp;exact⟨_,g,.tup (.inl (.inl ak)) (.cons ((rv1.mono s).mono g.fs) (.cons ((ru1.mono s).mono g.fs) .nil))⟩
noncomputable def zp(b1 b2:Bool)(fs:zQ):En->(List AN->Prop)->Prop:=fun ρ Q=>fs ρ fun ws=>∃dx dy xs ys,ws=[.d dx,.d dy]/\du dx=some xs/\du dy=some ys/\bV dx=b1/\bV dy=b2/\Q (jl xs ys)
theorem l5(hm:X.mg "zip" = none)(ha:Ad X rl [a,b] fs)(hg:autoParam (Gl X "zip") æa._auto_1)(hs:autoParam (AW [a,b] X.env=(false,eval a X.env)::AW [b] X.env) æa._auto_1)(hpl:autoParam ((Cj pos (AW [b] X.env)).any (·.1)=false) æa._auto_1) :
 Aj X rl (.Tuple elts kt pt) (.Call (.Name "zip" p) [a,b] [] pos) (zp true true fs):=rf true true hm ha hg hs hpl
end
theorem nr{α:Sort u}{a b:α}(h:a=b):a=b:=h
abbrev Mo(α:Type):=(α->Prop)->Prop
noncomputable def ret{α:Type}(a:α):Mo α:=fun Q=>Q a
noncomputable def zH{α β:Type}(m:Mo α)(f:α->Mo β):Mo β:=fun Q=>m fun a=>f a Q
noncomputable def zu{α:Type}(P:Prop)(m:Mo α):Mo α:=fun Q=>P/\m Q
noncomputable def stk{α:Type}:Mo α:=fun _=>False
noncomputable def anyM{α:Type}(P:α->Prop):Mo α:=fun Q=>∀a,P a->Q a
noncomputable def av{α β:Type}(o:Option α)(f:α->Mo β):Mo β:=match o with
 | some a=>f a
 | none=>stk
section
variable{α β γ:Type}
theorem bnd_ret(a:α)(f:α->Mo β):zH (ret a) f=f a:=nr rfl
theorem bnd_bnd(m:Mo α)(f:α->Mo β)(g:β->Mo γ):zH (zH m f) g=zH m fun a=>zH (f a) g:=nr rfl
theorem bnd_grd(P:Prop)(m:Mo α)(f:α->Mo β):zH (zu P m) f=zu P (zH m f):=nr rfl
theorem bnd_stk(f:α->Mo β):zH stk f=stk:=nr rfl
theorem bnd_ite(c:Prop)[Decidable c](a b:Mo α)(f:α->Mo β):zH (if c then a else b) f=if c then zH a f else zH b f:=by split<;>rfl
theorem bnd_opt(o:Option α)(k:α->Mo β)(f:β->Mo γ):zH (av o k) f=av o fun a=>zH (k a) f:=by cases o<;>rfl
theorem opt_some(a:α)(k:α->Mo β):av (some a) k=k a:=nr rfl
theorem opt_none(k:α->Mo β):av none k=stk:=nr rfl
theorem ai{P:Prop}(h:P)(m:Mo α):zu P m=m:=by funext Q;exact propext ⟨fun z=>z.2,fun z=>⟨h,z⟩⟩
theorem grd_T(m:Mo α):zu True m=m:=ai trivial m
theorem dm(c:Prop)[Decidable c](a b:Mo α)(Q:α->Prop):(if c then a else b) Q=if c then a Q else b Q:=by split<;>rfl
theorem ae{m n:Mo α}(h:∀Q,m Q↔n Q):m=n:=funext fun Q=>propext (h Q)
end
noncomputable def asI:W->Option Int
 | .d (.int i)=>some i
 | _=>none
noncomputable def asB:W->Option Bool
 | .d (.bool b)=>some b
 | _=>none
noncomputable def asS:W->Option Str
 | .d (.str b)=>some b
 | _=>none
noncomputable def asD:W->Option AN
 | .d x=>some x
 | _=>none
noncomputable def lstD:AN->Option (List AN)
 | .list xs=>some xs
 | _=>none
noncomputable def tupD:AN->Option (List AN)
 | .tuple xs=>some xs
 | _=>none
noncomputable def zM(w:W):Option (List AN):=w.dat.bind lstD
noncomputable def zK(w:W):Option (List AN):=(asD w).bind tupD
noncomputable def zL(w:W):Option (List AN):=w.dat.bind du
noncomputable def yx:W->Option Int
 | .d (.int i)=>some i
 | .d (.bool b)=>some (if b then 1 else 0)
 | _=>none
noncomputable def isiT:W->Option String
 | .vv (.ty T)=>some T
 | _=>none
noncomputable def oN:List AN->Option (List Bool)
 | []=>some []
 | .bool b::r=>(oN r).map (b :: ·)
 | _=>none
noncomputable def fF:List AN->Option (List Int)
 | []=>some []
 | .int b::r=>(fF r).map (b :: ·)
 | _=>none
theorem blsD_map:∀bs:List Bool,oN (bs.map .bool)=some bs
 | []=>rfl
 | b::bs=>by show(oN (bs.map .bool)).map (b :: ·)=_;rw[blsD_map bs];rfl
theorem ij:∀{xs:List AN}{bs:List Bool},oN xs=some bs->xs=bs.map .bool
 | [],bs,h=>by cases h;rfl
 | .bool b::r,bs,h=>by
   have h:(oN r).map (b :: ·)=some bs:=h
   cases q:oN r with
   | none=>rw[q]at h;cases h
   | some cs=>rw[q]at h;cases h;rw[ij q];rfl
 | .none::_,_,h=>by cases h
 | .int _::_,_,h=>by cases h
 | .str _::_,_,h=>by cases h
 | .list _::_,_,h=>by cases h
 | .tuple _::_,_,h=>by cases h
 | .dict _::_,_,h=>by cases h
theorem bW:∀bs:List Int,fF (bs.map .int)=some bs
 | []=>rfl
 | b::bs=>by show(fF (bs.map .int)).map (b :: ·)=_;rw[bW bs];rfl
theorem fE:∀{xs:List AN}{bs:List Int},fF xs=some bs->xs=bs.map .int
 | [],bs,h=>by cases h;rfl
 | .int b::r,bs,h=>by
   have h:(fF r).map (b :: ·)=some bs:=h
   cases q:fF r with
   | none=>rw[q]at h;cases h
   | some cs=>rw[q]at h;cases h;rw[fE q];rfl
 | .none::_,_,h=>by cases h
 | .bool _::_,_,h=>by cases h
 | .str _::_,_,h=>by cases h
 | .list _::_,_,h=>by cases h
 | .tuple _::_,_,h=>by cases h
 | .dict _::_,_,h=>by cases h
theorem asI_d(i:Int):asI (.d (.int i))=some i:=rfl
theorem asB_d(i:Bool):asB (.d (.bool i))=some i:=rfl
theorem asS_d(i:Str):asS (.d (.str i))=some i:=rfl
theorem asD_d(i:AN):asD (.d i)=some i:=rfl
theorem asT_d(x:AN):zK (.d x)=tupD x:=rfl
theorem asL_d(x:AN):zM (.d x)=lstD x:=rfl
theorem asL_ml(x:List AN):zM (.ml x)=some x:=rfl
theorem asL_pk(x:List AN):zM (.pk x)=some x:=rfl
theorem asQ_d(x:AN):zL (.d x)=du x:=rfl
theorem asQ_ml(x:List AN):zL (.ml x)=some x:=rfl
theorem asQ_pk(x:List AN):zL (.pk x)=some x:=rfl
theorem lstD_l(x:List AN):lstD (.list x)=some x:=rfl
theorem tupD_t(x:List AN):tupD (.tuple x)=some x:=rfl
theorem toI_i(i:Int):yx (.d (.int i))=some i:=rfl
theorem toI_b(i:Bool):yx (.d (.bool i))=some (if i then 1 else 0):=rfl
theorem isiT_t(T:String):isiT (.vv (.ty T))=some T:=rfl
theorem bN{i:Int}:asI w=some i↔w = .d (.int i):=by
 constructor
 · intro h;unfold asI at h;split at h<;>simp_all
 · rintro rfl;rfl
theorem dZ{i:Bool}:asB w=some i↔w = .d (.bool i):=by
 constructor
 · intro h;unfold asB at h;split at h<;>simp_all
 · rintro rfl;rfl
theorem oP{i:Str}:asS w=some i↔w = .d (.str i):=by
 constructor
 · intro h;unfold asS at h;split at h<;>simp_all
 · rintro rfl;rfl
theorem gM{i:AN}:asD w=some i↔w = .d i:=by
 constructor
 · intro h;unfold asD at h;split at h<;>simp_all
 · rintro rfl;rfl
theorem qp{i:String}:isiT w=some i↔w = .vv (.ty i):=by
 constructor
 · intro h;unfold isiT at h;split at h<;>simp_all
 · rintro rfl;rfl
theorem qj{w:AN}{i:List AN}:lstD w=some i↔w = .list i:=by
 constructor
 · intro h;unfold lstD at h;split at h<;>simp_all
 · rintro rfl;rfl
theorem pD{w:AN}{i:List AN}:tupD w=some i↔w = .tuple i:=by
 constructor
 · intro h;unfold tupD at h;split at h<;>simp_all
 · rintro rfl;rfl
theorem jj{i:List AN}:zK w=some i↔w = .d (.tuple i):=by
 constructor
 · intro h;unfold zK at h
   cases q:asD w with
   | none=>rw[q]at h;cases h
   | some x=>rw[q]at h;rw[gM.mp q,pD.mp h]
 · rintro rfl;rfl
theorem eO{i:List AN}:zM w=some i↔w.dat=some (.list i):=by
 unfold zM;constructor
 · intro h
   cases q:w.dat with
   | none=>rw[q]at h;cases h
   | some x=>rw[q]at h;rw[qj.mp h]
 · intro h;rw[h];rfl
theorem ag{β:Type}{o:Option α}{k:α->Mo β}{Q:β->Prop}:av o k Q↔∃a,o=some a/\k a Q:=by
 cases o with
 | none=>exact⟨fun z=>z.elim,fun⟨_,z,_⟩=>by cases z⟩
 | some a=>exact⟨fun z=>⟨a,rfl,z⟩,fun⟨_,e,z⟩=>by cases e;exact z⟩
section
variable{fa fb fc:TV}{fs:zQ}{f g:TB}{ρ:En}{t u:zR}
theorem m_vC(x:AN):vC x ρ=ret (.d x):=nr rfl
theorem be(i:Nat):dt i ρ=av ((ρ[i]?).join) fun w=>ret w.peek:=by
 refine ae fun Q=>?_;rw[ag];constructor
 · rintro⟨w,e,q⟩;exact⟨w,by rw[e];rfl,q⟩
 · rintro⟨w,e,q⟩;refine⟨w,?_,q⟩
   cases h:ρ[i]? with
   | none=>rw[h]at e;cases e
   | some o=>rw[h]at e;cases o with
     | none=>cases e
     | some x=>cases e;rfl
theorem m_vOp(h:W->W->(W->Prop)->Prop):yl h fa fb ρ=zH (fa ρ) fun x=>zH (fb ρ) fun y=>h x y:=nr rfl
theorem m_gI(C:Int->Int->Prop)(h:Int->Int->AN)(x y:W):gI C h x y=av (asI x) fun i=>av (asI y) fun j=>zu (C i j) (ret (.d (h i j))):=by
 refine ae fun Q=>?_;simp only[ag,bN,gI,zu,ret];exact⟨fun⟨i,j,a,b,c,q⟩=>⟨i,a,j,b,c,q⟩,fun⟨i,a,j,b,c,q⟩=>⟨i,j,a,b,c,q⟩⟩
theorem m_gI0(h:Int->Int->AN)(x y:W):zA h x y=av (asI x) fun i=>av (asI y) fun j=>ret (.d (h i j)):=by
 refine ae fun Q=>?_;simp only[ag,bN,zA,ret];exact⟨fun⟨i,j,a,b,q⟩=>⟨i,a,j,b,q⟩,fun⟨i,a,j,b,q⟩=>⟨i,j,a,b,q⟩⟩
theorem m_vNeg:uG fa ρ=zH (fa ρ) fun x=>av (asI x) fun i=>ret (.d (.int (-i))):=by
 refine ae fun Q=>?_;simp only[uG,zH,ag,bN,ret]
theorem m_vTest{f:TV}:jV f ρ=zH (f ρ) fun w=>av (asB w) ret:=by
 refine ae fun Q=>?_;simp only[jV,zH,ag,dZ,ret]
theorem m_gEqD(neg:Bool)(x y:W):vw neg x y=av x.dat fun dx=>av y.dat fun dy=>zu (Cq dx=true) (zu (Cq dy=true) (ret (.d (.bool (if neg then !CC dx dy else CC dx dy))))):=by
 refine ae fun Q=>?_;simp only[ag,vw,zu,ret];exact⟨fun⟨i,j,a,b,c,d,q⟩=>⟨i,a,j,b,c,d,q⟩,fun⟨i,a,j,b,c,d,q⟩=>⟨i,j,a,b,c,d,q⟩⟩
theorem t_{i:List AN}:zL w=some i↔(w.dat=some (.list i)\/w.dat=some (.tuple i)):=by
 unfold zL;constructor
 · intro h
   cases q:w.dat with
   | none=>rw[q]at h;cases h
   | some x=>rw[q]at h;exact du.of (o:=some x) rfl h
 · rintro(h|h)<;>rw[h]<;>rfl
theorem m_gInD(neg:Bool)(x y:W):vt neg x y=av x.dat fun dx=>av (zL y) fun ys=>zu (Cq dx=true) (zu (Dh ys=true) (ret (.d (.bool (if neg then !(ys.any fun z=>CC z dx)else ys.any fun z=>CC z dx))))):=by
 refine ae fun Q=>?_;simp only[ag,t_,vt,zu,ret];exact⟨fun⟨i,j,a,b,c,d,q⟩=>⟨i,a,j,b,c,d,q⟩,fun⟨i,a,j,b,c,d,q⟩=>⟨i,j,a,b,c,d,q⟩⟩
theorem m_vAnd:uN f g ρ=zH (f ρ) fun b=>if b=true then g ρ else ret false:=by
 refine ae fun Q=>?_;simp only[uN,zH,dm,ret]
theorem m_vOr:yk f g ρ=zH (f ρ) fun b=>if b=true then ret true else g ρ:=by
 refine ae fun Q=>?_;simp only[yk,zH,dm,ret]
theorem m_vNot:wC f ρ=zH (f ρ) fun b=>ret (!b):=nr rfl
theorem m_vAndV:rO fa fb ρ=zH (fa ρ) fun w=>av (asB w) fun b=>if b=true then fb ρ else ret (.d (.bool false)):=by
 refine ae fun Q=>?_;simp only[rO,zH,ag,dZ,dm,ret]
theorem m_vOrV:wB fa fb ρ=zH (fa ρ) fun w=>av (asB w) fun b=>if b=true then ret (.d (.bool true))else fb ρ:=by
 refine ae fun Q=>?_;simp only[wB,zH,ag,dZ,dm,ret]
theorem m_vNotV:rG fa ρ=zH (fa ρ) fun w=>av (asB w) fun b=>ret (.d (.bool (!b))):=by
 refine ae fun Q=>?_;simp only[rG,zH,ag,dZ,ret]
theorem m_vIf{t:TB}:yn t fa fb ρ=zH (t ρ) fun c=>if c=true then fa ρ else fb ρ:=by
 refine ae fun Q=>?_;simp only[yn,zH,dm]
theorem m_vTup:uC fs ρ=zH (fs ρ) fun ws=>av (fM ws) fun ds=>zu (ds.length<=sizeLine) (ret (.d (.tuple ds))):=by
 refine ae fun Q=>?_;simp only[uC,zH,ag,zu,ret]
theorem m_vLst:uH fs ρ=zH (fs ρ) fun ws=>av (fM ws) fun ds=>zu (ds.length<=sizeLine) (ret (.ml ds)):=by
 refine ae fun Q=>?_;simp only[uH,zH,ag,zu,ret]
theorem m_gIx(x y:W):zy x y=av x.dat fun dx=>av (asI y) fun i=>av (itemAt dx i) fun z=>ret (.d z):=by
 refine ae fun Q=>?_;simp only[zy,ag,bN,ret];exact⟨fun⟨i,j,z,a,b,c,q⟩=>⟨i,a,j,b,z,c,q⟩,fun⟨i,a,j,b,z,c,q⟩=>⟨i,j,z,a,b,c,q⟩⟩
theorem m_vCall(h:List W->(W->Prop)->Prop):d7 h fs ρ=zH (fs ρ) h:=nr rfl
theorem m_gAbs(w:W):uk [w]=av (asI w) fun i=>ret (.d (.int (if i<0 then -i else i))):=by
 refine ae fun Q=>?_;simp only[uk,ag,bN,ret,Bf,and_true]
theorem m_gLen(w:W):uh [w]=av w.dat fun d=>av (mW d) fun n=>ret (.d (.int n)):=by
 refine ae fun Q=>?_;simp only[uh,ag,ret,Bf,and_true];exact⟨fun⟨w',d,n,e,a,b,q⟩=>by subst e;exact⟨d,a,n,b,q⟩,fun⟨d,a,n,b,q⟩=>⟨w,d,n,rfl,a,b,q⟩⟩
theorem m_gRepr(w:W):tM [w]=av w.dat fun d=>zu (z_ d) (ret (.d (.str d.shown))):=by
 refine ae fun Q=>?_;simp only[tM,ag,ret,zu,Bf,and_true];exact⟨fun⟨w',d,e,a,b,q⟩=>by subst e;exact⟨d,a,b,q⟩,fun⟨d,a,b,q⟩=>⟨w,d,rfl,a,b,q⟩⟩
theorem m_gIsi(w v:W):wT [w,v]=av w.dat fun d=>av (isiT v) fun T=>zu (wG T=true) (ret (.d (.bool (wQ d T)))):=by
 refine ae fun Q=>?_;simp only[wT,ag,qp,ret,zu,Bf,and_true];exact⟨fun⟨w',d,T,⟨e,e'⟩,a,b,q⟩=>by subst e;exact⟨d,a,T,e',b,q⟩,fun⟨d,a,T,e',b,q⟩=>⟨w,d,T,⟨rfl,e'⟩,a,b,q⟩⟩
theorem m_gStrI(w:W):tK [w]=av (asI w) fun i=>zu (i.natAbs.log2<1920) (ret (.d (.str (toString i)))):=by
 refine ae fun Q=>?_;simp only[tK,ag,bN,ret,zu,Bf,and_true]
theorem m_gTupO(w:W):nq [w]=av (zL w) fun xs=>ret (.d (.tuple xs)):=by
 refine ae fun Q=>?_;simp only[nq,ag,ret,Bf,and_true];constructor
 · rintro⟨w',d,xs,e,a,b,q⟩;subst e;exact⟨xs,by unfold zL;rw[a];exact b,q⟩
 · rintro⟨xs,e,q⟩;unfold zL at e
   cases h:w.dat with
   | none=>rw[h]at e;cases e
   | some d=>rw[h]at e;exact⟨w,d,xs,rfl,h,e,q⟩
theorem m_gLstO(w:W):tQ [w]=av (zL w) fun xs=>ret (.ml xs):=by
 refine ae fun Q=>?_;simp only[tQ,ag,ret,Bf,and_true];constructor
 · rintro⟨w',d,xs,e,a,b,q⟩;subst e;exact⟨xs,by unfold zL;rw[a];exact b,q⟩
 · rintro⟨xs,e,q⟩;unfold zL at e
   cases h:w.dat with
   | none=>rw[h]at e;cases e
   | some d=>rw[h]at e;exact⟨w,d,xs,rfl,h,e,q⟩
theorem m_gIsB(x y:W):wV x y=av (asB x) fun i=>av (asB y) fun j=>ret (.d (.bool (i==j))):=by
 refine ae fun Q=>?_;simp only[ag,dZ,wV,ret];exact⟨fun⟨i,j,a,b,q⟩=>⟨i,a,j,b,q⟩,fun⟨i,a,j,b,q⟩=>⟨i,j,a,b,q⟩⟩
theorem m_gIsN(neg:Bool)(x:W):wU neg x (.d .none)=av x.dat fun d=>ret (.d (.bool (if neg then !gC d else gC d))):=by
 refine ae fun Q=>?_;simp only[ag,wU,ret,true_and]
theorem m_gI2(h:Int->Int->AN)(x y:W):zz h [x,y]=av (asI x) fun i=>av (asI y) fun j=>ret (.d (h i j)):=by
 refine ae fun Q=>?_;simp only[ag,bN,zz,ret,Bf,and_true];exact⟨fun⟨i,j,⟨a,b⟩,q⟩=>⟨i,a,j,b,q⟩,fun⟨i,a,j,b,q⟩=>⟨i,j,⟨a,b⟩,q⟩⟩
theorem m_gDivmod(x y:W):fH [x,y]=av (asI x) fun i=>av (asI y) fun j=>zu (0<j) (zu (j<1073741824) (ret (.d (.tuple [.int (i / j),.int (i%j)])))):=by
 refine ae fun Q=>?_;simp only[ag,bN,fH,zu,ret,Bf,and_true];exact⟨fun⟨i,j,⟨a,b⟩,c,d,q⟩=>⟨i,a,j,b,c,d,q⟩,fun⟨i,a,j,b,c,d,q⟩=>⟨i,j,⟨a,b⟩,c,d,q⟩⟩
theorem rQ{i:Int}:yx w=some i↔(w = .d (.int i)\/∃b:Bool,w = .d (.bool b)/\i=if b then 1 else 0):=by
 constructor
 · intro h;unfold yx at h;split at h
   · cases h;exact .inl rfl
   · cases h;exact .inr ⟨_,rfl,rfl⟩
   · cases h
 · rintro(rfl|⟨b,rfl,rfl⟩)<;>rfl
theorem m_gInt1(w:W):tS [w]=av (yx w) fun i=>ret (.d (.int i)):=by
 refine ae fun Q=>?_;simp only[ag,rQ,tS,ret,Bf,and_true];constructor
 · rintro(⟨i,rfl,q⟩|⟨k,rfl,q⟩)
   · exact⟨i,.inl rfl,q⟩
   · exact⟨_,.inr ⟨k,rfl,rfl⟩,q⟩
 · rintro⟨i,rfl|⟨b,rfl,rfl⟩,q⟩
   · exact .inl ⟨i,rfl,q⟩
   · exact .inr ⟨b,rfl,q⟩
theorem m_oNo:yZ ρ=ret none:=nr rfl
theorem m_oIt:y7 fa ρ=zH (fa ρ) fun w=>av (asI w) fun i=>ret (some i):=by
 refine ae fun Q=>?_;simp only[y7,zH,ag,bN,ret]
theorem m_vSlL{fl fh:zS}:uD fa fl fh ρ=zH (fa ρ) fun w=>zH (fl ρ) fun l=>zH (fh ρ) fun h=>av (zM w) fun xs=>ret (.ml (cutD xs l h)):=by
 refine ae fun Q=>?_;simp only[uD,zH,ag,eO,ret]
theorem m_vSlA{fl fh:zS}:wu fa fl fh ρ=zH (fa ρ) fun w=>zH (fl ρ) fun l=>zH (fh ρ) fun h=>av (zK w) fun xs=>ret (.d (.tuple (cutD xs l h))):=by
 refine ae fun Q=>?_;simp only[wu,zH,ag,jj,ret]
theorem m_gCatD(x y:W):nB x y=av (zM x) fun xs=>av (zM y) fun ys=>zu (xs.length+ys.length<=sizeLine) (ret (.ml (xs++ys))):=by
 refine ae fun Q=>?_;simp only[nB,ag,eO,zu,ret];exact⟨fun⟨i,j,a,b,c,q⟩=>⟨i,a,j,b,c,q⟩,fun⟨i,a,j,b,c,q⟩=>⟨i,j,a,b,c,q⟩⟩
theorem m_gCatA(x y:W):nD x y=av (zK x) fun xs=>av (zK y) fun ys=>zu (xs.length+ys.length<=sizeLine) (ret (.d (.tuple (xs++ys)))):=by
 refine ae fun Q=>?_;simp only[nD,ag,jj,zu,ret];exact⟨fun⟨i,j,a,b,c,q⟩=>⟨i,a,j,b,c,q⟩,fun⟨i,a,j,b,c,q⟩=>⟨i,j,a,b,c,q⟩⟩
theorem m_vChain(p p':Int->Int->Bool):rM p p' fa fb fc ρ=zH (fa ρ) fun x=>zH (fb ρ) fun y=>av (asI x) fun i=>av (asI y) fun j=>if p i j=true then zH (fc ρ) fun z=>av (asI z) fun k=>ret (.d (.bool (p' j k)))else ret (.d (.bool false)):=by
 show(zH (fa ρ) fun x=>zH (fb ρ) fun y=>fun(Q:W->Prop)=>∃i j,x = .d (.int i)/\y = .d (.int j)/\if p i j=true then fc ρ fun z=>∃k,z = .d (.int k)/\Q (.d (.bool (p' j k)))else Q (.d (.bool false)))=_;congr 1;funext x;congr 1;funext y;refine ae fun Q=>?_;simp only[zH,ag,bN,ret,dm];exact⟨fun⟨i,j,a,b,q⟩=>⟨i,a,j,b,q⟩,fun⟨i,a,j,b,q⟩=>⟨i,j,a,b,q⟩⟩
theorem m_vLR1:xk fs ρ=zH (fs ρ) fun ws=>av (ws.head?.bind asI) fun j=>zu (ws.length=1) (zu (-(2^62)<=j/\j<2^62) (zu (j.toNat<=2^24) (ret (.ml (aA 0 j.toNat))))):=by
 show(zH (fs ρ) fun ws=>fun(Q:W->Prop)=>∃j:Int,ws=[.d (.int j)]/\(-(2^62)<=j/\j<2^62)/\j.toNat<=2^24/\Q (.ml (aA 0 j.toNat)))=_;congr 1;funext ws;refine ae fun Q=>?_;simp only[ag,zu,ret];constructor
 · rintro⟨j,rfl,a,b,q⟩;exact⟨j,rfl,rfl,a,b,q⟩
 · rintro⟨j,e,l,a,b,q⟩
   match ws,l with
   | [w],_=>rw[show w = .d (.int j)from bN.mp e];exact⟨j,rfl,a,b,q⟩
theorem m_vTR1:xj fs ρ=zH (fs ρ) fun ws=>av (ws.head?.bind asI) fun j=>zu (ws.length=1) (zu (-(2^62)<=j/\j<2^62) (zu (j.toNat<=2^24) (ret (.d (.tuple (aA 0 j.toNat)))))):=by
 show(zH (fs ρ) fun ws=>fun(Q:W->Prop)=>∃j:Int,ws=[.d (.int j)]/\(-(2^62)<=j/\j<2^62)/\j.toNat<=2^24/\Q (.d (.tuple (aA 0 j.toNat))))=_;congr 1;funext ws;refine ae fun Q=>?_;simp only[ag,zu,ret];constructor
 · rintro⟨j,rfl,a,b,q⟩;exact⟨j,rfl,rfl,a,b,q⟩
 · rintro⟨j,e,l,a,b,q⟩
   match ws,l with
   | [w],_=>rw[show w = .d (.int j)from bN.mp e];exact⟨j,rfl,a,b,q⟩
noncomputable def yt(ws:List W):Option (Int×Int):=match ws with
 | [a,b]=>(asI a).bind fun i=>(asI b).map fun j=>(i,j)
 | _=>none
theorem two_d(a b:Int):yt [.d (.int a),.d (.int b)]=some (a,b):=rfl
theorem oj{ws:List W}{p:Int×Int}:yt ws=some p↔ws=[.d (.int p.1),.d (.int p.2)]:=by
 constructor
 · intro h
   match ws with
   | []=>cases h
   | [_]=>cases h
   | _::_::_::_=>cases h
   | [a,b] =>
     have h:((asI a).bind fun i=>(asI b).map fun j=>(i,j))=some p:=h
     cases ha:asI a with
     | none=>rw[ha]at h;cases h
     | some i =>
       cases hb:asI b with
       | none=>rw[ha,hb]at h;cases h
       | some j=>rw[ha,hb]at h;cases h;rw[bN.mp ha,bN.mp hb]
 · rintro rfl;rfl
theorem m_vLR2:wD fs ρ=zH (fs ρ) fun ws=>av (yt ws) fun p=>zu (-(2^62)<=p.1/\p.1<2^62 /\ -(2^62)<=p.2/\p.2<2^62) (zu ((p.2-p.1).toNat<=2^24) (ret (.ml (aA p.1 (p.2-p.1).toNat)))):=by
 show(zH (fs ρ) fun ws=>fun(Q:W->Prop)=>∃i j:Int,ws=[.d (.int i),.d (.int j)]/\(-(2^62)<=i/\i<2^62 /\ -(2^62)<=j/\j<2^62)/\(j-i).toNat<=2^24/\Q (.ml (aA i (j-i).toNat)))=_;congr 1;funext ws;refine ae fun Q=>?_;simp only[ag,oj,zu,ret];exact⟨fun⟨i,j,a,b,c,q⟩=>⟨(i,j),a,b,c,q⟩,fun⟨p,a,b,c,q⟩=>⟨p.1,p.2,a,b,c,q⟩⟩
theorem m_iL:iL fa ρ=zH (fa ρ) fun w=>av ((asD w.fz).bind lstD) ret:=by
 show(zH (fa ρ) fun w=>fun(Q:List AN->Prop)=>∃xs,w.fz = .d (.list xs)/\Q xs)=_;congr 1;funext w;refine ae fun Q=>?_;simp only[ag,ret];constructor
 · rintro⟨xs,e,q⟩;exact⟨xs,by rw[e];rfl,q⟩
 · rintro⟨xs,e,q⟩
   cases h:asD w.fz with
   | none=>rw[h]at e;cases e
   | some x=>rw[h]at e;rw[gM.mp h,qj.mp e];exact⟨xs,rfl,q⟩
theorem m_iT:iT fa ρ=zH (fa ρ) fun w=>av ((asD w.fz).bind tupD) ret:=by
 show(zH (fa ρ) fun w=>fun(Q:List AN->Prop)=>∃xs,w.fz = .d (.tuple xs)/\Q xs)=_;congr 1;funext w;refine ae fun Q=>?_;simp only[ag,ret];constructor
 · rintro⟨xs,e,q⟩;exact⟨xs,by rw[e];rfl,q⟩
 · rintro⟨xs,e,q⟩
   cases h:asD w.fz with
   | none=>rw[h]at e;cases e
   | some x=>rw[h]at e;rw[gM.mp h,pD.mp e];exact⟨xs,rfl,q⟩
theorem m_iR1:zt fs ρ=zH (fs ρ) fun ws=>av (ws.head?.bind asI) fun j=>zu (ws.length=1) (zu (-(2^62)<=j/\j<2^62) (ret (aA 0 j.toNat))):=by
 show(zH (fs ρ) fun ws=>fun(Q:List AN->Prop)=>∃j:Int,ws=[.d (.int j)]/\(-(2^62)<=j/\j<2^62)/\Q (aA 0 j.toNat))=_;congr 1;funext ws;refine ae fun Q=>?_;simp only[ag,zu,ret];constructor
 · rintro⟨j,rfl,a,q⟩;exact⟨j,rfl,rfl,a,q⟩
 · rintro⟨j,e,l,a,q⟩
   match ws,l with
   | [w],_=>rw[show w = .d (.int j)from bN.mp e];exact⟨j,rfl,a,q⟩
theorem m_iR2:zr fs ρ=zH (fs ρ) fun ws=>av (yt ws) fun p=>zu (-(2^62)<=p.1/\p.1<2^62 /\ -(2^62)<=p.2/\p.2<2^62) (ret (aA p.1 (p.2-p.1).toNat)):=by
 show(zH (fs ρ) fun ws=>fun(Q:List AN->Prop)=>∃i j:Int,ws=[.d (.int i),.d (.int j)]/\(-(2^62)<=i/\i<2^62 /\ -(2^62)<=j/\j<2^62)/\Q (aA i (j-i).toNat))=_;congr 1;funext ws;refine ae fun Q=>?_;simp only[ag,oj,zu,ret];exact⟨fun⟨i,j,a,b,q⟩=>⟨(i,j),a,b,q⟩,fun⟨p,a,b,q⟩=>⟨p.1,p.2,a,b,q⟩⟩
noncomputable def ut(b1 b2:Bool)(ws:List W):Option (List AN):=match ws with
 | [.d x,.d y]=>if bV x=b1/\bV y=b2 then(du x).bind fun xs=>(du y).map fun ys=>jl xs ys else none
 | _=>none
theorem m_iZb(b1 b2:Bool):zp b1 b2 fs ρ=zH (fs ρ) fun ws=>av (ut b1 b2 ws) ret:=by
 show(zH (fs ρ) fun ws=>fun(Q:List AN->Prop)=>∃dx dy xs ys,ws=[.d dx,.d dy]/\du dx=some xs/\du dy=some ys/\bV dx=b1/\bV dy=b2/\Q (jl xs ys))=_;congr 1;funext ws;refine ae fun Q=>?_;simp only[ag,ret];constructor
 · rintro⟨dx,dy,xs,ys,rfl,a,b,c,d,q⟩;exact⟨_,by show(if bV dx=b1/\bV dy=b2 then(du dx).bind fun xs=>(du dy).map fun ys=>jl xs ys else none)=_;rw[if_pos ⟨c,d⟩,a,b];rfl,q⟩
 · rintro⟨zs,e,q⟩;unfold ut at e;split at e
   · rename_i dx dy;split at e
     · rename_i c
       cases ha:du dx with
       | none=>rw[ha]at e;cases e
       | some xs =>
         cases hb:du dy with
         | none=>rw[ha,hb]at e;cases e
         | some ys=>rw[ha,hb]at e;cases e;exact⟨dx,dy,xs,ys,rfl,ha,hb,c.1,c.2,q⟩
     · cases e
   · cases e
theorem m_vUse(Pd:List W->(AN->Prop)->Prop):uB Pd fs ρ=zH (fs ρ) fun ws=>zu (ws.all dg=true) (zH (Pd ws) fun d=>ret (.d d)):=nr rfl
theorem m_vUseL(Pd:List W->(List AN->Prop)->Prop):uA Pd fs ρ=zH (fs ρ) fun ws=>zu (ws.all dg=true) (zH (Pd ws) fun d=>ret (.ml d)):=nr rfl
theorem m_gAll(h:List Bool->Bool)(w:W):wY h [w]=av ((zM w).bind oN) fun bs=>ret (.d (.bool (h bs))):=by
 refine ae fun Q=>?_;simp only[wY,ag,ret,Bf,and_true];constructor
 · rintro⟨w',bs,rfl,e,q⟩;exact⟨bs,by rw[eO.mpr e];exact blsD_map bs,q⟩
 · rintro⟨bs,e,q⟩
   cases hl:zM w with
   | none=>rw[hl]at e;cases e
   | some xs=>rw[hl]at e;refine⟨w,bs,rfl,?_,q⟩;rw[<- ij e];exact eO.mp hl
theorem m_gRepT(x y:W):tN x y=av (zK x) fun xs=>av (asI y) fun k=>zu (xs≠[]/\1<=k/\k<2^62/\xs.length*k.toNat<=sizeLine) (ret (.d (.tuple (C6 k.toNat xs).flatten))):=by
 refine ae fun Q=>?_;simp only[tN,ag,jj,bN,zu,ret];exact⟨fun⟨i,j,a,b,c,d,e,f,q⟩=>⟨i,a,j,b,⟨c,d,e,f⟩,q⟩,fun⟨i,a,j,b,⟨c,d,e,f⟩,q⟩=>⟨i,j,a,b,c,d,e,f,q⟩⟩
theorem m_gRepL(x y:W):tO x y=av (zM x) fun xs=>av (asI y) fun k=>zu (-(2^63)<=k/\k<2^63/\xs.length*k.toNat<=sizeLine) (ret (.ml (C6 k.toNat xs).flatten)):=by
 refine ae fun Q=>?_;simp only[tO,ag,eO,bN,zu,ret];exact⟨fun⟨i,j,a,b,c,d,e,q⟩=>⟨i,a,j,b,⟨c,d,e⟩,q⟩,fun⟨i,a,j,b,⟨c,d,e⟩,q⟩=>⟨i,j,a,b,c,d,e,q⟩⟩
theorem m_vRevT:rE fa ρ=zH (fa ρ) fun w=>av (zK w) fun xs=>ret (.d (.tuple xs.reverse)):=by
 refine ae fun Q=>?_;simp only[rE,zH,ag,jj,ret]
theorem m_vRevL:po fa ρ=zH (fa ρ) fun w=>av (zM w) fun xs=>ret (.ml xs.reverse):=by
 refine ae fun Q=>?_;simp only[po,zH,ag,eO,ret]
theorem m_gEqS(neg:Bool)(x y:W):wW neg x y=av (asS x) fun i=>av (asS y) fun j=>ret (.d (.bool (if neg then !decide (i=j)else decide (i=j)))):=by
 refine ae fun Q=>?_;simp only[ag,oP,wW,ret];exact⟨fun⟨i,j,a,b,q⟩=>⟨i,a,j,b,q⟩,fun⟨i,a,j,b,q⟩=>⟨i,j,a,b,q⟩⟩
theorem m_vTGet(D:List (Str×Int)):rC D fa ρ=zH (fa ρ) fun w=>av (asS w) fun k=>ret (.d (rS D k)):=by
 refine ae fun Q=>?_;simp only[rC,zH,ag,oP,ret]
noncomputable def w_(w:W):Option (List Int):=(zK w).bind fF
theorem m_gSrtT(w:W):tL [w]=av (w_ w) fun ns=>zu (ns.length<64) (zH (anyM fun ns':List Int=>ns'.Perm ns/\ns'.Pairwise (· <= ·)) fun ns'=>ret (.ml (ns'.map .int))):=by
 refine ae fun Q=>?_;simp only[tL,ag,ret,zu,zH,anyM,Bf,and_true];constructor
 · rintro⟨ns,rfl,a,q⟩;exact⟨ns,bW ns,a,fun n' ⟨h1,h2⟩=>q n' h1 h2⟩
 · rintro⟨ns,e,a,q⟩;unfold w_ at e
   cases hl:zK w with
   | none=>rw[hl]at e;cases e
   | some xs=>rw[hl]at e;exact⟨ns,by rw[jj.mp hl,<- fE e],a,fun n' h1 h2=>q n' ⟨h1,h2⟩⟩
end
inductive Fl where
 | nx (ρ:En)|rt (w:W)|bk (ρ:En)|ct (ρ:En)
noncomputable def mS(t:zR)(ρ:En):Mo Fl:=fun Q=>t ⟨fun ρ=>Q (.nx ρ),fun w=>Q (.rt w),fun ρ=>Q (.bk ρ),fun ρ=>Q (.ct ρ)⟩ ρ
noncomputable def sq(m:Mo Fl)(k:En->Mo Fl):Mo Fl:=zH m fun fl=>match fl with
 | .nx ρ=>k ρ
 | .rt w=>ret (.rt w)
 | .bk ρ=>ret (.bk ρ)
 | .ct ρ=>ret (.ct ρ)
noncomputable def tU(Q:AN->Prop):Fl->Prop
 | .nx _=>Q .none
 | .rt w=>∃d,w.fz = .d d/\Q d
 | _=>False
section
variable{fa fb fc:TV}{fs:zQ}{f g:TB}{ρ:En}{t u:zR}{k:En->Mo Fl}
theorem aJ{Q:AN->Prop}(h:mS t ρ (tU Q)):t (l_ Q) ρ:=h
theorem end_d(Q:AN->Prop)(d:AN):tU Q (.rt (.d d))=Q d:=propext ⟨fun⟨_,e,q⟩=>by cases e;exact q,fun q=>⟨d,rfl,q⟩⟩
theorem end_ml(Q:AN->Prop)(d:List AN):tU Q (.rt (.ml d))=Q (.list d):=propext ⟨fun⟨_,e,q⟩=>by cases e;exact q,fun q=>⟨_,rfl,q⟩⟩
theorem end_nx(Q:AN->Prop)(ρ:En):tU Q (.nx ρ)=Q .none:=nr rfl
theorem sq_nx:sq (ret (.nx ρ)) k=k ρ:=nr rfl
theorem sq_rt(w:W):sq (ret (.rt w)) k=ret (.rt w):=nr rfl
theorem sq_bk:sq (ret (.bk ρ)) k=ret (.bk ρ):=nr rfl
theorem sq_ct:sq (ret (.ct ρ)) k=ret (.ct ρ):=nr rfl
theorem sq_grd(P:Prop)(m:Mo Fl):sq (zu P m) k=zu P (sq m k):=nr rfl
theorem sq_stk:sq stk k=stk:=nr rfl
theorem sq_ite(c:Prop)[Decidable c](a b:Mo Fl):sq (if c then a else b) k=if c then sq a k else sq b k:=by split<;>rfl
theorem rW(o:Option α)(h:α->Mo Fl):sq (av o h) k=av o fun a=>sq (h a) k:=by cases o<;>rfl
theorem s_next:mS rH ρ=ret (.nx ρ):=nr rfl
theorem s_seq:mS (ww t u) ρ=sq (mS t ρ) (mS u):=by
 refine ae fun Q=>?_;show t ⟨fun ρ=>u ⟨_,_,_,_⟩ ρ,_,_,_⟩ ρ↔_;exact FY
theorem s_drop:mS (uK fa) ρ=zH (fa ρ) fun _=>ret (.nx ρ):=nr rfl
theorem s_ret:mS (wz fa) ρ=zH (fa ρ) fun w=>ret (.rt w):=nr rfl
theorem s_retN:mS uE ρ=ret (.rt (.d .none)):=nr rfl
theorem s_ifS:mS (uI f t u) ρ=zH (f ρ) fun b=>if b=true then mS t ρ else mS u ρ:=by
 refine ae fun Q=>?_;simp only[mS,uI,zH,dm]
theorem s_set(i:Nat):mS (wv i fa) ρ=zH (fa ρ) fun w=>zu (w.isPk=false) (ret (.nx (ρ.set i (some w)))):=nr rfl
theorem s_never:mS (fun _ _=>False) ρ=stk:=nr rfl
theorem m_hName(i:Nat)(x:AN):qA i x ρ=ret (ρ.set i (some (.d x))):=nr rfl
theorem sV(xs:List AN):vq xs ρ=zu (xs=[]) (ret ρ):=nr rfl
theorem qh{g:zU}{gs:jH}(xs:List AN):nj g gs xs ρ=av (match xs with | []=>none|y::r=>some (y,r)) fun p=>zH (g p.1 ρ) fun ρ'=>gs p.2 ρ':=by
 refine ae fun Q=>?_;simp only[ag,nj,zH];constructor
 · rintro⟨y,r,rfl,q⟩;exact⟨(y,r),rfl,q⟩
 · rintro⟨p,e,q⟩
   cases xs with
   | nil=>cases e
   | cons y r=>cases e;exact⟨y,r,rfl,q⟩
theorem m_hCons_c{g:zU}{gs:jH}(y:AN)(r:List AN):nj g gs (y::r) ρ=zH (g y ρ) fun ρ'=>gs r ρ':=by rw[qh];rfl
theorem m_hNil_n:vq [] ρ=ret ρ:=by rw[sV,ai rfl]
theorem m_hTup(n:Nat){gs:jH}(x:AN):vp n gs x ρ=av (tupD x) fun xs=>zu (xs.length=n) (gs xs ρ):=by
 refine ae fun Q=>?_;simp only[ag,pD,vp,zu]
theorem s_asg{g:zU}:mS (uM fa g) ρ=zH (fa ρ) fun w=>av (asD w) fun x=>zH (g x ρ) fun ρ'=>ret (.nx ρ'):=by
 refine ae fun Q=>?_;simp only[mS,uM,zH,ag,gM,ret]
theorem s_par(i j:Nat):mS (wA i j fs) ρ=zH (fs ρ) fun ws=>av (fM ws) fun ds=>av (match ds with | [x,y]=>some (x,y)|_=>none) fun p=>ret (.nx ((ρ.set i (some (.d p.1))).set j (some (.d p.2)))):=by
 show(zH (fs ρ) fun ws=>fun(Q:Fl->Prop)=>∃x y,fM ws=some [x,y]/\Q (.nx ((ρ.set i (some (.d x))).set j (some (.d y)))))=_;congr 1;funext ws;refine ae fun Q=>?_;simp only[ag,ret];constructor
 · rintro⟨x,y,e,q⟩;exact⟨_,e,(x,y),rfl,q⟩
 · rintro⟨ds,e,p,e2,q⟩;split at e2
   · cases e2;exact⟨_,_,e,q⟩
   · cases e2
theorem s_par3(i j l:Nat):mS (uF i j l fs) ρ=zH (fs ρ) fun ws=>av (fM ws) fun ds=>av (match ds with | [x,y,z]=>some (x,y,z)|_=>none) fun p=>ret (.nx (((ρ.set i (some (.d p.1))).set j (some (.d p.2.1))).set l (some (.d p.2.2)))):=by
 show(zH (fs ρ) fun ws=>fun(Q:Fl->Prop)=>∃x y z,fM ws=some [x,y,z]/\Q (.nx (((ρ.set i (some (.d x))).set j (some (.d y))).set l (some (.d z)))))=_;congr 1;funext ws;refine ae fun Q=>?_;simp only[ag,ret];constructor
 · rintro⟨x,y,z,e,q⟩;exact⟨_,e,(x,y,z),rfl,q⟩
 · rintro⟨ds,e,p,e2,q⟩;split at e2
   · cases e2;exact⟨_,_,_,e,q⟩
   · cases e2
noncomputable def yO(ρ:En)(i:Nat):Option Int:=((ρ[i]?).join).bind asI
noncomputable def asM:W->Option (List AN)
 | .ml xs=>some xs
 | _=>none
noncomputable def yN(ρ:En)(i:Nat):Option (List AN):=((ρ[i]?).join).bind asM
theorem asM_ml(xs:List AN):asM (.ml xs)=some xs:=rfl
theorem wZ:asM w=some xs↔w = .ml xs:=by
 constructor
 · intro h;unfold asM at h;split at h<;>simp_all
 · rintro rfl;rfl
theorem ga:yN ρ i=some xs↔ρ[i]?=some (some (.ml xs)):=by
 unfold yN;constructor
 · intro h
   cases q:ρ[i]? with
   | none=>rw[q]at h;cases h
   | some o=>rw[q]at h;cases o with
     | none=>cases h
     | some w=>rw[wZ.mp h]
 · intro h;rw[h];rfl
theorem rX{n:Int}:yO ρ i=some n↔ρ[i]?=some (some (.d (.int n))):=by
 unfold yO;constructor
 · intro h
   cases q:ρ[i]? with
   | none=>rw[q]at h;cases h
   | some o=>rw[q]at h;cases o with
     | none=>cases h
     | some w=>rw[bN.mp h]
 · intro h;rw[h];rfl
theorem s_aug(i:Nat)(C:Int->Int->Prop)(h:Int->Int->Int):mS (uL i C h fa) ρ=av (yO ρ i) fun n=>zH (fa ρ) fun w=>av (asI w) fun m=>zu (C n m) (ret (.nx (ρ.set i (some (.d (.int (h n m))))))):=by
 refine ae fun Q=>?_;simp only[mS,uL,zH,ag,rX,bN,zu,ret]
theorem s_augL(i:Nat):mS (rN i fa) ρ=av (yN ρ i) fun xs=>zH (fa ρ) fun w=>av (zM w) fun ys=>zu (w.isPk=false) (zu (xs.length+ys.length<=sizeLine) (ret (.nx (ρ.set i (some (.ml (xs++ys))))))):=by
 refine ae fun Q=>?_;simp only[mS,rN,ag,ga];refine exists_congr fun xs=>and_congr_right fun _=>?_;show(fa ρ fun w=>∃ys,w.isPk=false/\w.dat=some (.list ys)/\_/\_)↔(fa ρ fun w=>_)
 have:(fun w:W=>∃ys,w.isPk=false/\w.dat=some (.list ys)/\xs.length+ys.length<=sizeLine/\Q (.nx (ρ.set i (some (.ml (xs++ys))))))=fun w=>(av (zM w) fun ys=>zu (w.isPk=false) (zu (xs.length+ys.length<=sizeLine) (ret (.nx (ρ.set i (some (.ml (xs++ys)))))))) Q:=by
  funext w;refine propext ?_;rw[ag];simp only[eO,zu,ret];exact⟨fun⟨ys,a,b,c,d⟩=>⟨ys,b,a,c,d⟩,fun⟨ys,b,a,c,d⟩=>⟨ys,a,b,c,d⟩⟩
 rw[this]
theorem s_frz(i:Nat):mS (uJ i t) ρ=av (yN ρ i) fun xs=>mS t (ρ.set i (some (.d (.list xs)))):=by
 refine ae fun Q=>?_;simp only[mS,uJ,ag,ga]
theorem s_mut(i:Nat)(h:List AN->List W->(List AN->Prop)->Prop):mS (rK i h fs) ρ=av (yN ρ i) fun xs=>zH (fs ρ) fun ws=>zH (h xs ws) fun ys=>ret (.nx (ρ.set i (some (.ml ys)))):=by
 refine ae fun Q=>?_;simp only[mS,rK,zH,ag,ga,ret]
theorem m_gApp(xs:List AN)(w:W):uj xs [w]=av (asD w) fun x=>zu (xs.length<sizeLine) (ret (xs++[x])):=by
 refine ae fun Q=>?_;simp only[uj,ag,gM,zu,ret];constructor
 · rintro⟨x,e,a,q⟩;cases w<;>first|(cases e;exact⟨_,rfl,a,q⟩)|cases e
 · rintro⟨x,rfl,a,q⟩;exact⟨x,rfl,a,q⟩
theorem m_gExt(xs:List AN)(w:W):ui xs [w]=av ((asD w).bind lstD) fun ys=>zu (xs.length+ys.length<=sizeLine) (ret (xs++ys)):=by
 refine ae fun Q=>?_;simp only[ui,ag,zu,ret];constructor
 · rintro⟨x,e,a,q⟩;cases w<;>first|(cases e;exact⟨_,rfl,a,q⟩)|cases e
 · rintro⟨x,e,a,q⟩
   cases h:asD w with
   | none=>rw[h]at e;cases e
   | some d=>rw[h]at e;rw[gM.mp h,qj.mp e];exact⟨x,rfl,a,q⟩
theorem s_retO(i:Nat):mS (rF i) ρ=av (yN ρ i) fun xs=>ret (.rt (.ml xs)):=by
 refine ae fun Q=>?_;simp only[mS,rF,ag,ga,ret]
theorem s_appPop(i j:Nat):mS (gT i j fa) ρ=av (yN ρ i) fun xs=>av (yN ρ j) fun ys=>zH (fa ρ) fun w=>av (asI w) fun k=>zu (0<=k/\k<(ys.length:Int)/\ys.length<2^62) (av (ys[k.toNat]?) fun y=>zu (xs.length<sizeLine) (ret (.nx ((ρ.set j (some (.ml (ys.eraseIdx k.toNat)))).set i (some (.ml (xs++[y]))))))):=by
 refine ae fun Q=>?_;simp only[mS,gT,ag,ga]
 have:∀xs ys:List AN,(fun w:W=>∃k y,w = .d (.int k)/\0<=k/\k<(ys.length:Int)/\ys.length<2^62/\ys[k.toNat]?=some y/\xs.length<sizeLine/\Q (.nx ((ρ.set j (some (.ml (ys.eraseIdx k.toNat)))).set i (some (.ml (xs++[y]))))))=fun w=>(av (asI w) fun k=>zu (0<=k/\k<(ys.length:Int)/\ys.length<2^62) (av (ys[k.toNat]?) fun y=>zu (xs.length<sizeLine) (ret (.nx ((ρ.set j (some (.ml (ys.eraseIdx k.toNat)))).set i (some (.ml (xs++[y])))))))) Q:=by
  intro xs ys;funext w;refine propext ?_;simp only[ag,bN,zu,ret];exact⟨fun⟨k,y,a,b,c,d,e,f,q⟩=>⟨k,a,⟨b,c,d⟩,y,e,f,q⟩,fun⟨k,a,⟨b,c,d⟩,y,e,f,q⟩=>⟨k,y,a,b,c,d,e,f,q⟩⟩
 constructor
 · rintro⟨xs,ys,e1,e2,q⟩;refine⟨xs,e1,ys,e2,?_⟩;rw[this]at q;exact q
 · rintro⟨xs,e1,ys,e2,q⟩;refine⟨xs,ys,e1,e2,?_⟩;rw[this];exact q
end
noncomputable def Le(a b:En):Prop:=a.length=b.length/\∀(i:Nat) w,a[i]?=some (some w)->b[i]?=some (some w)
theorem Le.refl(a:En):Le a a:=⟨rfl,fun _ _ h=>h⟩
theorem Le.trans{a b c:En}(h:Le a b)(h':Le b c):Le a c:=⟨h.1.trans h'.1,fun i w e=>h'.2 i w (h.2 i w e)⟩
theorem le_nil:Le [] []=True:=propext ⟨fun _=>trivial,fun _=>Le.refl _⟩
theorem le_cn(x:Option W)(a b:En):Le (none::a) (x::b)=Le a b:=by
 refine propext ⟨fun h=>⟨by have:=h.1;simpa using this,fun i w e=>by have:=h.2 (i+1) w (by simpa using e);simpa using this⟩,fun h=>⟨by simp[h.1],fun i w e=>?_⟩⟩
 cases i with
 | zero=>simp at e
 | succ i=>simpa using h.2 i w (by simpa using e)
theorem le_cs(x:Option W)(a b:En):Le (x::a) (x::b)=Le a b:=by
 refine propext ⟨fun h=>⟨by have:=h.1;simpa using this,fun i w e=>by have:=h.2 (i+1) w (by simpa using e);simpa using this⟩,fun h=>⟨by simp[h.1],fun i w e=>?_⟩⟩
 cases i with
 | zero=>simpa using e
 | succ i=>simpa using h.2 i w (by simpa using e)
theorem VR.le{K:W.Frag}{ρ0:En}(R:VR K rl F₀ H₀ F H σ ρ)(h:Le ρ0 ρ):VR K rl F₀ H₀ F H σ ρ0 :=
 ⟨R.g,fun i w e=>R.sl i w (h.2 i w e),fun i j x y v n e1 e2=>R.ap i j x y v n (h.2 i x e1) (h.2 j y e2),fun i xs e=>R.np i xs (h.2 i _ e),h.1.trans R.len⟩
noncomputable def fo:List Nat->En->En
 | [],ρ=>ρ
 | i::l,ρ=>fo l (ρ.set i none)
theorem sZ(ρ:En)(i:Nat):Le (ρ.set i none) ρ:=by
 refine⟨by simp,fun j w e=>?_⟩;rw[BD]at e;split at e
 · split at e
   · cases e
   · cases e
 · exact e
theorem fA:∀(l:List Nat)(ρ:En),Le (fo l ρ) ρ
 | [],ρ=>Le.refl ρ
 | i::l,ρ=>(fA l (ρ.set i none)).trans (sZ ρ i)
theorem fo_nil(ρ:En):fo [] ρ=ρ:=rfl
theorem fo_cons(i:Nat)(l:List Nat)(ρ:En):fo (i::l) ρ=fo l (ρ.set i none):=rfl
noncomputable def cq(fl:List Nat)(g:zU)(t:zR):List AN->zR
 | [],D,ρ=>D.nx ρ
 | x::xs,D,ρ=>g x ρ fun ρ2=>t {D with nx:=fun ρ'=>cq fl g t xs D (fo fl ρ'),ct:=fun ρ'=>cq fl g t xs D (fo fl ρ'),bk:=fun ρ'=>D.nx (fo fl ρ')} ρ2
noncomputable def rL(fl:List Nat)(fi:En->(List AN->Prop)->Prop)(g:zU)(t:zR):zR:=fun D ρ=>fi ρ fun xs=>cq fl g t xs D (fo fl ρ)
section
variable{X:Cx}{rl:Option Addr}{st:Stmt}{rest body:List Stmt}{t u:zR}{a b c e:Expr}{es:List Expr}{fa fb:TV}{fs:zQ}{f:TB}{pos p:Pos}
theorem bA(fl:List Nat){iter:Expr}{fi:En->(List AN->Prop)->Prop}{g:zU}(hp:Gv (BH X.prog X.w) X.A X.env X.xe)(hc:X.calm=true)(hi:Aj X rl tg iter fi)(hg:Am X rl tg g)(hb:jE X rl body t)
 (hs:autoParam (∀x,CS iter X.env x=pure x) æc._auto_1):Ah X rl (.For tg iter body [] pos) (rL fl fi g t):=by
 obtain⟨wi,p0,k0⟩:=hi;obtain⟨G,p1,k1⟩:=hg;obtain⟨T,p2,k2⟩:=hb;refine⟨_,sw hp hc p0 p1 p2 hs,fun{F₀ H₀ F H σ ρ} R Dv D ok q=>k0 R _ _ q fun J xs F1 H1 g1 vi q1=>?_⟩;refine⟨fun i m σ H=>m=xs.length-i/\i<=xs.length/\∃F ρ,aZ F1 F/\VR X.K rl F₀ H₀ F H σ ρ/\cq fl g t (xs.drop i) Dv ρ,⟨xs.length,by simp,Db _,F1,fo fl ρ,.refl _,(R.grow g1).le (fA fl ρ),by simpa using q1⟩,?_⟩;rintro i m σ H ⟨rfl,hi,F2,ρ2,s2,R2,j2⟩;have sH:aZ F1 H:=s2.trans R2.sub;by_cases hlt:i<xs.length
 · have ei:xs[i]?=some xs[i]:=by simp[hlt]
   rw[CP hlt]at j2;refine .inr ⟨vi.go i H _ ei sH,fun σ' H'=>∃F ρ,aZ F1 F/\VR X.K rl F₀ H₀ F H' σ' ρ/\cq fl g t (xs.drop (i+1)) Dv ρ,fun σ' H' z=>⟨xs.length-(i+1),by omega,rfl,hlt,z⟩,fun v H' y=>?_⟩;obtain⟨Fy,gy,rv⟩:=vi.yld i H v H' _ F2 ei s2 R2.sub R2.reel y;refine k1 (R2.grow gy) v _ _ _ rv j2 fun F3 H3 σ3 ρ3 s3 n3 R3 q3=>?_;have s13:aZ F1 F3:=s2.trans (gy.fs.trans s3.fs)
   exact k2 R3 {Dv with nx:=fun ρ'=>cq fl g t (xs.drop (i+1)) Dv (fo fl ρ'),ct:=fun ρ'=>cq fl g t (xs.drop (i+1)) Dv (fo fl ρ'),bk:=fun ρ'=>Dv.nx (fo fl ρ')} _
    ⟨fun F4 H4 σ4 ρ4 s4 R4 q4=>⟨F4,fo fl ρ4,s13.trans s4,R4.le (fA fl ρ4),q4⟩,ok.rt,fun F4 H4 σ4 ρ4 s4 R4 q4=>ok.nx _ _ _ _ (g1.fs.trans (s13.trans s4)) (R4.le (fA fl ρ4)) q4,fun F4 H4 σ4 ρ4 s4 R4 q4=>⟨F4,fo fl ρ4,s13.trans s4,R4.le (fA fl ρ4),q4⟩⟩ q3
 · have e:i=xs.length:=by omega
   subst e;rw[E1]at j2;exact .inl ⟨vi.stop _ H (AY _) sH,ok.nx _ _ _ _ (g1.fs.trans s2) R2 j2⟩
noncomputable def yj(fl:List Nat)(f:TB)(t:zR)(m:Nat):zR:=fun D ρ=>f ρ fun b=>if b=true then t {D with nx:=fun ρ'=>∃k,∃h:k<m,yj fl f t k D (fo fl ρ'),ct:=fun ρ'=>∃k,∃h:k<m,yj fl f t k D (fo fl ρ'),bk:=fun ρ'=>D.nx (fo fl ρ')} ρ else D.nx ρ
termination_by m
noncomputable def jU(fl:List Nat)(f:TB)(t:zR):zR:=fun D ρ=>∃m,yj fl f t m D (fo fl ρ)
theorem oa(fl:List Nat)(f:TB)(t:zR)(m:Nat)(D:VEnds)(ρ:En):yj fl f t m D ρ=f ρ fun b=>if b=true then t {D with nx:=fun ρ'=>∃k,∃h:k<m,yj fl f t k D (fo fl ρ'),ct:=fun ρ'=>∃k,∃h:k<m,yj fl f t k D (fo fl ρ'),bk:=fun ρ'=>D.nx (fo fl ρ')} ρ else D.nx ρ:=by
 conv=>lhs;unfold yj
theorem dG(fl:List Nat)(hp:Gv (BH X.prog X.w) X.A X.env X.xe)(hc:PB X rl c f)(hb:jE X rl body t):Ah X rl (.While c body [] pos) (jU fl f t):=by
 obtain⟨t0,p0,k0⟩:=hc;obtain⟨t1,p1,k1⟩:=hb;refine⟨_,iO hp p0 p1,fun{F₀ H₀ F H σ ρ} R Dv D ok q=>?_⟩;obtain⟨m,j0⟩:=q;refine⟨fun m σ' H'=>∃F' ρ',aZ F F'/\VR X.K rl F₀ H₀ F' H' σ' ρ'/\yj fl f t m Dv ρ',⟨m,F,fo fl ρ,.refl _,R.le (fA fl ρ),j0⟩,?_⟩;rintro m σ2 H2 ⟨F2,ρ2,s2,R2,j⟩;rw[oa]at j;refine k0 R2 _ _ j fun b F1 H1 g1 q1=>?_
 cases b with
 | false=>exact ok.nx _ _ _ _ (s2.trans g1.fs) (R2.grow g1) q1
 | true =>
   refine⟨fun σ' H'=>∃F' ρ',aZ F F'/\VR X.K rl F₀ H₀ F' H' σ' ρ'/\∃m',m'<m/\yj fl f t m' Dv ρ',fun σ' H' ⟨F',ρ',s',R',m',hm,j⟩=>⟨m',hm,F',ρ',s',R',j⟩,?_⟩
   exact k1 (R2.grow g1) {Dv with nx:=fun ρ'=>∃k,∃h:k<m,yj fl f t k Dv (fo fl ρ'),ct:=fun ρ'=>∃k,∃h:k<m,yj fl f t k Dv (fo fl ρ'),bk:=fun ρ'=>Dv.nx (fo fl ρ')} _
    ⟨fun F3 H3 σ3 ρ3 s3 R3 ⟨m',hm,q3⟩=>⟨F3,fo fl ρ3,(s2.trans g1.fs).trans s3,R3.le (fA fl ρ3),m',hm,q3⟩,ok.rt,fun F3 H3 σ3 ρ3 s3 R3 q3=>ok.nx _ _ _ _ ((s2.trans g1.fs).trans s3) (R3.le (fA fl ρ3)) q3,fun F3 H3 σ3 ρ3 s3 R3 ⟨m',hm,q3⟩=>⟨F3,fo fl ρ3,(s2.trans g1.fs).trans s3,R3.le (fA fl ρ3),m',hm,q3⟩⟩ q1
end
noncomputable def zb(fl:List Nat)(k:En->Mo Fl):Fl->Mo Fl
 | .nx ρ=>k (fo fl ρ)
 | .ct ρ=>k (fo fl ρ)
 | .bk ρ=>ret (.nx (fo fl ρ))
 | .rt w=>ret (.rt w)
noncomputable def bD(fl:List Nat)(b:AN->En->Mo Fl):List AN->En->Mo Fl
 | [],ρ=>ret (.nx ρ)
 | x::xs,ρ=>zH (b x ρ) (zb fl (bD fl b xs))
theorem lf(fl:List Nat)(g:zU)(t:zR):∀(xs:List AN)(ρ:En),mS (cq fl g t xs) ρ=bD fl (fun x ρ=>zH (g x ρ) (mS t)) xs ρ
 | [],ρ=>rfl
 | x::xs,ρ=>by
   refine ae fun Q=>?_;show(g x ρ fun ρ2=>t ⟨fun ρ'=>mS (cq fl g t xs) (fo fl ρ') Q,fun w=>Q (.rt w),fun ρ'=>Q (.nx (fo fl ρ')),fun ρ'=>mS (cq fl g t xs) (fo fl ρ') Q⟩ ρ2)↔_;simp only[lf fl g t xs];exact FY
noncomputable def zJ(g:zU)(t:zR):AN->En->Mo Fl:=fun x ρ=>zH (g x ρ) (mS t)
theorem bdy_ap(g:zU)(t:zR)(x:AN)(ρ:En):zJ g t x ρ=zH (g x ρ) (mS t):=nr rfl
theorem s_for(fl:List Nat)(fi:En->(List AN->Prop)->Prop)(g:zU)(t:zR)(ρ:En):mS (rL fl fi g t) ρ=zH (fi ρ) fun xs=>bD fl (zJ g t) xs (fo fl ρ):=by
 refine ae fun Q=>?_;show(fi ρ fun xs=>mS (cq fl g t xs) (fo fl ρ) Q)↔_;simp only[lf];exact FY
noncomputable def za(fl:List Nat)(J:En->Prop)(Q:Fl->Prop):Fl->Prop
 | .nx ρ=>J (fo fl ρ)
 | .ct ρ=>J (fo fl ρ)
 | .bk ρ=>Q (.nx (fo fl ρ))
 | .rt w=>Q (.rt w)
section
variable{α σ:Type}{fl:List Nat}{b:AN->En->Mo Fl}
theorem iZ(J:Nat->En->Prop){Q:Fl->Prop}:∀{xs:List AN}{ρ:En}(n:Nat),J n ρ->(∀i x ρ,xs[i]?=some x->J (n+i) ρ->∀k:Fl->Prop,(∀r,za fl (J (n+i+1)) Q r->k r)->b x ρ k)->(∀ρ,J (n+xs.length) ρ->Q (.nx ρ))->bD fl b xs ρ Q
 | [],ρ,n,h0,_,fin=>fin ρ h0
 | x::xs,ρ,n,h0,step,fin=>by
   refine step 0 x ρ rfl h0 (fun r=>zb fl (bD fl b xs) r Q) fun r hr=>?_;have rc:∀ρ',J (n+1) ρ'->bD fl b xs ρ' Q:=fun ρ' h'=>iZ J (n+1) h' (fun i y ρ e j k hk=>step (i+1) y ρ (by simpa using e) (by rw[show n+(i+1)=n+1+i by omega];exact j) k (by rw[show n+(i+1)+1=n+1+i+1 by omega];exact hk)) (fun ρ j=>fin ρ (by rw[Bb,show n+(xs.length+1)=n+1+xs.length by omega];exact j))
   cases r with
   | nx ρ'=>exact rc _ hr
   | ct ρ'=>exact rc _ hr
   | bk ρ'=>exact hr
   | rt w=>exact hr
theorem lg{xs:List α}{enc:α->AN}{Q:Fl->Prop}(J:Nat->En->Prop)(h0:J 0 ρ)
 (step:∀i (h:i<xs.length) ρ,J i ρ->∀k:Fl->Prop,(∀r,za fl (J (i+1)) Q r->k r)->b (enc xs[i]) ρ k)(fin:∀ρ,J xs.length ρ->Q (.nx ρ)):bD fl b (xs.map enc) ρ Q:=by
 refine iZ J 0 h0 (fun i x ρ e j k hk=>?_) (fun ρ j=>fin ρ (by simpa using j));have hi:i<xs.length:=by have:=(A2.mp e).1;simpa using this
 rw[Bp,A5 hi]at e;cases e;rw[Nat.zero_add]at j hk;exact step i hi ρ j k hk
theorem mV{lo:Int}{Q:Fl->Prop}(J:Nat->En->Prop)(h0:J 0 ρ)
 (step:∀i,i<n->∀ρ,J i ρ->∀k:Fl->Prop,(∀r,za fl (J (i+1)) Q r->k r)->b (.int (lo+i)) ρ k)(fin:∀ρ,J n ρ->Q (.nx ρ)):bD fl b (aA lo n) ρ Q:=by
 refine lg (xs:=Bq n) J h0 (fun i h ρ j k hk=>?_) (fun ρ j=>fin ρ (by simpa using j));rw[List.getElem_range];exact step i (by simpa using h) ρ j k hk
theorem la{xs:List α}{enc:α->AN}(st:σ->En)(f:σ->α->σ)(s:σ)(I:σ->Prop)(h0:I s)(step:∀x∈xs,∀s,I s->I (f s x)/\∃ρ',b (enc x) (st s)=ret (.nx ρ')/\fo fl ρ'=st (f s x)):bD fl b (xs.map enc) (st s)=ret (.nx (st (xs.foldl f s))):=by
 induction xs generalizing s with
 | nil=>rfl
 | cons x xs ih =>
   obtain⟨h1,ρ',e1,e2⟩:=step x AZ s h0;show zH (b (enc x) (st s)) (zb fl (bD fl b (xs.map enc)))=_;rw[e1,bnd_ret];show bD fl b (xs.map enc) (fo fl ρ')=_;rw[e2];exact ih (f s x) h1 fun y hy=>step y (AU _ hy)
theorem jw{lo:Int}(st:Nat->En)(h0:∀i,i<n->∃ρ',b (.int (lo+i)) (st i)=ret (.nx ρ')/\fo fl ρ'=st (i+1)):bD fl b (aA lo n) (st 0)=ret (.nx (st n)):=by
 have key:∀k m,m+k=n->bD fl b ((aA lo n).drop m) (st m)=ret (.nx (st n)):=by
  intro k
  induction k with
  | zero => intro m e;have e:m=n:=by omega
            subst e;rw[DT (by rw[b_];omega)];rfl
  | succ k ih =>
    intro m e;have hm:m<(aA lo n).length:=by rw[b_];omega
    rw[CP hm];have ex:(aA lo n)[m] = .int (lo+m):=by simp[aA]
    rw[ex];obtain⟨ρ',e1,e2⟩:=h0 m (by omega);show zH (b (.int (lo+m)) (st m)) (zb fl (bD fl b ((aA lo n).drop (m+1))))=_;rw[e1,bnd_ret];show bD fl b _ (fo fl ρ')=_;rw[e2];exact ih (m+1) (by omega)
 have:=key n 0 (by omega);simpa using this
theorem lc{xs:List α}{enc:α->AN}(p:α->Bool)(w:α->W)(step:∀x∈xs,(p x=true->b (enc x) ρ=ret (.rt (w x)))/\(p x=false->∃ρ',b (enc x) ρ=ret (.nx ρ')/\fo fl ρ'=ρ)) :
 bD fl b (xs.map enc) ρ=match xs.find? p with|some x=>ret (.rt (w x))|none=>ret (.nx ρ):=by
 induction xs with
 | nil=>rfl
 | cons x xs ih =>
   have h:=step x AZ;show zH (b (enc x) ρ) (zb fl (bD fl b (xs.map enc)))=_
   cases hp:p x with
   | true=>rw[h.1 hp,bnd_ret,List.find?_cons_of_pos hp];rfl
   | false =>
     obtain⟨ρ',e1,e2⟩:=h.2 hp;rw[e1,bnd_ret,List.find?_cons_of_neg (by rw[hp];decide)];show bD fl b _ (fo fl ρ')=_;rw[e2];exact ih fun y hy=>step y (AU _ hy)
end
noncomputable def eg(fl:List Nat)(f:TB)(t:zR)(ρ:En):Mo Fl:=fun Q=>∃m,mS (yj fl f t m) ρ Q
theorem s_while(fl:List Nat)(f:TB)(t:zR)(ρ:En):mS (jU fl f t) ρ=eg fl f t (fo fl ρ):=nr rfl
theorem lX(fl:List Nat)(f:TB)(t:zR)(m:Nat)(ρ:En):mS (yj fl f t m) ρ=zH (f ρ) fun b=>if b=true then zH (mS t ρ) (zb fl fun ρ'=>fun Q=>∃k,∃h:k<m,mS (yj fl f t k) ρ' Q)else ret (.nx ρ):=by
 refine ae fun Q=>?_;show yj fl f t m _ ρ↔_;rw[oa];simp only[zH,dm];exact FY
theorem oW{fl:List Nat}{f:TB}{t:zR}(h:f ρ=ret false):eg fl f t ρ=ret (.nx ρ):=by
 refine ae fun Q=>?_;constructor
 · rintro⟨m,q⟩;rw[lX,h,bnd_ret,if_neg (by decide)]at q;exact q
 · intro q;refine⟨0,?_⟩;rw[lX,h,bnd_ret,if_neg (by decide)];exact q
theorem oV{fl:List Nat}{f:TB}{t:zR}{ρ':En}(h:f ρ=ret true)(h2:mS t ρ=ret (.nx ρ')):eg fl f t ρ=eg fl f t (fo fl ρ'):=by
 refine ae fun Q=>?_;constructor
 · rintro⟨m,q⟩;rw[lX,h,bnd_ret,if_pos rfl,h2,bnd_ret]at q;obtain⟨k,_,q⟩:=q;exact⟨k,q⟩
 · rintro⟨m,q⟩;refine⟨m+1,?_⟩;rw[lX,h,bnd_ret,if_pos rfl,h2,bnd_ret];exact⟨m,Nat.lt_succ_self m,q⟩
theorem jK{σ:Type}{fl:List Nat}{f:TB}{t:zR}(st:σ->En)(c:σ->Bool)(nxt:σ->σ)(μ:σ->Nat)(I:σ->Prop)
 (hf:∀s,I s->f (st s)=ret (c s))(ht:∀s,I s->c s=true->I (nxt s)/\μ (nxt s)<μ s/\∃ρ',mS t (st s)=ret (.nx ρ')/\fo fl ρ'=st (nxt s))(s:σ)(hs:I s):∃s',I s'/\c s'=false/\eg fl f t (st s)=ret (.nx (st s')):=by
 induction hm:μ s using Ei generalizing s with
 | ind n ih =>
   subst hm
   cases hc:c s with
   | false=>exact⟨s,hs,hc,oW (by rw[hf s hs,hc])⟩
   | true =>
     obtain⟨i1,m1,ρ',e1,e2⟩:=ht s hs hc;obtain⟨s',a,b,e⟩:=ih _ m1 (nxt s) i1 rfl;exact⟨s',a,b,by rw[oV (by rw[hf s hs,hc]) e1,e2,e]⟩
noncomputable def og(ρ0:En)(g:zU)(ft:TB)(fe:TV):List AN->List AN->(List AN->Prop)->Prop
 | [],acc,Q=>Q acc
 | x::xs,acc,Q=>g x ρ0 fun ρ2=>Le ρ0 ρ2/\ft ρ2 fun b=>if b=true then fe ρ2 fun w=>∃d,w.fz = .d d/\acc.length<sizeLine/\og ρ0 g ft fe xs (acc++[d]) Q else og ρ0 g ft fe xs acc Q
noncomputable def iD(fi:En->(List AN->Prop)->Prop)(fr:List (Option Nat))(g:zU)(ft:TB)(fe:TV):TV:=fun ρ Q=>fi ρ fun xs=>og (jF fr ρ) g ft fe xs [] fun ds=>Q (.ml ds)
section
variable{X:Cx}{rl:Option Addr}{elt tg iter:Expr}{ifs:List Expr}{scope:Scope}{pos:Pos}{fi:En->(List AN->Prop)->Prop}{g:zU}{ft:TB}{fe:TV}
theorem i5{N':List Str}{wi:TI}(fr:List (Option Nat))(k0:∀{F₀ H₀ F H:Hp}{σ:St}{ρ:En},VR X.K rl F₀ H₀ F H σ ρ->∀(Qd:List AN->Prop)(R:It->Hp->Prop),fi ρ Qd ->
 (∀J xs F' H',Grow rl F H F' H'->VIt X.K rl F' J xs->Qd xs->R J H')->wi σ H R)
 (hg:∀y,Am (zI X N' scope y) rl tg g)(ht:∀y,ua (zI X N' scope y) rl ifs ft)(he:∀y,PV (zI X N' scope y) rl elt fe)
 (R:VR X.K rl F₀ H₀ F H σ ρ)(Qd:W->Prop)(Q:VK)(q:iD fi fr g ft fe ρ Qd)
 (k:∀v w F' H',Grow rl F H F' H'->cQ X.K rl F' H' v w->d3 H v w->Qd w->Q v H'):pG wi fr (fun y=>E2 (hg y)) (fun y=>E2 (ht y)) (fun y=>E2 (he y)) σ H Q:=by
 refine k0 R _ _ q fun J xs F1 H1 g1 vi q1=>?_;intro D hD;have rD:rl≠some D:=fun e=>by obtain⟨o,z⟩:=g1.reel.live e;rw[hD]at z;cases z
 have FD:F1 D=none:=g1.sub.free hD;have gD:Grow rl F1 H1 F1 (upd H1 D (.lst [])):=Grow.laid g1.sub g1.reel hD;have R1:=R.grow g1;have n0:nW (jF fr ρ):=jt
 refine⟨fun i m acc σc Hc=>m=xs.length-i/\i<=xs.length/\∃Fc ds,VR X.K rl F1 H1 Fc Hc σc (jF fr ρ)/\Hc D=some (.lst acc)/\Fc D=none/\Reps X.K Fc acc ds/\og (jF fr ρ) g ft fe (xs.drop i) ds (fun ds=>Qd (.ml ds)),
  ⟨xs.length,by simp,Db _,F1,[],lZ R1 gD,ak,FD,.nil,by simpa using q1⟩,?_⟩
 rintro z i m acc σc Hc ⟨rfl,hi,Fc,ds,Rc,hDc,fDc,rs,q2⟩;have sH:aZ F1 Hc:=Rc.g.fs.trans Rc.sub;by_cases hlt:i<xs.length
 · have ei:xs[i]?=some xs[i]:=by simp[hlt]
   have ed:xs.drop i=xs[i]::xs.drop (i+1):=CP hlt;rw[ed]at q2;refine .inr ⟨vi.go i Hc _ ei sH,fun v H' y=>?_⟩;obtain⟨Fy,gy,rv⟩:=vi.yld i Hc v H' _ Fc ei Rc.g.fs Rc.sub Rc.reel y;refine(BS (hg z)).2 (Rc.grow gy) v _ _ _ rv q2 fun F3 H3 σ3 ρ3 g3 n3 R3 ⟨le3,q3⟩=>?_;refine(BS (ht z)).2 R3 _ _ q3 fun b F4 H4 g4 q4=>?_;have R4:=R3.grow g4;have g34:=(gy.trans g3).trans g4;have keepD:∀{Fx Hx:Hp},Grow rl Fc Hc Fx Hx->Hx D=some (.lst acc)/\Fx D=none:=fun gx=>⟨gx.same D _ hDc rD,by rw[gx.old D _ hDc];exact fDc⟩
   cases b with
   | false=>exact⟨xs.length-(i+1),by omega,rfl,hlt,F4,ds,R4.le le3,(keepD g34).1,(keepD g34).2,rs.mono g34.fs,q4⟩
   | true =>
     refine(BS (he z)).2 R4 _ _ q4 fun v5 w5 F5 H5 g5 r5 n5 ⟨d,ed5,hl,q5⟩=>?_;obtain⟨F6,g6,s6,r6⟩:=cQ.fz g5 r5 n5;rw[ed5]at r6;have g36:=g34.trans g6;refine⟨(keepD g36).1,by rw[rs.length];exact hl,xs.length-(i+1),by omega,rfl,hlt,F6,ds++[d],((R4.grow g6).le le3).other n0 hD (keepD g36).2 rD,ak,(keepD g36).2,(rs.mono g36.fs).snoc r6,q5⟩
 · have e:i=xs.length:=by omega
   subst e;rw[E1]at q2;refine .inl ⟨vi.stop _ Hc (AY _) sH,k _ (.ml ds) Fc Hc (g1.trans Rc.g) ⟨D,acc,rfl,fDc,rD,hDc,rs⟩ (fun a ea=>by cases ea;exact g1.freeB hD) q2⟩
theorem bf(N':List Str)(fr:List (Option Nat))(hc:X.calm=true)(hi:Aj X rl tg iter fi)
 (hg:∀y,Am (zI X N' scope y) rl tg g)(ht:∀y,ua (zI X N' scope y) rl ifs ft)(he:∀y,PV (zI X N' scope y) rl elt fe)
 (hfr:autoParam (qW fr N' X.N scope X.env.scope=true) æa._auto_1)(hsc:autoParam (ud scope X.env.scope=true) æa._auto_1)
 (hs:autoParam (∀x,CS iter X.env x=pure x) æc._auto_1):PV X rl (.ListComp elt [⟨tg,iter,ifs,0⟩] scope pos) (iD fi fr g ft fe):=by
 obtain⟨wi,p0,k0⟩:=hi;exact⟨_,iU N' fr hc p0 hfr hsc (fun y=>(BS (hg y)).1) (fun y=>(BS (ht y)).1) (fun y=>(BS (he y)).1) hs,fun R Qd Q q k=>i5 fr k0 hg ht he R Qd Q q k⟩
end
noncomputable def zh(ρ0:En)(g:zU)(ft:TB)(fe:TV)(x:AN):Mo (Option AN):=zH (g x ρ0) fun ρ2=>zu (Le ρ0 ρ2) (zH (ft ρ2) fun b=>if b=true then zH (fe ρ2) fun w=>av (asD w.fz) fun d=>ret (some d)else ret none)
noncomputable def cg(b:AN->Mo (Option AN)):List AN->List AN->Mo (List AN)
 | [],acc=>ret acc
 | x::xs,acc=>zH (b x) fun o=>match o with
   | some d=>zu (acc.length<sizeLine) (cg b xs (acc++[d]))
   | none=>cg b xs acc
theorem lI(ρ0:En)(g:zU)(ft:TB)(fe:TV):∀(xs acc:List AN),og ρ0 g ft fe xs acc=cg (zh ρ0 g ft fe) xs acc
 | [],acc=>rfl
 | x::xs,acc=>by
   refine ae fun Q=>?_;show(g x ρ0 fun ρ2=>Le ρ0 ρ2/\ft ρ2 fun b=>if b=true then fe ρ2 fun w=>∃d,w.fz = .d d/\acc.length<sizeLine/\og ρ0 g ft fe xs (acc++[d]) Q else og ρ0 g ft fe xs acc Q)↔(zH (zh ρ0 g ft fe x) _) Q;simp only[lI ρ0 g ft fe xs]
   have:∀(ρ2:En)(b:Bool),(if b=true then fe ρ2 fun w=>∃d,w.fz = .d d/\acc.length<sizeLine/\cg (zh ρ0 g ft fe) xs (acc++[d]) Q else cg (zh ρ0 g ft fe) xs acc Q)=(zH (if b=true then zH (fe ρ2) fun w=>av (asD w.fz) fun d=>ret (some d)else ret none) fun o=>match o with
   | some d=>zu (acc.length<sizeLine) (cg (zh ρ0 g ft fe) xs (acc++[d]))
   | none=>cg (zh ρ0 g ft fe) xs acc) Q:=by
     intro ρ2 b
     cases b with
     | false=>rfl
     | true =>
       rw[if_pos rfl,if_pos rfl];show _=fe ρ2 fun w=>_;congr 1;funext w;refine propext ?_;show _↔(zH (av (asD w.fz) fun d=>ret (some d)) _) Q;rw[bnd_opt,ag];simp only[gM];exact FY
   simp only[this];exact FY
theorem m_comp(fi:En->(List AN->Prop)->Prop)(fr:List (Option Nat))(g:zU)(ft:TB)(fe:TV)(ρ:En):iD fi fr g ft fe ρ=zH (fi ρ) fun xs=>zH (cg (zh (jF fr ρ) g ft fe) xs []) fun ds=>ret (.ml ds):=by
 refine ae fun Q=>?_;show(fi ρ fun xs=>og (jF fr ρ) g ft fe xs [] fun ds=>Q (.ml ds))↔_;simp only[lI];exact FY
section
variable{α:Type}{b:AN->Mo (Option AN)}
theorem dX{enc:α->AN}(f:α->Option AN):∀(xs:List α)(acc:List AN),(∀x∈xs,b (enc x)=ret (f x))->acc.length+xs.length<=sizeLine->cg b (xs.map enc) acc=ret (acc++xs.filterMap f)
 | [],acc,_,_=>by simp[cg]
 | x::xs,acc,h,hl=>by
   show zH (b (enc x)) _=_;rw[h x AZ,bnd_ret];simp at hl
   cases e:f x with
   | none =>
     show cg b (xs.map enc) acc=_
     rw[dX f xs acc (fun y hy=>h y (AU _ hy)) (by omega),List.filterMap_cons_none e]
   | some d =>
     show zu (acc.length<sizeLine) (cg b (xs.map enc) (acc++[d]))=_;rw[ai (by omega),dX f xs (acc++[d]) (fun y hy=>h y (AU _ hy)) (by simp;omega),List.filterMap_cons_some e];simp
theorem lH{xs:List α}{enc:α->AN}(f:α->Option AN)(h:∀x∈xs,b (enc x)=ret (f x))(hl:xs.length<=sizeLine):cg b (xs.map enc) []=ret (xs.filterMap f):=by
 have:=dX f xs [] h (by simpa using hl);simpa using this
theorem comp_map{xs:List α}{enc:α->AN}(f:α->AN)(h:∀x∈xs,b (enc x)=ret (some (f x)))(hl:xs.length<=sizeLine):cg b (xs.map enc) []=ret (xs.map f):=by
 rw[lH (fun x=>some (f x)) h hl,List.filterMap_eq_map']
theorem dr{enc:α->AN}(R:α->AN->Prop){Q:List AN->Prop}:∀(xs:List α)(acc:List AN),(∀x∈xs,∀k:Option AN->Prop,(∀d,R x d->k (some d))->b (enc x) k)->acc.length+xs.length<=sizeLine->(∀ds,BC R xs ds->Q (acc++ds))->cg b (xs.map enc) acc Q
 | [],acc,_,_,fin=>by have:=fin [] .nil;rw[Co]at this;exact this
 | x::xs,acc,h,hl,fin=>by
   simp at hl;refine h x AZ _ fun d r=>?_;refine⟨by omega,dr R xs (acc++[d]) (fun y hy=>h y (AU _ hy)) (by simp;omega) fun ds ps=>?_⟩;have:=fin (d::ds) (.cons r ps);simpa using this
theorem nP{xs:List α}{enc:α->AN}(R:α->AN->Prop){Q:List AN->Prop}(h:∀x∈xs,∀k:Option AN->Prop,(∀d,R x d->k (some d))->b (enc x) k)(hl:xs.length<=sizeLine)(fin:∀ds,BC R xs ds->Q ds):cg b (xs.map enc) [] Q :=
 dr R xs [] h (by simpa using hl) (by simpa using fin)
end
section
variable(c:Prop)[Decidable c]
theorem ite_nx(a b:En):(if c then ret (Fl.nx a)else ret (Fl.nx b))=ret (Fl.nx (if c then a else b)):=by split<;>rfl
theorem ite_rt(a b:W):(if c then ret (Fl.rt a)else ret (Fl.rt b))=ret (Fl.rt (if c then a else b)):=by split<;>rfl
theorem ite_retd(a b:AN):(if c then ret (W.d a)else ret (W.d b))=ret (W.d (if c then a else b)):=by split<;>rfl
theorem ite_retb(a b:Bool):(if c then ret a else ret b)=ret (if c then a else b):=by split<;>rfl
theorem ite_rets(a b:AN):(if c then ret (some a)else ret (some b))=ret (some (if c then a else b)):=by split<;>rfl
theorem ite_cons{α:Type}(x y:α)(l m:List α):(if c then x::l else y::m)=(if c then x else y)::(if c then l else m):=by split<;>rfl
theorem ite_some{α:Type}(x y:α):(if c then some x else some y)=some (if c then x else y):=by split<;>rfl
theorem ite_d(a b:AN):(if c then W.d a else W.d b)=W.d (if c then a else b):=by split<;>rfl
theorem ite_pi(a b:Int):(if c then BA a else BA b)=BA (if c then a else b):=by split<;>rfl
theorem ite_pb(a b:Bool):(if c then B1 a else B1 b)=B1 (if c then a else b):=by split<;>rfl
theorem itb_tt(b y:Bool):(if b=true then true else y)=(b||y):=by cases b<;>rfl
theorem itb_ff(b y:Bool):(if b=true then y else false)=(b&&y):=by cases b<;>rfl
theorem itb_ft(b y:Bool):(if b=true then false else y)=(!b&&y):=by cases b<;>rfl
theorem itb_tf(b y:Bool):(if b=true then y else true)=(!b||y):=by cases b<;>rfl
end
theorem af(h:n<=1000):(n<=sizeLine)=True:=by have:=BQ;exact propext ⟨fun _=>trivial,fun _=>by omega⟩
theorem tup2(x y:AN):(match [x,y]with | [x,y]=>some (x,y)|_=>none)=some (x,y):=rfl
theorem bnd_tt{α β:Type}(a:α)(f:α->Mo β):zH (fun Q=>Q a) f=f a:=nr rfl
section
variable{α β:Type}
theorem ax{P:α->Prop}{f:α->Mo β}{Q:β->Prop}(h:∀a,P a->f a Q):zH (anyM P) f Q:=h
theorem ja{P:Prop}{m:Mo α}{Q:α->Prop}(h:P)(h':m Q):zu P m Q:=⟨h,h'⟩
end
theorem a_{Q:AN->Prop}(h:Q d):ret (Fl.rt (.d d)) (tU Q):=⟨d,rfl,h⟩
section
variable{α:Type}{k:En->Mo Fl}{Q:Fl->Prop}
theorem yJ{m:Mo α}{h:α->Mo Fl}(z:zH m (fun a=>sq (h a) k) Q):sq (zH m h) k Q:=z
theorem yI{o:Option α}{h:α->Mo Fl}(z:av o (fun a=>sq (h a) k) Q):sq (av o h) k Q:=by rw[rW];exact z
noncomputable def kc(k1 k2:En->Mo Fl):En->Mo Fl:=fun ρ=>sq (k1 ρ) k2
theorem kc_ap(k1 k2:En->Mo Fl)(ρ:En):kc k1 k2 ρ=sq (k1 ρ) k2:=nr rfl
theorem sq_sq(m:Mo Fl)(k1 k2:En->Mo Fl):sq (sq m k1) k2=sq m (kc k1 k2):=by
 refine ae fun Q=>?_;show m _↔m _;have:∀fl:Fl,(sq (match fl with | .nx ρ=>k1 ρ | .rt w=>ret (.rt w) | .bk ρ=>ret (.bk ρ) | .ct ρ=>ret (.ct ρ)) k2) Q=(match fl with | .nx ρ=>kc k1 k2 ρ | .rt w=>ret (.rt w) | .bk ρ=>ret (.bk ρ) | .ct ρ=>ret (.ct ρ):Mo Fl) Q:=by intro fl;cases fl<;>rfl
 exact Iff.of_eq (congrArg m (funext this))
theorem aE{P:α->Prop}{f:α->Mo Fl}(z:∀a,P a->sq (f a) k Q):sq (zH (anyM P) f) k Q:=z
end
theorem pk_sc(x:List Int):L2.VL.W.peek (.sc x) = .sc x:=rfl
theorem fz_sc(x:List Int):(W.sc x).fz = .sc x:=rfl
theorem arg_sc(x:List Int):dg (.sc x)=true:=rfl
theorem isPk_sc(x:List Int):(W.sc x).isPk=false:=rfl
section
variable{X:Cx}{rl:Option Addr}{a b c e:Expr}{es:List Expr}{fa fb fc:TV}{fs:zQ}{pos p p2:Pos}{ρ:En}
noncomputable def tR:List W->(W->Prop)->Prop:=fun ws Q=>∃ns,ws=[.sc ns]/\Q (.d (.int ns.length))
noncomputable def asSc:W->Option (List Int)
 | .sc ns=>some ns
 | _=>none
theorem asSc_s(ns:List Int):asSc (.sc ns)=some ns:=rfl
theorem il{i:List Int}:asSc w=some i↔w = .sc i:=by
 constructor
 · intro h;unfold asSc at h;split at h<;>simp_all
 · rintro rfl;rfl
theorem m_gLenS(w:W):tR [w]=av (asSc w) fun ns=>ret (.d (.int ns.length)):=by
 refine ae fun Q=>?_;simp only[tR,ag,il,ret,Bf,and_true]
noncomputable def wS:W->W->(W->Prop)->Prop:=fun x y Q=>∃ns i n,x = .sc ns/\y = .d (.int i)/\atI ns i=some n/\Q (.d (.int n))
theorem fS{β:Type}(f:α->β)(xs:List α)(i:Int):atI (xs.map f) i=(atI xs i).map f:=by
 unfold atI;rw[AV];cases ixN xs.length i<;>simp
theorem m_gIxS(x y:W):wS x y=av (asSc x) fun ns=>av (asI y) fun i=>av (atI ns i) fun n=>ret (.d (.int n)):=by
 refine ae fun Q=>?_;simp only[wS,ag,il,bN,ret];exact⟨fun⟨i,j,z,a,b,c,q⟩=>⟨i,a,j,b,z,c,q⟩,fun⟨i,a,j,b,z,c,q⟩=>⟨i,j,z,a,b,c,q⟩⟩
noncomputable def wt(fa:TV)(fl fh:zS):TV:=fun ρ Q=>fa ρ fun w=>fl ρ fun l=>fh ρ fun h=>∃ns:List Int,w = .sc ns/\Q (.ml (cutD (ns.map .int) l h))
theorem m_vSlS{fl fh:zS}:wt fa fl fh ρ=zH (fa ρ) fun w=>zH (fl ρ) fun l=>zH (fh ρ) fun h=>av (asSc w) fun ns=>ret (.ml (cutD (ns.map .int) l h)):=by
 refine ae fun Q=>?_;simp only[wt,zH,ag,il,ret]
end
noncomputable def yK(K:W.Frag)(pre:List W->Prop):Sp:=fun vs H Q _=>∃F ws,aZ F H/\dB K none F H vs ws/\ws.all dg=true/\pre ws/\∀r F' H',H r=none->Grow none F H F' H'->Aa (some r) F' H'->Q (.ref r) H'
structure DfnR (P:Bd) (w:BM) (K:W.Frag) (mg:Str->Option AR) (base:Heap) (x:Str) (ps:List Str) (k:Nat) (pre:List W->Prop):Prop where
 ex:∃f fd,mg x=some (.ref f)/\W.keepIn K (.ref f)=true/\Binds K fd ps []/\FnOk P w K mg base AI k f fd ps (yK K pre)
noncomputable def y8:Option W->Option W
 | some .reel=>none
 | o=>o
noncomputable def nR(ρ:En):En:=ρ.map y8
noncomputable def W.isR:W->Bool
 | .reel=>true
 | _=>false
noncomputable def rJ(i:Nat)(pre:List W->Prop)(fs:zQ)(t:zR):zR:=fun D ρ=>fs ρ fun ws=>ws.all dg=true/\pre ws/\t ⟨fun ρ'=>D.nx (nR ρ'),fun w=>w.isR=false/\D.rt w,fun ρ'=>D.bk (nR ρ'),fun ρ'=>D.ct (nR ρ')⟩ (ρ.set i (some .reel))
theorem qB(g:Grow none F₀ H₀ F H)(ra:Aa (some r) F H):Grow (some r) F₀ H₀ F H:=⟨fun b o e _=>g.same b o e (by simp),g.fs,g.sub,g.old,ra⟩
theorem i_(g:Grow (some r) F₀ H₀ F H)(n:H₀ r=none):Grow none F₀ H₀ F H:=⟨fun b o e _=>g.same b o e (fun z=>by cases z;rw[n]at e;cases e),g.fs,g.sub,g.old,fun _ z=>by cases z⟩
theorem r_{K:W.Frag}(h:cQ K none F H v w)(ne:∀a,w.own=true\/(∃xs,w = .pk xs)->v = .ref a->a≠r):cQ K (some r) F H v w:=by
 cases w with
 | d x=>exact h
 | ml xs=>obtain⟨a,vs,e,f,_,g⟩:=h;exact⟨a,vs,e,f,fun z=>ne a (.inl rfl) e (by cases z;rfl),g⟩
 | pk xs=>obtain⟨a,vs,e,f,_,g⟩:=h;exact⟨a,vs,e,f,fun z=>ne a (.inr ⟨_,rfl⟩) e (by cases z;rfl),g⟩
 | reel=>obtain⟨_,z,_⟩:=h;cases z
 | vv u=>exact h
 | md kvs=>obtain⟨a,vs,e,f,_,g⟩:=h;exact⟨a,vs,e,f,fun z=>ne a (.inl rfl) e (by cases z;rfl),g⟩
 | mk kvs=>obtain⟨a,vs,e,f,_,g⟩:=h;exact⟨a,vs,e,f,fun z=>ne a (.inl rfl) e (by cases z;rfl),g⟩
 | xm kvs=>obtain⟨a,vs,e,f,_,g⟩:=h;exact⟨a,vs,e,f,fun z=>ne a (.inl rfl) e (by cases z;rfl),g⟩
 | nt ds=>exact h
 | lk=>trivial
 | sc ns=>exact h
 | fd _=>exact h
 | xr _=>exact h
 | fw _=>exact h
 | ft _=>exact h
 | xc _ _=>exact h
 | dp _ _=>exact h
theorem ky{K:W.Frag}(h:cQ K (some r) F H v w)(n:w.isR=false):cQ K none F H v w:=by
 cases w with
 | d x=>exact h
 | ml xs=>obtain⟨a,vs,e,f,_,g⟩:=h;exact⟨a,vs,e,f,by simp,g⟩
 | pk xs=>obtain⟨a,vs,e,f,_,g⟩:=h;exact⟨a,vs,e,f,by simp,g⟩
 | reel=>cases n
 | vv u=>exact h
 | md kvs=>obtain⟨a,vs,e,f,_,g⟩:=h;exact⟨a,vs,e,f,by simp,g⟩
 | mk kvs=>obtain⟨a,vs,e,f,_,g⟩:=h;exact⟨a,vs,e,f,by simp,g⟩
 | xm kvs=>obtain⟨a,vs,e,f,_,g⟩:=h;exact⟨a,vs,e,f,by simp,g⟩
 | nt ds=>exact h
 | lk=>trivial
 | sc ns=>exact h
 | fd _=>exact h
 | xr _=>exact h
 | fw _=>exact h
 | ft _=>exact h
 | xc _ _=>exact h
 | dp _ _=>exact h
theorem iX(h:(nR ρ)[i]?=some (some w)):ρ[i]?=some (some w)/\w.isR=false:=by
 unfold nR at h;rw[Bp]at h
 cases e:ρ[i]? with
 | none=>rw[e]at h;cases h
 | some o =>
   rw[e]at h
   cases o with
   | none=>cases h
   | some u=>cases u<;>first|(cases h;exact⟨rfl,rfl⟩)|cases h
theorem VR.out{K:W.Frag}(R:VR K (some r) F₀ H₀ F H σ ρ)(n:H₀ r=none):VR K none F₀ H₀ F H σ (nR ρ):=by
 refine⟨i_ R.g n,fun i w e=>?_,fun i j x y v hn e1 e2=>R.ap i j x y v hn (iX e1).1 (iX e2).1,fun i xs e=>R.np i xs (iX e).1,?_⟩
 · obtain⟨e1,e2⟩:=iX e;obtain⟨v,h1,h2,h3⟩:=R.sl i w e1;exact⟨v,h1,ky h2 e2,h3⟩
 · have:=R.len;simpa[nR]using this
theorem VR.into{K:W.Frag}(R:VR K none F₀ H₀ F H σ ρ)(n:H r=none)(g:Grow none F H F' H')(ra:Aa (some r) F' H')(i:Nat):VR K (some r) F₀ H₀ F' H' (σ.set i (some (.ref r))) (ρ.set i (some .reel)):=by
 have R1:=R.grow g;refine⟨qB R1.g ra,fun j w e=>?_,fun j k x y v hn e1 e2 o1 o2 s1 s2=>?_,fun j xs e=>?_,by simp[R.len]⟩
 · by_cases hj:i=j
   · subst hj
     have hi:i<ρ.length:=by
      rw[BD]at e;by_cases hi:i<ρ.length
      · exact hi
      · simp[hi]at e
     rw[A9 hi]at e;cases e;exact⟨.ref r,by rw[A9 (by rw[<- R.len];exact hi)],⟨r,rfl,rfl⟩,trivial⟩
   · rw[A6 hj]at e;obtain⟨v,h1,h2,h3⟩:=R1.sl j w e;refine⟨v,by rw[A6 hj];exact h1,r_ h2 fun a ow ea z=>?_,h3⟩;obtain⟨v0,h10,h20,_⟩:=R.sl j w e;rw[h1]at h10;cases h10;rcases ow with ow|⟨xs,rfl⟩
     · obtain⟨b,o,eb,hb⟩:=h20.live ow;rw[ea]at eb;cases eb;rw[z,n]at hb;cases hb
     · exact absurd e (R.np j xs)
 · have key:∀(m:Nat)(z:W),(ρ.set i (some W.reel))[m]?=some (some z)->z.own=true->i≠m/\ρ[m]?=some (some z):=fun m z e o=>by
     by_cases hm:i=m
     · subst hm;rw[BD]at e;split at e
       · split at e
         · cases e;cases o
         · cases e
       · exact absurd rfl (by assumption)
     · rw[A6 hm]at e;exact⟨hm,e⟩
   obtain⟨n1,d1⟩:=key j x e1 o1;obtain⟨n2,d2⟩:=key k y e2 o2;rw[A6 n1]at s1;rw[A6 n2]at s2;exact R1.ap j k x y v hn d1 d2 o1 o2 s1 s2
 · rw[BD]at e;split at e
   · split at e
     · cases e
     · cases e
   · exact R1.np j xs e
section
variable{X:Cx}{st:Stmt}{rest body:List Stmt}{t u:zR}{a b c e:Expr}{es:List Expr}{fa fb:TV}{fs:zQ}{pos p px cpos:Pos}{ρ:En}
theorem oY(i:Nat){f:Str}{pre:List W->Prop}(D:DfnR X.prog X.w X.K X.mg X.base f ps k pre)(hr:Room k X.A)(hN:X.N.Nodup)(ha:Ad X none (e::es) fs)(hrest:∀r,jE X (some r) rest t)
 (hi:autoParam (X.N[i]?=some x) æa._auto_1)(hx:autoParam (Loc X.env.scope x) æe._auto_1)(hg:autoParam (Gl X f) æa._auto_1)(hdb:autoParam ((f==("__debug__" : Str))=false) æb._auto_1)
 (he:autoParam (AW (e::es) X.env=(false,eval e X.env)::AW es X.env) æa._auto_1)(hpl:autoParam ((Cj cpos (AW es X.env)).any (·.1)=false) æa._auto_1)
 (hs:autoParam (C4 (.Call (.Name f p) (e::es) [] cpos) (some (.Name x px)) pos.line X.env=pure false) æa._auto_1)(hf:autoParam (X.fn x=true\/X.env.scope.names.lookup x=some .local) æf._auto_1) :
 jE X none (.Assign [.Name x px] (.Call (.Name f p) (e::es) [] cpos) pos::rest) (rJ i pre fs t):=by
 obtain⟨fa,fd,hm,hk,hb,F⟩:=D.ex;obtain⟨ta,p1,k1⟩:=ha;refine⟨_,aX (cT hN hi hx (kP F hr hg hm hk hb .nil sK p1 hdb he hpl) hs hf) (pV X rest),fun{F₀ H₀ F H σ ρ} R Dv D ok q=>k1 R _ _ q fun vs ws F1 H1 g1 r1 ⟨ao,pw,q1⟩=>?_⟩;have R1:=R.grow g1;refine⟨F1,ws,g1.sub,by rw[Co];exact r1,ao,pw,fun r F2 H2 hr2 g2 ra=>?_⟩;intro pins s I;obtain⟨T,pT,kT⟩:=hrest r;have h0:H₀ r=none:=R1.g.freeB hr2;refine pT pins s _ H2 D I (kT (R1.into hr2 g2 ra i) _ D ⟨fun F3 H3 σ3 ρ3 s3 R3 q3=>?_,fun v w F3 H3 g3 r3 n3 q3=>?_,fun F3 H3 σ3 ρ3 s3 R3 q3=>?_,fun F3 H3 σ3 ρ3 s3 R3 q3=>?_⟩ q1)
 · exact ok.nx F3 H3 σ3 _ (g1.fs.trans (g2.fs.trans s3)) (R3.out h0) q3
 · exact ok.rt v w F3 H3 (i_ g3 h0) (ky r3 q3.1) n3 q3.2
 · exact ok.bk F3 H3 σ3 _ (g1.fs.trans (g2.fs.trans s3)) (R3.out h0) q3
 · exact ok.ct F3 H3 σ3 _ (g1.fs.trans (g2.fs.trans s3)) (R3.out h0) q3
end
noncomputable def yo:Fl->Mo Fl
 | .nx ρ=>ret (.nx (nR ρ))
 | .rt w=>zu (w.isR=false) (ret (.rt w))
 | .bk ρ=>ret (.bk (nR ρ))
 | .ct ρ=>ret (.ct (nR ρ))
theorem s_newR(i:Nat)(pre:List W->Prop)(fs:zQ)(t:zR)(ρ:En):mS (rJ i pre fs t) ρ=zH (fs ρ) fun ws=>zu (ws.all dg=true) (zu (pre ws) (zH (mS t (ρ.set i (some .reel))) yo)):=nr rfl
theorem nR_nil:nR []=[]:=rfl
theorem nR_r(l:En):nR (some .reel::l)=none::nR l:=rfl
theorem nR_n(l:En):nR (none::l)=none::nR l:=rfl
theorem nR_d(x:AN)(l:En):nR (some (.d x)::l)=some (.d x)::nR l:=rfl
theorem nR_ml(x:List AN)(l:En):nR (some (.ml x)::l)=some (.ml x)::nR l:=rfl
theorem nR_sc(x:List Int)(l:En):nR (some (.sc x)::l)=some (.sc x)::nR l:=rfl
noncomputable def eE(K:W.Frag):Sp:=fun vs H Q _=>∃(a:Addr)(ns:List Int),vs=[.ref a]/\zX K H a (ns.map V.int)/\ns.length<=63/\∀H',Q (.bl true) H'
noncomputable def xI:VEnds:=⟨fun _=>False,fun w=>w = .d (.bool true),fun _=>False,fun _=>False⟩
noncomputable def qV:Fl->Prop
 | .rt w=>w = .d (.bool true)
 | _=>False
theorem un_law(m:Mo Fl):zH m yo qV=m qV:=by
 show m (fun fl=>yo fl qV)=m qV;congr 1;funext fl
 cases fl with
 | rt w=>exact propext ⟨fun⟨_,h⟩=>h,fun h=>⟨by rw[show w = .d (.bool true)from h];rfl,h⟩⟩
 | _=>rfl
theorem qk:ret (Fl.rt (.d (.bool true))) qV:=rfl
section
variable{P:Bd}{w:BM}{K:W.Frag}{mg:Str->Option AR}{base:Heap}{st:Stmt}{N:List Str}{k:Nat}{t:zR}{x:Str}
theorem qc(F:Fun K "law" "law" st f fd)(S:FnScope N [x] (defScope st))
 (hbody:∀(cdv:AR)(A:BJ)(outer:List Env)(s:AS)(H:Hp)(E:XK),Room k (A.deeper (EY "law" (defScope st) s.heap.objs.size f cdv))->jE (lV AI P w K mg base N "law" (defScope st) f cdv A outer s H E).nox none (defBody st) t)
 (hread:∀ns:List Int,ns.length<=63->mS t (cG N [.sc ns]) qV):FnOk P w K mg base AI (k+1) f fd [x] (eE K):=by
 refine F.ok S (fun vs H Q E h=>?_) (fun cdv A outer s H vs Q E hr h=>?_)
 · obtain⟨a,ns,rfl,_⟩:=h;rfl
 · obtain⟨a,ns,rfl,hS,hl,kq⟩:=h;obtain⟨T,p,kk⟩:=hbody cdv A outer s H E hr;have rw0:dB K none H H [.ref a] [.sc ns]:=.cons ⟨a,rfl,hS⟩ .nil;have R:VR K none H H H H (start N [.ref a]) (cG N [.sc ns]):=iy (.refl H) (fun _ z=>by cases z) rw0 rfl;refine⟨T,p,kk R xI _ ⟨fun _ _ _ _ _ _ z=>Cr z,?_,fun _ _ _ _ _ _ z=>Cr z,fun _ _ _ _ _ _ z=>Cr z⟩ (hread ns hl)⟩;rintro v w1 F1 H1 g1 r1 n1 z;have z:w1 = .d (.bool true):=z;subst z;have e:=kw r1;subst e;exact kq H1
end
noncomputable def pj(i:Nat)(fa:TV):zR:=fun D ρ=>fa ρ fun w=>∃d,w.fz = .d d/\D.nx (ρ.set i (some (.d d)))
section
variable{X:Cx}{rl:Option Addr}{st:Stmt}{rest body:List Stmt}{t u:zR}{a b c e:Expr}{es:List Expr}{fa fb:TV}{fs:zQ}{f:TB}{pos p:Pos}{ρ:En}
theorem aj(i:Nat)(hN:X.N.Nodup)(he:PV X rl e fa)(hi:autoParam (X.N[i]?=some x) æa._auto_1)(hx:autoParam (Loc X.env.scope x) æe._auto_1)
 (hs:autoParam (C4 e (some (.Name x pos')) pos.line X.env=pure false) æa._auto_1)(hf:autoParam (X.fn x=true\/X.env.scope.names.lookup x=some .local) æf._auto_1) :
 Ah X rl (.Assign [.Name x pos'] e pos) (pj i fa):=by
 obtain⟨t,p,k⟩:=he;refine⟨_,cT hN hi hx p hs hf,fun R Dv D ok q=>k R _ _ q fun v w F1 H1 g1 r1 n1 ⟨d,ed,q1⟩=>?_⟩;obtain⟨F2,g2,s2,r2⟩:=cQ.fz g1 r1 n1;rw[ed]at r2;exact ok.nx _ _ _ _ g2.fs (R.set g2 r2 trivial (fun xs z=>by cases z) i) q1
theorem s_setZ(i:Nat):mS (pj i fa) ρ=zH (fa ρ) fun w=>av (asD w.fz) fun d=>ret (.nx (ρ.set i (some (.d d)))):=by
 show(zH (fa ρ) fun w=>fun(Q:Fl->Prop)=>∃d,w.fz = .d d/\Q (.nx (ρ.set i (some (.d d)))))=_;congr 1;funext w;refine ae fun Q=>?_;simp only[ag,gM,ret]
end
section
variable{X:Cx}{rl:Option Addr}{elt tg iter:Expr}{ifs:List Expr}{scope:Scope}{pos:Pos}{fi:En->(List AN->Prop)->Prop}{g:zU}{ft:TB}{fe:TV}
theorem dH(i:Nat){b:Bool}{spos:Pos}(hN:X.N.Nodup)(N':List Str)(fr:List (Option Nat))(hc:X.calm=true)(hi:Aj X rl tg iter fi)
 (hg:∀y,Am (zI X N' scope y) rl tg g)(ht:∀y,ua (zI X N' scope y) rl ifs ft)(he:∀y,PV (zI X N' scope y) rl elt fe)
 (hsw:autoParam (C4 (.ListComp elt [⟨tg,iter,ifs,0⟩] scope pos) (some (.Name x px)) spos.line X.env=pure b) æa._auto_1)
 (hix:autoParam (X.N[i]?=some x) æa._auto_1)(hx:autoParam (Loc X.env.scope x) æe._auto_1)(hf:autoParam (X.fn x=true\/X.env.scope.names.lookup x=some .local) æf._auto_1)
 (hfr:autoParam (qW fr N' X.N scope X.env.scope=true) æa._auto_1)(hsc:autoParam (ud scope X.env.scope=true) æa._auto_1)
 (hs:autoParam (∀x,CS iter X.env x=pure x) æc._auto_1):Ah X rl (.Assign [.Name x px] (.ListComp elt [⟨tg,iter,ifs,0⟩] scope pos) spos) (pj i (iD fi fr g ft fe)):=by
 obtain⟨wi,p0,k0⟩:=hi;refine⟨_,jr N' fr hc p0 hfr hsc (fun y=>(BS (hg y)).1) (fun y=>(BS (ht y)).1) (fun y=>(BS (he y)).1) hN hix hx hf hsw hs,fun R Dv D ok q=>i5 fr k0 hg ht he R _ _ q fun v w F1 H1 g1 r1 n1 ⟨d,ed,q1⟩=>?_⟩;obtain⟨F2,g2,s2,r2⟩:=cQ.fz g1 r1 n1;rw[ed]at r2;exact ok.nx _ _ _ _ g2.fs (R.set g2 r2 trivial (fun xs z=>by cases z) i) q1
end
noncomputable def uc(xs:List Int):AN:=.tuple (xs.map .int)
noncomputable def vb(xs:List Int):AN:=.list (xs.map .int)
theorem ce:∀{xs ys:List Int},xs.map BA=ys.map BA↔xs=ys:=by
 intro xs ys;constructor
 · intro h;have:=congrArg fF h;rw[bW,bW]at this;exact Bn this
 · rintro rfl;rfl
theorem iE{xs ys:List Int}:uc xs=uc ys↔xs=ys:=by
 unfold uc;rw[Bt,ce]
theorem mU{xs ys:List Int}:vb xs=vb ys↔xs=ys:=by
 unfold vb;rw[EF,ce]
theorem bc{α:Type}{f:α->AN}(h:∀a b,f a=f b↔a=b):∀{xs ys:List α},xs.map f=ys.map f↔xs=ys
 | [],[]=>by simp
 | [],_::_=>by simp
 | _::_,[]=>by simp
 | x::xs,y::ys=>by simp[h,bc h (xs:=xs) (ys:=ys)]
noncomputable def uO(xs:List (List Int)):AN:=.tuple (xs.map uc)
theorem mm{xs ys:List (List Int)}:uO xs=uO ys↔xs=ys:=by
 unfold uO;rw[Bt,bc fun _ _=>iE]
section
variable{α σ:Type}{fl:List Nat}{b:AN->En->Mo Fl}{k:En->Mo Fl}{Q:Fl->Prop}{ρ:En}
theorem eP{f:TB}{t:zR}(st:σ->En)(c:σ->Bool)(nxt:σ->σ)(μ:σ->Nat)(I:σ->Prop)(s:σ)(h0:ρ=st s)(hs:I s)
 (hf:∀s,I s->f (st s)=ret (c s))(ht:∀s,I s->c s=true->I (nxt s)/\μ (nxt s)<μ s/\∃ρ',mS t (st s)=ret (.nx ρ')/\fo fl ρ'=st (nxt s))(fin:∀s,I s->c s=false->k (st s) Q):sq (eg fl f t ρ) k Q:=by
 subst h0;obtain⟨s',a,b,e⟩:=jK st c nxt μ I hf ht s hs;rw[e];exact fin s' a b
theorem qD{xs:List α}{enc:α->AN}(st:σ->En)(f:σ->α->σ)(s:σ)(I:σ->Prop)(h0:ρ=st s)(hx:xs'=xs.map enc)(hs:I s)(step:∀x∈xs,∀s,I s->I (f s x)/\∃ρ',b (enc x) (st s)=ret (.nx ρ')/\fo fl ρ'=st (f s x))
 (fin:k (st (xs.foldl f s)) Q):sq (bD fl b xs' ρ) k Q:=by
 subst h0 hx;rw[la st f s I hs step];exact fin
theorem jd{lo:Int}(st:Nat->En)(h0:ρ=st 0)(step:∀i,i<n->∃ρ',b (.int (lo+i)) (st i)=ret (.nx ρ')/\fo fl ρ'=st (i+1))(fin:k (st n) Q):sq (bD fl b (aA lo n) ρ) k Q:=by
 subst h0;rw[jw st step];exact fin
theorem qE{xs:List α}{enc:α->AN}(p:α->Bool)(w:α->W)(hx:xs'=xs.map enc)(step:∀x∈xs,(p x=true->b (enc x) ρ=ret (.rt (w x)))/\(p x=false->∃ρ',b (enc x) ρ=ret (.nx ρ')/\fo fl ρ'=ρ))
 (hit:∀x∈xs,p x=true->Q (.rt (w x)))(fin:(∀x∈xs,p x=false)->k ρ Q):sq (bD fl b xs' ρ) k Q:=by
 subst hx;rw[lc p w step]
 cases h:xs.find? p with
 | none=>exact fin fun x hx=>by have:=List.find?_eq_none.mp h x hx;simpa using this
 | some x=>exact hit x (List.mem_of_find?_eq_some h) (by have:=List.find?_some h;exact this)
noncomputable def y_(fl:List Nat)(J:En->Prop)(k:En->Mo Fl)(Q:Fl->Prop):Fl->Prop
 | .nx ρ=>J (fo fl ρ)
 | .ct ρ=>J (fo fl ρ)
 | .bk ρ=>k (fo fl ρ) Q
 | .rt w=>Q (.rt w)
theorem cW{J:En->Prop}{ρ:En}(h:J (fo fl ρ)):y_ fl J k Q (.nx ρ):=h
theorem i7{xs:List α}{enc:α->AN}(J:Nat->En->Prop)(hx:xs'=xs.map enc)(h0:J 0 ρ)
 (step:∀i (h:i<xs.length) ρ,J i ρ->∀K:Fl->Prop,(∀r,y_ fl (J (i+1)) k Q r->K r)->b (enc xs[i]) ρ K)(fin:∀ρ,J xs.length ρ->k ρ Q):sq (bD fl b xs' ρ) k Q:=by
 subst hx;refine lg (Q:=fun r=>(match r with | .nx ρ=>k ρ | .rt w=>ret (.rt w) | .bk ρ=>ret (.bk ρ) | .ct ρ=>ret (.ct ρ):Mo Fl) Q) J h0 (fun i hi ρ j K hK=>step i hi ρ j K fun r hr=>hK r ?_) fin;cases r<;>exact hr
theorem fB{lo:Int}(J:Nat->En->Prop)(h0:J 0 ρ)
 (step:∀i,i<n->∀ρ,J i ρ->∀K:Fl->Prop,(∀r,y_ fl (J (i+1)) k Q r->K r)->b (.int (lo+i)) ρ K)(fin:∀ρ,J n ρ->k ρ Q):sq (bD fl b (aA lo n) ρ) k Q:=by
 refine mV (Q:=fun r=>(match r with | .nx ρ=>k ρ | .rt w=>ret (.rt w) | .bk ρ=>ret (.bk ρ) | .ct ρ=>ret (.ct ρ):Mo Fl) Q) J h0 (fun i hi ρ j K hK=>step i hi ρ j K fun r hr=>hK r ?_) fin;cases r<;>exact hr
theorem nJ{lo:Int}(step:∀i,i<n->∀K:Fl->Prop,(∀r,y_ fl (fun ρ'=>ρ'=ρ) k Q r->K r)->b (.int (lo+i)) ρ K)(fin:k ρ Q):sq (bD fl b (aA lo n) ρ) k Q :=
 fB (fun _ ρ'=>ρ'=ρ) rfl (fun i h ρ' e K hK=>by subst e;exact step i h K hK) fun ρ' e=>by subst e;exact fin
end
section
variable{α β:Type}{b:AN->Mo (Option AN)}{k:List AN->Mo β}{Q:β->Prop}
theorem oK{xs:List α}{enc:α->AN}(f:α->Option AN)(hx:xs'=xs.map enc)(h:∀x∈xs,b (enc x)=ret (f x))(hl:xs.length<=sizeLine)(fin:k (xs.filterMap f) Q):zH (cg b xs' []) k Q:=by
 subst hx;rw[lH f h hl];exact fin
theorem cx{xs:List α}{enc:α->AN}(f:α->AN)(hx:xs'=xs.map enc)(h:∀x∈xs,b (enc x)=ret (some (f x)))(hl:xs.length<=sizeLine)(fin:k (xs.map f) Q):zH (cg b xs' []) k Q:=by
 subst hx;rw[comp_map f h hl];exact fin
theorem ig{xs:List α}{enc:α->AN}(R:α->AN->Prop)(hx:xs'=xs.map enc)(h:∀x∈xs,∀K:Option AN->Prop,(∀d,R x d->K (some d))->b (enc x) K)(hl:xs.length<=sizeLine)(fin:∀ds,BC R xs ds->k ds Q):zH (cg b xs' []) k Q:=by
 subst hx;exact nP R h hl fin
end
section
variable{α β:Type}
theorem k9{i:Int}{k:AN->Mo β}{Q:β->Prop}(h0:0<=i)(h1:i<(xs.length:Int))(h:∀z∈xs,k z Q):av (atI xs i) k Q:=by
 obtain⟨z,e,m⟩:=vF h0 h1;rw[e];exact h z m
theorem bU{xs:List α}{enc:α->AN}{i:Int}{k:AN->Mo β}{Q:β->Prop}(P:α->Prop)(hx:xs'=xs.map enc)(h0:0<=i)(h1:i<(xs.length:Int))(hP:∀z∈xs,P z)(h:∀z,P z->k (enc z) Q):av (atI xs' i) k Q:=by
 subst hx;refine k9 h0 (by simpa using h1) fun z mz=>?_;obtain⟨x,hx,rfl⟩:=BB.mp mz;exact h x (hP x hx)
end
section
variable{X:Cx}{rl:Option Addr}{a b c o e:Expr}{es:List Expr}{fa fb:TV}{fs:zQ}{pos p apos cpos:Pos}{ρ:En}
noncomputable def ym(g:List AN->List W->(W->Prop)->Prop)(fa:TV)(fs:zQ):TV:=fun ρ Q=>fa ρ fun x=>∃xs,x.dat=some (.list xs)/\fs ρ fun ws=>g xs ws Q
theorem m_vML(g:List AN->List W->(W->Prop)->Prop):ym g fa fs ρ=zH (fa ρ) fun x=>av (zM x) fun xs=>zH (fs ρ) fun ws=>g xs ws:=by
 show(zH (fa ρ) fun x=>fun(Q:W->Prop)=>∃xs,x.dat=some (.list xs)/\fs ρ fun ws=>g xs ws Q)=_;congr 1;funext x;refine ae fun Q=>?_;rw[ag];simp only[eO];exact FY
noncomputable def lA:List AN->List W->(W->Prop)->Prop:=fun xs ws Q=>∃(bs:List Bool)(k:Bool),xs=bs.map .bool/\ws=[.d (.bool k)]/\Q (.d (.int (bs.count k)))
theorem m_gCountB(xs:List AN)(w:W):lA xs [w]=av (oN xs) fun bs=>av (asB w) fun k=>ret (.d (.int (bs.count k))):=by
 refine ae fun Q=>?_;simp only[lA,ag,dZ,ret,Bf,and_true];constructor
 · rintro⟨bs,k,rfl,e,q⟩;exact⟨bs,blsD_map bs,k,e,q⟩
 · rintro⟨bs,e,k,e',q⟩;exact⟨bs,k,ij e,e',q⟩
noncomputable def tP:W->W->(W->Prop)->Prop:=fun x y Q=>∃b c,x = .d (.bool b)/\y = .d (.bool c)/\Q (.d (.bool (b != c)))
theorem m_gNotB(x y:W):tP x y=av (asB x) fun i=>av (asB y) fun j=>ret (.d (.bool (i != j))):=by
 refine ae fun Q=>?_;simp only[ag,dZ,tP,ret];exact⟨fun⟨i,j,a,b,q⟩=>⟨i,a,j,b,q⟩,fun⟨i,a,j,b,q⟩=>⟨i,j,a,b,q⟩⟩
end
end L2.VL
namespace L2
section
variable{X:Cx}{pos:Pos}
end
end L2
namespace L2.VL
section
variable{X:Cx}{rl:Option Addr}{es:List Expr}{pos:Pos}{ρ:En}
noncomputable def wR(n:Nat)(gs:jH):zU:=fun x ρ Q=>∃xs,x = .list xs/\xs.length=n/\gs xs ρ Q
theorem m_hLst(n:Nat){gs:jH}(x:AN):wR n gs x ρ=av (lstD x) fun xs=>zu (xs.length=n) (gs xs ρ):=by
 refine ae fun Q=>?_;simp only[ag,qj,wR,zu]
end
section
variable{α:Type}{a0 a1 a2 a3 a4 a5 a6 a7 a8 a9 a10 a11 a12 a13 a14 a15 a16 a17 a18 a19 x y:α}{l:List α}
theorem gt0:(x::l)[0]?=some x:=nr rfl
theorem st0:(x::l).set 0 y=y::l:=nr rfl
theorem gt1:(a0::x::l)[1]?=some x:=nr rfl
theorem st1:(a0::x::l).set 1 y=a0::y::l:=nr rfl
theorem gt2:(a0::a1::x::l)[2]?=some x:=nr rfl
theorem st2:(a0::a1::x::l).set 2 y=a0::a1::y::l:=nr rfl
theorem gt3:(a0::a1::a2::x::l)[3]?=some x:=nr rfl
theorem st3:(a0::a1::a2::x::l).set 3 y=a0::a1::a2::y::l:=nr rfl
theorem gt4:(a0::a1::a2::a3::x::l)[4]?=some x:=nr rfl
theorem st4:(a0::a1::a2::a3::x::l).set 4 y=a0::a1::a2::a3::y::l:=nr rfl
theorem gt5:(a0::a1::a2::a3::a4::x::l)[5]?=some x:=nr rfl
theorem st5:(a0::a1::a2::a3::a4::x::l).set 5 y=a0::a1::a2::a3::a4::y::l:=nr rfl
theorem gt6:(a0::a1::a2::a3::a4::a5::x::l)[6]?=some x:=nr rfl
theorem st6:(a0::a1::a2::a3::a4::a5::x::l).set 6 y=a0::a1::a2::a3::a4::a5::y::l:=nr rfl
theorem gt7:(a0::a1::a2::a3::a4::a5::a6::x::l)[7]?=some x:=nr rfl
theorem st7:(a0::a1::a2::a3::a4::a5::a6::x::l).set 7 y=a0::a1::a2::a3::a4::a5::a6::y::l:=nr rfl
theorem gt8:(a0::a1::a2::a3::a4::a5::a6::a7::x::l)[8]?=some x:=nr rfl
theorem st8:(a0::a1::a2::a3::a4::a5::a6::a7::x::l).set 8 y=a0::a1::a2::a3::a4::a5::a6::a7::y::l:=nr rfl
theorem gt9:(a0::a1::a2::a3::a4::a5::a6::a7::a8::x::l)[9]?=some x:=nr rfl
theorem st9:(a0::a1::a2::a3::a4::a5::a6::a7::a8::x::l).set 9 y=a0::a1::a2::a3::a4::a5::a6::a7::a8::y::l:=nr rfl
theorem gt10:(a0::a1::a2::a3::a4::a5::a6::a7::a8::a9::x::l)[10]?=some x:=nr rfl
theorem st10:(a0::a1::a2::a3::a4::a5::a6::a7::a8::a9::x::l).set 10 y=a0::a1::a2::a3::a4::a5::a6::a7::a8::a9::y::l:=nr rfl
theorem gt11:(a0::a1::a2::a3::a4::a5::a6::a7::a8::a9::a10::x::l)[11]?=some x:=nr rfl
theorem st11:(a0::a1::a2::a3::a4::a5::a6::a7::a8::a9::a10::x::l).set 11 y=a0::a1::a2::a3::a4::a5::a6::a7::a8::a9::a10::y::l:=nr rfl
theorem gt12:(a0::a1::a2::a3::a4::a5::a6::a7::a8::a9::a10::a11::x::l)[12]?=some x:=nr rfl
theorem st12:(a0::a1::a2::a3::a4::a5::a6::a7::a8::a9::a10::a11::x::l).set 12 y=a0::a1::a2::a3::a4::a5::a6::a7::a8::a9::a10::a11::y::l:=nr rfl
theorem gt13:(a0::a1::a2::a3::a4::a5::a6::a7::a8::a9::a10::a11::a12::x::l)[13]?=some x:=nr rfl
theorem st13:(a0::a1::a2::a3::a4::a5::a6::a7::a8::a9::a10::a11::a12::x::l).set 13 y=a0::a1::a2::a3::a4::a5::a6::a7::a8::a9::a10::a11::a12::y::l:=nr rfl
theorem gt14:(a0::a1::a2::a3::a4::a5::a6::a7::a8::a9::a10::a11::a12::a13::x::l)[14]?=some x:=nr rfl
theorem st14:(a0::a1::a2::a3::a4::a5::a6::a7::a8::a9::a10::a11::a12::a13::x::l).set 14 y=a0::a1::a2::a3::a4::a5::a6::a7::a8::a9::a10::a11::a12::a13::y::l:=nr rfl
theorem gt15:(a0::a1::a2::a3::a4::a5::a6::a7::a8::a9::a10::a11::a12::a13::a14::x::l)[15]?=some x:=nr rfl
theorem st15:(a0::a1::a2::a3::a4::a5::a6::a7::a8::a9::a10::a11::a12::a13::a14::x::l).set 15 y=a0::a1::a2::a3::a4::a5::a6::a7::a8::a9::a10::a11::a12::a13::a14::y::l:=nr rfl
theorem gt16:(a0::a1::a2::a3::a4::a5::a6::a7::a8::a9::a10::a11::a12::a13::a14::a15::x::l)[16]?=some x:=nr rfl
theorem st16:(a0::a1::a2::a3::a4::a5::a6::a7::a8::a9::a10::a11::a12::a13::a14::a15::x::l).set 16 y=a0::a1::a2::a3::a4::a5::a6::a7::a8::a9::a10::a11::a12::a13::a14::a15::y::l:=nr rfl
theorem gt17:(a0::a1::a2::a3::a4::a5::a6::a7::a8::a9::a10::a11::a12::a13::a14::a15::a16::x::l)[17]?=some x:=nr rfl
theorem st17:(a0::a1::a2::a3::a4::a5::a6::a7::a8::a9::a10::a11::a12::a13::a14::a15::a16::x::l).set 17 y=a0::a1::a2::a3::a4::a5::a6::a7::a8::a9::a10::a11::a12::a13::a14::a15::a16::y::l:=nr rfl
theorem gt18:(a0::a1::a2::a3::a4::a5::a6::a7::a8::a9::a10::a11::a12::a13::a14::a15::a16::a17::x::l)[18]?=some x:=nr rfl
theorem st18:(a0::a1::a2::a3::a4::a5::a6::a7::a8::a9::a10::a11::a12::a13::a14::a15::a16::a17::x::l).set 18 y=a0::a1::a2::a3::a4::a5::a6::a7::a8::a9::a10::a11::a12::a13::a14::a15::a16::a17::y::l:=nr rfl
theorem gt19:(a0::a1::a2::a3::a4::a5::a6::a7::a8::a9::a10::a11::a12::a13::a14::a15::a16::a17::a18::x::l)[19]?=some x:=nr rfl
theorem st19:(a0::a1::a2::a3::a4::a5::a6::a7::a8::a9::a10::a11::a12::a13::a14::a15::a16::a17::a18::x::l).set 19 y=a0::a1::a2::a3::a4::a5::a6::a7::a8::a9::a10::a11::a12::a13::a14::a15::a16::a17::a18::y::l:=nr rfl
end
section
variable{a0 a1 a2 a3 a4 a5 a6 a7 a8 a9 a10 a11 a12 a13 a14 a15 a16 a17 a18 a19:Option W}{w:W}{l:En}
theorem vv0:dt 0 (some w::l)=ret w.peek:=(be 0).trans rfl
theorem vv1:dt 1 (a0::some w::l)=ret w.peek:=(be 1).trans rfl
theorem vv2:dt 2 (a0::a1::some w::l)=ret w.peek:=(be 2).trans rfl
theorem vv3:dt 3 (a0::a1::a2::some w::l)=ret w.peek:=(be 3).trans rfl
theorem vv4:dt 4 (a0::a1::a2::a3::some w::l)=ret w.peek:=(be 4).trans rfl
theorem vv5:dt 5 (a0::a1::a2::a3::a4::some w::l)=ret w.peek:=(be 5).trans rfl
theorem vv6:dt 6 (a0::a1::a2::a3::a4::a5::some w::l)=ret w.peek:=(be 6).trans rfl
theorem vv7:dt 7 (a0::a1::a2::a3::a4::a5::a6::some w::l)=ret w.peek:=(be 7).trans rfl
theorem vv8:dt 8 (a0::a1::a2::a3::a4::a5::a6::a7::some w::l)=ret w.peek:=(be 8).trans rfl
theorem vv9:dt 9 (a0::a1::a2::a3::a4::a5::a6::a7::a8::some w::l)=ret w.peek:=(be 9).trans rfl
theorem vv10:dt 10 (a0::a1::a2::a3::a4::a5::a6::a7::a8::a9::some w::l)=ret w.peek:=(be 10).trans rfl
theorem vv11:dt 11 (a0::a1::a2::a3::a4::a5::a6::a7::a8::a9::a10::some w::l)=ret w.peek:=(be 11).trans rfl
theorem vv12:dt 12 (a0::a1::a2::a3::a4::a5::a6::a7::a8::a9::a10::a11::some w::l)=ret w.peek:=(be 12).trans rfl
theorem vv13:dt 13 (a0::a1::a2::a3::a4::a5::a6::a7::a8::a9::a10::a11::a12::some w::l)=ret w.peek:=(be 13).trans rfl
theorem vv14:dt 14 (a0::a1::a2::a3::a4::a5::a6::a7::a8::a9::a10::a11::a12::a13::some w::l)=ret w.peek:=(be 14).trans rfl
theorem vv15:dt 15 (a0::a1::a2::a3::a4::a5::a6::a7::a8::a9::a10::a11::a12::a13::a14::some w::l)=ret w.peek:=(be 15).trans rfl
theorem vv16:dt 16 (a0::a1::a2::a3::a4::a5::a6::a7::a8::a9::a10::a11::a12::a13::a14::a15::some w::l)=ret w.peek:=(be 16).trans rfl
theorem vv17:dt 17 (a0::a1::a2::a3::a4::a5::a6::a7::a8::a9::a10::a11::a12::a13::a14::a15::a16::some w::l)=ret w.peek:=(be 17).trans rfl
theorem vv18:dt 18 (a0::a1::a2::a3::a4::a5::a6::a7::a8::a9::a10::a11::a12::a13::a14::a15::a16::a17::some w::l)=ret w.peek:=(be 18).trans rfl
theorem vv19:dt 19 (a0::a1::a2::a3::a4::a5::a6::a7::a8::a9::a10::a11::a12::a13::a14::a15::a16::a17::a18::some w::l)=ret w.peek:=(be 19).trans rfl
end
section
variable{f1 f2 f3 f4 f5 f6 f7 f8 f9:TV}{fs:zQ}{ρ:En}
theorem vk1:aD f1 jW ρ=zH (f1 ρ) fun w1=>ret [w1.fz]:=nr rfl
theorem vk2:(aD f1 (aD f2 jW)) ρ=zH (f1 ρ) fun w1=>zH (f2 ρ) fun w2=>ret [w1.fz,w2.fz]:=nr rfl
theorem vk3:(aD f1 (aD f2 (aD f3 jW))) ρ=zH (f1 ρ) fun w1=>zH (f2 ρ) fun w2=>zH (f3 ρ) fun w3=>ret [w1.fz,w2.fz,w3.fz]:=nr rfl
theorem vk4:(aD f1 (aD f2 (aD f3 (aD f4 jW)))) ρ=zH (f1 ρ) fun w1=>zH (f2 ρ) fun w2=>zH (f3 ρ) fun w3=>zH (f4 ρ) fun w4=>ret [w1.fz,w2.fz,w3.fz,w4.fz]:=nr rfl
theorem vk5:(aD f1 (aD f2 (aD f3 (aD f4 (aD f5 jW))))) ρ=zH (f1 ρ) fun w1=>zH (f2 ρ) fun w2=>zH (f3 ρ) fun w3=>zH (f4 ρ) fun w4=>zH (f5 ρ) fun w5=>ret [w1.fz,w2.fz,w3.fz,w4.fz,w5.fz]:=nr rfl
theorem vk6:(aD f1 (aD f2 (aD f3 (aD f4 (aD f5 (aD f6 jW)))))) ρ=zH (f1 ρ) fun w1=>zH (f2 ρ) fun w2=>zH (f3 ρ) fun w3=>zH (f4 ρ) fun w4=>zH (f5 ρ) fun w5=>zH (f6 ρ) fun w6=>ret [w1.fz,w2.fz,w3.fz,w4.fz,w5.fz,w6.fz]:=nr rfl
theorem vk7:(aD f1 (aD f2 (aD f3 (aD f4 (aD f5 (aD f6 (aD f7 jW))))))) ρ=zH (f1 ρ) fun w1=>zH (f2 ρ) fun w2=>zH (f3 ρ) fun w3=>zH (f4 ρ) fun w4=>zH (f5 ρ) fun w5=>zH (f6 ρ) fun w6=>zH (f7 ρ) fun w7=>ret [w1.fz,w2.fz,w3.fz,w4.fz,w5.fz,w6.fz,w7.fz]:=nr rfl
theorem vk8:(aD f1 (aD f2 (aD f3 (aD f4 (aD f5 (aD f6 (aD f7 (aD f8 jW)))))))) ρ=zH (f1 ρ) fun w1=>zH (f2 ρ) fun w2=>zH (f3 ρ) fun w3=>zH (f4 ρ) fun w4=>zH (f5 ρ) fun w5=>zH (f6 ρ) fun w6=>zH (f7 ρ) fun w7=>zH (f8 ρ) fun w8=>ret [w1.fz,w2.fz,w3.fz,w4.fz,w5.fz,w6.fz,w7.fz,w8.fz]:=nr rfl
theorem vk9:(aD f1 (aD f2 (aD f3 (aD f4 (aD f5 (aD f6 (aD f7 (aD f8 (aD f9 fs))))))))) ρ=zH (f1 ρ) fun w1=>zH (f2 ρ) fun w2=>zH (f3 ρ) fun w3=>zH (f4 ρ) fun w4=>zH (f5 ρ) fun w5=>zH (f6 ρ) fun w6=>zH (f7 ρ) fun w7=>zH (f8 ρ) fun w8=>zH (aD f9 fs ρ) fun ws=>ret (w1.fz::w2.fz::w3.fz::w4.fz::w5.fz::w6.fz::w7.fz::w8.fz::ws):=nr rfl
theorem vk0:jW ρ=ret []:=nr rfl
end
noncomputable def vV:=AM @bnd_tt (AM @bnd_ret (AM @bnd_bnd (AM @bnd_grd (AM @bnd_stk (AM @bnd_ite (AM @bnd_opt (AM @opt_some (AM @opt_none (AM @grd_T (AM @sq_nx (AM @sq_rt (AM @sq_bk (AM @sq_ct (AM @sq_grd (AM @sq_stk (AM @sq_ite (AM @sq_sq (@kc_ap))))))))))))))))))
noncomputable def vY:=AM @ite_nx (AM @ite_rt (AM @ite_retd (AM @ite_retb (AM @ite_rets (AM @ite_cons (AM @ite_some (AM @ite_d (AM @ite_pi (AM @ite_pb (AM @itb_tt (AM @itb_ff (AM @itb_ft (AM @itb_tf (@ite_self.{1}))))))))))))))
noncomputable def v6:=AM @m_vC (AM @m_vOp (AM @m_gI (AM @m_gI0 (AM @m_vNeg (AM @m_vTest (AM @m_gEqD (AM @m_gInD (AM @m_vAnd (AM @m_vOr (AM @m_vNot (AM @m_vAndV (AM @m_vOrV (AM @m_vNotV (AM @m_vIf (AM @m_vTup (AM @m_vLst (AM @m_gIx (AM @m_vCall (AM @m_gAbs (AM @m_gLen (AM @m_gRepr (AM @m_gIsi (@m_gStrI)))))))))))))))))))))))
noncomputable def v4:=AM @m_gTupO (AM @m_gLstO (AM @m_gIsB (AM @m_gIsN (AM @m_gI2 (AM @m_gDivmod (AM @m_gInt1 (AM @m_oNo (AM @m_oIt (AM @m_vSlL (AM @m_vSlA (AM @m_gCatD (AM @m_gCatA (AM @m_vChain (AM @m_vLR1 (AM @m_vLR2 (AM @m_vTR1 (AM @m_iL (AM @m_iT (AM @m_iR1 (AM @m_iR2 (AM @m_iZb (AM @m_vUse (@m_vUseL)))))))))))))))))))))))
noncomputable def vZ:=AM @m_gAll (AM @m_gRepT (AM @m_gRepL (AM @m_vRevT (AM @m_vRevL (AM @m_gEqS (AM @m_vTGet (AM @m_gSrtT (AM @m_comp (AM @m_gLenS (AM @m_gIxS (AM @m_vSlS (AM @m_hLst (AM @m_vML (AM @m_gCountB (@m_gNotB)))))))))))))))
noncomputable def vO:=AM @s_next (AM @s_seq (AM @s_drop (AM @s_ret (AM @s_retN (AM @s_ifS (AM @s_set (AM @s_setZ (AM @s_never (AM @s_asg (AM @s_par (AM @s_par3 (AM @s_aug (AM @s_augL (AM @s_frz (AM @s_mut (AM @s_retO (AM @s_appPop (AM @s_for (AM @bdy_ap (AM @s_while (AM @s_newR (AM @m_hName (@m_hNil_n)))))))))))))))))))))))
noncomputable def vN:=AM @m_hCons_c (AM @m_hTup (AM @m_gApp (@m_gExt)))
noncomputable def vR:=AM @pk_sc (AM @fz_sc (AM @arg_sc (AM @isPk_sc (AM @asI_d (AM @asB_d (AM @asS_d (AM @asD_d (AM @asT_d (AM @asL_d (AM @asL_ml (AM @asL_pk (AM @asQ_d (AM @asQ_ml (AM @asQ_pk (AM @lstD_l (AM @tupD_t (AM @toI_i (AM @toI_b (AM @isiT_t (AM @asM_ml (AM @asSc_s (AM @two_d (@fz_d)))))))))))))))))))))))
noncomputable def vQ:=AM @fz_ml (AM @fz_pk (AM @fz_reel (AM @fz_vv (AM @pk_d (AM @pk_ml (AM @pk_reel (AM @pk_vv (AM @dat_d (AM @dat_ml (AM @dat_pk (AM @isPk_d (AM @isPk_ml (AM @isPk_reel (AM @dats_nil (AM @dats_d (AM @arg_d (AM @arg_reel (AM @item_l (AM @item_t (AM @len_l (AM @len_t (AM @seq_l (@seq_t)))))))))))))))))))))))
noncomputable def vP:=AM @at0 (AM @at1 (AM @blsD_map (AM @tup2 (AM @fo_nil (AM @fo_cons (AM @nR_nil (AM @nR_r (AM @nR_n (AM @nR_d (AM @nR_ml (AM @nR_sc (AM @le_nil (AM @le_cn (AM @le_cs (AM @end_d (AM @end_ml (AM @end_nx (@un_law))))))))))))))))))
noncomputable def vX:=AM @A1.{0,0} (AM @D2.{0,0} (AM @Bb.{0} (AM @C_.{0} (AM @List.set_nil.{0} (AM @List.cons_append.{0} (AM @List.nil_append.{0} (AM @Gd.{0} (AM @List.all_nil.{0} (AM @List.head?_cons.{0} (AM @Ge (AM @GJ.injEq.{0} (AM @Fk.{0,0} (AM @Option.bind_some.{0,0} (AM @Option.bind_none.{0,0} (AM @Option.join_some.{0} (AM @Option.join_none.{0} (AM @DH (AM @and_self (AM @and_true (AM @true_and (AM @shaped_i (AM @eqv_ii (@shaped_b)))))))))))))))))))))))
noncomputable def vW:=AM @Bool.true_and (AM @Bool.and_self (AM @Bool.not_true (AM @Bool.not_false (AM @AV.{0,0} (AM @Cb (AM @Bool.true_eq_false (AM @decide_true (AM @decide_false (AM @List.isEmpty_cons.{0} (AM @List.isEmpty_nil.{0} (@List.isEmpty_map.{0,0})))))))))))
noncomputable def vU:=AM @gt0 (AM @gt1 (AM @gt2 (AM @gt3 (AM @gt4 (AM @gt5 (AM @gt6 (AM @gt7 (AM @gt8 (AM @gt9 (AM @gt10 (AM @gt11 (AM @gt12 (AM @gt13 (AM @gt14 (AM @gt15 (AM @gt16 (AM @gt17 (AM @gt18 (AM @gt19 (AM @st0 (AM @st1 (AM @st2 (@st3)))))))))))))))))))))))
noncomputable def vT:=AM @st4 (AM @st5 (AM @st6 (AM @st7 (AM @st8 (AM @st9 (AM @st10 (AM @st11 (AM @st12 (AM @st13 (AM @st14 (AM @st15 (AM @st16 (AM @st17 (AM @st18 (AM @st19 (AM @vv0 (AM @vv1 (AM @vv2 (AM @vv3 (AM @vv4 (AM @vv5 (AM @vv6 (@vv7)))))))))))))))))))))))
noncomputable def vS:=AM @vv8 (AM @vv9 (AM @vv10 (AM @vv11 (AM @vv12 (AM @vv13 (AM @vv14 (AM @vv15 (AM @vv16 (AM @vv17 (AM @vv18 (AM @vv19 (AM @vk0 (AM @vk1 (AM @vk2 (AM @vk3 (AM @vk4 (AM @vk5 (AM @vk6 (AM @vk7 (AM @vk8 (@vk9)))))))))))))))))))))
section
variable{α β:Type}
end
noncomputable def zB(c:Addr)(a l t:Int):HO:=.lst [.ref c,.int a,.int l,.int t]
theorem cI{K:W.Frag}{xs:List V}{k:Int}{Q:VK}(h:H r=some (.lst xs))(e:L2.atI xs k=some v)(q:Q v H):yR K (.ref r) (.int k) H Q:=.inl ⟨r,xs,k,v,rfl,rfl,.inl (.inl h),e,q⟩
theorem jB{xs:List V}{k:Int}{Q:Hp->Prop}(h:H r=some (.lst xs))(e:ixN xs.length k=some j)(q:Q (upd H r (.lst (xs.set j v)))):se (.ref r) (.int k) v H Q:=⟨r,xs,k,j,rfl,rfl,h,e,q⟩
theorem fR{k:Int}(h0:0<=k)(h1:k.toNat<ns.length):L2.atI (ns.map V.int) k=some (.int ns[k.toNat]):=by
 obtain⟨n,rfl⟩:=Br h0;have h1:n<ns.length:=h1;exact df (by rw[Bp,A5 h1];rfl)
theorem zg{b:Bool}{A B:Prop}(h:b=true)(a:A):if b=true then A else B:=by rw[if_pos h];exact a
theorem zi{b:Bool}{A B:Prop}(h:b=false)(x:B):if b=true then A else B:=by rw[if_neg (by rw[h];decide)];exact x
theorem uv{l:Int}(h:l≠0):decide (V.int l=V.int 0)=false:=decide_eq_false fun z=>h (by injection z)
theorem Grow.turn{o:HO}(s:aZ F H)(ra:Aa (some r) F H)(h:RO F o):Grow (some r) F H F (upd H r o):=by
 have fr:F r=none:=(ra r rfl).1;have neF:∀b u,F b=some u->b≠r:=fun b u q z=>by subst z;rw[fr]at q;cases q
 refine⟨fun b u q n=>by rw[upd_ne (fun z=>n (by rw[z]))];exact q,.refl F,fun b u q=>by rw[upd_ne (neF b u q)];exact s b u q,fun _ _ _=>rfl,fun y z=>?_⟩;cases z;exact⟨fr,⟨o,ak,h⟩⟩
section
variable{P:Bd}{w:BM}{K:W.Frag}{mg:Str->Option AR}{base:Heap}{rl:Option Addr}{x:Str}{st:Stmt}{N ps:List Str}{k:Nat}{Pd:List W->(AN->Prop)->Prop}
theorem Dfn.hand(Fn:FnIn K mg x st ps)(S:FnScope N ps (defScope st))(mono:∀ws Q Q',(∀d,Q d->Q' d)->Pd ws Q->Pd ws Q')(len:∀ws Q,Pd ws Q->ws.length=ps.length)
 (h:∀(f:Addr)(cdv:AR)(A:BJ)(outer:List Env)(s:AS)(H:Hp)(E:XK) vs ws F (Q:AN->Prop) (Qv:VK),Room k (A.deeper (EY x (defScope st) s.heap.objs.size f cdv))->aZ F H->Aa rl F H->dB K rl F H vs ws->Pd ws Q->(∀v F' H' d,Grow rl F H F' H'->Rep K F' v d->Q d->Qv v H') ->
  ∃T,Ag (lV AI P w K mg base N x (defScope st) f cdv A outer s H E).nox (defBody st) T/\T {nx:=fun _ H'=>Qv .non H',rt:=Qv} (start N vs) H):Dfn P w K mg base rl x ps (k+1) Pd:=by
 obtain⟨f,fd,hm,F,hb⟩:=Fn.ex;refine⟨mono,f,fd,hm,F.kp,hb,?_⟩;refine F.ok S (fun vs H Q E ⟨F,ws,_,_,r,_,q⟩=>(De r).trans (len ws _ q)) fun cdv A outer s H vs Q E hr h=>?_;obtain⟨F,ws,sm,ra,r,ok,q⟩:=h;exact h f cdv A outer s H E vs ws F _ Q hr sm ra r q fun v F' H' d g rp qd=>qd v F' H' g rp
end
end L2.VL
namespace L2.TI
section
variable{prog:Bd}{w:BM}{A:BJ}{E:AR->AS->Prop}{s:AS}{t:Addr}{vs:List AR}{ns:List Int}{k:Int}{tok:Tok}{j:Nat}
theorem hU:∀{vs:List AR}{ns:List Int}{i:Nat}{n:Int},FX vs ns->ns[i]?=some n->∃u,vs[i]?=some (.int n u)
 | _,_,_,_,.nil,e=>by simp at e
 | _,_,0,_,.cons n t r,e=>by simp at e;subst e;exact⟨t,rfl⟩
 | _,_,i+1,_,.cons n t r,e=>by
   obtain⟨u,h⟩:=hU (i:=i) r (by simpa using e);exact⟨u,by simpa using h⟩
theorem scan{Q:Option Fin×Unit->AS->Prop}(hI:FX vs ns)(hj:ns[j]?=some k)(hno:∀m,m<j->ns[m]?≠some k)(q:Q (some (.done (.ret (.int j s.toks))),()) {s with toks:=s.toks+1}) :
 ∀ len start:Nat,start<=j->j<start+len->Bi (BH prog w) A (forIn (List.range' start len) ((none,()):Option Fin×Unit) fun(i:Nat)(_:Option Fin×Unit) =>
   match vs.toArray[i]? with
   | some y=>do
     let b <- eqBool y (F8 k tok)
     if b=true then do
      let r <- retInt (i:Int)
      pure (ForInStep.done (some r,()))
     else pure (Da (none,()))
   | _=>pure (Da (none,()))) Q E s
 | 0,start,h1,h2=>by omega
 | len+1,start,h1,h2=>by
   rw[List.range'_succ,DG];have hl:start<ns.length:=by have:=(A2.mp hj).1;omega
   obtain⟨u,hu⟩:=hU (i:=start) (n:=ns[start]) hI (A5 hl);have hv:vs.toArray[start]?=some (.int ns[start] u):=by simpa using hu
   refine AO ?_;rw[hv];refine AO (wpAny_eqBool_int ?_);by_cases e:ns[start]=k
   · have es:start=j:=by
       rcases Nat.lt_or_eq_of_le h1 with z|z
       · exact absurd (by rw[A5 hl,e]) (hno start z)
       · exact z
     subst es;rw[if_pos (by simpa using e)];exact AO (AO (wpAny_mkInt (AX (AX (AX q)))))
   · rw[if_neg (by simpa using e)];refine AX ?_;have ne:start≠j:=fun z=>by subst z;rw[A5 hl]at hj;exact e (Bn hj)
     exact scan hI hj hno q len (start+1) (by omega) (by omega)
theorem body{R:Result->AS->Prop}(tp:IsTup s.heap t vs.toArray)(hI:FX vs ns)(hj:ns[j]?=some k)(hno:∀m,m<j->ns[m]?≠some k)
 (q:R (.ok (.ret (.int j s.toks))) {s with toks:=s.toks+1}) :
 Bi (BH prog w) A.in1 (Builtin.«tuple.index» ⟨[.ref t,.int k tok],[]⟩) (fun fin s'=>match fin with | .done f=>R (.ok f) s' | .again c'=>c'.quiet=true/\Et (BH prog w) A c' R s') (fun e s'=>R (.error e) s') s:=by
 unfold Builtin.«tuple.index»;show Bi _ _ (do let z <- Builtin.Tuple.tupleItemsOf (.ref t);_) _ _ s;refine AO (tupleItemsOf_ tp ?_);refine AO (AX (AO (AX ?_)));dsimp only;rw[Std.Legacy.Range.forIn_eq_forIn_range']
 have hl:j<vs.toArray.size:=by
  have h1:=(A2.mp hj).1;have h2:=hI.length;simp only[A4];omega
 refine AO (scan hI hj hno ?_ _ 0 (Db _) ?_)
 · exact AX q
 · show j<0+Std.Legacy.Range.size _;simp[Std.Legacy.Range.size];simpa using hl
end
end L2.TI
namespace L2
section
variable{X:Cx}
end
end L2
namespace L2.VL
section
variable{X:Cx}{rl:Option Addr}{a b c o e:Expr}{es:List Expr}{fa fb:TV}{fs:zQ}{pos p apos cpos:Pos}{ρ:En}
noncomputable def ug:List W->Option (List AN)
 | [.d (.list xs)]=>some xs
 | _=>none
theorem sQ(xs:List AN):ug [.d (.list xs)]=some xs:=rfl
theorem qb{ws:List W}:ug ws=some xs↔ws=[.d (.list xs)]:=by
 constructor
 · intro h;unfold ug at h;split at h
   · cases h;rfl
   · cases h
 · rintro rfl;rfl
theorem sU:zq fs ρ=zH (fs ρ) fun ws=>av (ug ws) fun xs=>ret xs.reverse:=by
 show(zH (fs ρ) fun ws=>fun(Q:List AN->Prop)=>∃xs,ws=[.d (.list xs)]/\Q xs.reverse)=_;congr 1;funext ws;refine ae fun Q=>?_;simp only[ag,qb,ret]
end
noncomputable def fr(q:Rat):AN:=.tuple [.int q.num,.int q.den]
theorem oE{r:Rat}(h:fr q=fr r):q=r:=by
 simp only[fr,Bt,Bf,Dq,and_true]at h;exact Rat.ext h.1 (by omega)
theorem iY(n:Int)(d:Nat)(h:d≠0):vd n d=fr (EU n d h):=by
 unfold vd fr;rw[Rat.normalize_eq];have g:(BI n d:Int)=((n.natAbs.gcd d:Nat):Int):=by simp[BI]
 have gp:0<n.natAbs.gcd d:=Nat.gcd_pos_of_pos_right _ (by omega);have e1:n.fdiv (BI n d)=n / ((n.natAbs.gcd d:Nat):Int):=by rw[g,Dk _ (by omega)]
 have e2:(d:Int).fdiv (BI n d)=((d / n.natAbs.gcd d:Nat):Int):=by rw[g,Dk _ (by omega),Int.natCast_ediv]
 rw[e1,e2]
theorem k_{a:Int}(hb:0<b):vd a b=fr ((a:Rat) / (b:Rat)):=by
 obtain⟨d,rfl⟩:=Br (show 0<=b by omega);rw[iY a d (by omega)];congr 1;have:(EU a d (by omega))=mkRat a d:=by rw[Rat.normalize_eq_mkRat]
 rw[this,Rat.mkRat_eq_div];rfl
theorem vB(q r:Rat):decide (q.num*r.den<r.num*q.den)=decide (q<r):=by
 rw[decide_eq_decide];exact(Rat.lt_iff q r).symm
noncomputable def yU(n:Nat)(q:Rat):Prop:=q.num.natAbs<2^n/\q.den<2^n
theorem yU.mono{m:Nat}(h:yU n q)(hm:n<=m):yU m q:=⟨A7 h.1 (Ch (by decide) hm),A7 h.2 (Ch (by decide) hm)⟩
theorem lO{i:Int}(h:i.natAbs<2^2000):AK i:=A7 h (Ch (by decide) (by decide))
theorem yU.bn(h:yU 2000 q):AK q.num:=lO h.1
theorem yU.bd(h:yU 2000 q):AK (q.den:Int):=lO (by rw[Int.natAbs_natCast];exact h.2)
inductive Sd where
 | to (t:Rat)|from(a b:Rat)|round (a b:Rat)
noncomputable def Sd.last:Sd->Rat
 | .to t=>t | .from _ b=>b | .round _ b=>b
noncomputable def Sd.first:Sd->Rat
 | .to t=>t | .from a _=>a | .round a _=>a
noncomputable def yQ:Sd->AN
 | .to t=>.tuple [.str "to", fr t]
 | .from a b=>.tuple [.str "from", fr a,fr b]
 | .round a b=>.tuple [.str "round", fr a,fr b]
noncomputable def mx(q r:Rat):Rat:=if q<r then r else q
noncomputable def mn(q r:Rat):Rat:=if q<r then q else r
theorem fr0:pr 0 1=fr 0:=rfl
theorem fr1:pr 1 1=fr 1:=rfl
theorem xS:yU 60 1:=⟨by decide,by decide⟩
theorem qg{n:Int}{d:Nat}(hd:d≠0)(h1:n.natAbs<2^k)(h2:d<2^k):yU k (EU n d hd):=by
 rw[Rat.normalize_eq];refine⟨?_,DI (Nat.div_le_self _ _) h2⟩;show(n / ((n.natAbs.gcd d:Nat):Int)).natAbs<2^k;have hdv:((n.natAbs.gcd d:Nat):Int)∣n:=Int.ofNat_dvd_left.mpr (Nat.gcd_dvd_left _ _);rw[Int.natAbs_ediv_of_dvd hdv,Int.natAbs_natCast];exact DI (Nat.div_le_self _ _) h1
noncomputable def zx(x y:Rat)(b:Bool):Bool:=if b then !decide (y<x)else decide (x<y)
noncomputable def y9(s:Sd)(w:Str)(x:Rat):Bool :=
 let ahead:=zx x s.last (decide (w = "shut"))
 let behind:=zx s.first x (!decide (w = "open"))
 match s with
 | .to _=>ahead
 | .from _ _=>behind&&ahead
 | .round _ _=>behind||ahead
noncomputable def oM(ss:List Sd):AN:=.tuple (ss.map yQ)
noncomputable def yW(qs:List Rat):AN:=.tuple (qs.map fr)
noncomputable def zd(qs:List Rat)(ss:List Sd)(w:Str):Bool:=(qs.zip ss).all fun p=>y9 p.2 w p.1
noncomputable def d9(ps:List (List Rat)):AN:=.tuple (ps.map yW)
noncomputable def aN(ps:List (List Rat))(ss:List Sd)(w:Str):Nat:=(ps.filter fun p=>zd p ss w).length
theorem at_last2{α:Type}(x y:α):L2.atI [x,y] (-1)=some y:=rfl
theorem at_last3{α:Type}(x y z:α):L2.atI [x,y,z] (-1)=some z:=rfl
theorem ip{α β:Type}(f:α->AN)(g:β->AN):∀(xs:List α)(ys:List β),jl (xs.map f) (ys.map g)=(xs.zip ys).map fun p=>.tuple [f p.1,g p.2]
 | [],_=>by simp[jl]
 | _::_,[]=>by simp[jl]
 | x::xs,y::ys=>by
   show B3 [f x,g y]::jl (xs.map f) (ys.map g)=_;rw[ip f g xs ys];rfl
theorem at_last1{α:Type}(x:α):L2.atI [x] (-1)=some x:=rfl
theorem gE{r:Rat}:fr q=fr r↔q=r:=⟨oE,fun h=>by rw[h]⟩
theorem cK{s t:Sd}:yQ s=yQ t↔s=t:=by
 constructor
 · intro h;have n1:¬(CA "from" = CA "round"):=by decide +kernel
   cases s<;>cases t<;>simp[yQ,gE,n1,EK n1]at h ⊢ <;> first|exact h|exact(n1 h.1.symm).elim|exact(n1 h.1).elim
 · rintro rfl;rfl
theorem cN{a b:List Rat}:yW a=yW b↔a=b:=by
 unfold yW;rw[Bt,bc fun _ _=>gE]
theorem bR{a b:List Sd}:oM a=oM b↔a=b:=by
 unfold oM;rw[Bt,bc fun _ _=>cK]
theorem bP{a b:List (List Rat)}:d9 a=d9 b↔a=b:=by
 unfold d9;rw[Bt,bc fun _ _=>cN]
theorem cY{a b:List Rat}:a.map fr=b.map fr↔a=b:=bc fun _ _=>gE
theorem item_fr0(q:Rat):itemAt (fr q) 0=some (.int q.num):=rfl
theorem item_fr1(q:Rat):itemAt (fr q) 1=some (.int q.den):=rfl
theorem tupD_pt(a:List Rat):tupD (yW a)=some (a.map fr):=rfl
theorem seqD_pt(a:List Rat):du (yW a)=some (a.map fr):=rfl
theorem lenD_pt(a:List Rat):mW (yW a)=some a.length:=by show some (a.map fr).length=_;rw[AV]
theorem item_pt(a:List Rat)(i:Int):itemAt (yW a) i=(atI a i).map fr:=fS _ _ _
theorem tupD_bx(a:List Sd):tupD (oM a)=some (a.map yQ):=rfl
theorem seqD_bx(a:List Sd):du (oM a)=some (a.map yQ):=rfl
theorem lenD_bx(a:List Sd):mW (oM a)=some a.length:=by show some (a.map yQ).length=_;rw[AV]
theorem item_bx(a:List Sd)(i:Int):itemAt (oM a) i=(atI a i).map yQ:=fS _ _ _
theorem tupD_ps(a:List (List Rat)):tupD (d9 a)=some (a.map yW):=rfl
theorem seqD_ps(a:List (List Rat)):du (d9 a)=some (a.map yW):=rfl
theorem lenD_ps(a:List (List Rat)):mW (d9 a)=some a.length:=by show some (a.map yW).length=_;rw[AV]
theorem item_ps(a:List (List Rat))(i:Int):itemAt (d9 a) i=(atI a i).map yW:=fS _ _ _
theorem kind_pt(a:List Rat):bV (yW a)=bV (.tuple []):=rfl
theorem kind_bx(a:List Sd):bV (oM a)=bV (.tuple []):=rfl
noncomputable def qd(a b:Int):Rat:=(a:Rat) / (b:Rat)
theorem sW{a:Int}(hb:0<b):B3 [.int (a.fdiv (BI a b)),.int (b.fdiv (BI a b))]=fr (qd a b):=k_ hb
theorem pP(q:Rat):qd q.num q.den=q:=by
 unfold qd;have:=Rat.mkRat_self q;rw[Rat.mkRat_eq_div]at this;exact this
theorem fL(q:Rat):(0:Int)<(q.den:Int):=by have:=q.den_nz;omega
theorem pO{a:Int}(hb:0<b)(h1:a.natAbs<2^k)(h2:b.natAbs<2^k):yU k (qd a b):=by
 obtain⟨d,rfl⟩:=Br (show 0<=b by omega);have hd:d≠0:=by omega
 have e:qd a d=EU a d hd:=oE (by rw[<- iY,k_ (by omega)];rfl);rw[e];exact qg _ h1 (by simpa using h2)
theorem at2(x y z:α)(r:List α):L2.atI (x::y::z::r) 2=some z:=by
 rw[show(2:Int)=((2:Nat):Int)from rfl];exact df rfl
theorem u4{a:Int}(hb:0<b)(h:0<=a):0<=qd a b:=by
 unfold qd;have h1:(0:Rat)<=(a:Rat):=by exact_mod_cast h
 have h2:(0:Rat)<(b:Rat):=by exact_mod_cast hb
 rw[Rat.div_def];exact Rat.mul_nonneg h1 (Rat.le_of_lt (Rat.inv_pos.mpr h2))
theorem sj{a:Int}(hb:0<b)(h:a<b):qd a b<1:=by
 unfold qd;have h1:(a:Rat)<(b:Rat):=by exact_mod_cast h
 have h2:(0:Rat)<(b:Rat):=by exact_mod_cast hb
 exact(Rat.div_lt_iff h2).mpr (by rw[Rat.one_mul];exact h1)
noncomputable def AL:=AM @item_fr0 (AM @item_fr1 (AM @tupD_pt (AM @seqD_pt (AM @lenD_pt (AM @item_pt (AM @tupD_bx (AM @seqD_bx (AM @lenD_bx (AM @item_bx (AM @tupD_ps (AM @seqD_ps (AM @lenD_ps (AM @item_ps (AM @at_last1 (AM @at_last2 (AM @at_last3 (AM @kind_pt (AM @kind_bx (AM @fr0 (@fr1))))))))))))))))))))
noncomputable def fv(b:Int):List Int->Rat
 | []=>0
 | d::ds=>((d:Rat)+fv b ds) / (b:Rat)
noncomputable def nv(b:Int):List Int->Int
 | []=>0
 | d::ds=>d+b*nv b ds
noncomputable def tv(b:Int)(ds:List Int):Int:=ds.foldl (fun t d=>t*b+d) 0
noncomputable def AF(b:Int)(ds:List Int):Prop:=∀d∈ds,0<=d/\d<b
theorem fI(b:Int):∀(ds:List Int)(t:Int),ds.foldl (fun t d=>t*b+d) t=t*b^ds.length+tv b ds
 | [],t=>by simp[tv]
 | d::ds,t=>by
   rw[Fm,fI b ds (t*b+d),show tv b (d::ds)=ds.foldl (fun t d=>t*b+d) (0*b+d)from rfl,fI b ds (0*b+d),Bb,Bj]
   grind
theorem gU(b d:Int)(ds:List Int):tv b (d::ds)=d*b^ds.length+tv b ds:=by
 rw[show tv b (d::ds)=ds.foldl (fun t d=>t*b+d) (0*b+d)from rfl,fI];grind
theorem iH(h:0<b):(b:Rat)≠0:=by
 intro z;have:b=0:=by exact_mod_cast z
 omega
theorem me{b:Int}(hb:2<=b):∀ds:List Int,qd (tv b ds) (b^ds.length)=fv b ds
 | []=>by rw[show tv b []=0 from rfl,C_,BV];show((0:Int):Rat) / ((1:Int):Rat)=0;rw[Rat.div_def,show((0:Int):Rat)=0 from rfl,Rat.zero_mul]
 | d::ds=>by
   have ih:=me hb ds;have h1:=iH (show 0<b by omega);have h2:=iH (show 0<b^ds.length from Cu (by omega));rw[gU,fv,<- ih,Bb,Bj];unfold qd;rw[Rat.intCast_add,Rat.intCast_mul,Rat.intCast_mul]
   grind
theorem pA{b:Int}(hb:2<=b):∀ds:List Int,AF b ds->0<=tv b ds/\tv b ds<b^ds.length
 | [],_=>⟨C1 _,by simp[tv]⟩
 | d::ds,h=>by
   obtain⟨i1,i2⟩:=pA hb ds fun x m=>h x (AU _ m);obtain⟨j1,j2⟩:=h d AZ;have hp:0<b^ds.length:=Cu (by omega);rw[gU,Bb,Bj,BL (b^ds.length) b];have h1:0<=d*b^ds.length:=Bm j1 (by omega);have h2:(d+1)*b^ds.length<=b*b^ds.length:=AQ (by omega) (by omega);rw[C2,BR]at h2;omega
noncomputable def ix(p:List Int)(f:Int):Int:=(p.idxOf f:Int)
theorem ze(ex:IsEx b p):ix p 0=0:=by
 cases p with
 | nil=>cases ex.zero
 | cons x p =>
   have:=ex.zero;simp only[List.head?_cons,GJ.injEq]at this;subst this;simp[ix,List.idxOf_cons_self]
noncomputable def zE(b n:Int):List Int:=(digs b.toNat n.toNat).map fun(k:Nat)=>(k:Int)
theorem qf{b:Nat}(hb:2<=b):∀n:Nat,nv (b:Int) ((digs b n).map fun(k:Nat)=>(k:Int))=n:=by
 intro n
 induction n using Ei with
 | _ n ih =>
   by_cases h:0<n
   · rw[c5 hb h,A1,nv,ih (n / b) (DJ h (by omega))];have:=Nat.mod_add_div n b
     exact_mod_cast this
   · have:n=0:=by omega
     subst this;rw[cw];rfl
theorem wO{n:Int}(hb:2<=b)(hn:0<=n):nv b (zE b n)=n:=by
 have:=qf (b:=b.toNat) (by omega) n.toNat;rw[B8 (by omega),B8 hn]at this;exact this
theorem hV(hb:2<=b)(n:Int):AF b (zE b n):=by
 intro d m;obtain⟨k,mk,rfl⟩:=BB.mp m;have:=qI (b:=b.toNat) (by omega) _ k mk;omega
theorem pz(b:Int)(ds:List Int)(d:Int):tv b (ds++[d])=tv b ds*b+d:=by simp[tv]
theorem jX(b:Int):∀xs:List Int,tv b xs.reverse=nv b xs
 | []=>rfl
 | x::xs=>by rw[Dg,pz,jX b xs,nv];grind
theorem i4{b:Nat}(hb:2<=b):∀(k n:Nat),n<b^k->(digs b n).length<=k
 | k,n,h=>by
   by_cases hn:0<n
   · cases k with
     | zero=>simp at h;omega
     | succ k =>
       rw[c5 hb hn,Bb];have:n / b<b^k:=by rw[Nat.div_lt_iff_lt_mul (by omega)];rw[Go]at h;exact h
       have:=i4 hb k (n / b) this;omega
   · have:n=0:=by omega
     subst this;rw[cw];simp
theorem lh{n:Int}(hb:2<=b)(hn:0<=n)(h:n<b^k):(zE b n).length<=k:=by
 unfold zE;rw[AV];refine i4 (by omega) k _ ?_
 have:((n.toNat:Nat):Int)<((b.toNat^k:Nat):Int):=by
  rw[B8 hn,Int.natCast_pow,B8 (by omega)];exact h
 exact_mod_cast this
theorem iJ{a c:Int}(hc:0<c):(qd a c).num*c=a*(qd a c).den:=by
 have h1:=iH hc;have h2:=iH (fL (qd a c));have e:qd (qd a c).num (qd a c).den=qd a c:=pP _;have e':((qd a c).num:Rat) / (((qd a c).den:Int):Rat)=(a:Rat) / (c:Rat):=e;generalize (qd a c).num=x at *;generalize ((qd a c).den:Int)=y at *;have:(x:Rat)*(c:Rat)=(a:Rat)*(y:Rat):=by grind
 exact_mod_cast this
noncomputable def zC(p:List Int)(a:Int):Int:=p.getD a.toNat 0
theorem lD(ex:IsEx b p){a:Int}(h0:0<=a)(h:a<b):0<=zC p a/\zC p a<b:=(lx ex (show a.toNat<b.toNat by omega)).2
theorem mZ(ex:IsEx b p){a:Int}(h0:0<=a)(h:a<b):ix p (zC p a)=a:=by
 have hl:a.toNat<p.length:=by rw[ex.len];omega
 unfold zC ix;rw[BZ,A5 hl,Option.getD_some,ex.nd.idxOf_getElem];omega
theorem yX:∀(l r:List Int),l.Nodup->(∀x∈l,x∈r)->l.length<=r.length
 | [],r,_,_=>Db _
 | x::l,r,nd,h=>by
   have hx:=h x AZ;obtain⟨n1,n2⟩:=CD.mp nd;have:=yX l (r.erase x) n2 fun y my=>(List.mem_erase_of_ne (a:=y) (b:=x) (fun z=>n1 (by rw[<- z];exact my))).mpr (h y (AU _ my));rw[List.length_erase_of_mem hx]at this;have:=List.length_pos_of_mem hx;simp only[Bb];omega
theorem oC(ex:IsEx b p){f:Int}(h0:0<=f)(h:f<b):f∈p:=by
 by_cases m:f∈p
 · exact m
 · have:=yX (f::p) (jA 0 b.toNat) (CD.mpr ⟨m,ex.nd⟩) fun x mx=>by
     rw[m_];rcases Bo.mp mx with rfl|mx
     · omega
     · have:=ex.rng x mx;omega
   rw[cf,Bb,ex.len]at this;omega
theorem tF(ex:IsEx b p){f:Int}(h0:0<=f)(h:f<b):0<=ix p f/\ix p f<b:=by
 have:=Ek (oC ex h0 h);rw[ex.len]at this;unfold ix;omega
theorem qF(ex:IsEx b p){f:Int}(h0:0<=f)(h:f<b):zC p (ix p f)=f:=by
 have:=Ek (oC ex h0 h);unfold zC ix;rw[Cb,BZ,A5 this,Option.getD_some,List.getElem_idxOf]
theorem zD(hb:2<=b)(ex:IsEx b p):zC p 0=0:=by
 have:=ze ex;have h:=qF ex (f:=0) (by omega) (by omega)
 rwa [this]at h
noncomputable def az(b:Int)(p:List Int)(n:Int):Rat:=fv b ((zE b n).map (zC p))
theorem oF(ex:IsEx b p){ds:List Int}(f:AF b ds):AF b (ds.map (zC p)):=by
 intro d m;obtain⟨a,ma,rfl⟩:=BB.mp m;exact lD ex (f a ma).1 (f a ma).2
theorem qJ(b:Int):zE b 0=[]:=by unfold zE;rw[show(0:Int).toNat=0 from rfl,cw];rfl
theorem lE{n:Int}(hb:2<=b)(hn:0<n):zE b n=(n%b)::zE b (n / b):=by
 unfold zE;rw[c5 (show 2<=b.toNat by omega) (show 0<n.toNat by omega),A1];have m1:=mP (b:=b) (n:=n) (by omega) (by omega);have m2:=qH (b:=b) (n:=n) (by omega) (by omega);rw[m1,m2,Cb]
theorem sA{n:Int}(h0:0<=n)(h:n<2^900):n.toNat<2^4000:=by
 have h5:n<2^4000:=DL h (bE (by decide) (by decide));have:((n.toNat:Nat):Int)<((2^4000:Nat):Int):=by rw[B8 h0];exact_mod_cast h5
 exact_mod_cast this
theorem mH(h2:2<=b)(h16:b<=16)(hk:k<=1000):(b^k).natAbs<2^8000:=by
 have h1:b^k<=16^k:=iQ (by omega) h16 _;have h3:(16:Int)^k<=16^1000:=bE (by decide) (by omega);have h4:(16:Int)^1000=2^4000:=by rw[show(16:Int)=2^4 by decide,<- Int.pow_mul]
 have h5:b^k<=2^4000:=by rw[<- h4];exact Fi h1 h3
 have h0:0<b^k:=Cu (by omega)
 have h6:(b^k).natAbs<=2^4000:=by
  have:((b^k).natAbs:Int)<=((2^4000:Nat):Int):=by rw[FI (by omega)];exact_mod_cast h5
  exact_mod_cast this
 exact DI h6 (Nat.pow_lt_pow_right (by decide) (by decide))
theorem mD(xs:List Int):(xs.map BA).reverse=xs.reverse.map .int:=List.map_reverse.symm
noncomputable def Fx(b:Int)(N:Nat)(q:Rat):Prop:=∃(T:Int)(k:Nat),q=qd T (b^k)/\0<=T/\T<b^k/\b^k<2^N
theorem Fx.nn(hb:2<=b)(h:Fx b N q):0<=q:=by
 obtain⟨T,k,rfl,h0,h1,_⟩:=h;exact u4 (Cu (by omega)) h0
theorem Fx.lt(hb:2<=b)(h:Fx b N q):q<1:=by
 obtain⟨T,k,rfl,h0,h1,_⟩:=h;exact sj (Cu (by omega)) h1
theorem oQ{x:Int}(h0:0<=x)(h:x<2^N):x.natAbs<2^N:=by
 have:((x.natAbs:Nat):Int)<((2^N:Nat):Int):=by rw[FI h0];exact_mod_cast h
 exact_mod_cast this
theorem Fx.sm(hb:2<=b)(h:Fx b N q):yU N q:=by
 obtain⟨T,k,rfl,h0,h1,h2⟩:=h;have hp:0<b^k:=Cu (by omega);exact pO hp (oQ h0 (by omega)) (oQ (by omega) h2)
theorem Fx.turn{n:Int}(hb:2<=b)(h16:b<=16)(ex:IsEx b p)(h0:0<=n)(h1:n<=10^9+1):Fx b 40 (az b p n):=by
 have f:=oF ex (hV hb n);obtain⟨t0,t1⟩:=pA hb _ f;refine⟨_,_,(me hb _).symm,t0,t1,?_⟩;rw[AV];by_cases hn:0<n
 · have h:=nK (b:=b.toNat) (by omega) n.toNat (by omega);unfold zE;rw[AV];have h':((b.toNat^(digs b.toNat n.toNat).length:Nat):Int)<=((b.toNat*n.toNat:Nat):Int):=by exact_mod_cast h
   rw[Int.natCast_pow,Int.natCast_mul,B8 (by omega),B8 (by omega)]at h';have h3:b*n<=16*n:=AQ h16 h0;omega
 · have:n=0:=by omega
   subst this;rw[qJ,C_,BV];decide
section
variable{X:Cx}{rl:Option Addr}{e:Expr}{fa:TV}{pos dpos q1 q2 q3 q4:Pos}{ρ:En}{j1 j2 j3 j4:Nat}{a b x y:Str}
end
theorem dL(q:Rat):tupD (fr q)=some [.int q.num,.int q.den]:=rfl
theorem hG{s y:Int}(c:BI M s=1):M*s∣y↔M∣y/\s∣y:=by
 constructor
 · intro h;exact⟨Int.dvd_trans (DY M s) h,Int.dvd_trans (Int.dvd_mul_left M s) h⟩
 · rintro⟨h1,h2⟩;have:=EV.mul_dvd_of_dvd_of_dvd (show EV M.natAbs s.natAbs from c) (CL.mpr h1) (CL.mpr h2);exact CL.mp (by rwa [FO])
theorem cZ{n s w:Int}(w0:0<=w)(w1:w<s):s∣n-w↔n%s=w:=by
 rw[Int.dvd_iff_emod_eq_zero,<- B2,DZ w0 w1]
theorem nO{s r w h:Int}(hM:0<M)(hs:0<s)(c:BI M s=1)(r0:0<=r)(r1:r<M)(w0:0<=w)(w1:w<s)(hh:s∣M*h-1) :
 0<=r+M*((w-r)*h%s)/\r+M*((w-r)*h%s)<M*s/\∀n,M*s∣n-(r+M*((w-r)*h%s))↔M∣n-r/\n%s=w:=by
 have x0:0<=(w-r)*h%s:=BG _ (by omega);have x1:(w-r)*h%s<s:=Bk _ hs;have dx:s∣(w-r)*h-(w-r)*h%s:=Int.dvd_self_sub_emod;generalize (w-r)*h%s=x at *;have m0:0<=M*x:=Bm (by omega) x0;have m1:M*x<=M*(s-1):=Bc (by omega) (by omega);have m2:M*(s-1)=M*s-M:=by rw[FZ,DW]
 have dw:s∣r+M*x-w:=by
  obtain⟨u,hu⟩:=dx;obtain⟨v,hv⟩:=hh;refine⟨(w-r)*v-M*u,?_⟩;have hx:x=(w-r)*h-s*u:=by omega
  have hMh:M*h=1+s*v:=by omega
  have:M*x=(w-r)*(M*h)-M*s*u:=by rw[hx];grind
  rw[hMh]at this;rw[this];grind
 refine⟨by omega,by omega,fun n=>?_⟩;rw[hG c,<- cZ w0 w1];constructor
 · rintro⟨a1,a2⟩;refine⟨?_,?_⟩
   · have:=Int.dvd_add a1 (DY M x)
     rwa [show n-(r+M*x)+M*x=n-r by omega]at this
   · have:=Int.dvd_add a2 dw
     rwa [show n-(r+M*x)+(r+M*x-w)=n-w by omega]at this
 · rintro⟨a1,a2⟩;refine⟨?_,?_⟩
   · have:=Int.dvd_sub a1 (DY M x)
     rwa [show n-r-M*x=n-(r+M*x) by omega]at this
   · have:=Int.dvd_sub a2 dw
     rwa [show n-w-(r+M*x-w)=n-(r+M*x) by omega]at this
noncomputable def lW(r M b m:Int):Int:=(b+m-1-r) / M-(b-1-r) / M
theorem jf{x q v:Int}(e:x=M*q+v)(v0:0<=v)(v1:v<M):x / M=q:=by
 rw[e,Fo,Fp _ _ (by omega),DU v0 v1,Dy]
theorem qO{r m:Int}(hM:0<M)(hm:0<=m):lW r M b m=m / M\/lW r M b m=m / M+1:=by
 unfold lW;have e1:=D4 (b-1-r) M;have e2:=D4 m M;have a0:=BG (b-1-r) (show M≠0 by omega);have a1:=Bk (b-1-r) hM;have b0:=BG m (show M≠0 by omega);have b1:=Bk m hM;generalize (b-1-r)%M=u at *;generalize (b-1-r) / M=x at *;generalize m%M=v at *;generalize m / M=q at *;by_cases h:u+v<M
 · left
   rw[jf (x:=b+m-1-r) (q:=x+q) (v:=u+v) (by rw[Dc];omega) (by omega) h];omega
 · right
   rw[jf (x:=b+m-1-r) (q:=x+q+1) (v:=u+v-M) (by rw[Dc,Dc];omega) (by omega) (by omega)];omega
theorem nQ{r m:Int}(hM:0<M):lW r M b (m+1)=lW r M b m+if M∣b+m-r then 1 else 0:=by
 unfold lW;rw[show b+(m+1)-1-r=b+m-r by omega,show b+m-1-r=(b+m-r)-1 by omega];generalize b+m-r=y;have e1:=D4 y M;have a0:=BG y (show M≠0 by omega);have a1:=Bk y hM;by_cases h:M∣y
 · rw[if_pos h];have z:y%M=0:=Int.emod_eq_zero_of_dvd h;have:(y-1) / M=y / M-1:=jf (v:=M-1) (by rw[FZ];omega) (by omega) (by omega);omega
 · rw[if_neg h];have z:y%M≠0:=fun z=>h (DM z);have:(y-1) / M=y / M:=jf (v:=y%M-1) (by omega) (by omega) (by omega);omega
noncomputable def yL(sm:List (Int×Int)):AN:=.tuple (sm.map fun r=>pr r.1 r.2)
end L2.VL
namespace L2
section
variable{X:Cx}{kx vx tg iter:Expr}{ifs:List Expr}{scope:Scope}{pos:Pos}{wi:TI}{g:CompA->TG}{tt:CompA->TT}{tk te:CompA->TE}
end
section
variable{prog:Bd}{w:BM}{A:BJ}{E:AR->AS->Prop}
end
section
variable{X:Cx}
end
end L2
namespace L2.VL
noncomputable def ue(kvs:List (As×AN))(k:As)(x:AN):List (As×AN) :=
 if(kvs.any fun kv=>decide (kv.1=k))=true then kvs.map (fun kv=>if kv.1=k then(kv.1,x)else kv)else kvs++[(k,x)]
section
variable{K:W.Frag}{F:Hp}{us:List (As×V)}{kvs:List (As×AN)}
end
section
variable{X:Cx}{rl:Option Addr}{kx vx tg iter:Expr}{ifs:List Expr}{scope:Scope}{pos:Pos}{fi:En->(List AN->Prop)->Prop}{g:zU}{ft:TB}{fk fe:TV}
end
theorem fu(kvs:List (As×AN))(k:As)(x:AN):(ue kvs k x).length<=kvs.length+1:=by
 unfold ue;split<;>simp
section
variable{α:Type}{b:AN->Mo (Option (As×AN))}
end
section
variable{X:Cx}{rl:Option Addr}{a c e o i:Expr}{es:List Expr}{fa fb:TV}{fs:zQ}{pos p kpos:Pos}{ρ:En}
end
end L2.VL
namespace L2
end L2
namespace L2.VL
section
variable{X:Cx}{rl:Option Addr}{tg:Expr}{fa:TV}{ρ:En}
end
end L2.VL
namespace L2
variable{X:Cx}
end L2
namespace L2.VL
section
variable{X:Cx}{rl:Option Addr}{a e:Expr}{es:List Expr}{fs:zQ}{pos:Pos}
end
end L2.VL
namespace L2.RT
section
variable{prog:Bd}{w:BM}{A:BJ}{E:AR->AS->Prop}{s:AS}
end
end L2.RT
namespace L2
section
variable{X:Cx}{tg e:Expr}{ta te:TE}{p p2 pos:Pos}
end
end L2
namespace L2.VL
section
variable{X:Cx}{rl:Option Addr}{a b c e tg:Expr}{es:List Expr}{fa fb fc:TV}{fs:zQ}{pos pos2 p p2 q:Pos}
end
section
variable{X:Cx}{rl:Option Addr}{a b c o e:Expr}{es:List Expr}{fa fb:TV}{fs:zQ}{pos p apos cpos:Pos}{ρ:En}
end
end L2.VL
namespace L2
section
variable{prog:Bd}{w:BM}{A:BJ}{E:AR->AS->Prop}{s:AS}
end
section
variable{X:Cx}
end
end L2
namespace L2.VL
section
variable{X:Cx}{rl:Option Addr}{e:Expr}{fa:TV}{pos:Pos}{ρ:En}
end
section
variable{X:Cx}{rl:Option Addr}{a b e:Expr}{fa fb:TV}{pos:Pos}{ρ:En}
end
end L2.VL
namespace L2
section
variable{X:Cx}
theorem hU{its:List AR}(r:bB (ns.map V.int) its){v:AR}(e:its[i]?=some v):∃t,v = .int (ns.getD i 0) t:=by
 have hl:=r.length;rw[AV]at hl;have hi:i<ns.length:=by have:=(A2.mp e).1;omega
 have hb:(ns.map V.int)[i]?=some (.int ns[i]):=by simp[hi]
 obtain⟨u,hu,ru⟩:=r.get hb;rw[e]at hu;cases hu;have:ns.getD i 0=ns[i]:=by simp[List.getD,hi]
 rw[this];exact ru
end
end L2
namespace L2.VL
section
variable{X:Cx}{rl:Option Addr}{a:Expr}{fs:zQ}{pos p:Pos}
end
end L2.VL
namespace L2
theorem DAt.stab{xs:List (List Int×Addr×AR)}{h1 h2:Heap}(p:VL.DAt a xs h1)(k:∀o,h1.get? a=some o->h2.get? a=some o):VL.DAt a xs h2:=by
 obtain⟨o,es,ep,h,r⟩:=p;exact⟨o,es,ep,k o h,r⟩
theorem oG{w:BM}{xs:List (List Int×Addr×AR)}(p:VL.DAt a xs h):cj P w H h a (.ext (VL.DAt a xs)) :=
 ⟨p,(let ⟨o,_,_,e,_⟩:=p;⟨o,e⟩),fun _ _ q k=>DAt.stab q k⟩
noncomputable def lR(K:W.Frag)(H:Hp)(xs:List (List Int×Addr×AR)):Prop:=∀x∈xs,zW K H x.2.1 (x.1.map V.int)
section
variable{X:Cx}{pins:List (Addr×Obj)}{σ:St}{H:Hp}{s:AS}{a b:Addr}{xs:List (List Int×Addr×AR)}{k:List Int}{A:BJ}{E:AR->AS->Prop}
theorem items_int{prog:Bd}{w:BM}:∀{ks:List Int}{its:List AR},bB (ks.map V.int) its->ItemsAre (CH prog w) ks its
 | [],_,.nil=>.nil
 | i::ks,_,.cons h r=>by
   obtain⟨t,rfl⟩:=(show ∃t,_=F8 i t from h);exact .cons (by simp[CH,AR.isInt]) (items_int r)
theorem ln(I:Inv X pins σ H s)(sq:zW X.K H b (k.map V.int)):(B_ (CH X.prog X.w)).is s.heap k b:=by
 obtain⟨its,rv,⟨o,h1,h2,n,h3⟩,_⟩:=I.tuple sq;exact⟨o,its.toArray,n,h1,h2,h3,by simpa using items_int rv⟩
theorem tX(I:Inv X pins σ H s)(e:H a=some (.ext (VL.DAt a xs)))(ks:lR X.K H xs):s.heap.DictOfH (B_ (CH X.prog X.w)) a xs/\(a==DV)=false/\xs.length<=sizeLine:=by
 obtain⟨⟨o,es,ep,h1,h2,h3,h4,h5,h6,h7⟩,_⟩:=(show cj X.prog X.w H s.heap a (.ext (VL.DAt a xs))from I.hok a _ e);exact⟨⟨o,es,ep,h1,h2,h3,h4 _ _,fun x hx=>ln I (ks x hx),h5⟩,h6,h7⟩
theorem ni{P':Bd}{w w':BM}(x:List Int×Addr×AR):Gf (B_ (CH P w)) x=Gf (B_ (CH P' w')) x:=rfl
theorem oH{w:BM}(d:h.DictOfH (B_ (CH P w)) a xs)(h6:(a==DV)=false)(h7:xs.length<=sizeLine):VL.DAt a xs h:=by
 obtain⟨o,es,ep,h1,h2,h3,h4,_,h5⟩:=d;exact⟨o,es,ep,h1,h2,h3,fun P' w'=>by rw[h4];exact C3 fun x _=>ni x,h5,h6,h7⟩
theorem d_(xs:List (List Int×Addr×AR))(k:List Int)(b:Addr)(u:AR):(D8 xs k b u).length<=xs.length+1:=by
 unfold D8;split<;>simp
noncomputable def uW(K:W.Frag)(td ty tv:TE):TS:=fun D σ H=>tv σ H fun v H1=>td σ H1 fun x H2=>ty σ H2 fun y H3 =>
 ∃a xs b k,x = .ref a/\H3 a=some (.ext (VL.DAt a xs))/\lR K H3 xs/\y = .ref b/\zW K H3 b (k.map V.int)/\xs.length<sizeLine/\∀r,RelV v r->D.nx σ (upd H3 a (.ext (VL.DAt a (D8 xs k b r))))
end
section
variable{X:Cx}{o i e f value:Expr}{pos pos' apos cpos:Pos}{td ty tz tv:TE}
theorem pW(hu:X.A.units+1<F_)(ho:PE X o td)(hi:PE X i ty)(hv:PE X value tv)(hs:C4 value (some (.Subscript o i pos')) pos.line X.env=pure false) :
 PS X (.Assign [.Subscript o i pos'] value pos) (uW X.K td ty tv):=by
 intro pins s σ H D I h;refine wpAny_Assign_Subscript (yy (hv pins s σ H _ I h) fun r s1 ⟨v,H1,I1,rv,q1⟩=>yy (ho pins s1 σ H1 _ I1 q1) fun u s2 ⟨x,H2,I2,rx,q2⟩=>yy (hi pins s2 σ H2 _ I2 q2) fun iv s3 ⟨y,H3,I3,ry,a,xs,b,k,ex,ea,ks,ey,sq,hl,q3⟩=>?_) hs;subst ex ey;obtain rfl:u=BY a:=rx;cases(show iv=BY b from ry);obtain⟨dd,hd,hz⟩:=tX I3 ea ks;refine wpAny_setItem_heap (hsz:=hz) (tupleKind_room_in1 hu) (ln I3 sq) dd fun h' dd' hsb=>⟨σ,_,?_,q3 r rv⟩;have lz:=d_ xs k b r;have at':=oH dd' hd (by omega);exact lF I3 (by rw[ea];exact True.intro) hsb (let ⟨o,_,_,e,_⟩:=at';⟨o,e⟩) (oG at')
end
end L2
namespace L2.VL
noncomputable def putI(kvs:List (List Int×AN))(k:List Int)(x:AN):List (List Int×AN) :=
 if(kvs.any fun kv=>decide (kv.1=k))=true then kvs.map (fun kv=>if kv.1=k then(kv.1,x)else kv)else kvs++[(k,x)]
theorem KX.keys{K:W.Frag}{F:Hp}:∀{xs:List (List Int×Addr×AR)}{kvs:List (List Int×AN)},KX K F xs kvs->lR K F xs
 | _,_,.nil,x,m=>by cases m
 | _,_,.cons h t,x,m=>by
   rcases Bo.mp m with rfl|m
   · rw[h.1]at *;exact h.2.1
   · exact KX.keys t x m
theorem KX.put{K:W.Frag}{xs:List (List Int×Addr×AR)}(r:KX K F xs kvs)(k:List Int){b:Addr}{u:AR}(sq:zW K F b (k.map V.int))(rv:RelV v u)(rp:Rep K F v d):KX K F (D8 xs k b u) (putI kvs k d):=by
 have any:(atKey xs k).isSome=kvs.any fun kv=>decide (kv.1=k):=by
  induction r with
  | nil=>rfl
  | @cons p q ps qs h t ih =>
    unfold atKey at *;rw[List.find?_cons,List.any_cons,h.1];by_cases e:q.1=k
    · simp[e]
    · simp only[e,decide_false,Bool.false_or];exact ih
 unfold D8 putI;rw[any];by_cases c:(kvs.any fun kv=>decide (kv.1=k))=true
 · rw[if_pos c,if_pos c];clear any c
   induction r with
   | nil=>exact .nil
   | @cons p q ps qs h t ih =>
     refine .cons ?_ ih;show(putAt k u p).1=(if q.1=k then(q.1,d)else q).1/\zW K F (putAt k u p).2.1 ((putAt k u p).1.map V.int)/\∃v,RelV v (putAt k u p).2.2/\Rep K F v (if q.1=k then(q.1,d)else q).2;unfold putAt;by_cases e:q.1=k
     · rw[if_pos e,if_pos (h.1.trans e)];exact⟨h.1,h.2.1,v,rv,rp⟩
     · rw[if_neg e,if_neg (fun z=>e (h.1.symm.trans z))];exact h
 · rw[if_neg c,if_neg c];exact BC.snoc r ⟨rfl,sq,v,rv,rp⟩
section
variable{X:Cx}{rl:Option Addr}{e:Expr}{pos px apos cpos:Pos}{ρ:En}
theorem VR.ownX{K:W.Frag}{ρ:En}(r:VR K rl F₀ H₀ F H σ ρ){xs ys:List (List Int×AN)}{us:List (List Int×Addr×AR)}(e:ρ[i]?=some (some (.xm xs)))(es:σ[i]?=some (some (.ref a)))(rs:KX K F us ys) :
 VR K rl F₀ H₀ F (upd H a (.ext (DAt a us))) σ (ρ.set i (some (.xm ys))):=by
 obtain⟨v,h1,h2,h3⟩:=r.sl i _ e;rw[es]at h1;cases h1;obtain⟨a',vs,ev,f,hr,hh,q⟩:=(show jI K rl F H (.ref a) xs from h2);cases ev;have n0:H₀ a=none:=h3 a rfl;have hi:i<ρ.length:=(A2.mp e).1;have neF:∀b u,F b=some u->b≠a:=fun b u q z=>by subst z;rw[f]at q;cases q
 have g:Grow rl F₀ H₀ F (upd H a (.ext (DAt a us))):=by
  refine⟨fun b o q1 n=>by rw[upd_ne (ay q1 n0)];exact r.g.same b o q1 n,r.g.fs,fun b o q1=>by rw[upd_ne (neF b o q1)];exact r.sub b o q1,r.g.old,fun y z=>?_⟩;obtain⟨z1,⟨u,h1,h2⟩⟩:=r.reel y z;exact⟨z1,⟨u,by rw[upd_ne (fun q=>hr (by rw[<- q];exact z))];exact h1,h2⟩⟩
 refine⟨g,fun j w e1=>?_,fun j k ys' zs u hjk e1 e2 w1 w2 s1 s2=>?_,fun j ys' z=>?_,by simp[r.len]⟩
 · by_cases hj:i=j
   · subst hj;rw[A9 hi]at e1;cases e1;exact⟨_,es,⟨a,us,rfl,f,hr,ak,rs⟩,h3⟩
   · rw[A6 hj]at e1;obtain⟨u,g1,g2,g3⟩:=r.sl j w e1;refine⟨u,g1,?_,g3⟩
     cases w with
     | d x=>exact g2
     | reel=>exact g2
     | vv u=>exact g2
     | ml zs =>
       obtain⟨b,us',eb,f1,f2,f3,f4⟩:=(show d6 K rl F H u zs from g2);have ne:b≠a:=fun z=>r.ap i j _ _ (.ref a) hj e e1 rfl rfl es (by rw[g1,eb,z])
       exact⟨b,us',eb,f1,f2,by rw[upd_ne ne];exact f3,f4⟩
     | pk zs=>exact absurd e1 (r.np j zs)
     | md zs =>
       obtain⟨b,us',eb,f1,f2,f3,f4⟩:=(show oS K rl F H u zs from g2);have ne:b≠a:=fun z=>r.ap i j _ _ (.ref a) hj e e1 rfl rfl es (by rw[g1,eb,z])
       exact⟨b,us',eb,f1,f2,by rw[upd_ne ne];exact f3,f4⟩
     | mk zs =>
       obtain⟨b,us',eb,f1,f2,f3,f4⟩:=(show oR K rl F H u zs from g2);have ne:b≠a:=fun z=>r.ap i j _ _ (.ref a) hj e e1 rfl rfl es (by rw[g1,eb,z])
       exact⟨b,us',eb,f1,f2,by rw[upd_ne ne];exact f3,f4⟩
     | xm zs =>
       obtain⟨b,us',eb,f1,f2,f3,f4⟩:=(show jI K rl F H u zs from g2);have ne:b≠a:=fun z=>r.ap i j _ _ (.ref a) hj e e1 rfl rfl es (by rw[g1,eb,z])
       exact⟨b,us',eb,f1,f2,by rw[upd_ne ne];exact f3,f4⟩
     | nt ds=>exact g2
     | lk=>trivial
     | sc _=>exact g2
     | fd _=>exact g2
     | xr _=>exact g2
     | fw _=>exact g2
     | ft _=>exact g2
     | xc _ _=>exact g2
     | dp _ _=>exact g2
 · have nd:∀(j:Nat)(z:W),(ρ.set i (some (W.xm ys)))[j]?=some (some z)->z.own=true->∃z',ρ[j]?=some (some z')/\z'.own=true:=fun j zs z o=>by
     by_cases hj:i=j
     · subst hj;exact⟨_,e,rfl⟩
     · rw[A6 hj]at z;exact⟨zs,z,o⟩
   obtain⟨_,d1,o1⟩:=nd j _ e1 w1;obtain⟨_,d2,o2⟩:=nd k _ e2 w2;exact r.ap j k _ _ u hjk d1 d2 o1 o2 s1 s2
 · rw[BD]at z;split at z
   · first|cases z|(split at z<;>cases z)
   · exact r.np j ys' z
noncomputable def fD:List AN->Option (List Int)
 | []=>some []
 | .int i::ds=>(fD ds).map (i :: ·)
 | _::_=>none
noncomputable def keyI:AN->Option (List Int)
 | .tuple ds=>fD ds
 | _=>none
theorem i8:∀{ds:List AN}{k:List Int},fD ds=some k->ds=k.map .int
 | [],k,h=>by cases h;rfl
 | .int i::ds,k,h=>by
   simp only[fD,DR]at h;obtain⟨k',h1,rfl⟩:=h
   rw[i8 h1];rfl
 | .none::_,_,h=>by cases h
 | .bool _::_,_,h=>by cases h
 | .str _::_,_,h=>by cases h
 | .list _::_,_,h=>by cases h
 | .tuple _::_,_,h=>by cases h
 | .dict _::_,_,h=>by cases h
theorem cv:∀k:List Int,fD (k.map .int)=some k
 | []=>rfl
 | i::k=>by show(fD (k.map .int)).map (i :: ·)=_;rw[cv k];rfl
theorem qm{k:List Int}(h:keyI d=some k):d = .tuple (k.map .int):=by
 unfold keyI at h;split at h
 · rw[i8 h]
 · cases h
theorem lp{K:W.Frag}{k:List Int}(h:Rep K F v d)(e:keyI d=some k):∃b,v = .ref b/\zW K F b (k.map V.int):=by
 rw[qm e]at h
 cases h with
 | @tup a vs ds sq rs =>
   rw[dE rs]at sq;exact⟨a,rfl,sq⟩
end
end L2.VL
namespace L2
section
variable{X:Cx}
end
end L2
namespace L2.VL
section
variable{X:Cx}{rl:Option Addr}{a e:Expr}{fs:zQ}{pos p:Pos}
noncomputable def qw:AN->Option (List Int)
 | .tuple xs=>fF xs
 | _=>none
theorem m8:qw d=some ns↔d = .tuple (ns.map .int):=by
 constructor
 · intro h
   cases d with
   | tuple xs=>rw[fE h]
   | _=>cases h
 · rintro rfl;exact bW _
theorem qv(ns:List Int):qw (.tuple (ns.map .int))=some ns:=bW ns
end
section
variable{X:Cx}{rl:Option Addr}{a b c o e:Expr}{es:List Expr}{fa fb:TV}{fs:zQ}{pos p px apos cpos:Pos}{ρ:En}
end
end L2.VL
namespace L2
section
variable{X:Cx}{o e f:Expr}{apos cpos:Pos}{td ty tx:TE}
end
end L2
namespace L2.VL
section
variable{X:Cx}{rl:Option Addr}{a b c o e:Expr}{es:List Expr}{fa fb:TV}{fs:zQ}{pos p px apos cpos:Pos}{ρ:En}
noncomputable def oO(w:W):Option (List Int):=w.dat.bind qw
theorem vH{g:List Int}:oO w=some g↔w.dat=some (.tuple (g.map .int)):=by
 unfold oO
 cases w.dat with
 | none=>simp
 | some d=>simp[m8]
theorem t9(g:List Int):oO (.d (.tuple (g.map .int)))=some g:=qv g
end
end L2.VL
namespace L2
theorem qN{w:BM}(p:VL.DAtO a u h):cj P w H h a (.ext (VL.DAtO a u)) :=
 ⟨p,⟨_,p.2⟩,fun _ _ q k=>⟨DAt.stab q.1 k,k _ q.2⟩⟩
theorem hX(I:Inv X pins σ H s)(e:H a=some (.ext (VL.DAtO a u))):VL.DAtO a u s.heap :=
 (show cj X.prog X.w H s.heap a (.ext (VL.DAtO a u))from I.hok a _ e).1
noncomputable def uX(i:Nat)(T:TS):TS:=fun D σ H=>∃a us,σ[i]?=some (some (.ref a))/\H a=some (.ext (VL.DAt a us))/\∀o,T D σ (upd H a (.ext (VL.DAtO a (us,o))))
theorem pX{st:Stmt}{T:TS}(i:Nat)(h:PS X st T):PS X st (uX i T):=fun pins s σ H D I q=>by
 obtain⟨a,us,e1,e2,k⟩:=q;obtain⟨p,⟨o,ho⟩,_⟩:=(show cj X.prog X.w H s.heap a (.ext (VL.DAt a us))from I.hok a _ e2);have I1:Inv X pins σ (upd H a (.ext (VL.DAtO a (us,o)))) s:=lF (t':=s.toks) I (by rw[e2];exact True.intro) (Cn.refl _ _) ⟨o,ho⟩ (qN ⟨p,ho⟩);exact h pins s σ _ D I1 (k o)
end L2
namespace L2.VL
section
variable{rl:Option Addr}
theorem VR.frzX{K:W.Frag}(r:VR K rl F₀ H₀ F H σ ρ){xs:List (List Int×AN)}{us:List (List Int×Addr×AR)}{ob:Obj}(e:ρ[i]?=some (some (.xm xs)))(es:σ[i]?=some (some (.ref a)))(hH:H a=some (.ext (DAt a us)))(rs:KX K F us xs) :
 aZ F (upd F a (.ext (DAtO a (us,ob))))/\VR K rl F₀ H₀ (upd F a (.ext (DAtO a (us,ob)))) (upd H a (.ext (DAtO a (us,ob)))) σ (ρ.set i (some (.xr xs))):=by
 obtain⟨v,h1,h2,h3⟩:=r.sl i _ e;rw[es]at h1;cases h1;obtain⟨a',vs,ev,f,hr,hh,q⟩:=(show jI K rl F H (.ref a) xs from h2);cases ev;have n0:H₀ a=none:=h3 a rfl;have hi:i<ρ.length:=(A2.mp e).1;have neF:∀b u,F b=some u->b≠a:=fun b u q z=>by subst z;rw[f]at q;cases q
 have fsm:aZ F (upd F a (.ext (DAtO a (us,ob)))):=fun b u z=>by rw[upd_ne (neF b u z)];exact z
 have g:Grow rl F₀ H₀ (upd F a (.ext (DAtO a (us,ob)))) (upd H a (.ext (DAtO a (us,ob)))):=by
  refine⟨fun b o q1 n=>by rw[upd_ne (ay q1 n0)];exact r.g.same b o q1 n,r.g.fs.trans fsm,fun b o q1=>?_,fun b o q1=>by rw[upd_ne (ay q1 n0)];exact r.g.old b o q1,fun y z=>?_⟩
  · by_cases hb:b=a
    · subst hb;rw[ak]at q1 ⊢;exact q1
    · rw[upd_ne hb]at q1 ⊢;exact r.sub b o q1
  · obtain⟨z1,⟨u,h1,h2⟩⟩:=r.reel y z;have ny:y≠a:=fun q=>hr (by rw[<- q];exact z);exact⟨by rw[upd_ne ny];exact z1,⟨u,by rw[upd_ne ny];exact h1,RO.mono fsm h2⟩⟩
 refine⟨fsm,g,fun j w e1=>?_,fun j k ys' zs u hjk e1 e2 w1 w2 s1 s2=>?_,fun j ys' z=>?_,by simp[r.len]⟩
 · by_cases hj:i=j
   · subst hj;rw[A9 hi]at e1;cases e1;exact⟨_,es,⟨a,(us,ob),rfl,ak,rs.mono fsm⟩,trivial⟩
   · rw[A6 hj]at e1;obtain⟨u,g1,g2,g3⟩:=r.sl j w e1;refine⟨u,g1,?_,g3⟩;have ap:w.own=true->∀b,u = .ref b->b≠a:=fun ow b eb z=>r.ap i j _ _ (.ref a) hj e e1 rfl ow es (by rw[g1,eb,z])
     cases w with
     | d x=>exact Rep.mono fsm g2
     | ml zs=>obtain⟨b,us',eb,f1,f2,f3,f4⟩:=(show d6 K rl F H u zs from g2);exact⟨b,us',eb,by rw[upd_ne (ap rfl b eb)];exact f1,f2,by rw[upd_ne (ap rfl b eb)];exact f3,f4.mono fsm⟩
     | md zs=>obtain⟨b,us',eb,f1,f2,f3,f4⟩:=(show oS K rl F H u zs from g2);exact⟨b,us',eb,by rw[upd_ne (ap rfl b eb)];exact f1,f2,by rw[upd_ne (ap rfl b eb)];exact f3,BC.mapP f4 fun _ _ z=>⟨z.1,z.2.mono fsm⟩⟩
     | mk zs=>obtain⟨b,us',eb,f1,f2,f3,f4⟩:=(show oR K rl F H u zs from g2);exact⟨b,us',eb,by rw[upd_ne (ap rfl b eb)];exact f1,f2,by rw[upd_ne (ap rfl b eb)];exact f3,BC.mapP f4 fun _ _ z=>⟨z.1,z.2.mono fsm⟩⟩
     | xm zs=>obtain⟨b,us',eb,f1,f2,f3,f4⟩:=(show jI K rl F H u zs from g2);exact⟨b,us',eb,by rw[upd_ne (ap rfl b eb)];exact f1,f2,by rw[upd_ne (ap rfl b eb)];exact f3,KX.mono f4 fsm⟩
     | pk zs=>exact absurd e1 (r.np j zs)
     | reel=>exact g2
     | vv u=>exact g2
     | lk=>trivial
     | nt ds=>obtain⟨b,us,eb,f1,f2⟩:=g2;exact⟨b,us,eb,fsm _ _ f1,f2.mono fsm⟩
     | sc ns=>obtain⟨b,eb,f1⟩:=g2;exact⟨b,eb,kf fsm f1⟩
     | fd kvs=>obtain⟨b,us,eb,f1,f2⟩:=g2;exact⟨b,us,eb,fsm _ _ f1,BC.mapP f2 fun _ _ z=>⟨z.1,z.2.mono fsm⟩⟩
     | xr kvs=>obtain⟨b,us,eb,f1,f2⟩:=g2;exact⟨b,us,eb,fsm _ _ f1,KX.mono f2 fsm⟩
     | fw kvs=>obtain⟨b,us,o,eb,f1,f2⟩:=g2;exact⟨b,us,o,eb,fsm _ _ f1,BC.mapP f2 fun _ _ z=>⟨z.1,z.2.mono fsm⟩⟩
     | ft kvs=>obtain⟨b,us,o,eb,f1,f2⟩:=g2;exact⟨b,us,o,eb,fsm _ _ f1,BC.mapP f2 fun _ _ z=>⟨z.1,z.2.mono fsm⟩⟩
     | xc _ _=>obtain⟨b,dx,us,C,eb,n,f1,f3,f2⟩:=g2;exact⟨b,dx,us,C,eb,n,fsm _ _ f1,fsm _ _ f3,BC.mapP f2 fun _ _ z=>⟨z.1,z.2.mono fsm⟩⟩
     | dp _ _=>obtain⟨c,b,us,u,o,eb,f1,f3,f2,z⟩:=g2;exact⟨c,b,us,u,o,eb,fsm _ _ f1,fsm _ _ f3,BC.mapP f2 fun _ _ z=>⟨z.1,z.2.mono fsm⟩,z.mono fsm⟩
 · have nd:∀(j:Nat)(y:W),(ρ.set i (some (W.xr xs)))[j]?=some (some y)->y.own=true->ρ[j]?=some (some y):=fun j y z o=>by
     by_cases hj:i=j
     · subst hj;rw[A9 hi]at z;cases z;cases o
     · rw[A6 hj]at z;exact z
   exact r.ap j k _ _ u hjk (nd j _ e1 w1) (nd k _ e2 w2) w1 w2 s1 s2
 · rw[BD]at z;split at z
   · first|cases z|(split at z<;>cases z)
   · exact r.np j ys' z
end
section
variable{X:Cx}{rl:Option Addr}{st:Stmt}{body:List Stmt}{t:zR}{e:Expr}{pos p px apos cpos:Pos}{ρ:En}
noncomputable def pq(i:Nat)(t:zR):zR:=fun D ρ=>∃xs,ρ[i]?=some (some (.xm xs))/\t D (ρ.set i (some (.xr xs)))
theorem oZ(i:Nat)(h:Ah X rl st t):Ah X rl st (pq i t):=by
 obtain⟨T,p,k⟩:=h;refine⟨_,pX i p,fun R Dv D ok ⟨xs,e,q⟩=>?_⟩;obtain⟨v,h1,h2,h3⟩:=R.sl i _ e;obtain⟨a,us,rfl,f,hr,hh,rs⟩:=(show jI X.K rl _ _ v xs from h2);refine⟨a,us,h1,hh,fun o=>?_⟩;obtain⟨s1,R1⟩:=R.frzX (ob:=o) e h1 hh rs;exact k R1 Dv D (ok.on s1) q
theorem cQ.keyF{rl:Option Addr}{K:W.Frag}{g:List Int}(r:cQ K rl F H v w)(e:oO w=some g):∃b,v = .ref b/\zW K F b (g.map V.int):=by
 have e:=vH.mp e
 cases w with
 | d x=>cases e;exact lp r (by show fD (g.map .int)=_;exact cv g)
 | nt ds =>
   obtain⟨a,vs,rfl,h,q⟩:=r;cases e;rw[dE q]at h
   exact⟨a,rfl,.inl (.inl h)⟩
 | ml xs=>cases e
 | pk xs=>cases e
 | _=>cases e
theorem cQ.keyI{rl:Option Addr}{K:W.Frag}{g:List Int}(s:aZ F H)(r:cQ K rl F H v w)(e:oO w=some g):∃b,v = .ref b/\zW K H b (g.map V.int):=lp (cQ.dat s r (vH.mp e)) (by show fD (g.map .int)=_;exact cv g)
noncomputable def pi(i:Nat)(fk fx:TV):zR:=fun D ρ=>∃kvs,ρ[i]?=some (some (.xm kvs))/\fx ρ fun wx=>fk ρ fun wk=>∃(g:List Int)(x:AN),oO wk=some g/\wx = .d x/\kvs.length<sizeLine/\D.nx (ρ.set i (some (.xm (putI kvs g x))))
theorem oX(i:Nat){f:Expr}{fk fx:TV}(hu:X.A.units+64<F_)(hk:PV X rl e fk)(hx:PV X rl f fx)(hN:autoParam (X.N[i]?=some x) æa._auto_1)(hv:autoParam (zN X.env.scope x) æd._auto_1)
 (hd:autoParam ((x==("__debug__" : Str))=false) æb._auto_1)(hcd:autoParam ((x==("__classdict__" : Str))=false) æb._auto_1)(hs:autoParam (C4 f (some (.Subscript (.Name x px) e pos')) pos.line X.env=pure false) æa._auto_1) :
 Ah X rl (.Assign [.Subscript (.Name x px) e pos'] f pos) (pi i fk fx):=by
 obtain⟨t,p1,k1⟩:=hk;obtain⟨t2,p2,k2⟩:=hx;refine⟨_,pW (by omega) (eG hN hv hd hcd) p1 p2 hs,fun{F₀ H₀ F H σ ρ} R Dv D ok ⟨kvs,e1,q⟩=>?_⟩;obtain⟨v,h1,h2,h3⟩:=R.sl i _ e1;obtain⟨a,xs,rfl,f0,hr,hh,rs⟩:=(show jI X.K rl F H v kvs from h2);refine k2 R _ _ q fun v2 w2 F2 H2 g2 r2 n2 q2=>⟨.ref a,h1,k1 (R.grow g2) _ _ q2 fun v1 w1 F1 H1 g1 r1 n1 q3=>?_⟩;obtain⟨gs,d,e2,rfl,hz,q3⟩:=q3;obtain⟨b,rfl,sq⟩:=r1.keyI g1.sub e2;have g:=g2.trans g1;have rs1:=rs.mono g.fs;have hl:xs.length=kvs.length:=De rs
 have sqF:zW X.K F1 b (gs.map V.int):=by
  have:=r1.keyF e2;obtain⟨b',eb,sq'⟩:=this;cases eb;exact sq'
 refine⟨a,xs,b,gs,rfl,g.same a _ hh hr,fun x m=>cL g1.sub (rs1.keys x m),rfl,sq,by omega,fun r rv=>?_⟩;exact ok.nx _ _ _ _ g.fs ((R.grow g).ownX e1 h1 (rs1.put gs sqF rv (Rep.mono g1.fs r2))) q3
end
end L2.VL
namespace L2.ZP
section
variable{prog:Bd}{w:BM}{A:BJ}{E:AR->AS->Prop}{s:AS}{z it a:Addr}{k:Nat}{xs:Array AR}{x p:AR}{b:Bool}
abbrev e2(h:Heap)(b:Bool)(a:Addr):Heap:=(y1 h b a).push {cls:=.type "enumerate", data:=.fields #[.none,.bool false,.ref h.objs.size,E_ 0,.none,.none]}
end
end L2.ZP
namespace L2
open PySem PySem.Spec PyProof.Rows L2.ZP
section
variable{X:Cx}{e1:Expr}{ta:TA}{elts:List Expr}{kt:Nat}{pt p pos:Pos}
end
end L2
namespace L2.VL
section
variable{X:Cx}{rl:Option Addr}{a:Expr}{elts:List Expr}{kt:Nat}{pt p pos:Pos}{fs:zQ}
end
end L2.VL
namespace L2
section
variable{X:Cx}{e:Expr}{tg:Expr}{te:TE}
end
end L2
namespace L2.VL
section
variable{X:Cx}{rl:Option Addr}{a b e o i':Expr}{es:List Expr}{fa fb:TV}{fs:zQ}{pos p px apos cpos:Pos}{ρ:En}{st:Stmt}{t:zR}
end
section
variable{X:Cx}{rl:Option Addr}{kx vx tg iter:Expr}{ifs:List Expr}{scope:Scope}{pos:Pos}{fi:En->(List AN->Prop)->Prop}{g:zU}{ft:TB}{fk fe:TV}
end
abbrev AG:=List (As×AN)×AN
section
variable{P:Bd}{w:BM}{K:W.Frag}{mg:Str->Option AR}{base:Heap}{rl:Option Addr}{x:Str}{st:Stmt}{N ps:List Str}{k:Nat}{Pd:List W->(AG->Prop)->Prop}{t:zR}
end
section
variable{X:Cx}{rl:Option Addr}{e:Expr}{es:List Expr}{fs:zQ}{pos p:Pos}{ρ:En}
end
section
variable{X:Cx}{rl:Option Addr}{a b c o e:Expr}{es:List Expr}{fa fb:TV}{fs:zQ}{pos p apos cpos:Pos}{ρ:En}
end
end L2.VL
namespace L2
noncomputable def ub(h:Heap)(a:Addr)(es:Array Eb)(ep:Nat):Prop:=∃ob,h.get? a=some ob/\ob.ExactDict/\ob.data = .dict es ep
section
variable{P:Bd}{w:BM}{A:BJ}{E:AR->AS->Prop}{s:AS}{d v it:Addr}{es:Array Eb}{ep i:Nat}
theorem ub.ty(r:ub s.heap d es ep):s.TypeIs (.ref d) "dict" := let ⟨ob,q,x,_⟩:=r;⟨ob,q,x.1⟩
end
section
variable{X:Cx}{o:Expr}{tg:Expr}{te:TE}{apos cpos:Pos}
end
end L2
namespace L2.VL
section
variable{X:Cx}{rl:Option Addr}{a b e o i':Expr}{es:List Expr}{fa fb:TV}{fs:zQ}{pos p px apos cpos:Pos}{ρ:En}{st:Stmt}{t:zR}
end
end L2.VL
namespace L2
section
variable{P:Bd}{w:BM}{A:BJ}{E:AR->AS->Prop}{s:AS}{d v it:Addr}{es:Array Eb}{ep i:Nat}
theorem kA(nd:(d==DV)=false)(r:ub s.heap d es ep)
 (z:Q (.ref s.heap.objs.size) {s with heap:=s.heap.push {cls:=.type "dict_keyiterator", data:=.fields #[.ref d,.int 0 0,.int es.size 0,.int ep 0]}}):Bi (BH P w) A (pyIter (.ref d)) Q E s:=by
 obtain⟨ob,q,x,t⟩:=id r;refine wpAny_pyIter_slot r.ty F.slot_dict_iter (Cv F.slot_dict_iter r.ty F.entry_dict_iter ?_ (F.args_dict_iter_1 _));unfold Builtin.«dict.__iter__»;refine AO ?_;unfold Builtin.Dict.dictSlotNone;refine AO (wpAny_notOrdered_dict r.ty ?_);show Bi _ _ (pure (BY d)) _ _ s;refine AX ?_;show Bi _ _ (Fq d >>= _) _ _ s;unfold Fq;rw[if_neg (by rw[nd];exact Bs)];refine AO (AX (AO (EG q t (AO (Ft q t ?_)))));refine AO (Cm (AX ⟨_,rfl, "dict_keyiterator", _,⟨_,A3 _ rfl,rfl⟩,F.slot_dict_keyiterator_next.lookup,?_⟩));simpa[E_]using z
theorem kB{x:AR}{Q:Option AR->AS->Prop}(hit:s.heap.IsKeyIter it d i es.size ep)(r:ub s.heap d es ep)(hx:(es[i]?).map (·.key)=some x)
 (z:∀h',h'.IsKeyIter it d (i+1) es.size ep->Cn it s.heap h'->Q (some x) {s with heap:=h' }):Bi (BH P w) A (FM (.ref it)) Q E s:=by
 obtain⟨ob,o1,o2,o3⟩:=id hit;obtain⟨od,q,x0,t⟩:=id r
 have li:i<es.size:=by
  rcases Nat.lt_or_ge i es.size with y|y
  · exact y
  · rw[E6 y]at hx;cases hx
 have ex:es[i].key=x:=by rw[Ex li]at hx;exact Bn hx
 unfold FM;refine AO (ET (Cf (name:=CA "__next__") hit.typeIs F.slot_dict_keyiterator_next (Cv F.slot_dict_keyiterator_next hit.typeIs F.entry_dict_keyiterator_next ?_ (F.args_dict_keyiterator_next_1 _))));refine AO (AX (AO (AO ?_)))
 first|refine AO (Cw hit.typeIs (AX (AO (Ey o1 o3 ?_))))|refine AO (CW hit.typeIs (AX (AO (Ey o1 o3 ?_))))
 simp only[show Ea "dict_keyiterator" = false by decide,DH,if_false];show Bi _ _ (if(BY d==CI)=true then _ else _) _ _ s;rw[if_neg (show ¬((BY d==CI)=true)from Bs)];refine AO (AX (AO (EG q t ?_)));rw[if_neg (by simp)];refine AO (AX (AO (Ft q t ?_)));rw[if_neg (by simp)];refine AX ?_;simp only[show ¬((i:Int)<0)from by omega,if_false,Cb,Ex li];refine AO ?_
 first|refine AO (Cw hit.typeIs (AX (AO (D5 hit.typeIs ?_))))|refine AO (CW hit.typeIs (AX (AO (D5 hit.typeIs ?_))))
 show Bi _ _ (setField (.ref it) 1 (E_ ((i:Int)+1)) >>= _) _ _ s;refine AO (Ev o1 o3 (by simp) ?_);have h2:(s.heap.update it (Obj.mapFields (·.setIfInBounds 1 (E_ ((i:Int)+1))))).IsKeyIter it d (i+1) es.size ep:=⟨_,D1 _ o1 (Fj (DK o3 _)),(Obj.cls_mapFields ..).trans o2,by rw[DK o3];simp[E_]⟩;generalize he:s.heap.update it (Obj.mapFields (·.setIfInBounds 1 (E_ ((i:Int)+1))))=h' at h2 ⊢;refine AO (Dz (AO (D5 (s:={s with heap:=h' }) h2.typeIs ?_)));show Bi _ _ (pure es[i].key) _ _ _;rw[ex];exact AX (AX ⟨_,rfl,AX (z _ h2 (he▸Dt ..))⟩)
theorem mE{Q:Option AR->AS->Prop}(hh:A.handled=none)(hit:s.heap.IsKeyIter it d i es.size ep)(r:ub s.heap d es ep)(hx:es.size<=i)
 (z:∀h',Gz it s.heap h'->Q none {s with heap:=h' }):Bi (BH P w) A (FM (.ref it)) Q E s:=by
 obtain⟨ob,o1,o2,o3⟩:=id hit;obtain⟨od,q,x0,t⟩:=id r;unfold FM;refine AO (ET (Cf (name:=CA "__next__") hit.typeIs F.slot_dict_keyiterator_next (Cv F.slot_dict_keyiterator_next hit.typeIs F.entry_dict_keyiterator_next ?_ (F.args_dict_keyiterator_next_1 _))));refine AO (AX (AO (AO ?_)))
 first|refine AO (Cw hit.typeIs (AX (AO (Ey o1 o3 ?_))))|refine AO (CW hit.typeIs (AX (AO (Ey o1 o3 ?_))))
 simp only[show Ea "dict_keyiterator" = false by decide,DH,if_false];show Bi _ _ (if(BY d==CI)=true then _ else _) _ _ s;rw[if_neg (show ¬((BY d==CI)=true)from Bs)];refine AO (AX (AO (EG q t ?_)));rw[if_neg (by simp)];refine AO (AX (AO (Ft q t ?_)));rw[if_neg (by simp)];refine AX ?_;simp only[show ¬((i:Int)<0)from by omega,if_false,Cb,E6 hx];refine AO ?_
 first|refine AO (Cw hit.typeIs (AX ?_))|refine AO (CW hit.typeIs (AX ?_))
 show Bi _ _ (setField (.ref it) 0 .none >>= _) _ _ s;refine AO (Ev o1 o3 (by simp) ?_);show Bi _ _ (newExc (.type "StopIteration") [] >>= _) _ _ _;refine AO ?_;simp only[newExc,newTuple];refine AO (Cm (AO (m:=Ew _ _) (GB (a:=CI) (by first|rfl|(simp only[Ew];rfl)) (Cm ?_ (by size_fits)))) (by size_fits));simp only[raiseNew];refine AO (wpAny_handled ?_);rw[show A.in1.handled=none from hh];refine AO (AX (wpAny_throw ?_));refine AO (wpAny_isInstance (T := "StopIteration") (b:=true) ⟨_,A3 _ rfl,rfl⟩ isSubtype_stop ?_);exact AX (z _ (((Dt ..).extBut.push _).push _))
end
open PySem PySem.Spec PyProof.Rows PySem.W
section
variable{P:Bd}{w:BM}{A:BJ}{E:AR->AS->Prop}{s:AS}{d:Addr}{es:Array Eb}{ep:Nat}
end
end L2
namespace L2.VL
noncomputable def kI(k:List Int):AN:=.tuple (k.map .int)
section
variable{X:Cx}{rl:Option Addr}{a b c o e:Expr}{es:List Expr}{fa fb fk fx:TV}{fs:zQ}{pos p px apos cpos:Pos}{ρ:En}
noncomputable def ul:W->Option (List (List Int×AN))
 | .xr kvs=>some kvs
 | _=>none
theorem qQ:ul w=some kvs↔w = .xr kvs:=by cases w<;>simp[ul]
theorem t7(kvs:List (List Int×AN)):ul (.xr kvs)=some kvs:=rfl
noncomputable def um:W->Option (List (List Int×AN))
 | .xm kvs=>some kvs
 | _=>none
theorem qR:um w=some kvs↔w = .xm kvs:=by cases w<;>simp[um]
noncomputable def yM(ρ:En)(i:Nat):Option (List (List Int×AN)):=((ρ[i]?).join).bind um
theorem ol:yM ρ i=some kvs↔ρ[i]?=some (some (.xm kvs)):=by
 unfold yM;rcases ρ[i]? with _|_|w<;>simp[qR]
theorem pI(i:Nat):mS (pi i fk fx) ρ=av (yM ρ i) fun kvs=>zH (fx ρ) fun wx=>zH (fk ρ) fun wk=>av (oO wk) fun g=>av (asD wx) fun x=>zu (kvs.length<sizeLine) (ret (.nx (ρ.set i (some (.xm (putI kvs g x)))))):=by
 refine ae fun Q=>?_;simp only[mS,pi,ag,ol,zH,ret,gM,zu];refine exists_congr fun kvs=>and_congr_right fun _=>?_;constructor
 · intro h;refine cast ?_ h;congr 1;funext x;congr 1;funext y;exact propext ⟨fun⟨a,b,c,d,e,f⟩=>⟨a,c,b,d,e,f⟩,fun⟨a,c,b,d,e,f⟩=>⟨a,b,c,d,e,f⟩⟩
 · intro h;refine cast ?_ h;congr 1;funext x;congr 1;funext y;exact propext ⟨fun⟨a,c,b,d,e,f⟩=>⟨a,b,c,d,e,f⟩,fun⟨a,b,c,d,e,f⟩=>⟨a,c,b,d,e,f⟩⟩
theorem pJ(i:Nat){t:zR}:mS (pq i t) ρ=av (yM ρ i) fun xs=>mS t (ρ.set i (some (.xr xs))):=by
 refine ae fun Q=>?_;simp only[mS,pq,ag,ol]
end
end L2.VL
namespace L2
section
variable{P:Bd}{w:BM}{A:BJ}{E:AR->AS->Prop}{s:AS}
theorem sS:typeLookup (Ez "list") (CA "keys")=pure none:=by rw[typeLookup_type,builtinLookup_eq_fast];kernel_rfl
theorem sL:Manifest.owners.lookup (String.ofList ['t','s','i','l'].reverse)=some Manifest.sig_list:=by kernel_rfl
theorem nV(a b:AR):argsOk "list.__getattribute__" ⟨[a,b],[]⟩:=by
 unfold argsOk;rw[signature?_of (id := "list.__getattribute__") (n:=['_','_','e','t','u','b','i','r','t','t','a','t','e','g','_','_']) (o:=['t','s','i','l']) (by kernel_rfl) sL];kernel_rfl
theorem k7{l:Addr}{xs:Array AR}{Q:Option AR->AS->Prop}(hh:A.handled=none)(hl:s.heap.get? l=some o)(hc:o.cls = .type "list")(hd:o.data = .seq xs k)(hn:o.dict=none)
 (h:∀h' tk,(∀b o,s.heap.get? b=some o->h'.get? b=some o)->Q none {s with heap:=h',toks:=tk}) :
 Bi (BH P w) A (getAttr? (.ref l) (CA "keys")) Q E s:=by
 obtain⟨oc,odt,odi,osl⟩:=o;cases hc;cases hd;cases hn;unfold getAttr? getAttrBy? getAttrBy getAttrByItsOwn callGetattribute boundAndCalled hookBefore;have tl:=F.slot_list_getattribute.lookup;have ng:=am_list_getattr_none;have sa:isSubtype (.type "AttributeError") (.type "AttributeError")=pure true:=by kernel_rfl
 have ty:s.TypeIs (.ref l) "list" := ⟨_,hl,rfl⟩
 wp_walk
 refine GB (F.slot_list_getattribute.bind _) ?_;refine Gi F.slot_list_getattribute ⟨_,hl,rfl⟩ am_entry_list_getattribute (nV _ _) (meets_getattribute_miss_list l xs k osl (CA "keys") _ sS (by decide +kernel) (by decide +kernel)) ⟨hl,by simpa using hh,fun h' tk e ne=>?_⟩;obtain⟨t,u,ge⟩:=ne.there;have ke:=ne.keeps;show Bi _ _ (getattributeRaised _ _ _ _ _ _ _) _ _ _;unfold getattributeRaised hookBehind hookOrError;have te:EW {s with heap:=h',toks:=tk} (.ref e) "AttributeError" := ⟨_,ge,rfl⟩
 wp_walk
 exact h h' tk ke
theorem gF:entryFor table "dict.update.loop" = some Builtin.«dict.update.loop»:=entryFor_of_tree (by kernel_rfl)
theorem cU:plainId "dict.update.loop" = true:=by decide +kernel
abbrev Pe:=List Int×Addr×Addr×AR
noncomputable def qX(P:Bd)(w:BM)(h:Heap)(x:Pe):Prop:=(∃o n,h.get? x.2.2.1=some o/\o.cls = .type "tuple" /\ o.data = .seq #[.ref x.2.1,x.2.2.2] n)/\(B_ (CH P w)).is h x.1 x.2.1
theorem qq{k:List Int}{b:Addr}(x:(B_ (CH P w)).is h k b)(e:∀o,h.get? b=some o->h'.get? b=some o):(B_ (CH P w)).is h' k b:=by
 obtain⟨o,its,n,h1,h2⟩:=x;exact⟨o,its,n,e o h1,h2⟩
theorem qX.keep{x:Pe}(p:qX P w h x)(e:∀b o,b=x.2.1\/b=x.2.2.1->h.get? b=some o->h'.get? b=some o):qX P w h' x:=by
 obtain⟨⟨o,n,h1,h2,h3⟩,h4⟩:=p;exact⟨⟨o,n,e _ o (.inr rfl) h1,h2,h3⟩,qq h4 fun o h=>e _ o (.inl rfl) h⟩
noncomputable def fJ(xs:List (List Int×Addr×AR))(es:List Pe):List (List Int×Addr×AR):=es.foldl (fun xs x=>D8 xs x.1 x.2.1 x.2.2.2) xs
theorem dM(xs:List (List Int×Addr×AR))(k:List Int)(b:Addr)(u:AR):(D8 xs k b u).length<=xs.length+1:=by
 unfold D8;split<;>simp
theorem gW{xs:List (List Int×Addr×AR)}{k:List Int}{b:Addr}{u:AR}{y:List Int×Addr×AR}(m:y∈D8 xs k b u):y.2.1=b\/∃x∈xs,y.2.1=x.2.1:=by
 unfold D8 at m;split at m
 · obtain⟨x,mx,rfl⟩:=BB.mp m;refine .inr ⟨x,mx,?_⟩;unfold putAt;split<;>rfl
 · rcases Ce.mp m with m|m
   · exact .inr ⟨y,m,rfl⟩
   · cases Bh.mp m;exact .inl rfl
theorem hW{D:Addr}{xs:List (List Int×Addr×AR)}(x:CM (B_ (CH P w)) h D xs)(k:∀o,h.get? D=some o->h'.get? D=some o)(ks:∀x∈xs,(B_ (CH P w)).is h' x.1 x.2.1):CM (B_ (CH P w)) h' D xs:=by
 obtain⟨o,es,ep,h1,h2,h3,h4,h5,h6⟩:=x;exact⟨o,es,ep,k o h1,h2,h3,h4,ks,h6⟩
theorem tV{D:Addr}{xs:List (List Int×Addr×AR)}(x:CM (B_ (CH P w)) h D xs):∀x∈xs,(B_ (CH P w)).is h x.1 x.2.1:=by
 obtain⟨o,es,ep,h1,h2,h3,h4,h5,h6⟩:=x;exact h5
theorem qG{I D:Addr}{wr:List Addr}{Pv:Nat->AR->Prop}{St:Nat->Heap->Prop}{R:Result->AS->Prop}(hu:A.units+1<F_)(W:Walks P w A.in1 I fp wr n Pv St)(hS:D∉fp)(es:List Pe)(hn:es.length=n)(hv:∀i v,Pv i v->∃x,es[i]?=some x/\v = .ref x.2.2.1)
 (hd:∀x∈es,x.2.1∉D::wr/\x.2.2.1∉D::wr)(hb:n<=sizeLine) :
 ∀ (k i:Nat)(s:AS)(xs:List (List Int×Addr×AR)),n-i=k->i<=n->St i s.heap->xs.length<=i->CM (B_ (CH P w)) s.heap D xs->(∀x∈xs,x.2.1∉D::wr)->(∀x∈es,qX P w s.heap x) ->
   (∀s':AS,s'.gens=s.gens->s'.drawn=s.drawn->s'.os=s.os->(∀b o,b∉D::wr->s.heap.get? b=some o->s'.heap.get? b=some o)->CM (B_ (CH P w)) s'.heap D (fJ xs (es.drop i))->R (.ok (.ret .none)) s') ->
   Et (BH P w) A (.builtin "dict.update.loop" ⟨[.ref D,.ref I,E_ i,.none],[]⟩) R s:=by
 have hw:D∉wr:=fun h=>hS (W.sub _ h);intro k
 induction k with
 | zero =>
   intro i s xs hk hi st lk hs hx hp hR;have e:i=n:=by omega
   subst e;refine Fu gF ?_;rw[FJ cU _];show Bi _ A.in1 (FM (.ref I) >>= _) _ _ s;refine AO (W.done s _ _ st fun h' tk hk'=>?_);show Bi _ A.in1 (EH D [] >>= fun _=>ret CI) _ _ _;unfold EH
   wp_walk
   refine hR {s with heap:=h',toks:=tk} rfl rfl rfl (fun b o hb e=>hk' b o (fun m=>hb (AU _ m)) e) ?_;rw[DT (by omega)]
   exact hW hs (fun o e=>hk' D o hw e) fun x mx=>qq (tV hs x mx) fun o e=>hk' _ o (fun m=>hx x mx (AU _ m)) e
 | succ k ih =>
   intro i s xs hk hi st lk hs hx hp hR;have lt:i<n:=by omega
   refine Fu gF ?_;rw[FJ cU _];show Bi _ A.in1 (FM (.ref I) >>= _) _ _ s;refine AO (W.item i s _ _ lt st fun v h' tk pv st' hk'=>?_);obtain⟨x,ex,rfl⟩:=hv i v pv;have mx:x∈es:=D9 ex
   have ed:es.drop i=x::es.drop (i+1):=by
    have hlt:i<es.length:=by omega
    rw[CP hlt];rw[A5 hlt]at ex;cases ex;rfl
   have keepP:∀y∈es,qX P w h' y:=fun y my=>(hp y my).keep fun b o hb' e=>hk' b o (fun m=>by
    rcases hb' with rfl|rfl
    · exact(hd y my).1 (AU _ m)
    · exact(hd y my).2 (AU _ m)) e
   obtain⟨⟨o,n',g1,g2,g3⟩,kx⟩:=keepP x mx;show Bi _ A.in1 (Gg [BY x.2.2.1] _ >>= _) _ _ _;refine AO (Dz ?_);refine AO (wpAny_tryCatch ?_);unfold Builtin.Dict.pairItems;have ty:EW {s with heap:=h',toks:=tk} (.ref x.2.2.1) "tuple" := ⟨o,g1,g2⟩
   wp_walk
   rw[g3];refine AX (AX ?_);show Bi _ A.in1 (Gg [BY x.2.1,x.2.2.2] (dictSet D (.ref x.2.1) x.2.2.2)) _ _ _;refine Dz ?_;have hs':CM (B_ (CH P w)) h' D xs:=hW hs (fun o e=>hk' D o hw e) fun x mx=>qq (tV hs x mx) fun o e=>hk' _ o (fun m=>hx x mx (AU _ m)) e;refine wpAny_dictSet_heap (s:={s with heap:=h',toks:=tk}) (tupleKind_room_in1 hu) kx hs' (fun h2 dd sb=>?_) (by omega);have lz:=dM xs x.1 x.2.1 x.2.2.2;refine AX ⟨plainId_quiet cU _,?_⟩;refine ih (i+1) _ _ (by omega) lt (W.frame _ _ _ st' fun b hb o e=>?_) (by omega) dd (fun y my=>?_) (fun y my=>(keepP y my).keep fun b o hb' e=>?_) fun s' a b c d e=>hR s' a b c (fun b' o' hb' e'=>d b' o' hb' ?_) ?_
   · show h2.get? b=some o;rw[sb.2 b fun h:b=D=>hS (h▸hb)];exact e
   · rcases gW my with e|⟨z,mz,e⟩
     · rw[e];exact(hd x mx).1
     · rw[e];exact hx z mz
   · show h2.get? b=some o
     have nb:b∉D::wr:=by
      rcases hb' with rfl|rfl
      · exact(hd y my).1
      · exact(hd y my).2
     rw[sb.2 b fun h:b=D=>nb (h▸AZ)];exact e
   · show h2.get? b'=some o';rw[sb.2 b' fun h:b'=D=>hb' (h▸AZ)];exact hk' b' o' (fun m=>hb' (AU _ m)) e'
   · rw[ed];exact e
theorem jD{l:Addr}{vs:Array AR}{es:List Pe}(hu:A.units+8<F_)(hh:A.handled=none)(hl:s.heap.get? l=some o)(hc:o.cls = .type "list")(hd:o.data = .seq vs k)(hn:o.dict=none)
 (hv:∀(i:Nat) v,vs[i]?=some v->∃x,es[i]?=some x/\v=BY x.2.2.1)(hz:es.length=vs.size)(hp:∀x∈es,qX P w s.heap x)(hb:es.length<=sizeLine)
 (h:∀h' tk,CM (B_ (CH P w)) h' s.heap.objs.size (fJ [] es)->(∀b o,s.heap.get? b=some o->h'.get? b=some o)->Q (.ref s.heap.objs.size) {s with heap:=h',toks:=tk}) :
 Bi (BH P w) A (call (.type "dict") [.ref l]) Q E s:=by
 obtain⟨c,tl,mro⟩:=F.kt_called_dict.mro;have made:=F.kt_called_dict.made;have sub:=F.kt_called_dict.sub;refine wpAny_call (codeAny_of_tree ?_);show Bi _ _ (callAny (.type "dict") _) _ _ _;refine AX ⟨Code.quiet_builtin _ (by decide +kernel),Fu F.entry_type_call ?_⟩;rw[BJ.under_plain (weight_type_call_type "dict" [.ref l] []) rfl];have h1:=F.kt_called_dict.notType;have h2:=F.kt_called_dict.canCreate;have ct:=F.kt_typeCall_dict_1 (.ref l)
 repeat (any_goals (first|assumption|wp_step))
 refine D0 (kt_code_dict_new (E:=E) (BY l) (Q₁:=fun obj s1=>obj=BY s.heap.objs.size/\s1={s with heap:=s.heap.push {cls:=.type "dict", data:=.dict #[]}}) ⟨rfl,rfl⟩) fun r s1 hr=>?_
 cases r with
 | error e=>exact hr
 | ok fl =>
   cases fl with
   | ret obj =>
     obtain⟨rfl,rfl⟩:=hr;have HS:CM (B_ (CH P w)) (s.heap.push {cls:=.type "dict", data:=.dict #[]}) s.heap.objs.size []:=CM.new s.heap;have gS:(s.heap.push {cls:=.type "dict", data:=.dict #[]}).get? s.heap.objs.size=some {cls:=.type "dict", data:=.dict #[]}:=A3 _ rfl;have ty:EW {s with heap:=s.heap.push {cls:=.type "dict", data:=.dict #[]}} (.ref s.heap.objs.size) "dict" := ⟨_,gS,rfl⟩;have li:=F.kt_called_dict.init.lookup;have bi:=F.kt_called_dict.init.bind (.ref s.heap.objs.size)
     repeat (any_goals (first|assumption|wp_step))
     refine D0 (codeAny_call_builtin (R:=wants (fun r s2=>r = .none/\∃h' tk,s2={s with heap:=h',toks:=tk}/\CM (B_ (CH P w)) h' s.heap.objs.size (fJ [] es)/\(∀b o,s.heap.get? b=some o->h'.get? b=some o)) E)
      F.kt_called_dict.init.plain F.entry_dict_init (F.kt_called_dict.init.check _ _ _ _ _ _ _ _ ty (F.args_dict_init_2 _ _) ?_)) fun r2 s2 hr2=>?_
     · have hl1:(s.heap.push {cls:=.type "dict", data:=.dict #[]}).get? l=some o:=AT _ hl;have tl1:EW {s with heap:=s.heap.push {cls:=.type "dict", data:=.dict #[]}} (.ref l) "list" := ⟨o,hl1,hc⟩;have llt:l<s.heap.objs.size:=A0 hl;have ne:(Ez "list" != Ez "dict")=true:=by decide
       have ne0:(Ez "dict" != Ez "dict")=false:=by decide
       unfold Builtin.«dict.__init__» Builtin.Dict.selfAndRest Builtin.Dict.notOrdered Builtin.Dict.updateCommon Builtin.Dict.updateFrom;generalize hPI:pyIter=PI;generalize hGA:getAttr?=GA
       wp_walk
       subst hGA;refine k7 (by simp[hh]) hl1 hc hd hn fun h2 tk2 k2=>?_
       wp_walk
       subst hPI;have gD:h2.get? s.heap.objs.size=some {cls:=.type "dict", data:=.dict #[]}:=k2 _ _ gS;have hl2:h2.IsList l vs:=⟨o,k2 _ _ hl1,hc,k,hd⟩;refine EA hl2 ?_
       wp_walk
       refine⟨plainId_quiet cU _,?_⟩;have lt2:∀b,b<s.heap.objs.size->b<h2.objs.size:=fun b hb=>A7 hb (E9 (A0 gD));have sD:s.heap.objs.size<h2.objs.size:=A0 gD;have nI:l≠h2.objs.size:=BE (lt2 _ llt)
       have nS:s.heap.objs.size∉[h2.objs.size,l]:=by
        simp only[Bo,List.not_mem_nil,or_false,not_or];exact⟨BE sD,Er llt⟩
       have pe:∀x∈es,x.2.1<s.heap.objs.size/\x.2.2.1<s.heap.objs.size:=fun x mx=>by
        obtain⟨⟨o1,n1,g1,_⟩,o2,its,n2,g2,_⟩:=hp x mx;exact⟨A0 g2,A0 g1⟩
       have nd:∀b,b<s.heap.objs.size->b∉s.heap.objs.size::[h2.objs.size]:=fun b hb=>by
        have:=lt2 b hb;simp only[Bo,List.not_mem_nil,or_false,not_or];exact⟨BE hb,BE this⟩
       refine qG (n:=vs.size) (by simp;omega) (Walks.list (by simp[hh]) _ l nI vs) nS es hz hv (fun x mx=>⟨nd _ (pe x mx).1,nd _ (pe x mx).2⟩) (by omega) _ 0 _ [] rfl (Db _)
        ⟨⟨_,A3 _ rfl,rfl,rfl⟩,(hl2.push _)⟩ (AY _) (hW HS (fun o e=>AT _ (k2 _ _ e)) fun x m=>(by cases m)) (fun x m=>(by cases m)) (fun x mx=>(hp x mx).keep fun b o hb e=>AT _ (k2 _ _ (AT _ e))) fun s' a b c d e=>?_
       obtain⟨h',g',d',tk',os'⟩:=s';have a:g'=s.gens:=a;have b:d'=s.drawn:=b;have c:os'=s.os:=c;subst a;subst b;subst c;refine⟨rfl,h',tk',rfl,e,fun b o hb=>?_⟩;have lb:=A0 hb;exact d b o (nd b lb) (AT _ (k2 _ _ (AT _ hb)))
     · cases r2 with
       | error e=>exact hr2
       | ok fl2 =>
         cases fl2 with
         | ret r =>
           obtain⟨rfl,h',tk,rfl,hS',hk'⟩:=hr2
           repeat (any_goals (first|assumption|wp_step))
           exact h _ _ hS' hk'
         | _=>exact hr2.elim
   | _=>exact hr.elim
end
noncomputable def AB(a:Addr)(u:List (List Int×Addr×AR)×Obj):It :=
 ⟨fun i H=>i<u.1.length/\H a=some (.ext (VL.DAtO a u)),fun i H x H'=>H'=H/\∃p,u.1[i]?=some p/\x = .ref p.2.1,fun i H=>u.1.length<=i/\H a=some (.ext (VL.DAtO a u))⟩
theorem fN{P:Bd}{w:BM}{es:Array Eb}{ep:Nat}(p:VL.DAtO a u h)(hep:u.2.data = .dict es ep):ub h a es ep/\es.size=u.1.length/\(∀i:Nat,(es[i]?).map (·.key)=(u.1[i]?).map fun u=>BY u.2.1)/\(a==DV)=false:=by
 obtain⟨⟨o,es',ep',h1,h2,h3,h4,h5,h6,h7⟩,g⟩:=p;rw[g]at h1;cases h1;rw[hep]at h3;cases h3;have e:=h4 P w;refine⟨⟨_,g,h2,hep⟩,by rw[<- Ec,e,AV],fun i=>?_,h6⟩;rw[<- Fa,e,Bp,Option.map_map];rfl
theorem jp{w:BM}{K:W.Frag}(a it:Addr){es:Array Eb}{ep:Nat}(hep:u.2.data = .dict es ep) :
 Turn P w K tg (AB a u) [it] it (fun i h=>h.IsKeyIter it a i u.1.length ep) where
 mem:=by simp
 obj:=fun i h st b hb=>by
  have e:b=it:=by simpa using hb
  subst e;obtain⟨o,e,c,d⟩:=st;exact⟨o,e,fun v z=>by rw[d]at z;cases z⟩
 keep:=fun i h h' st k=>by
  obtain⟨o,e,r⟩:=st;exact⟨o,k it (by simp) o e,r⟩
 item:=by
  intro X hP hw hK hc i pins s σ H E I hf st hg;subst hP hw hK;obtain⟨hi,ha⟩:=hg;obtain⟨dd,hs,hk,lo⟩:=fN (P:=X.prog) (w:=X.w) (hX I ha) hep;have eu:u.1[i]?=some u.1[i]:=by simp[hi]
  obtain⟨f0,f1,f2,f3,f4,f5⟩:=hf it (by simp);have ex:(es[i]?).map (·.key)=some (BY (u.1[i]).2.1):=by rw[hk,eu];rfl
  rw[<- hs]at st;refine kB st dd ex fun h' st' sb=>?_;have I1:Inv X pins σ H {s with heap:=h' }:=I.turned (t':=s.toks) (fun b o hb e=>(sb.2 b hb).trans e) f0 f1 f3 f4 f5;obtain⟨oi,e,c,d⟩:=id st';rw[hs]at st';exact⟨_,rfl,lw (s:={s with heap:=h' }) e c d (by decide) ⟨V.ref (u.1[i]).2.1,H,I1,rfl,⟨rfl,_,eu,rfl⟩,st',fun b hb=>(hf b hb).1⟩⟩
 done:=by
  intro X hP hw hK hc i pins s σ H E I hf st hg;subst hP hw hK;obtain⟨hi,ha⟩:=hg;obtain⟨dd,hs,hk,lo⟩:=fN (P:=X.prog) (w:=X.w) (hX I ha) hep;obtain⟨f0,f1,f2,f3,f4,f5⟩:=hf it (by simp);rw[<- hs]at st;refine mE (I.ok.hd hc) st dd (by omega) fun h' sb=>⟨rfl,?_⟩;exact I.turned (t':=s.toks) (fun b o hb e=>sb b o hb e) f0 f1 f3 f4 f5
 self:=fun A i s Q E st h=>by
  refine wpAny_pyIter_slot st.typeIs F.slot_dict_keyiterator_iter (Cv F.slot_dict_keyiterator_iter st.typeIs F.entry_dict_keyiterator_iter ?_ (F.args_dict_keyiterator_iter_1 _));show Bi _ _ (ret (.ref it)) _ _ s;exact AX ⟨_,rfl, "dict_keyiterator", _,st.typeIs,F.slot_dict_keyiterator_next.lookup,h⟩
section
variable{X:Cx}{e:Expr}{tg:Expr}{te:TE}
noncomputable def qy(t:TE):TI:=fun σ H R=>t σ H fun v H1=>∃a u,v = .ref a/\H1 a=some (.ext (VL.DAtO a u))/\R (AB a u) H1
theorem mJ(he:PE X e te):PI X tg e (qy te):=by
 intro pins s σ H R I h;refine yy (he pins s σ H _ I h) fun v s1 ⟨x,H1,I1,r1,q1⟩=>?_;obtain⟨a,u,ev,ha,q⟩:=q1;subst ev;cases r1;have pr:=hX I1 ha;obtain⟨⟨o,es,ep,h1,h2,h3,_⟩,g⟩:=id pr;rw[g]at h1;cases h1;obtain⟨dd,hs,hk,lo⟩:=fN (P:=X.prog) (w:=X.w) pr h3;refine kA lo dd ?_;refine⟨s1.heap.objs.size,[s1.heap.objs.size],_,_,H1,rfl,I1.kept (t':=s1.toks) fun b o e=>AT _ e,jp a _ h3,⟨_,A3 _ rfl,rfl,by rw[hs];rfl⟩,fun b hb=>?_,q⟩;have e:b=s1.heap.objs.size:=by simpa using hb
 subst e;exact I1.fpOk (AY _) (I1.hok.fresh (AY _))
end
end L2
namespace L2.VL
section
variable{X:Cx}{rl:Option Addr}{a e:Expr}{es:List Expr}{fa:TV}{fs:zQ}{pos p:Pos}{ρ:En}
noncomputable def lu(fa:TV):En->(List AN->Prop)->Prop:=fun ρ Q=>fa ρ fun w=>∃kvs,w = .xr kvs/\Q (kvs.map fun p=>kI p.1)
theorem s_{K:W.Frag}{us:List (List Int×Addr×AR)}(r:KX K F us kvs){x:AN}(h:(kvs.map fun p=>kI p.1)[i]?=some x):∃p,us[i]?=some p/\Rep K F (.ref p.2.1) x:=by
 induction r generalizing i with
 | nil=>simp at h
 | @cons p q ps qs hh t ih =>
   cases i with
   | zero=>simp at h;subst h;exact⟨p,rfl,.tup hh.2.1 (hh.1▸i9)⟩
   | succ j=>obtain⟨p',e1,e2⟩:=ih (i:=j) (by simpa using h);exact⟨p',by simpa using e1,e2⟩
theorem l6(ha:PV X rl a fa):Aj X rl tg a (lu fa):=by
 obtain⟨t,p1,k⟩:=ha;refine⟨_,mJ p1,fun R Qd Q q h=>k R _ _ q fun v w F1 H1 g1 r1 n1 ⟨kvs,ew,q1⟩=>?_⟩;subst ew;obtain⟨x,us,rfl,hx,rk⟩:=r1;have hl:us.1.length=kvs.length:=De rk;refine⟨x,us,rfl,g1.sub _ _ hx,h _ (kvs.map fun p=>kI p.1) F1 H1 g1 (VIt.of (fun i H y e s=>⟨?_,s _ _ hx⟩) (fun i H hl' s=>⟨by rw[AV]at hl';omega,s _ _ hx⟩) fun i H v H' y e s z=>?_) q1⟩
 · have:=(A2.mp e).1;rw[AV]at this;omega
 · obtain⟨e1,pp,e2,e3⟩:=z;obtain⟨p',e4,e5⟩:=s_ rk e;rw[e2]at e4;cases e4;subst e3;exact⟨e1,e5⟩
theorem mR:lu fa ρ=zH (fa ρ) fun w=>av (ul w) fun kvs=>ret (kvs.map fun p=>kI p.1):=by
 refine ae fun Q=>?_;simp only[lu,zH,ag,qQ,ret]
noncomputable def dQ(p:List Int×AN):AN:=.tuple [kI p.1,p.2]
noncomputable def putFl(kvs:List (List Int×AN)):List (List Int×AN):=kvs.foldl (fun ks p=>putI ks p.1 p.2) []
noncomputable def nA:List W->(W->Prop)->Prop:=fun ws Q=>∃kvs:List (List Int×AN),ws=[.d (.list (kvs.map dQ))]/\Q (.xm (putFl kvs))
end
end L2.VL
namespace L2
abbrev Qe:=List Int×Addr×V
noncomputable def vK(K:W.Frag)(H:Hp)(v:V)(q:Qe):Prop:=∃t,v = .ref t/\zW K H t [.ref q.2.1,q.2.2]/\zW K H q.2.1 (q.1.map V.int)
noncomputable def Ac(e:Pe)(q:Qe):Prop:=e.1=q.1/\e.2.1=q.2.1/\RelV q.2.2 e.2.2.2
theorem jC(hu:X.A.units+64<F_)(hc:X.calm=true):d4 X (.type "dict") (fun xs H Q=>∃l vs qs,xs=[.ref l]/\H l=some (.lst vs)/\BC (vK X.K H) vs qs /\
 ∀p us,H p=none->(∃es:List Pe,us=fJ [] es/\BC Ac es qs)->Q (.ref p) (upd H p (.ext (VL.DAt p us)))):=by
 intro pins s σ H xs vs Q I r ⟨l,us,qs,ex,e,pr,q⟩;subst ex;obtain⟨u,rfl,rx⟩:=vals1 r;cases rx;obtain⟨h5,its,n,h6,lz,h1⟩:=I.lstM e
 have key:∀{us:List V}{qs:List Qe}{is:List AR},BC (vK X.K H) us qs->bB us is->∃es:List Pe,(∀x∈es,qX X.prog X.w s.heap x)/\is=es.map (fun x=>BY x.2.2.1)/\BC Ac es qs:=by
  intro us qs is pr
  induction pr generalizing is with
  | nil=>intro vv;cases vv;exact⟨[],fun x m=>(by cases m),rfl,.nil⟩
  | @cons v q ps qs hh t ih =>
    intro vv
    cases vv with
    | cons rv vv =>
      obtain⟨es,e1,e2,e3⟩:=ih vv;obtain⟨tt,rfl,st,sb⟩:=hh;cases rv;obtain⟨its,rv,⟨o,g1,g2,n,g3⟩,_⟩:=I.tuple st
      cases rv with
      | cons ra rv =>
        cases rv with
        | cons rb rv =>
          cases rv;cases ra;refine⟨(q.1,q.2.1,tt,_)::es,fun x m=>?_,by rw[e2];rfl,.cons ⟨rfl,rfl,rb⟩ e3⟩;rcases Bo.mp m with rfl|m
          · exact⟨⟨o,n,g1,g2,by simpa using g3⟩,ln I sb⟩
          · exact e1 x m
 obtain⟨es,k1,k2,k3⟩:=key pr h6;have lz2:es.length=its.length:=by rw[k2,AV]
 refine jD (es:=es) (by omega) (I.ok.hd hc) h1 rfl rfl rfl (fun i v ev=>?_) (by rw[A4];exact lz2) k1 (by omega) fun h' tk dd kp=>?_
 · rw[List.getElem?_toArray,k2,Bp]at ev
   cases ee:es[i]? with
   | none=>rw[ee]at ev;cases ev
   | some x=>rw[ee]at ev;cases ev;exact⟨x,rfl,rfl⟩
 · have fl:∀(es:List Pe)(xs:List (List Int×Addr×AR)),(fJ xs es).length<=xs.length+es.length:=by
     intro es
     induction es with
     | nil=>intro xs;exact AY _
     | cons x es ih =>
       intro xs;have:=ih (D8 xs x.1 x.2.1 x.2.2.2);have:=dM xs x.1 x.2.1 x.2.2.2;show(fJ (D8 xs x.1 x.2.1 x.2.2.2) es).length<=_;rw[Bb];omega
   have f0:=fl es [];have dat:=oH dd (beq_eq_false_iff_ne.mpr (EK (BE I.big))) (by simp at f0;omega);exact⟨.ref s.heap.objs.size,_,I.laid (t':=tk) (o:=.ext (VL.DAt s.heap.objs.size (fJ [] es))) kp (AY _) (oG dat),rfl,q _ _ (I.hok.fresh (AY _)) ⟨es,rfl,k3⟩⟩
end L2
namespace L2.VL
section
variable{X:Cx}{rl:Option Addr}{a e:Expr}{es:List Expr}{fa:TV}{fs:zQ}{pos p:Pos}{ρ:En}
noncomputable def Ab(K:W.Frag)(F:Hp)(q:Qe)(p:List Int×AN):Prop:=q.1=p.1/\zW K F q.2.1 (q.1.map V.int)/\Rep K F q.2.2 p.2
theorem pairs_at{K:W.Frag}{F:Hp}:∀{vs:List V}{kvs:List (List Int×AN)},Reps K F vs (kvs.map dQ)->∃qs:List Qe,BC (vK K F) vs qs/\BC (Ab K F) qs kvs
 | [],[],_=>⟨[],.nil,.nil⟩
 | v::vs,p::kvs,r=>by
   cases r with
   | cons h t =>
     obtain⟨qs,e1,e2⟩:=pairs_at t
     cases h with
     | @tup tt ws ds sq rs =>
       cases rs with
       | cons r1 rs =>
         cases rs with
         | cons r2 rs =>
           cases rs
           cases r1 with
           | @tup b is ds sb ri =>
             rw[dE ri]at sb;exact⟨(p.1,b,_)::qs,.cons ⟨tt,rfl,sq,sb⟩ e1,.cons ⟨rfl,sb,r2⟩ e2⟩
theorem ql{K:W.Frag}{es:List Pe}{qs:List Qe}(r:BC Ac es qs) :
 ∀{kvs:List (List Int×AN)}{xs:List (List Int×Addr×AR)}{ks:List (List Int×AN)},BC (Ab K F) qs kvs->KX K F xs ks->KX K F (fJ xs es) (kvs.foldl (fun ks p=>putI ks p.1 p.2) ks):=by
 induction r with
 | nil=>intro kvs xs ks t k;cases t;exact k
 | @cons e q es qs h t ih =>
   intro kvs xs ks t2 k
   cases t2 with
   | @cons _ p _ kvs h2 t2 =>
     show KX K F (fJ (D8 xs e.1 e.2.1 e.2.2.2) es) (kvs.foldl (fun ks p=>putI ks p.1 p.2) (putI ks p.1 p.2));refine ih t2 ?_;have e1:e.1=p.1:=h.1.trans h2.1;have sq:=h2.2.1;rw[<- h.2.1,h2.1]at sq;rw[e1];exact k.put p.1 sq h.2.2 h2.2.2
theorem pg(hu:X.A.units+64<F_)(hc:X.calm=true)(hm:X.mg "dict" = none)(ha:Ad X rl [a] fs)(hg:autoParam (Gl X "dict") æa._auto_1)(he:autoParam (AW [a] X.env=(false,eval a X.env)::AW [] X.env) æa._auto_1)(hpl:autoParam ((Cj pos (AW [] X.env)).any (·.1)=false) æa._auto_1) :
 PV X rl (.Call (.Name "dict" p) [a] [] pos) (d7 nA fs):=by
 refine iC (jC hu hc) (fun{F H vs ws} Qd Q s ra r ⟨kvs,ew,q⟩ k=>?_) hm (by rfl) ha hg (by decide) (by decide) he hpl;subst ew;obtain⟨v,rfl,rv⟩:=pM r
 cases(show Rep X.K F v (.list (kvs.map dQ))from rv)with
 | @lst l us ds hl rs =>
   obtain⟨qs,e1,e2⟩:=pairs_at rs;refine⟨l,us,qs,rfl,s _ _ hl,BC.mapP e1 fun v q ⟨t,ev,st,sb⟩=>⟨t,ev,cL s st,cL s sb⟩,fun p us' hp ⟨es,eu,pe⟩=>?_⟩;subst eu;refine k _ (.xm (putFl kvs)) _ _ (Grow.laid s ra hp) ⟨p,_,rfl,s.free hp,fun e=>?_,ak,ql pe e2 .nil⟩ (fun a ea=>by cases ea;exact hp) q;obtain⟨o,z⟩:=ra.live e;rw[hp]at z;cases z
theorem qi(w:W)(kvs:List (List Int×AN))(h:w = .d (.list (kvs.map dQ))):nA [w]=ret (.xm (putFl kvs)):=by
 subst h;refine ae fun Q=>?_;simp only[nA,ret,Bf,and_true,W.d.injEq,EF];constructor
 · rintro⟨ks,e,q⟩
   have:ks=kvs:=by
    have inj:∀{a b:List (List Int×AN)},a.map dQ=b.map dQ->a=b:=fun{a b}=>by
     induction a generalizing b with
     | nil=>intro e;cases b with
       | nil=>rfl
       | cons y b=>cases e
     | cons x a ih =>
       intro e
       cases b with
       | nil=>cases e
       | cons y b =>
         rw[A1,A1,Bf]at e;obtain⟨e1,e2⟩:=e;rw[ih e2];congr 1;simp only[dQ,kI,Bt,Bf,and_true]at e1;have:=congrArg fD e1.1;rw[cv,cv]at this;exact Prod.ext (Bn this) e1.2
    exact inj e.symm
   rw[this]at q;exact q
 · exact fun q=>⟨kvs,rfl,q⟩
end
end L2.VL
namespace K44
open PySem PySem.Spec PyProof.Rows L2 L2.VL
set_option bootstrap.genMatcherCode true in
local macro_rules | `(tactic| simp_arith only [$xs,*])=>`(tactic| simp (maxSteps:=2000000) (disch:=(first | assumption | omega | decide)) only [vV,vY,v6,v4,vZ,vO,vN,vR,vQ,vP,vX,vW,vU,vT,vS,ut,yO,yN,bV,cG,jF,W.cap,za,List.replicate,id,↓reduceIte,if_true,Nat.reduceAdd,Nat.reduceSub,Nat.reduceLeDiff,Int.cast_ofNat_Int,Int.reduceBEq,Int.reduceSub,Int.reduceAdd,Int.reduceLT,Int.reduceLE,Int.reduceMul,Int.reduceNeg,reduceCtorEq,gC,$xs,*])
set_option bootstrap.genMatcherCode true in
local macro_rules | `(tactic| simp_arith only [$xs,*] at $h:ident)=>`(tactic| simp only [List.cons.injEq,W.d.injEq,PyData.int.injEq,PyData.bool.injEq,PyData.str.injEq,PyData.list.injEq,PyData.tuple.injEq,iE,mU,mm,ce,and_true,true_and,reduceCtorEq,$xs,*] at $h:ident)
section
variable{P:Bd}{w:BM}{K:CB}{mg:Str->Option AR}{base:Heap}{rl:Option Addr}
noncomputable def uf(ws:List W):Prop:=∃ns:List Int,ws=[.sc ns]/\ns.length<=63
theorem uf.eq(h:ns.length<=63):uf [.sc ns]=True:=propext ⟨fun _=>trivial,fun _=>⟨ns,rfl,h⟩⟩
theorem gh:FnScope ["_law_script"] ["_law_script"] (defScope (yw 19)):=⟨rfl,rfl,rfl,by decide +kernel,rfl,by decide +kernel,by decide +kernel⟩
theorem d__law_feed(Fn:FnIn K mg "_law_feed" (yw 19) ["_law_script"])(Z:Bz mg):DfnR P w K mg base "_law_feed" ["_law_script"] 1 uf:=by
 obtain⟨f,fd,hm,Ff,hb⟩:=Fn.ex;refine⟨f,fd,hm,Ff.kp,hb,?_⟩;refine Ff.ok gh (fun vs H Q E h=>?_) (fun cdv A outer s H vs Q E hr h=>?_)
 · obtain⟨F,ws,_,r,_,⟨ns,rfl,_⟩,_⟩:=h;have:=De r;simpa using this
 · obtain⟨F,ws,sm,r,ao,⟨ns,rfl,hl⟩,k⟩:=h;obtain⟨v,rfl,⟨a,rfl,hS⟩⟩:=pM r;refine⟨_,cO (iP (ox (bu (gt gG rfl Z.list_ (by rfl) (bu (iS j6 (pv 0) kL (g_ aq)) cH)) (bu aq (bu aq (bu aq cH)))))),?_⟩;refine⟨_,rfl,63,rfl,a,ns.map V.int,rfl,kf sm hS,fun q hq=>?_⟩;refine⟨q,_,rfl,.inl (.inl (.inl ak)),fun c hc=>?_⟩;refine⟨(by show 4<=sizeLine;decide),fun p hp=>?_⟩;rw[nN hl]at *;have hcq:c≠q:=fun z=>by rw[z,ak]at hc;cases hc
   have hpc:p≠c:=fun z=>by rw[z,ak]at hp;cases hp
   have hpq:p≠q:=fun z=>by rw[z,upd_ne hcq.symm,ak]at hp;cases hp
   have hp0:H p=none:=by
    have:=hp;rw[upd_ne hpc,upd_ne hpq]at this;exact this
   have hc0:H c=none:=by
    have:=hc;rw[upd_ne hcq]at this;exact this
   have fc:F c=none:=sm.free hc0;have fp:F p=none:=sm.free hp0;have fq:F q=none:=sm.free hq;have nF:∀b u,F b=some u->b≠c/\b≠p/\b≠q:=fun b u e=>⟨(fun z=>by subst z;rw[fc]at e;cases e),(fun z=>by subst z;rw[fp]at e;cases e),(fun z=>by subst z;rw[fq]at e;cases e)⟩;have nH:∀b u,H b=some u->b≠c/\b≠p/\b≠q:=fun b u e=>⟨ay e hc0,ay e hp0,ay e hq⟩;refine k p (upd F c (.lst (ns.map V.int))) _ hp0 ⟨fun b o e _=>?_,fun b o e=>?_,fun b o e=>?_,fun b o e=>?_,fun _ z=>by cases z⟩ (fun r e=>?_)
   · obtain⟨n1,n2,n3⟩:=nH b o e;rw[upd_ne n2,upd_ne n1,upd_ne n3];exact e
   · rw[upd_ne (nF b o e).1];exact e
   · by_cases hb:b=c
     · subst hb;rw[ak]at e;rw[upd_ne hpc.symm,ak];exact e
     · rw[upd_ne hb]at e;obtain⟨n1,n2,n3⟩:=nF b o e;rw[upd_ne n2,upd_ne n1,upd_ne n3];exact sm b o e
   · rw[upd_ne (nH b o e).1]
   · cases e;exact⟨by rw[upd_ne hpc];exact fp,⟨_,ak,c,ns,0,0,0,rfl,ak,hl,by decide,by decide,by decide⟩⟩
theorem dO.eq(m:Int)(hm:0<m)(hb:m<2^60):dO [.reel,.d (.int m)]=zH (anyM fun k:Int=>0<=k/\k<m) fun k=>VL.ret (.int k:AN):=by
 refine ae fun Q=>⟨?_,fun q_=>⟨m,rfl,hm,hb,fun k a b=>q_ k ⟨a,b⟩⟩⟩;rintro⟨m',e_,_,_,q_⟩;simp only[Bf,W.d.injEq,Dq,and_true,true_and]at e_;subst e_;exact fun k h=>q_ k h.1 h.2
theorem p__law_draw.eq(m:Int)(hm:0<m)(hb:m<2^60):dO [.reel,.d (.int m)]=zH (anyM fun k:Int=>0<=k/\k<m) fun k=>VL.ret (.int k:AN):=dO.eq m hm hb
theorem gi:FnScope ["_law_feed_here", "_law_many", "_law_found", "_law_cell", "_law_stirred"] ["_law_feed_here", "_law_many"] (defScope (yw 20)):=⟨rfl,rfl,rfl,by decide +kernel,rfl,by decide +kernel,by decide +kernel⟩
theorem d__law_draw(Fn:FnIn K mg "_law_draw" (yw 20) ["_law_feed_here", "_law_many"])(Z:Bz mg):Dfn P w K mg base rl "_law_draw" ["_law_feed_here", "_law_many"] 2 dO:=by
 have sc:=gi;refine Dfn.hand Fn sc dO.mono dO.len ?_;intro f cdv A outer s H E vs ws F Q Qv hr sm ra rw' hq fin;obtain⟨m,rfl,hm,hb,q⟩:=hq;have hm0:m≠0:=by omega
 have hmd:∀i:Int,io i m:=fun i=>io.of hm0 (by omega);obtain⟨v,u,rfl,⟨r,er,ev⟩,r2⟩:=qU rw';subst ev er;have eu:=aF r2;subst eu;obtain⟨fr,⟨o,ho,c,ns,a,l,t,rfl,hc,hl,ha,hl0,ht⟩⟩:=ra r rfl;have hcr:c≠r:=fun z=>by rw[z,fr]at hc;cases hc
 have hcH:H c=some (.lst (ns.map V.int)):=sm _ _ hc
 have out:∀(k a l t:Int),0<=k->k<m->0<=a->0<=l->0<=t->Qv (.int k) (upd H r (zB c a l t)):=fun k a l t h1 h2 h3 h4 h5 =>
  fin _ F _ (.int k) (Grow.turn sm ra ⟨c,ns,a,l,t,rfl,hc,hl,h3,h4,h5⟩) (.int k) (q k h1 h2)
 have g0:∀{a l t:Int},(upd H r (zB c a l t)) r=some (.lst [.ref c,.int a,.int l,.int t]):=ak;have gc:∀{a l t:Int},(upd H r (zB c a l t)) c=some (.lst (ns.map V.int)):=by intro a l t;rw[upd_ne hcr];exact hcH
 have i0:∀{x0 x1 x2 x3:V},L2.atI [x0,x1,x2,x3] 0=some x0:=rfl;have i1:∀{x0 x1 x2 x3:V},L2.atI [x0,x1,x2,x3] 1=some x1:=rfl;have i2:∀{x0 x1 x2 x3:V},L2.atI [x0,x1,x2,x3] 2=some x2:=rfl;have i3:∀{x0 x1 x2 x3:V},L2.atI [x0,x1,x2,x3] 3=some x3:=rfl;have fm:∀i:Int,0<=i.fmod m/\i.fmod m<m:=fun i=>⟨CG _ hm,C8 _ hm⟩
 refine⟨_,(aX (gq (ca eJ (bS aV (pv 0) aq (fun _ _=>rfl)) aq) (iR (pv 0) aq dD))
  (aX (iO Bv (ot (c8 u9 (bS aV (pv 0) aq (fun _ _=>rfl)) aq (bC _)) (kE (c8 kS (bS aV (pv 0) aq (fun _ _=>rfl)) (cz bQ (by rfl) Z.len_ (by rfl) (bu (bS aV (pv 0) aq (fun _ _=>rfl)) cH)) (bC _)))).pt (aX (mG (c8 u8 (cz fP (by rfl) Z.abs_ (by rfl) (bu (bS aV (bS aV (pv 0) aq (fun _ _=>rfl)) (bS aV (pv 0) aq (fun _ _=>rfl)) (fun _ _=>rfl)) cH)) (ca oA aq aq) (bC _)) (cO (gq (cz fP (by rfl) Z.abs_ (by rfl) (bu (bS aV (bS aV (pv 0) aq (fun _ _=>rfl)) (bS aV (pv 0) aq (fun _ _=>rfl)) (fun _ _=>rfl)) cH)) (iR (pv 0) aq dD))) fy)
  (cO (gq (ca eJ (bS aV (pv 0) aq (fun _ _=>rfl)) aq) (iR (pv 0) aq dD)))))
  (aX (mG (c8 kU (bS aV (pv 0) aq (fun _ _=>rfl)) aq (bC _)) (aX (cT (i:=2) sc.nd rfl (CY rfl) (ca cr (bS aV (pv 0) aq (fun _ _=>rfl)) (pv 1)))
  (aX (gq (ca iV (bS aV (pv 0) aq (fun _ _=>rfl)) (pv 1)) (iR (pv 0) aq dD))
  (cO (iP (pv 2))))) fy)
  (aX (cT (i:=3) sc.nd rfl (CY rfl) aq)
  (aX (mG (c8 kU (cz bQ (by rfl) Z.len_ (by rfl) (bu (bS aV (pv 0) aq (fun _ _=>rfl)) cH)) aq (bC _)) (cO (cT (i:=3) sc.nd rfl (CY rfl) (bS aV (bS aV (pv 0) aq (fun _ _=>rfl)) (ca cr (bS aV (pv 0) aq (fun _ _=>rfl)) (cz bQ (by rfl) Z.len_ (by rfl) (bu (bS aV (pv 0) aq (fun _ _=>rfl)) cH))) (fun _ _=>rfl)))) fy)
  (aX (cT (i:=4) sc.nd rfl (CY rfl) (ca cr (ca eJ (ca eJ (ca dR (ca cr (pv 3) aq) aq) (ca dR aq (bS aV (pv 0) aq (fun _ _=>rfl)))) aq) aq))
  (aX (cT (i:=4) sc.nd rfl (CY rfl) (ca cr (ca dR (pv 4) (ca eJ (pv 4) aq)) aq))
  (cO (iP (ca cr (ca cr (ca dR (pv 4) aq) aq) (pv 1))))))))))),?_⟩
 refine⟨_,rfl,cI ho i1 ⟨a,1,rfl,rfl,?_⟩⟩;refine⟨_,rfl,jB ho rfl ?_⟩;show wI _ _ _ _ (upd H r (zB c (a+1) l t));refine⟨fun n σ' H'=>∃l t,σ'=[some (.ref r),some (.int m),none,none,none]/\H'=upd H r (zB c (a+1) l t)/\0<=l/\0<=t/\n=ns.length-t.toNat,⟨_,l,t,rfl,rfl,hl0,ht,rfl⟩,?_⟩;rintro n σ' H' ⟨l,t,rfl,rfl,hl0,ht,rfl⟩;refine⟨_,rfl,cI g0 i2 ⟨rfl,_,rfl,?_⟩⟩;by_cases hz:l=0
 · subst hz;refine zg (by simp) ?_;refine⟨_,rfl,cI g0 i3 ⟨_,rfl,cI g0 i0 ⟨c,_,rfl,.inl (.inl (.inl gc)),⟨t,_,rfl,rfl,_,rfl,?_⟩⟩⟩⟩;by_cases hlt:t<((ns.map V.int).length:Int)
   · refine zg (decide_eq_true hlt) ?_;have hlt':t.toNat<ns.length:=by rw[AV]at hlt;omega
     have at_:L2.atI (ns.map V.int) t=some (.int ns[t.toNat]):=fR ht hlt'
     refine⟨fun σ' H'=>∃l t',σ'=[some (.ref r),some (.int m),none,none,none]/\H'=upd H r (zB c (a+1) l t')/\0<=l/\0<=t'/\ns.length-t'.toNat<ns.length-t.toNat,fun σ' H' ⟨l,t',h1,h2,h3,h4,h5⟩=>⟨_,h5,l,t',h1,h2,h3,h4,rfl⟩,?_⟩;refine⟨_,rfl,cI g0 i0 ⟨_,rfl,cI g0 i3 (cI gc at_ ⟨_,rfl,10,18,rfl,rfl,⟨by decide,by decide,by decide⟩,⟨_,_,rfl,rfl,_,rfl,?_⟩⟩)⟩⟩;by_cases hbig:(10:Int)^GD 18<=(if ns[t.toNat]<0 then -ns[t.toNat]else ns[t.toNat])
     · refine zg (decide_eq_true hbig) ?_;refine⟨_,rfl,cI g0 i0 ⟨_,rfl,cI g0 i3 (cI gc at_ ⟨_,rfl,?_⟩)⟩⟩;refine⟨_,rfl,jB g0 rfl ?_⟩;rw[dJ];refine⟨_,rfl,cI g0 i3 ⟨_,_,rfl,rfl,?_⟩⟩;refine⟨_,rfl,jB g0 rfl ?_⟩;rw[dJ];exact⟨_,_,rfl,rfl,by split<;>omega,by omega,by omega⟩
     · refine zi (decide_eq_false hbig) ?_;refine⟨_,rfl,cI g0 i3 ⟨_,_,rfl,rfl,?_⟩⟩;refine⟨_,rfl,jB g0 rfl ?_⟩;rw[dJ];exact⟨_,_,rfl,rfl,by omega,by omega,by omega⟩
   · refine zi (decide_eq_false hlt) ?_;refine⟨_,rfl,cI g0 i2 ⟨_,_,rfl,rfl,_,rfl,?_⟩⟩;by_cases hp:0<(0:Int)
     · refine zg (decide_eq_true hp) ?_;refine⟨_,rfl,cI g0 i2 ⟨_,rfl,_,_,rfl,rfl,hm0,?_⟩⟩;refine⟨_,rfl,cI g0 i2 ⟨_,rfl,_,_,rfl,rfl,hmd _,?_⟩⟩;refine⟨_,rfl,jB g0 rfl ?_⟩;rw[dJ];refine⟨_,rfl,?_⟩;exact out _ _ _ _ (fm _).1 (fm _).2 (by omega) (Int.fdiv_nonneg (by omega) (by omega)) ht
     · refine zi (decide_eq_false hp) ?_;refine⟨_,rfl,cI g0 i0 ⟨c,_,rfl,.inl (.inl (.inl gc)),⟨_,_,rfl,rfl,_,rfl,?_⟩⟩⟩;by_cases hn:(0:Int)<((ns.map V.int).length:Int)
       · refine zg (decide_eq_true hn) ?_;have hnn:(0:Int)<(ns.length:Int):=by rw[AV]at hn;exact hn
         have b1:=CG (a+1) hnn;have b2:=C8 (a+1) hnn;have hk:((a+1).fmod (ns.length:Int)).toNat<ns.length:=by omega
         have at2:L2.atI (ns.map V.int) ((a+1).fmod ((ns.map V.int).length:Int))=some (.int ns[((a+1).fmod (ns.length:Int)).toNat]):=by simpa only[AV]using fR b1 hk
         refine⟨_,rfl,cI g0 i0 ⟨_,rfl,cI g0 i1 ⟨_,rfl,cI g0 i0 ⟨c,_,rfl,.inl (.inl (.inl gc)),_,_,rfl,rfl,by omega,cI gc at2 ?_⟩⟩⟩⟩;refine⟨_,rfl,_,_,rfl,rfl,(show(2147483647:Int)≠0 by decide),_,_,rfl,rfl,bp.rt (by decide),_,rfl,cI g0 i1 ⟨_,_,rfl,rfl,bp.lt (by decide),_,_,rfl,rfl,_,_,rfl,rfl,_,_,rfl,rfl,(show(2147483629:Int)≠0 by decide),?_⟩⟩;refine⟨_,rfl,_,rfl,_,_,rfl,rfl,_,_,rfl,rfl,bp.lt (cy (by decide) (by decide)),_,_,rfl,rfl,(show(2147483587:Int)≠0 by decide),?_⟩;refine⟨_,rfl,_,_,rfl,rfl,bp.rt (by decide),_,_,rfl,rfl,(show(2147483563:Int)≠0 by decide),_,rfl,_,_,rfl,rfl,hm0,?_⟩;exact out _ _ _ _ (fm _).1 (fm _).2 (by omega) (by omega) ht
       · refine zi (decide_eq_false hn) ?_;refine⟨_,rfl,_,_,rfl,rfl,(show(2147483647:Int)≠0 by decide),_,_,rfl,rfl,bp.rt (by decide),_,rfl,cI g0 i1 ⟨_,_,rfl,rfl,bp.lt (by decide),_,_,rfl,rfl,_,_,rfl,rfl,_,_,rfl,rfl,(show(2147483629:Int)≠0 by decide),?_⟩⟩;refine⟨_,rfl,_,rfl,_,_,rfl,rfl,_,_,rfl,rfl,bp.lt (cy (by decide) (by decide)),_,_,rfl,rfl,(show(2147483587:Int)≠0 by decide),?_⟩;refine⟨_,rfl,_,_,rfl,rfl,bp.rt (by decide),_,_,rfl,rfl,(show(2147483563:Int)≠0 by decide),_,rfl,_,_,rfl,rfl,hm0,?_⟩;exact out _ _ _ _ (fm _).1 (fm _).2 (by omega) (by omega) ht
 · refine zi (uv hz) ?_;refine⟨_,rfl,cI g0 i2 ⟨_,_,rfl,rfl,_,rfl,?_⟩⟩;by_cases hp:0<l
   · refine zg (decide_eq_true hp) ?_;refine⟨_,rfl,cI g0 i2 ⟨_,rfl,_,_,rfl,rfl,hm0,?_⟩⟩;refine⟨_,rfl,cI g0 i2 ⟨_,rfl,_,_,rfl,rfl,hmd _,?_⟩⟩;refine⟨_,rfl,jB g0 rfl ?_⟩;rw[dJ];refine⟨_,rfl,?_⟩;exact out _ _ _ _ (fm _).1 (fm _).2 (by omega) (Int.fdiv_nonneg (by omega) (by omega)) ht
   · refine zi (decide_eq_false hp) ?_;refine⟨_,rfl,cI g0 i0 ⟨c,_,rfl,.inl (.inl (.inl gc)),⟨_,_,rfl,rfl,_,rfl,?_⟩⟩⟩;by_cases hn:(0:Int)<((ns.map V.int).length:Int)
     · refine zg (decide_eq_true hn) ?_;have hnn:(0:Int)<(ns.length:Int):=by rw[AV]at hn;exact hn
       have b1:=CG (a+1) hnn;have b2:=C8 (a+1) hnn;have hk:((a+1).fmod (ns.length:Int)).toNat<ns.length:=by omega
       have at2:L2.atI (ns.map V.int) ((a+1).fmod ((ns.map V.int).length:Int))=some (.int ns[((a+1).fmod (ns.length:Int)).toNat]):=by simpa only[AV]using fR b1 hk
       refine⟨_,rfl,cI g0 i0 ⟨_,rfl,cI g0 i1 ⟨_,rfl,cI g0 i0 ⟨c,_,rfl,.inl (.inl (.inl gc)),_,_,rfl,rfl,by omega,cI gc at2 ?_⟩⟩⟩⟩;refine⟨_,rfl,_,_,rfl,rfl,(show(2147483647:Int)≠0 by decide),_,_,rfl,rfl,bp.rt (by decide),_,rfl,cI g0 i1 ⟨_,_,rfl,rfl,bp.lt (by decide),_,_,rfl,rfl,_,_,rfl,rfl,_,_,rfl,rfl,(show(2147483629:Int)≠0 by decide),?_⟩⟩;refine⟨_,rfl,_,rfl,_,_,rfl,rfl,_,_,rfl,rfl,bp.lt (cy (by decide) (by decide)),_,_,rfl,rfl,(show(2147483587:Int)≠0 by decide),?_⟩;refine⟨_,rfl,_,_,rfl,rfl,bp.rt (by decide),_,_,rfl,rfl,(show(2147483563:Int)≠0 by decide),_,rfl,_,_,rfl,rfl,hm0,?_⟩;exact out _ _ _ _ (fm _).1 (fm _).2 (by omega) (by omega) ht
     · refine zi (decide_eq_false hn) ?_;refine⟨_,rfl,_,_,rfl,rfl,(show(2147483647:Int)≠0 by decide),_,_,rfl,rfl,bp.rt (by decide),_,rfl,cI g0 i1 ⟨_,_,rfl,rfl,bp.lt (by decide),_,_,rfl,rfl,_,_,rfl,rfl,_,_,rfl,rfl,(show(2147483629:Int)≠0 by decide),?_⟩⟩;refine⟨_,rfl,_,rfl,_,_,rfl,rfl,_,_,rfl,rfl,bp.lt (cy (by decide) (by decide)),_,_,rfl,rfl,(show(2147483587:Int)≠0 by decide),?_⟩;refine⟨_,rfl,_,_,rfl,rfl,bp.rt (by decide),_,_,rfl,rfl,(show(2147483563:Int)≠0 by decide),_,rfl,_,_,rfl,rfl,hm0,?_⟩;exact out _ _ _ _ (fm _).1 (fm _).2 (by omega) (by omega) ht
theorem cX{a b:List Int}:a.map BA=b.map BA↔a=b:=ce
theorem fK{a b:List Int}:exD a=exD b↔a=b:=by unfold exD;rw[Bt];exact cX
theorem qo(p:List Int)(i:Int):itemAt (exD p) i=(L2.atI p i).map .int:=fS _ _ _
theorem vG(ex:IsEx b p){a:Int}(h0:0<=a)(h:a<b):L2.atI p a=some (zC p a):=by
 obtain⟨e,_⟩:=lx ex (show a.toNat<b.toNat by omega);obtain⟨n,rfl⟩:=Br h0;exact df e
theorem sM{β:Type}{c:Prop}[Decidable c]{x:α}{k:α->Mo β}{Q:β->Prop}(h:c)(z:k x Q):av (if c then some x else none) k Q:=by rw[if_pos h];exact z
theorem cA:∀{bs:List Int}{ds:List AN},BC (fun(b:Int)(x:AN)=>∃p,IsEx b p/\x=B3 [.int b,exD p]) bs ds->BC (fun x d=>∃b p,x=BA b/\d=B3 [.int b,exD p]/\IsEx b p) (bs.map BA) ds
 | _,_,.nil=>.nil
 | _,_,.cons ⟨p,h,e⟩ r=>.cons ⟨_,p,rfl,e,h⟩ (cA r)
theorem xH{a c d:Int}:pr a b=pr c d↔a=c/\b=d:=by simp[pr]
theorem iG{a b:List (Int×List Int)}:rowD a=rowD b↔a=b:=by
 unfold rowD;rw[Bt];refine bc fun x y=>?_;simp only[Bt,Bf,Dq,fK,and_true];exact⟨fun⟨a,b⟩=>Prod.ext a b,fun h=>by rw[h];exact⟨rfl,rfl⟩⟩
theorem mo{a b:List (Int×Int)}:yL a=yL b↔a=b:=by
 unfold yL;rw[Bt];refine bc fun x y=>?_;simp only[pr,Bt,Bf,Dq,and_true];exact⟨fun⟨a,b⟩=>Prod.ext a b,fun h=>by rw[h];exact⟨rfl,rfl⟩⟩
theorem bh(a:List (Int×List Int)):du (rowD a)=some (a.map fun r=>.tuple [.int r.1,exD r.2]):=rfl
theorem bJ(a:List (Int×Int)):du (yL a)=some (a.map fun r=>pr r.1 r.2):=rfl
theorem bo(a:List (Int×List Int)):bV (rowD a)=bV (.tuple []):=rfl
theorem bL(a:List (Int×Int)):bV (yL a)=bV (.tuple []):=rfl
theorem bm(a:List (Int×List Int)):mW (rowD a)=some a.length:=by show some (List.map _ a).length=_;rw[AV]
theorem bK(a:List (Int×Int)):mW (yL a)=some a.length:=by show some (List.map _ a).length=_;rw[AV]
theorem bg(a:List (Int×List Int)):tupD (rowD a)=some (a.map fun r=>.tuple [.int r.1,exD r.2]):=rfl
theorem bH(a:List (Int×Int)):tupD (yL a)=some (a.map fun r=>pr r.1 r.2):=rfl
theorem bI(a b:Int):tupD (pr a b)=some [.int a,.int b]:=rfl
noncomputable def aC:List W->(AN->Prop)->Prop:=fun ws Q=>∃(i j:Int),ws=[.d (.int i),.d (.int j)]/\(True)/\Q (.int (BI i j:Nat))
theorem aC.mono:∀ws (Q Q':AN->Prop),(∀d,Q d->Q' d)->aC ws Q->aC ws Q':=fun _ _ _ h_=>Bg fun _=>Bg fun _=>A8 (A8 (h_ _))
theorem aC.len:∀ws (Q:AN->Prop),aC ws Q->ws.length=2:=fun _ _ h_=>by obtain⟨_,_,e_,_⟩:=h_;subst e_;rfl
theorem aC.eq(i j:Int)  : aC [.d (.int i),.d (.int j)]=VL.ret (.int (BI i j:Nat):AN):=by
 refine ae fun Q=>⟨?_,fun q_=>⟨i,j,rfl,trivial,q_⟩⟩;rintro⟨i',j',e_,_,q_⟩;simp_arith only[and_true]at e_;obtain⟨rfl,rfl⟩:=e_;exact q_
theorem c7:FnScope ["one", "other"] ["one", "other"] (defScope (yw 5)):=⟨rfl,rfl,rfl,by decide +kernel,rfl,by decide +kernel,by decide +kernel⟩
theorem d_common_divisor(Fn:FnIn K mg "common_divisor" (yw 5) ["one", "other"])(Z:Bz mg)    : Dfn P w K mg base rl "common_divisor" ["one", "other"] 1 aC:=by
 have sc:=c7
 refine Dfn.of Fn sc (aC.mono) (aC.len) (fun cdv A outer s H E hr=>(ah (dG [] Bv (cE (sO hr.units) iA (bC _) (vn 1) ac) (au (qZ 0 1 rfl sc.nd (aa (vn 1) (aa (v_mod (vn 0) (vn 1)) ab)))))
  (au (aO (uz Z.abs_ (aa (vn 0) ab)))))) ?_
 rintro ws Q ⟨i,j,rfl,_,hQ⟩;refine aJ ?_;simp_arith only[af];refine eP (σ:=Int×Int) (fun s=>[some (.d (.int s.1)),some (.d (.int s.2))]) (fun s=>!(s.2==0)) (fun s=>(s.2,s.1.fmod s.2)) (fun s=>s.2.natAbs) (fun s=>BI s.1 s.2=BI i j) (i,j) rfl rfl ?_ ?_ ?_
 · intro s _;simp_arith only[af]
 · intro s e c;have hc:s.2≠0:=by simpa using c
   refine⟨by rw[nk];exact e,dW hc,_,?_,rfl⟩;simp_arith only[ai,af]
 · intro s e c;have hc:s.2=0:=by simpa using c
   simp_arith only[af];rw[hc,Int.gcd_zero_right]at e;refine a_ ?_;have:(if s.1<0 then -s.1 else s.1)=((BI i j:Nat):Int):=by rw[<- e];split<;>omega
   rw[this];exact hQ
noncomputable def ba:List W->(AN->Prop)->Prop:=fun ws Q=>∃(a b:Int),ws=[.d (.int a),.d (.int b)]/\((0<b)/\(b.natAbs<2^8000))/\Q (fr (qd a b))
theorem ba.mono:∀ws (Q Q':AN->Prop),(∀d,Q d->Q' d)->ba ws Q->ba ws Q':=fun _ _ _ h_=>Bg fun _=>Bg fun _=>A8 (A8 (h_ _))
theorem ba.len:∀ws (Q:AN->Prop),ba ws Q->ws.length=2:=fun _ _ h_=>by obtain⟨_,_,e_,_⟩:=h_;subst e_;rfl
theorem ba.eq(a b:Int)(hb:0<b)(hz:b.natAbs<2^8000):ba [.d (.int a),.d (.int b)]=VL.ret (fr (qd a b):AN):=by
 refine ae fun Q=>⟨?_,fun q_=>⟨a,b,rfl,⟨hb,hz⟩,q_⟩⟩;rintro⟨a',b',e_,_,q_⟩;simp_arith only[and_true]at e_;obtain⟨rfl,rfl⟩:=e_;exact q_
theorem gY:FnScope ["top", "bottom", "divisor"] ["top", "bottom"] (defScope (yw 6)):=⟨rfl,rfl,rfl,by decide +kernel,rfl,by decide +kernel,by decide +kernel⟩
theorem d_fraction(Fn:FnIn K mg "fraction" (yw 6) ["top", "bottom"])(Z:Bz mg)(d_common_divisor:∀rl,Dfn P w K mg base rl "common_divisor" ["one", "other"] 1 aC)   : Dfn P w K mg base rl "fraction" ["top", "bottom"] 2 ba:=by
 have sc:=gY
 refine Dfn.of Fn sc (ba.mono) (ba.len) (fun cdv A outer s H E hr=>(ah (jm (cE (kW hr.units) iA (bC _) (vn 1) ac) (au lY) eA)
  (ah (aj 2 sc.nd (am (d_common_divisor _) (hr.mono (by decide)) (aa (vn 0) (aa (vn 1) ab))))
  (ah (jm (cE kS l4 (bC _) (vn 1) ac) (au (aj 2 sc.nd (uy (vn 2)))) eA)
  (au (aO (bO (aa (v_div (vn 0) (vn 2)) (aa (v_div (vn 1) (vn 2)) ab))))))))) ?_
 rintro ws Q ⟨a,b,rfl,⟨hb,hz⟩,hQ⟩;refine aJ ?_;have c1:io a (BI a b:Int):=ly hb hz _;have c2:io b (BI a b:Int):=ly hb hz _;have h0:(b==0)=false:=by simp;omega
 have h1:decide (b<0)=false:=by simp;omega
 simp_arith only[ai,af,aC.eq,h0,h1];rw[sW hb];exact a_ hQ
noncomputable def bv:List W->(AN->Prop)->Prop:=fun ws Q=>∃(q r:Rat),ws=[.d (fr q),.d (fr r)]/\((yU 2000 q)/\(yU 2000 r))/\Q (.bool (decide (q<r)))
theorem bv.mono:∀ws (Q Q':AN->Prop),(∀d,Q d->Q' d)->bv ws Q->bv ws Q':=fun _ _ _ h_=>Bg fun _=>Bg fun _=>A8 (A8 (h_ _))
theorem bv.len:∀ws (Q:AN->Prop),bv ws Q->ws.length=2:=fun _ _ h_=>by obtain⟨_,_,e_,_⟩:=h_;subst e_;rfl
theorem bv.eq(q r:Rat)(h1:yU 2000 q)(h2:yU 2000 r):bv [.d (fr q),.d (fr r)]=VL.ret (.bool (decide (q<r)):AN):=by
 refine ae fun Q=>⟨?_,fun q_=>⟨q,r,rfl,⟨h1,h2⟩,q_⟩⟩;rintro⟨q',r',e_,_,q_⟩;simp_arith only[gE,cK,cN,bR,bP,cY]at e_;obtain⟨rfl,rfl⟩:=e_;exact q_
theorem gX:FnScope ["one", "other"] ["one", "other"] (defScope (yw 7)):=⟨rfl,rfl,rfl,by decide +kernel,rfl,by decide +kernel,by decide +kernel⟩
theorem d_is_below(Fn:FnIn K mg "is_below" (yw 7) ["one", "other"])(Z:Bz mg)    : Dfn P w K mg base rl "is_below" ["one", "other"] 1 bv:=by
 have sc:=gX;refine Dfn.of Fn sc (bv.mono) (bv.len) (fun cdv A outer s H E hr=>(au (aO (l9 kS l4 (bC _) (v_mul (cF (vn 0) ac) (cF (vn 1) ac)) (v_mul (cF (vn 1) ac) (cF (vn 0) ac)))))) ?_;rintro ws Q ⟨q,r,rfl,⟨h1,h2⟩,hQ⟩;refine aJ ?_;have m1:bp q.num r.den:=.bb h1.bn h2.bd;have m2:bp r.num q.den:=.bb h2.bn h1.bd;simp_arith only[ai,af,AL,vB];exact a_ hQ
noncomputable def cc:List W->(AN->Prop)->Prop:=fun ws Q=>∃(q r:Rat),ws=[.d (fr q),.d (fr r)]/\((yU 2000 q)/\(yU 2000 r))/\Q (fr (mn q r))
theorem cc.mono:∀ws (Q Q':AN->Prop),(∀d,Q d->Q' d)->cc ws Q->cc ws Q':=fun _ _ _ h_=>Bg fun _=>Bg fun _=>A8 (A8 (h_ _))
theorem cc.len:∀ws (Q:AN->Prop),cc ws Q->ws.length=2:=fun _ _ h_=>by obtain⟨_,_,e_,_⟩:=h_;subst e_;rfl
theorem cc.eq(q r:Rat)(h1:yU 2000 q)(h2:yU 2000 r):cc [.d (fr q),.d (fr r)]=VL.ret (fr (mn q r):AN):=by
 refine ae fun Q=>⟨?_,fun q_=>⟨q,r,rfl,⟨h1,h2⟩,q_⟩⟩;rintro⟨q',r',e_,_,q_⟩;simp_arith only[gE,cK,cN,bR,bP,cY]at e_;obtain⟨rfl,rfl⟩:=e_;exact q_
theorem kd:FnScope ["one", "other"] ["one", "other"] (defScope (yw 8)):=⟨rfl,rfl,rfl,by decide +kernel,rfl,by decide +kernel,by decide +kernel⟩
theorem d_lesser(Fn:FnIn K mg "lesser" (yw 8) ["one", "other"])(Z:Bz mg)(d_is_below:∀rl,Dfn P w K mg base rl "is_below" ["one", "other"] 1 bv)   : Dfn P w K mg base rl "lesser" ["one", "other"] 2 cc:=by
 have sc:=kd;refine Dfn.of Fn sc (cc.mono) (cc.len) (fun cdv A outer s H E hr=>(au (aO (jS (fV (am (d_is_below _) (hr.mono (by decide)) (aa (vn 0) (aa (vn 1) ab)))) (vn 0) (vn 1))))) ?_;rintro ws Q ⟨q,r,rfl,⟨h1,h2⟩,hQ⟩;refine aJ ?_;simp_arith only[ai,af,bv.eq,AL];unfold mn at hQ;refine a_ ?_;by_cases h:q<r<;>simp[h]at hQ ⊢ <;> exact hQ
noncomputable def cP:List W->(AN->Prop)->Prop:=fun ws Q=>∃(b k:Int),ws=[.d (.int b),.d (.int k)]/\((2<=b)/\(b<=16)/\(0<=k)/\(k<=4000))/\Q (.int (b^k.toNat))
theorem cP.mono:∀ws (Q Q':AN->Prop),(∀d,Q d->Q' d)->cP ws Q->cP ws Q':=fun _ _ _ h_=>Bg fun _=>Bg fun _=>A8 (A8 (h_ _))
theorem cP.len:∀ws (Q:AN->Prop),cP ws Q->ws.length=2:=fun _ _ h_=>by obtain⟨_,_,e_,_⟩:=h_;subst e_;rfl
theorem cP.eq(b k:Int)(h2:2<=b)(h16:b<=16)(h0:0<=k)(hk:k<=4000):cP [.d (.int b),.d (.int k)]=VL.ret (.int (b^k.toNat):AN):=by
 refine ae fun Q=>⟨?_,fun q_=>⟨b,k,rfl,⟨h2,h16,h0,hk⟩,q_⟩⟩;rintro⟨b',k',e_,_,q_⟩;simp_arith only[and_true]at e_;obtain⟨rfl,rfl⟩:=e_;exact q_
theorem mB:FnScope ["base", "exponent", "product", "step"] ["base", "exponent"] (defScope (yw 10)):=⟨rfl,rfl,rfl,by decide +kernel,rfl,by decide +kernel,by decide +kernel⟩
theorem d_power(Fn:FnIn K mg "power" (yw 10) ["base", "exponent"])(Z:Bz mg)    : Dfn P w K mg base rl "power" ["base", "exponent"] 1 cP:=by
 have sc:=mB
 refine Dfn.of Fn sc (cP.mono) (cP.len) (fun cdv A outer s H E hr=>(ah (aj 2 sc.nd ac)
  (ah (bA [3] Bv rfl (bF Z.range_ (aa (vn 1) ab)) (al 3 sc.nd) (au (iw 2 sc.nd hJ (vn 0))))
  (au (aO (vn 2)))))) ?_
 rintro ws Q ⟨b,k,rfl,⟨h2,h16,h0,hk⟩,hQ⟩;refine aJ ?_;simp_arith only[ai,af];refine jd (fun i=>[some (.d (.int b)),some (.d (.int k)),some (.d (.int (b^i))),none]) (by rw[BV]) ?_ ?_
 · intro i hi;have c:bp (b^i) b:=.rt (by omega);refine⟨_,by(simp_arith only[ai,af])<;>rfl,?_⟩;simp_arith only[af,Bj]
 · simp_arith only[af];exact a_ hQ
noncomputable def aR:List W->(AN->Prop)->Prop:=fun ws Q=>∃(b n:Int),ws=[.d (.int b),.d (.int n)]/\((2<=b)/\(b<=16)/\(0<=n)/\(n.toNat<2^4000))/\Q (.list ((zE b n).map .int))
theorem aR.mono:∀ws (Q Q':AN->Prop),(∀d,Q d->Q' d)->aR ws Q->aR ws Q':=fun _ _ _ h_=>Bg fun _=>Bg fun _=>A8 (A8 (h_ _))
theorem aR.len:∀ws (Q:AN->Prop),aR ws Q->ws.length=2:=fun _ _ h_=>by obtain⟨_,_,e_,_⟩:=h_;subst e_;rfl
theorem aR.eq(b n:Int)(h2:2<=b)(h16:b<=16)(h0:0<=n)(hn:n.toNat<2^4000):aR [.d (.int b),.d (.int n)]=VL.ret (.list ((zE b n).map .int):AN):=by
 refine ae fun Q=>⟨?_,fun q_=>⟨b,n,rfl,⟨h2,h16,h0,hn⟩,q_⟩⟩;rintro⟨b',n',e_,_,q_⟩;simp_arith only[gE,cK,cN,bR,bP,cY,fK,cX]at e_;obtain⟨rfl,rfl⟩:=e_;exact q_
theorem eY:FnScope ["base", "n", "figures", "figure"] ["base", "n"] (defScope (yw 11)):=⟨rfl,rfl,rfl,by decide +kernel,rfl,by decide +kernel,by decide +kernel⟩
theorem d_figures_of(Fn:FnIn K mg "figures_of" (yw 11) ["base", "n"])(Z:Bz mg)    : Dfn P w K mg base rl "figures_of" ["base", "n"] 1 aR:=by
 have sc:=eY
 refine Dfn.of Fn sc (aR.mono) (aR.len) (fun cdv A outer s H E hr=>(ah (eh 2 sc.nd (bG ab))
  (ah (dG [3] Bv (cE kU o6 (bC _) (vn 1) ac) (ah (nZ (l7 Z.divmod_ (aa (vn 1) (aa (vn 0) ab))) (dh (n:=2) rfl (aH (al 1 sc.nd) (aH (al 3 sc.nd) cn))))
  (au (n6 2 (aa (vn 3) ab)))))
  (au (jL 2 (aO (vn 2))))))) ?_
 rintro ws Q ⟨b,n,rfl,⟨h2,h16,h0,hn⟩,hQ⟩;refine aJ ?_;have sz:=BQ;simp_arith only[ai,af];refine eP (σ:=Int×List Int) (fun s=>[some (.d (.int b)),some (.d (.int s.1)),some (.ml (s.2.map .int)),none]) (fun s=>decide (0<s.1)) (fun s=>(s.1 / b,s.2++[s.1%b])) (fun s=>s.1.toNat) (fun s=>0<=s.1/\s.2++zE b s.1=zE b n) (n,[]) rfl ⟨h0,rfl⟩ ?_ ?_ ?_
 · intro s _;simp_arith only[af]
 · rintro⟨m,f⟩ ⟨i0,e⟩ c;have hm:0<m:=by simpa using c
   have e:f++zE b m=zE b n:=e
   have hl:f.length<sizeLine:=by
    have h1:=congrArg Gx e;rw[Be]at h1
    have h3:(zE b n).length<=4000:=lh h2 h0 (by
     have e1:n<2^4000:=by
      have:((n.toNat:Nat):Int)<((2^4000:Nat):Int):=by exact_mod_cast hn
      rw[B8 h0]at this
      exact_mod_cast this
     exact DL e1 (bT h2 4000))
    omega
   have b1:b<1073741824:=by omega
   have b0:0<b:=by omega
   refine⟨⟨DN i0 (by omega),?_⟩,?_,_,by(simp_arith only[ai,af])<;>rfl,?_⟩
   · rw[<- e,lE h2 hm];simp
   · have:=Int.ediv_lt_self_of_pos_of_ne_one hm (show b≠1 by omega);have h9:0<=m / b:=DN i0 (by omega);show(m / b).toNat<m.toNat;omega
   · simp_arith only[af,Bw]
 · rintro⟨m, f⟩ ⟨i0, e⟩ c
   have hm : m = 0 := by have:¬0<m:=by simpa using c
                         omega
   subst hm;rw[qJ,Co]at e;have e:f=zE b n:=e;subst e;simp_arith only[ai,af];exact a_ hQ
noncomputable def aY:List W->(AN->Prop)->Prop:=fun ws Q=>∃(b:Int)(xs:List Int),ws=[.d (.int b),.d (.list (xs.map .int))]/\((0<=b)/\(b<=16))/\Q (.int (nv b xs))
theorem aY.mono:∀ws (Q Q':AN->Prop),(∀d,Q d->Q' d)->aY ws Q->aY ws Q':=fun _ _ _ h_=>Bg fun _=>Bg fun _=>A8 (A8 (h_ _))
theorem aY.len:∀ws (Q:AN->Prop),aY ws Q->ws.length=2:=fun _ _ h_=>by obtain⟨_,_,e_,_⟩:=h_;subst e_;rfl
theorem aY.eq(b:Int)(xs:List Int)(h0:0<=b)(h16:b<=16):aY [.d (.int b),.d (.list (xs.map .int))]=VL.ret (.int (nv b xs):AN):=by
 refine ae fun Q=>⟨?_,fun q_=>⟨b,xs,rfl,⟨h0,h16⟩,q_⟩⟩;rintro⟨b',xs',e_,_,q_⟩;simp_arith only[gE,cK,cN,bR,bP,cY,fK,cX]at e_;obtain⟨rfl,rfl⟩:=e_;exact q_
theorem gg:FnScope ["base", "figures", "n", "figure"] ["base", "figures"] (defScope (yw 12)):=⟨rfl,rfl,rfl,by decide +kernel,rfl,by decide +kernel,by decide +kernel⟩
theorem d_number_of(Fn:FnIn K mg "number_of" (yw 12) ["base", "figures"])(Z:Bz mg)    : Dfn P w K mg base rl "number_of" ["base", "figures"] 1 aY:=by
 have sc:=gg
 refine Dfn.of Fn sc (aY.mono) (aY.len) (fun cdv A outer s H E hr=>(ah (aj 2 sc.nd ac)
  (ah (bA [3] Bv rfl (fU Z.reversed_ (aa (vn 1) ab)) (al 3 sc.nd) (au (aj 2 sc.nd (v_add (v_mul (vn 2) (vn 0)) (vn 3)))))
  (au (aO (vn 2)))))) ?_
 rintro ws Q ⟨b,xs,rfl,⟨h0,h16⟩,hQ⟩;refine aJ ?_;have c:∀i,bp i b:=fun i=>.rt (by omega);simp_arith only[ai,af,sU,sQ];refine qD (xs:=xs.reverse) (enc:=BA) (fun t:Int=>[some (.d (.int b)),some (.d (.list (xs.map .int))),some (.d (.int t)),none]) (fun t a=>t*b+a) 0 (fun _=>True) rfl (by rw[List.map_reverse]) trivial ?_ ?_
 · intro x mx t _;refine⟨trivial,_,by(simp_arith only[ai,af,c])<;>rfl,?_⟩;simp_arith only[af]
 · have e:xs.reverse.foldl (fun t a=>t*b+a) 0=nv b xs:=jX b xs;rw[e];simp_arith only[af];exact a_ hQ
noncomputable def cb:List W->(AN->Prop)->Prop:=fun ws Q=>∃(b:Int)(p:List Int)(n:Int),ws=[.d (.int b),.d (exD p),.d (.int n)]/\((2<=b)/\(b<=16)/\(IsEx b p)/\(0<=n)/\(n<2^900))/\Q (fr (az b p n))
theorem cb.mono:∀ws (Q Q':AN->Prop),(∀d,Q d->Q' d)->cb ws Q->cb ws Q':=fun _ _ _ h_=>Bg fun _=>Bg fun _=>Bg fun _=>A8 (A8 (h_ _))
theorem cb.len:∀ws (Q:AN->Prop),cb ws Q->ws.length=3:=fun _ _ h_=>by obtain⟨_,_,_,e_,_⟩:=h_;subst e_;rfl
theorem cb.eq(b:Int)(p:List Int)(n:Int)(h2:2<=b)(h16:b<=16)(ex:IsEx b p)(h0:0<=n)(hn:n<2^900):cb [.d (.int b),.d (exD p),.d (.int n)]=VL.ret (fr (az b p n):AN):=by
 refine ae fun Q=>⟨?_,fun q_=>⟨b,p,n,rfl,⟨h2,h16,ex,h0,hn⟩,q_⟩⟩;rintro⟨b',p',n',e_,_,q_⟩;simp_arith only[gE,cK,cN,bR,bP,cY,fK,cX]at e_;obtain⟨rfl,rfl,rfl⟩:=e_;exact q_
theorem ka:FnScope ["base", "exchange", "n", "figures"] ["base", "exchange", "n"] (defScope (yw 13)):=⟨rfl,rfl,rfl,by decide +kernel,rfl,by decide +kernel,by decide +kernel⟩
theorem d_turned(Fn:FnIn K mg "turned" (yw 13) ["base", "exchange", "n"])(Z:Bz mg)(d_fraction:∀rl,Dfn P w K mg base rl "fraction" ["top", "bottom"] 2 ba)(d_number_of:∀rl,Dfn P w K mg base rl "number_of" ["base", "figures"] 1 aY)(d_power:∀rl,Dfn P w K mg base rl "power" ["base", "exponent"] 1 cP)(d_figures_of:∀rl,Dfn P w K mg base rl "figures_of" ["base", "n"] 1 aR)   : Dfn P w K mg base rl "turned" ["base", "exchange", "n"] 3 cb:=by
 have sc:=ka
 refine Dfn.of Fn sc (cb.mono) (cb.len) (fun cdv A outer s H E hr=>(ah (dH 3 sc.nd ["figure", "exchange"] [none,some 1] rfl (cJ (am (d_figures_of _) (hr.mono (by decide)) (aa (vn 0) (aa (vn 2) ab)))) (fun _=>(al 0 (show Cs (["figure", "exchange"]:List Str) by decide +kernel))) (fun _=>ck) (fun _=>(cF (vn 1) (vn 0))))
  (au (aO (am (d_fraction _) (hr.mono (by decide)) (aa (am (d_number_of _) (hr.mono (by decide)) (aa (vn 0) (aa (rA (vn 3)) ab))) (aa (am (d_power _) (hr.mono (by decide)) (aa (vn 0) (aa (fX Z.len_ (aa (vn 3) ab)) ab))) ab))))))) ?_
 rintro ws Q ⟨b,p,n,rfl,⟨h2,h16,ex,h0,hn⟩,hQ⟩;refine aJ ?_;have sz:=BQ;have hl:(zE b n).length<=900:=lh h2 h0 (DL hn (bT h2 900));have hb:n.toNat<2^4000:=sA h0 hn;simp_arith only[ai,af,ba.eq,aY.eq,cP.eq,aR.eq];refine yJ (cx (xs:=zE b n) (enc:=BA) (fun a=>.int (zC p a)) rfl ?_ (by omega) ?_)
 · intro a ma;obtain⟨a0,a1⟩:=hV h2 n a ma;have e:=vG ex a0 a1;simp_arith only[ai,af,zh,qo,e]
 · have em:(zE b n).map (fun a=>BA (zC p a))=((zE b n).map (zC p)).map .int:=by rw[B4];rfl
   rw[em];have h00:0<=b:=by omega
   have k1:((zE b n).length:Int)<=4000:=by omega
   have hp:0<b^(zE b n).length:=Cu (by omega);have hz:(b^(zE b n).length).natAbs<2^8000:=mH h2 h16 (by omega);simp_arith only[ai,af,ba.eq,aY.eq,cP.eq,aR.eq,AV,Cb,mD]
   have et:qd (nv b ((zE b n).map (zC p)).reverse) (b^(zE b n).length)=az b p n:=by
    unfold az;rw[<- me h2,AV,<- jX,List.reverse_reverse]
   rw[et];exact a_ hQ
noncomputable def rv(b:Int)(p:List Int):Nat->Int->Int
 | 0,_=>0
 | k+1,n=>zC p (n%b)*b^k+rv b p k (n / b)
theorem dz(h:2<=b)(k:Nat):0<b^k:=Cu (by omega)
theorem ko{b:Int}{p:List Int}(h:2<=b)(ex:IsEx b p):∀(k:Nat)(n:Int),0<=rv b p k n/\rv b p k n<b^k
 | 0,n=>by rw[BV];exact⟨C1 _,by show(0:Int)<1;decide⟩
 | k+1,n=>by
   obtain⟨a,c⟩:=ko h ex k (n / b);obtain⟨e0,e1⟩:=lD ex (BG n (show b≠0 by omega)) (Bk n (show 0<b by omega));show 0<=zC p (n%b)*b^k+rv b p k (n / b)/\zC p (n%b)*b^k+rv b p k (n / b)<b^(k+1);have pp:=dz h k;generalize zC p (n%b)=x at *;generalize rv b p k (n / b)=y at *;have m0:=Bm e0 (show 0<=b^k by omega);have m1:x*b^k<=(b-1)*b^k:=AQ (by omega) (by omega);rw[GE,BR]at m1;rw[Bj,BL (b^k)];omega
theorem je{m:Int}(hb:0<b)(hm:0<m)(z:Int):z%(b*m)=z%b+b*((z / b)%m):=by
 have h1:=CN z b;have h2:=CN (z / b) m;have h3:=BG z (show b≠0 by omega);have h4:=Bk z hb;have h5:=BG (z / b) (show m≠0 by omega);have h6:=Bk (z / b) hm
 have e1:z=(z%b+b*((z / b)%m))+b*m*(z / b / m):=by
  generalize z / b / m=t at *;generalize (z / b)%m=s at *;generalize z%b=r at *;generalize z / b=y at *;rw[<- h1,<- h2]
  grind
 have b1:b*((z / b)%m)<=b*(m-1):=Bc (by omega) (by omega);have b2:0<=b*((z / b)%m):=Bm (by omega) h5;rw[FZ,DW]at b1
 conv=>lhs;rw[e1,Int.add_mul_emod_self_left]
 exact DZ (by omega) (by omega)
theorem om{b:Int}{p:List Int}(h:2<=b)(ex:IsEx b p):∀(k:Nat)(n m:Int),rv b p k n=rv b p k m->n%b^k=m%b^k
 | 0,n,m,_=>by rw[BV,Es,Es]
 | k+1,n,m,e=>by
   have e:zC p (n%b)*b^k+rv b p k (n / b)=zC p (m%b)*b^k+rv b p k (m / b):=e;obtain⟨a0,a1⟩:=ko h ex k (n / b);obtain⟨c0,c1⟩:=ko h ex k (m / b);have pp:=dz h k;have hb:0<b:=by omega
   have n0:=BG n (show b≠0 by omega);have n1:=Bk n hb;have m0:=BG m (show b≠0 by omega);have m1:=Bk m hb
   have q1:zC p (n%b)=zC p (m%b):=by
    have u:=E7 (rv b p k (n / b)) (zC p (n%b)) (show b^k≠0 by omega);have v:=E7 (rv b p k (m / b)) (zC p (m%b)) (show b^k≠0 by omega);rw[DU a0 a1,Dy]at u;rw[DU c0 c1,Dy]at v;rw[<- u,<- v,Fo,e,Fo]
   have q2:n%b=m%b:=by
    have:=congrArg (fun z=>(ix p z:Int)) q1;rw[mZ ex n0 n1,mZ ex m0 m1]at this;exact this
   have q3:=om h ex k (n / b) (m / b) (by rw[q1]at e;omega)
   have key:∀z:Int,z%b^(k+1)=z%b+b*((z / b)%b^k):=fun z=>by
    rw[Bj,BL (b^k)];exact je hb pp z
   rw[key n,key m,q2,q3]
noncomputable def db(l:List (Int×Int×Int))(n:Int):Int:=(l.map fun t=>if n%t.2.1=t.1 then(1:Int)else 0).sum
theorem jg(l l':List (Int×Int×Int))(n:Int):db (l++l') n=db l n+db l' n:=by
 unfold db;rw[Bw,DO]
noncomputable def pcs(b:Int)(p:List Int):Nat->Int->List (Int×Int×Int)
 | 0,c=>if 1<=c then [(0,1,1)]else []
 | k + 1,c=>if b^(k+1)<=c then [(0,1,b^(k+1))]else
     ((Bq (c / b^k).toNat).map fun d:Nat=>((ix p (d:Int):Int),b,b^k))++((pcs b p k (c%b^k)).map fun t=>(t.1*b+ix p (c / b^k),b*t.2.1,t.2.2))
theorem j5(x:Int):∀Q:Nat,((Bq Q).map fun d:Nat=>if x=(d:Int)then(1:Int)else 0).sum=if 0<=x/\x<Q then 1 else 0
 | 0=>by rw[if_neg (by omega)];rfl
 | Q+1=>by
   rw[Eh,Bw,DO,j5 x Q,A1,D2,By,List.sum_nil];by_cases a:x=(Q:Int)
   · rw[if_pos a,if_neg (by omega),if_pos (by omega)];rfl
   · rw[if_neg a];by_cases c:0<=x/\x<(Q:Int)
     · rw[if_pos c,if_pos (by omega)];rfl
     · rw[if_neg c,if_neg (by omega)];rfl
structure PkOk (b:Int) (p:List Int) (k:Nat) (c:Int) (l:List (Int×Int×Int)):Prop where
 ok:∀t∈l,0<=t.1/\t.1<t.2.1/\0<t.2.1/\t.2.1*t.2.2=b^k/\∃j:Nat,j<=k/\t.2.1=b^j
 sum:(l.map (·.2.2)).sum=c
 cnt:∀n,db l n=if rv b p k n<c then 1 else 0
 len:c<b^k->(l.length:Int)<=(b-1)*k
 len1:(l.length:Int)<=max 1 ((b-1)*k)
theorem oy{b:Int}{p:List Int}(h:2<=b)(ex:IsEx b p):∀(k:Nat)(c:Int),0<=c->c<=b^k->PkOk b p k c (pcs b p k c)
 | 0,c,c0,c1=>by
   rw[BV]at c1;have rz:∀n,rv b p 0 n=0:=fun _=>rfl;by_cases q:1<=c
   · have e:c=1:=by omega
     subst e;have el:pcs b p 0 1=[(0,1,1)]:=rfl;rw[el];refine⟨fun t m=>?_,rfl,fun n=>?_,fun z=>by rw[BV]at z;omega,by show(1:Int)<=_;omega⟩
     · cases Bh.mp m;exact⟨C1 _,by decide,by decide,by rw[BV];rfl,0,AY _,by rw[BV]⟩
     · rw[rz,if_pos (by omega)];show(if n%1=0 then(1:Int)else 0)+0=1;rw[Es,if_pos rfl];rfl
   · have e:c=0:=by omega
     subst e;have el:pcs b p 0 0=[]:=rfl;rw[el];refine⟨fun t m=>(by cases m),rfl,fun n=>?_,fun _=>by simp,by show(0:Int)<=_;omega⟩
     rw[rz,if_neg (by omega)];rfl
 | k+1,c,c0,c1=>by
   have pp:=dz h k;have pk:=dz h (k+1);have hb:0<b:=by omega
   by_cases q:b^(k+1)<=c
   · have e:c=b^(k+1):=by omega
     have el:pcs b p (k+1) c=[(0,1,b^(k+1))]:=by unfold pcs;rw[if_pos q]
     rw[el];refine⟨fun t m=>?_,by rw[e];simp,fun n=>?_,fun z=>by omega,by show(1:Int)<=_;omega⟩
     · cases Bh.mp m;exact⟨C1 _,(show(0:Int)<1 by decide),(show(0:Int)<1 by decide),(show 1*b^(k+1)=b^(k+1) by rw[BR]),0,Db _,(show(1:Int)=b^0 by rw[BV])⟩
     · have:=(ko h ex (k+1) n).2;rw[if_pos (by omega)];show(if n%1=0 then(1:Int)else 0)+0=1;rw[Es,if_pos rfl];rfl
   · have el:pcs b p (k+1) c=((Bq (c / b^k).toNat).map fun d:Nat=>((ix p (d:Int):Int),b,b^k))++((pcs b p k (c%b^k)).map fun t=>(t.1*b+ix p (c / b^k),b*t.2.1,t.2.2)):=by
       conv=>lhs;unfold pcs
       rw[if_neg q]
     rw[el];have ed:=CN c (b^k);have d0:=BG c (show b^k≠0 by omega);have d1:=Bk c pp;have q0:=DN c0 (show 0<=b^k by omega);have q1:c / b^k<b:=Int.ediv_lt_of_lt_mul pp (by rw[Bj,BL]at q;omega);have ih:=oy h ex k (c%b^k) d0 (by omega);generalize hQ:c / b^k=Q at *;generalize hR:c%b^k=R at *;obtain⟨i0,i1⟩:=tF ex q0 q1;obtain⟨k1,k2,k3,k4,k5⟩:=ih;refine⟨fun t m=>?_,?_,fun n=>?_,fun _=>?_,?_⟩
     · rcases Ce.mp m with m|m
       · obtain⟨d,md,rfl⟩:=BB.mp m;have:=Cc.mp md;obtain⟨j0,j1⟩:=tF ex (show 0<=(d:Int) by omega) (show(d:Int)<b by omega);exact⟨j0,j1,hb,by rw[Bj,BL],1,by omega,by rw[Bj,BV,BR]⟩
       · obtain⟨t,mt,rfl⟩:=BB.mp m;obtain⟨r0,r1,m0,mw,j,hj,ej⟩:=k1 t mt;have a1:t.1*b<=(t.2.1-1)*b:=AQ (by omega) (by omega);have a2:=Bm r0 (show 0<=b by omega);rw[GE,BR]at a1;refine⟨by show 0<=t.1*b+ix p Q;omega,by show t.1*b+ix p Q<b*t.2.1;rw[BL b];omega,F0 hb m0,?_,j+1,by omega,?_⟩
         · show b*t.2.1*t.2.2=b^(k+1);rw[ER,mw,Bj,BL]
         · show b*t.2.1=b^(j+1);rw[ej,Bj,BL]
     · rw[Bw,DO,B4,B4];have e2:((pcs b p k R).map ((fun t:Int×Int×Int=>t.2.2) ∘ fun t=>(t.1*b+ix p Q,b*t.2.1,t.2.2))).sum=R:=k2;rw[e2]
       have e3:∀m:Nat,((Bq m).map ((fun t:Int×Int×Int=>t.2.2) ∘ fun d:Nat=>((ix p (d:Int):Int),b,b^k))).sum=b^k*(m:Int):=fun m=>by
        induction m with
        | zero=>simp
        | succ m ihm =>
          rw[Eh,Bw,DO,ihm,A1,D2,By,List.sum_nil,Cg,Dc];show b^k*(m:Int)+(b^k+0)=_;simp
       rw[e3,show((Q.toNat:Nat):Int)=Q by omega];exact ed
     · rw[jg];have n0:=BG n (show b≠0 by omega);have n1:=Bk n hb;obtain⟨x0,x1⟩:=lD ex n0 n1;obtain⟨y0,y1⟩:=ko h ex k (n / b)
       have s1:db ((Bq Q.toNat).map fun d:Nat=>((ix p (d:Int):Int),b,b^k)) n=if zC p (n%b)<Q then 1 else 0:=by
        unfold db;rw[B4]
        have e:((Bq Q.toNat).map ((fun t:Int×Int×Int=>if n%t.2.1=t.1 then(1:Int)else 0) ∘ fun d:Nat=>((ix p (d:Int):Int),b,b^k)))=(Bq Q.toNat).map fun d:Nat=>if zC p (n%b)=(d:Int)then(1:Int)else 0:=by
         refine C3 fun d md=>?_;have hd:=Cc.mp md;show(if n%b=ix p (d:Int)then(1:Int)else 0)=_;by_cases z:n%b=ix p (d:Int)
         · rw[if_pos z,if_pos (by rw[z];exact qF ex (by omega) (by omega))]
         · rw[if_neg z,if_neg fun w=>z (by rw[<- w];exact(mZ ex n0 n1).symm)]
        rw[e,j5];by_cases z:zC p (n%b)<Q
        · rw[if_pos z,if_pos (by omega)]
        · rw[if_neg z,if_neg (by omega)]
       have s2:db ((pcs b p k R).map fun t=>(t.1*b+ix p Q,b*t.2.1,t.2.2)) n=if zC p (n%b)=Q then(if rv b p k (n / b)<R then 1 else 0)else 0:=by
        by_cases z:zC p (n%b)=Q
        · rw[if_pos z,<- k3 (n / b)];unfold db;rw[B4];congr 1;refine C3 fun t mt=>?_;obtain⟨r0,r1,m0,_⟩:=k1 t mt;have iz:ix p Q=n%b:=by rw[<- z];exact mZ ex n0 n1
          show(if n%(b*t.2.1)=t.1*b+ix p Q then(1:Int)else 0)=if(n / b)%t.2.1=t.1 then 1 else 0
          rw[je hb m0,iz];by_cases w:(n / b)%t.2.1=t.1
          · rw[if_pos w,if_pos (by rw[w,BL];omega)]
          · rw[if_neg w,if_neg fun v=>w ?_];have:b*((n / b)%t.2.1)=b*t.1:=by rw[BL b t.1];omega
            exact Int.eq_of_mul_eq_mul_left (by omega) this
        · rw[if_neg z];unfold db;rw[B4]
          have all0:∀l:List (Int×Int×Int),(∀t∈l,0<=t.1/\t.1<t.2.1/\0<t.2.1)->(l.map ((fun t:Int×Int×Int=>if n%t.2.1=t.1 then(1:Int)else 0) ∘ fun t=>(t.1*b+ix p Q,b*t.2.1,t.2.2))).sum=0:=by
           intro l
           induction l with
           | nil=>intro _;rfl
           | cons t l ihl =>
             intro hh;obtain⟨r0,r1,m0⟩:=hh t AZ;rw[A1,By,ihl fun u mu=>hh u (AU _ mu)];show(if n%(b*t.2.1)=t.1*b+ix p Q then(1:Int)else 0)+0=0;rw[if_neg]
             · rfl
             · intro v;have v2:=congrArg (· % b) v;rw[Int.emod_emod_of_dvd _ (DY b t.2.1),Fo,Int.add_mul_emod_self_right,DZ i0 i1]at v2;exact z (by rw[v2];exact qF ex q0 q1)
          exact all0 _ fun t mt=>let ⟨a,c,d,_⟩:=k1 t mt;⟨a,c,d⟩
       rw[s1,s2];show _=if zC p (n%b)*b^k+rv b p k (n / b)<c then(1:Int)else 0
       generalize zC p (n%b)=x at *;generalize rv b p k (n / b)=y at *;rw[<- ed,BL (b^k)];rcases EI x Q with z|z|z
       · have:=AQ (show x+1<=Q by omega) (show 0<=b^k by omega);rw[C2,BR]at this;rw[if_pos z,if_neg (by omega),if_pos (by omega)];rfl
       · subst z;rw[if_neg (by omega),if_pos rfl];by_cases w:y<R
         · rw[if_pos w,if_pos (by omega)];rfl
         · rw[if_neg w,if_neg (by omega)];rfl
       · have:=AQ (show Q+1<=x by omega) (show 0<=b^k by omega);rw[C2,BR]at this;rw[if_neg (by omega),if_neg (by omega),if_neg (by omega)];rfl
     · have:=k4 d1;rw[Be,AV,AV,CV,Cg,Cg,Dc];omega
     · have:=k4 d1;rw[Be,AV,AV,CV,Cg,Cg,Dc];omega
theorem tI{s:Int}(hs:0<s)(c:BI M s=1):∃h,s∣M*h-1:=by
 by_cases hx:∃h,s∣M*h-1
 · exact hx
 · exfalso
   have nd:(1%s::(Bq s.toNat).map fun j:Nat=>(M*(j:Int))%s).Nodup:=by
    rw[CD];refine⟨fun m=>?_,?_⟩
    · obtain⟨j,_,e⟩:=BB.mp m;exact hx ⟨j,DM (B2.mp e)⟩
    · refine Dj.mpr ((List.nodup_range).imp_of_mem fun{i j} mi mj ne e=>ne ?_);have hi:=Cc.mp mi;have hj:=Cc.mp mj;have d:=DM (B2.mp e);rw[<- FZ]at d;have d2:s∣(i:Int)-j:=CL.mp (EV.dvd_of_dvd_mul_left (show EV s.natAbs M.natAbs from EV.symm c) (by rw[<- FO];exact CL.mpr d));obtain⟨z,ez⟩:=d2
      have hz:z=0:=by
       rcases EI z 0 with q|q|q
       · have:=Bc (show z <= -1 by omega) (show 0<=s by omega);omega
       · exact q
       · have:=Bc (show 1<=z by omega) (show 0<=s by omega);omega
      rw[hz,Gp]at ez;omega
   have sub:∀y∈(1%s::(Bq s.toNat).map fun j:Nat=>(M*(j:Int))%s),y∈(Bq s.toNat).map fun j:Nat=>(j:Int):=fun y my=>by
    have b:0<=y/\y<s:=by
     rcases Bo.mp my with rfl|my
     · exact⟨BG _ (by omega),Bk _ hs⟩
     · obtain⟨j,_,rfl⟩:=BB.mp my;exact⟨BG _ (by omega),Bk _ hs⟩
    exact BB.mpr ⟨y.toNat,Cc.mpr (by omega),by omega⟩
   have:=Cs.length_le_of_subset nd sub;rw[Bb,AV,AV]at this;omega
theorem tZ{m r m' r':Int}(hm:0<m)(hm':0<m')(c:BI m m'=1)(r0:0<=r)(r1:r<m)(q0:0<=r')(q1:r'<m'):∃q,0<=q/\q<m*m'/\∀n,n%(m*m')=q↔n%m=r/\n%m'=r':=by
 obtain⟨h,hh⟩:=tI hm' c;obtain⟨a,b,d⟩:=nO hm hm' c r0 r1 q0 q1 hh;exact⟨_,a,b,fun n=>by rw[<- cZ a b,d,<- cZ r0 r1]⟩
noncomputable def zF(m r m' r':Int):Int:=Classical.epsilon fun q=>0<=q/\q<m*m'/\∀n,n%(m*m')=q↔n%m=r/\n%m'=r'
theorem t3{m r m' r':Int}(hm:0<m)(hm':0<m')(c:BI m m'=1)(r0:0<=r)(r1:r<m)(q0:0<=r')(q1:r'<m'):0<=zF m r m' r'/\zF m r m' r'<m*m'/\∀n,n%(m*m')=zF m r m' r'↔n%m=r/\n%m'=r':=Classical.epsilon_spec (tZ hm hm' c r0 r1 q0 q1)
noncomputable def zG(t v:Int×Int×Int):Int×Int×Int:=(zF t.2.1 t.1 v.2.1 v.1,t.2.1*v.2.1,t.2.2*v.2.2)
noncomputable def lM(l l':List (Int×Int×Int)):List (Int×Int×Int):=l.flatMap fun t=>l'.map (zG t)
theorem lL{l':List (Int×Int×Int)}{n:Int}(h':∀v∈l',0<=v.1/\v.1<v.2.1/\0<v.2.1):∀l:List (Int×Int×Int),(∀t∈l,0<=t.1/\t.1<t.2.1/\0<t.2.1/\∀v∈l',BI t.2.1 v.2.1=1)->db (lM l l') n=db l n*db l' n
 | [],_=>by show(0:Int)=0*_;rw[D6]
 | t::l,h=>by
   have ih:=lL (n:=n) h' l fun u m=>h u (AU _ m);obtain⟨r0,r1,m0,co⟩:=h t AZ;have e:lM (t::l) l'=l'.map (zG t)++lM l l':=EJ ..;rw[e,jg,ih];have e2:db (t::l) n=(if n%t.2.1=t.1 then 1 else 0)+db l n:=by unfold db;rw[A1,By]
   rw[e2,C2];congr 1
   have key:∀us:List (Int×Int×Int),(∀v∈us,0<=v.1/\v.1<v.2.1/\0<v.2.1/\BI t.2.1 v.2.1=1)->db (us.map (zG t)) n=(if n%t.2.1=t.1 then 1 else 0)*db us n:=by
    intro us
    induction us with
    | nil=>intro _;show(0:Int)=_*0;rw[Gp]
    | cons v us ihu =>
      intro hu;obtain⟨v0,v1,v2,v3⟩:=hu v AZ;have iu:=ihu fun x m=>hu x (AU _ m);have sp:=t3 m0 v2 v3 r0 r1 v0 v1;have e3:db (v::us) n=(if n%v.2.1=v.1 then 1 else 0)+db us n:=by unfold db;rw[A1,By]
      have e4:db ((v::us).map (zG t)) n=(if n%(t.2.1*v.2.1)=zF t.2.1 t.1 v.2.1 v.1 then 1 else 0)+db (us.map (zG t)) n:=by unfold db;rw[A1,A1,By];rfl
      rw[e3,e4,iu,Dc];congr 1;have s2:=sp.2.2 n;by_cases a:n%t.2.1=t.1
      · by_cases b:n%v.2.1=v.1
        · rw[if_pos a,if_pos b,if_pos (s2.mpr ⟨a,b⟩)];rfl
        · rw[if_pos a,if_neg b,if_neg fun z=>b (s2.mp z).2];rfl
      · rw[if_neg a,if_neg fun z=>a (s2.mp z).1,D6]
   exact key l' fun v m=>⟨(h' v m).1,(h' v m).2.1,(h' v m).2.2,co v m⟩
theorem qP{l':List (Int×Int×Int)}{x:Int×Int×Int}(h:x∈lM l l'):∃t∈l,∃v∈l',x=zG t v:=by
 obtain⟨t,mt,mx⟩:=List.mem_flatMap.mp h;obtain⟨v,mv,e⟩:=BB.mp mx;exact⟨t,mt,v,mv,e.symm⟩
theorem lJ(l':List (Int×Int×Int)):∀l:List (Int×Int×Int),((lM l l').map (·.2.2)).sum=(l.map (·.2.2)).sum*(l'.map (·.2.2)).sum
 | []=>by show(0:Int)=0*_;rw[D6]
 | t::l=>by
   have e:lM (t::l) l'=l'.map (zG t)++lM l l':=EJ ..;rw[e,Bw,DO,lJ l' l,A1,By,C2];congr 1
   induction l' with
   | nil=>show(0:Int)=_*0;rw[Gp]
   | cons v us ih =>
     rw[A1,A1,By,A1,By,Dc];congr 1;exact ih rfl
theorem lK(l':List (Int×Int×Int)):∀l:List (Int×Int×Int),(lM l l').length=l.length*l'.length
 | []=>by show 0=0*_;rw[Nat.zero_mul]
 | t::l=>by
   have e:lM (t::l) l'=l'.map (zG t)++lM l l':=EJ ..;rw[e,Be,AV,lK l' l,Bb,GF,GG,Nat.add_comm]
structure SdK where
 b:Int
 p:List Int
 k:Nat
 h:Int
 u:Int
noncomputable def SdK.c(s:SdK):Int:=s.h*s.b^s.k / s.u
structure SdK.Ok (s:SdK) (N:Int):Prop where
 b2:2<=s.b
 ex:IsEx s.b s.p
 h0:0<=s.h
 hu:s.h<=s.u
 u1:1<=s.u
 kN:N<=s.b^s.k
noncomputable def pT(ss:List SdK):Int:=(ss.map fun s=>s.b^s.k).foldr (· * ·) 1
noncomputable def pC(ss:List SdK):Int:=(ss.map SdK.c).foldr (· * ·) 1
noncomputable def pH(ss:List SdK):Int:=(ss.map SdK.h).foldr (· * ·) 1
noncomputable def pU(ss:List SdK):Int:=(ss.map SdK.u).foldr (· * ·) 1
noncomputable def pL(ss:List SdK):Int:=(ss.map fun s=>max 1 ((s.b-1)*(s.k:Int))).foldr (· * ·) 1
noncomputable def zc(ss:List SdK)(n:Int):Bool:=ss.all fun s=>decide (rv s.b s.p s.k n<s.c)
theorem SdK.Ok.c_bd{s:SdK}{N:Int}(o:s.Ok N):0<=s.c/\s.c<=s.b^s.k/\s.c*s.u<=s.h*s.b^s.k/\s.h*s.b^s.k<s.c*s.u+s.u:=by
 have pp:=dz o.b2 s.k;have h1:=o.u1;have e:=CN (s.h*s.b^s.k) s.u;have m0:=BG (s.h*s.b^s.k) (show s.u≠0 by omega);have m1:=Bk (s.h*s.b^s.k) (show 0<s.u by omega);have hp:=Bm o.h0 (show 0<=s.b^s.k by omega);have e2:s.c*s.u=s.u*(s.h*s.b^s.k / s.u):=BL _ _;have hle:s.h*s.b^s.k<=s.u*s.b^s.k:=AQ o.hu (by omega);refine⟨DN hp (by omega),?_,by omega,by omega⟩;have:s.c*s.u<=s.b^s.k*s.u:=by rw[BL (s.b^s.k)];omega
 exact Ci this (by omega)
structure BxOk (ss:List SdK) (l:List (Int×Int×Int)):Prop where
 ok:∀t∈l,0<=t.1/\t.1<t.2.1/\0<t.2.1/\t.2.1*t.2.2=pT ss/\0<=t.2.2/\∀z,(∀s∈ss,BI s.b z=1)->BI t.2.1 z=1
 sum:(l.map (·.2.2)).sum=pC ss
 cnt:∀n,db l n=if zc ss n=true then 1 else 0
 len:(l.length:Int)<=pL ss
theorem jb{a:Int}(h:BI a b=1)(k:Nat):BI (a^k) b=1:=Int.gcd_pow_left_of_gcd_eq_one h
theorem fQ{N:Int}:∀ss:List SdK,(∀s∈ss,s.Ok N)->(ss.Pairwise fun s t=>BI s.b t.b=1)->∃l,BxOk ss l
 | [],_,_=>⟨[(0,1,1)],fun t m=>by
     cases Bh.mp m;exact⟨C1 _,(show(0:Int)<1 by decide),(show(0:Int)<1 by decide),rfl,(show(0:Int)<=1 by decide),fun z _=>Int.gcd_one_left z⟩,rfl,fun n=>by
     show(if n%1=0 then(1:Int)else 0)+0=if true=true then 1 else 0
     rw[Es,if_pos rfl,if_pos rfl];rfl,by show(1:Int)<=1;decide⟩
 | s::ss,h,co=>by
   obtain⟨c1,c2⟩:=List.pairwise_cons.mp co;obtain⟨l',hl⟩:=fQ ss (fun t m=>h t (AU _ m)) c2;have o:=h s AZ;obtain⟨b0,b1,_,_⟩:=o.c_bd;have pk:=oy o.b2 o.ex s.k s.c b0 b1
   have cop:∀t∈pcs s.b s.p s.k s.c,∀v∈l',BI t.2.1 v.2.1=1:=fun t mt v mv=>by
    obtain⟨_,_,_,_,j,_,e⟩:=pk.ok t mt;rw[e];refine jb ?_ j;rw[Fe];exact(hl.ok v mv).2.2.2.2.2 s.b fun x mx=>by rw[Fe];exact c1 x mx
   refine⟨lM (pcs s.b s.p s.k s.c) l',fun x mx=>?_,?_,fun n=>?_,?_⟩
   · obtain⟨t,mt,v,mv,rfl⟩:=qP mx;obtain⟨r0,r1,m0,mw,j,hj,ej⟩:=pk.ok t mt;obtain⟨q0,q1,n0,nw,w0,gz⟩:=hl.ok v mv;have sp:=t3 m0 n0 (cop t mt v mv) r0 r1 q0 q1;refine⟨sp.1,sp.2.1,F0 m0 n0,?_,?_,fun z hz=>?_⟩
     · show t.2.1*v.2.1*(t.2.2*v.2.2)=s.b^s.k*pT ss;rw[<- mw,<- nw];grind
     · have pp:=dz o.b2 s.k
       have tw:0<=t.2.2:=by
        rcases Gq t.2.2 0 with q|q
        · have:=Int.mul_neg_of_pos_of_neg m0 q;omega
        · exact q
       exact Bm tw w0
     · show BI (t.2.1*v.2.1) z=1;rw[ej];have g1:BI (s.b^j) z=1:=jb (hz s AZ) j;rw[Int.gcd_mul_left_left_of_gcd_eq_one (gz z fun x m=>hz x (AU _ m))];exact g1
   · rw[lJ,pk.sum,hl.sum];rfl
   · rw[lL (fun v m=>⟨(hl.ok v m).1,(hl.ok v m).2.1,(hl.ok v m).2.2.1⟩) _ fun t m=>⟨(pk.ok t m).1,(pk.ok t m).2.1,(pk.ok t m).2.2.1,cop t m⟩,pk.cnt,hl.cnt];have e:zc (s::ss) n=(decide (rv s.b s.p s.k n<s.c)&&zc ss n):=rfl;rw[e];by_cases a:rv s.b s.p s.k n<s.c
     · rw[if_pos a,decide_eq_true a,Bool.true_and,BR]
     · rw[if_neg a,decide_eq_false a,Bool.false_and,if_neg Bs,D6]
   · rw[lK,Int.natCast_mul];exact Cd pk.len1 hl.len (Int.natCast_nonneg _) (show 0<=max 1 ((s.b-1)*(s.k:Int)) by omega)
noncomputable def aN(q:Int->Bool)(B:Int):Nat->Int
 | 0=>0
 | N+1=>aN q B N+if q (B+(N:Int))=true then 1 else 0
theorem ic(q:Int->Bool)(B:Int):∀N,0<=aN q B N/\aN q B N<=N
 | 0=>⟨C1 _,C1 _⟩
 | N+1=>by
   have:=ic q B N;show 0<=aN q B N+_/\aN q B N+_<=((N+1:Nat):Int);split<;>omega
theorem bX{q q':Int->Bool}{B:Int}:∀N:Nat,(∀j:Nat,j<N->q (B+(j:Int))=true->q' (B+(j:Int))=true)->aN q B N<=aN q' B N
 | 0,_=>C1 _
 | N+1,h=>by
   have ih:=bX N fun j hj=>h j (by omega);have:=h N (by omega);show aN q B N+_<=aN q' B N+_;by_cases a:q (B+(N:Int))=true
   · rw[if_pos a,if_pos (this a)];omega
   · rw[if_neg a];split<;>omega
theorem ib{q q1 q2:Int->Bool}{B:Int}:∀N:Nat,(∀j:Nat,j<N->q (B+(j:Int))=true->q1 (B+(j:Int))=true\/q2 (B+(j:Int))=true)->aN q B N<=aN q1 B N+aN q2 B N
 | 0,_=>C1 _
 | N+1,h=>by
   have ih:=ib N fun j hj=>h j (by omega);have:=h N (by omega);show aN q B N+_<=(aN q1 B N+_)+(aN q2 B N+_);by_cases a:q (B+(N:Int))=true
   · rw[if_pos a];rcases this a with c|c
     · rw[if_pos c];split<;>omega
     · rw[if_pos c];split<;>omega
   · rw[if_neg a];split<;>split<;>omega
theorem ie{r M B:Int}(hM:0<M)(r0:0<=r)(r1:r<M):∀N:Nat,aN (fun n=>decide (n%M=r)) B N=lW r M B N
 | 0=>by show(0:Int)=_;simp[lW]
 | N+1=>by
   show aN (fun n=>decide (n%M=r)) B N+(if decide ((B+(N:Int))%M=r)=true then 1 else 0)=lW r M B ((N+1:Nat):Int);rw[ie hM r0 r1 N,show((N+1:Nat):Int)=(N:Int)+1 by omega,nQ hM];congr 1;by_cases a:(B+(N:Int))%M=r
   · rw[if_pos (decide_eq_true a),if_pos ((cZ r0 r1).mpr a)]
   · rw[if_neg (by simpa using a),if_neg fun z=>a ((cZ r0 r1).mp z)]
theorem t4{r:Int}(hM:0<M)(r0:0<=r)(r1:r<M)(N:Nat):aN (fun n=>decide (n%M=r)) B N*M<=N+M/\(N:Int)-M<=aN (fun n=>decide (n%M=r)) B N*M:=by
 rw[ie hM r0 r1];have e:=CN (N:Int) M;have a0:=BG (N:Int) (show M≠0 by omega);have a1:=Bk (N:Int) hM;rcases qO (r:=r) (b:=B) hM (show 0<=(N:Int) by omega)with h|h
 · rw[h,BL];omega
 · rw[h,C2,BR,BL];omega
theorem ve{ss:List SdK}(hl:BxOk ss l):aN (zc ss) B N*pT ss<=N*pC ss+(l.length:Int)*pT ss/\N*pC ss-(l.length:Int)*pT ss<=aN (zc ss) B N*pT ss:=by
 have e1:∀N:Nat,aN (zc ss) B N=(l.map fun t=>aN (fun n=>decide (n%t.2.1=t.1)) B N).sum:=fun N=>by
  induction N with
  | zero =>
    show(0:Int)=_
    have:∀l:List (Int×Int×Int),(l.map fun t=>aN (fun n=>decide (n%t.2.1=t.1)) B 0).sum=0:=fun l=>by
     induction l with
     | nil=>rfl
     | cons t l ih=>rw[A1,By,ih];rfl
    rw[this]
  | succ N ih =>
    show aN (zc ss) B N+_=_;rw[ih,<- hl.cnt (B+(N:Int))];unfold db
    have key:∀l:List (Int×Int×Int),(l.map fun t=>aN (fun n=>decide (n%t.2.1=t.1)) B N).sum+(l.map fun t=>if(B+(N:Int))%t.2.1=t.1 then(1:Int)else 0).sum=(l.map fun t=>aN (fun n=>decide (n%t.2.1=t.1)) B (N+1)).sum:=fun l=>by
     induction l with
     | nil=>rfl
     | cons t l ih =>
       rw[A1,A1,A1,By,By,By,<- ih]
       have:aN (fun n=>decide (n%t.2.1=t.1)) B (N+1)=aN (fun n=>decide (n%t.2.1=t.1)) B N+if(B+(N:Int))%t.2.1=t.1 then 1 else 0:=by
        show _+(if decide ((B+(N:Int))%t.2.1=t.1)=true then(1:Int)else 0)=_;by_cases a:(B+(N:Int))%t.2.1=t.1
        · rw[if_pos (decide_eq_true a),if_pos a]
        · rw[if_neg (by simpa using a),if_neg a]
       rw[this];omega
    exact key l
 rw[e1,<- hl.sum]
 have key:∀l:List (Int×Int×Int),(∀t∈l,0<=t.1/\t.1<t.2.1/\0<t.2.1/\t.2.1*t.2.2=pT ss/\0<=t.2.2) ->
  (l.map fun t=>aN (fun n=>decide (n%t.2.1=t.1)) B N).sum*pT ss<=N*(l.map (·.2.2)).sum+(l.length:Int)*pT ss/\N*(l.map (·.2.2)).sum-(l.length:Int)*pT ss<=(l.map fun t=>aN (fun n=>decide (n%t.2.1=t.1)) B N).sum*pT ss:=fun l=>by
  induction l with
  | nil=>intro _;simp
  | cons t l ih =>
    intro h;obtain⟨r0,r1,m0,mw,w0⟩:=h t AZ;obtain⟨i1,i2⟩:=ih fun u m=>h u (AU _ m);obtain⟨b1,b2⟩:=t4 (B:=B) m0 r0 r1 N;have c1:=AQ b1 w0;have c2:=AQ b2 w0;rw[ER,mw]at c1 c2;rw[C2,mw]at c1;rw[GE,mw]at c2;rw[A1,A1,By,By,Bb,C2,Dc,Cg,C2];have e1:((1:Nat):Int)*pT ss=pT ss:=by omega
    rw[e1];omega
 exact key l fun t m=>let ⟨a,b,c,d,e,_⟩:=hl.ok t m;⟨a,b,c,d,e⟩
theorem kQ{N:Int}:∀ss:List SdK,(∀s∈ss,s.Ok N)->0<pT ss/\0<pU ss/\0<=pH ss/\pH ss<=pU ss/\0<=pC ss/\pC ss<=pT ss/\pC ss*pU ss<=pH ss*pT ss/\(0<=N->N*(pH ss*pT ss)-N*(pC ss*pU ss)<=(ss.length:Int)*(pT ss*pU ss))
 | [],_=>⟨by decide,by decide,by decide,by decide,by decide,by decide,by decide,fun _=>by show N*(1*1)-N*(1*1)<=0*_;omega⟩
 | s::ss,h=>by
   have o:=h s AZ;obtain⟨t0,u0,h0,hu,c0,ct,cu,fin⟩:=kQ ss fun t m=>h t (AU _ m);obtain⟨b0,b1,b2,b3⟩:=o.c_bd;have pp:=dz o.b2 s.k;have kN:=o.kN;have x0:=o.h0;have xu:=o.hu;have u1:=o.u1;have eT:pT (s::ss)=s.b^s.k*pT ss:=rfl;have eU:pU (s::ss)=s.u*pU ss:=rfl;have eH:pH (s::ss)=s.h*pH ss:=rfl;have eC:pC (s::ss)=s.c*pC ss:=rfl;rw[eT,eU,eH,eC];generalize s.b^s.k=t at *;generalize s.c=c at *;generalize s.h=x at *;generalize s.u=y at *;generalize pT ss=T at *;generalize pU ss=U at *;generalize pH ss=H at *;generalize pC ss=C at *;refine⟨F0 pp t0,F0 (by omega) u0,Bm x0 h0,Cd xu hu h0 (by omega),Bm b0 c0,Cd b1 ct c0 (by omega),?_,fun N0=>?_⟩
   · have a:=Cd b2 cu (Bm c0 (by omega)) (Bm x0 (by omega));have e1:c*C*(y*U)=(c*y)*(C*U):=by grind
     have e2:x*H*(t*T)=(x*t)*(H*T):=by grind
     rw[e1,e2];exact a
   · have f:=fin N0;have CU:0<=C*U:=Bm c0 (by omega);have TU:0<=T*U:=Bm (by omega) (by omega);have lT:0<=(ss.length:Int)*(T*U):=Bm (Int.natCast_nonneg _) TU;have xt:0<=x*t:=Bm x0 (by omega);have a1:=AQ f xt;have a2:(ss.length:Int)*(T*U)*(x*t)<=(ss.length:Int)*(T*U)*(y*t):=Bc (AQ xu (by omega)) lT
     have a3:N*(x*t-c*y)<=t*y:=by
      have:=Cd kN (show x*t-c*y<=y by omega) (by omega) (by omega);exact this
     have a4:C*U*(N*(x*t-c*y))<=T*U*(t*y):=Cd (AQ ct (by omega)) a3 (Bm N0 (by omega)) TU;have e1:N*(x*H*(t*T))-N*(c*C*(y*U))=(N*(H*T)-N*(C*U))*(x*t)+C*U*(N*(x*t-c*y)):=by grind
     have e2:(((s::ss).length:Nat):Int)*(t*T*(y*U))=(ss.length:Int)*(T*U)*(y*t)+T*U*(t*y):=by
      rw[Bb,Cg];grind
     rw[e1,e2];omega
theorem i6{s:SdK}(o:s.Ok N)(B:Int):aN (fun n=>decide (rv s.b s.p s.k n=s.c)) B N<=1:=by
 have pp:=dz o.b2 s.k;have kN:=o.kN
 have key:∀M:Nat,(M:Int)<=s.b^s.k->aN (fun n=>decide (rv s.b s.p s.k n=s.c)) B M<=1/\(aN (fun n=>decide (rv s.b s.p s.k n=s.c)) B M=0\/∃j:Nat,j<M/\rv s.b s.p s.k (B+(j:Int))=s.c):=by
  intro M
  induction M with
  | zero=>intro _;exact⟨by show(0:Int)<=1;decide,.inl rfl⟩
  | succ M ih =>
    intro hM;obtain⟨i1,i2⟩:=ih (by omega);have e:aN (fun n=>decide (rv s.b s.p s.k n=s.c)) B (M+1)=aN (fun n=>decide (rv s.b s.p s.k n=s.c)) B M+if decide (rv s.b s.p s.k (B+(M:Int))=s.c)=true then 1 else 0:=rfl
    rw[e];by_cases a:rv s.b s.p s.k (B+(M:Int))=s.c
    · rw[if_pos (decide_eq_true a)];rcases i2 with z|⟨j,hj,ej⟩
      · exact⟨by omega,.inr ⟨M,by omega,a⟩⟩
      · exfalso;have em:=om o.b2 o.ex s.k _ _ (a.trans ej.symm);have d:=B2.mp em;rw[show B+(M:Int)-(B+(j:Int))=(M:Int)-j by omega,DZ (by omega) (by omega)]at d;omega
    · rw[if_neg (by simpa using a)];refine⟨by omega,?_⟩;rcases i2 with z|⟨j,hj,ej⟩
      · exact .inl (by omega)
      · exact .inr ⟨j,by omega,ej⟩
 exact(key N kN).1
theorem ku{ss:List SdK}{sh fr:Int->Bool}(h:∀s∈ss,s.Ok N)(co:ss.Pairwise fun s t=>BI s.b t.b=1)
 (hsh:∀j:Nat,j<N->sh (B+(j:Int))=true->∀s∈ss,rv s.b s.p s.k (B+(j:Int))<=s.c)(hfr:∀j:Nat,j<N->(∀s∈ss,rv s.b s.p s.k (B+(j:Int))<s.c)->fr (B+(j:Int))=true) :
 aN sh B N*pU ss-N*pH ss<=(pL ss+ss.length)*pU ss/\N*pH ss-aN fr B N*pU ss<=(pL ss+ss.length)*pU ss:=by
 obtain⟨l,hl⟩:=fQ ss h co;obtain⟨k1,k2⟩:=ve (B:=B) (N:=N) hl;obtain⟨t0,u0,h0,hu,c0,ct,cu,fin⟩:=kQ ss h;have fin:=fin (by omega);have ll:=hl.len
 have over:aN sh B N<=aN (zc ss) B N+ss.length:=by
  have key:∀us:List SdK,(∀s∈us,s.Ok N)->∀q:Int->Bool,(∀j:Nat,j<N->q (B+(j:Int))=true->∀s∈us,rv s.b s.p s.k (B+(j:Int))<=s.c)->aN q B N<=aN (fun n=>q n&&zc us n) B N+us.length:=by
   intro us
   induction us with
   | nil =>
     intro _ q _
     have:=bX (q:=q) (q':=fun n=>q n&&zc [] n) (B:=B) N fun j hj z=>by
      show(q (B+(j:Int))&&true)=true;rw[Ge];exact z
     show aN q B N<=aN (fun n=>q n&&zc [] n) B N+((0:Nat):Int)
     omega
   | cons s us ih =>
     intro hs q hq;have a:=i6 (hs s AZ) B;have b:=ih (fun t m=>hs t (AU _ m)) (fun n=>q n&&decide (rv s.b s.p s.k n<s.c)) fun j hj z t mt=>hq j hj ((E3 _ _).mp z).1 t (AU _ mt)
     have c:=ib (q:=q) (q1:=fun n=>q n&&decide (rv s.b s.p s.k n<s.c)) (q2:=fun n=>decide (rv s.b s.p s.k n=s.c)) (B:=B) N fun j hj z=>by
      have:=hq j hj z s AZ;rcases Int.lt_or_eq_of_le this with w|w
      · exact .inl (by rw[E3];exact⟨z,decide_eq_true w⟩)
      · exact .inr (decide_eq_true w)
     have d:aN (fun n=>(q n&&decide (rv s.b s.p s.k n<s.c))&&zc us n) B N<=aN (fun n=>q n&&zc (s::us) n) B N:=bX N fun j hj z=>by
      have e:zc (s::us) (B+(j:Int))=(decide (rv s.b s.p s.k (B+(j:Int))<s.c)&&zc us (B+(j:Int))):=rfl;rw[e,<- Bool.and_assoc];exact z
     rw[Bb,Cg];omega
  have a:=key ss h sh hsh;have b:aN (fun n=>sh n&&zc ss n) B N<=aN (zc ss) B N:=bX N fun j hj z=>((E3 _ _).mp z).2;omega
 have under:aN (zc ss) B N<=aN fr B N:=bX N fun j hj z=>hfr j hj fun s ms=>by
  have:=Ct.mp z s ms;simpa using this
 have lT:(l.length:Int)*pT ss<=pL ss*pT ss:=AQ ll (by omega);generalize pT ss=T at *;generalize pU ss=U at *;generalize pH ss=H at *;generalize pC ss=C at *;generalize pL ss=P at *;generalize aN (zc ss) B N=S at *;generalize aN sh B N=A at *;generalize aN fr B N=F at *;generalize (ss.length:Int)=k at *;generalize (l.length:Int)*T=lt at *;have k1:S*T<=N*C+P*T:=by omega
 have k2:(N:Int)*C-P*T<=S*T:=by omega
 have m1:=AQ k1 (show 0<=U by omega);have m2:=AQ k2 (show 0<=U by omega);have m3:=Bc cu (show 0<=(N:Int) by omega);have TU:0<=T*U:=Bm (by omega) (by omega);have m4:=AQ over TU;have m5:=AQ under TU;constructor
 · refine Ci (a:=T) ?_ t0;have e1:(A*U-N*H)*T=A*(T*U)-N*(H*T):=by grind
   have e2:(P+k)*U*T=P*T*U+k*(T*U):=by grind
   have e3:(S+k)*(T*U)=S*T*U+k*(T*U):=by grind
   have e4:(N*C+P*T)*U=N*(C*U)+P*T*U:=by grind
   rw[e1,e2];rw[e3]at m4;rw[e4]at m1;omega
 · refine Ci (a:=T) ?_ t0;have e1:(N*H-F*U)*T=N*(H*T)-F*(T*U):=by grind
   have e2:(P+k)*U*T=P*T*U+k*(T*U):=by grind
   have e3:S*(T*U)=S*T*U:=by grind
   have e4:(N*C-P*T)*U=N*(C*U)-P*T*U:=by grind
   rw[e1,e2];rw[e3]at m5;rw[e4]at m2;omega
theorem kj{b:Int}{p:List Int}(h:2<=b)(ex:IsEx b p):∀k,rv b p k 0=0
 | 0=>rfl
 | k+1=>by
   show zC p (0%b)*b^k+rv b p k (0 / b)=0;rw[Int.zero_emod,Int.zero_ediv,kj h ex k,zD h ex,D6,Dy]
theorem rZ{b:Int}{p:List Int}(h:2<=b)(ex:IsEx b p):∀(k:Nat)(n:Int),0<=n ->
 rv b p k n*b^(zE b n).length<=tv b ((zE b n).map (zC p))*b^k/\tv b ((zE b n).map (zC p))*b^k<(rv b p k n+1)*b^(zE b n).length
 | 0,n,hn=>by
   obtain⟨t0,t1⟩:=pA h _ (oF ex (hV h n));rw[AV]at t1;show 0*_<=_*b^0/\_*b^0<(0+1)*_;rw[BV,D6,DW,Dy,BR]
   exact⟨t0,t1⟩
 | k+1,n,hn=>by
   rcases Gq 0 n with q|q
   · obtain⟨i1,i2⟩:=rZ h ex k (n / b) (DN hn (by omega));rw[lE h q,Bb,A1,gU,AV];show(zC p (n%b)*b^k+rv b p k (n / b))*_<=_/\_<(zC p (n%b)*b^k+rv b p k (n / b)+1)*_;rw[Bj,Bj];generalize zC p (n%b)=e at *;generalize rv b p k (n / b)=r at *;generalize tv b ((zE b (n / b)).map (zC p))=t at *;generalize b^(zE b (n / b)).length=l at *;generalize b^k=c at *;have m1:=AQ i1 (show 0<=b by omega);have m2:=Dd i2 (show 0<b by omega);have e1:(e*c+r)*(l*b)=e*c*l*b+r*l*b:=by grind
     have e2:(e*l+t)*(c*b)=e*c*l*b+t*c*b:=by grind
     have e3:(e*c+r+1)*(l*b)=e*c*l*b+(r+1)*l*b:=by grind
     rw[e1,e2,e3];omega
   · have:n=0:=by omega
     subst this;rw[kj h ex,qJ,D2,C_,BV];have:=dz h (k+1);show 0*1<=0*_/\0*_<(0+1)*1;omega
theorem km(h:2<=b)(ex:IsEx b p)(k:Nat){n:Int}(hn:0<=n) :
 rv b p k n*(az b p n).den<=(az b p n).num*b^k/\(az b p n).num*b^k<(rv b p k n+1)*(az b p n).den:=by
 obtain⟨i1,i2⟩:=rZ h ex k n hn;have hl:=dz h (zE b n).length
 have e:(az b p n).num*b^(zE b n).length=tv b ((zE b n).map (zC p))*(az b p n).den:=by
  have:=iJ (a:=tv b ((zE b n).map (zC p))) hl;have e2:=me h ((zE b n).map (zC p));rw[AV]at e2;rw[e2]at this;exact this
 have hd:0<((az b p n).den:Int):=fL _;generalize ((az b p n).den:Int)=d at *;generalize (az b p n).num=x at *;generalize tv b ((zE b n).map (zC p))=t at *;generalize b^(zE b n).length=l at *;generalize rv b p k n=r at *;generalize b^k=c at *;constructor
 · refine Ci (a:=l) ?_ hl;have m:=AQ i1 (show 0<=d by omega);have e1:r*d*l=r*l*d:=by grind
   have e2:x*c*l=t*c*d:=by grind
   rw[e1,e2];exact m
 · refine Eo (a:=l) ?_ (by omega);have m:=Dd i2 hd;have e1:(r+1)*d*l=(r+1)*l*d:=by grind
   have e2:x*c*l=t*c*d:=by grind
   rw[e1,e2];exact m
theorem sY{ss:List SdK}(hl:BxOk ss l)(N:Nat):aN (zc ss) B N=(l.map fun t=>aN (fun n=>decide (n%t.2.1=t.1)) B N).sum:=by
 induction N with
 | zero =>
   show(0:Int)=_
   have:∀l:List (Int×Int×Int),(l.map fun t=>aN (fun n=>decide (n%t.2.1=t.1)) B 0).sum=0:=fun l=>by
    induction l with
    | nil=>rfl
    | cons t l ih=>rw[A1,By,ih];rfl
   rw[this]
 | succ N ih =>
   show aN (zc ss) B N+_=_;rw[ih,<- hl.cnt (B+(N:Int))];unfold db
   have key:∀l:List (Int×Int×Int),(l.map fun t=>aN (fun n=>decide (n%t.2.1=t.1)) B N).sum+(l.map fun t=>if(B+(N:Int))%t.2.1=t.1 then(1:Int)else 0).sum=(l.map fun t=>aN (fun n=>decide (n%t.2.1=t.1)) B (N+1)).sum:=fun l=>by
    induction l with
    | nil=>rfl
    | cons t l ih =>
      rw[A1,A1,A1,By,By,By,<- ih]
      have:aN (fun n=>decide (n%t.2.1=t.1)) B (N+1)=aN (fun n=>decide (n%t.2.1=t.1)) B N+if(B+(N:Int))%t.2.1=t.1 then 1 else 0:=by
       show _+(if decide ((B+(N:Int))%t.2.1=t.1)=true then(1:Int)else 0)=_;by_cases a:(B+(N:Int))%t.2.1=t.1
       · rw[if_pos (decide_eq_true a),if_pos a]
       · rw[if_neg (by simpa using a),if_neg a]
      rw[this];omega
   exact key l
theorem sT{s:SdK}(o:s.Ok N)(e:s.b^s.k=N):aN (zc [s]) B N=s.c:=by
 obtain⟨l,hl⟩:=fQ [s] (N:=N) (fun t m=>by cases Bh.mp m;exact o) (DP _ _);rw[sY hl];have eT:pT [s]=N:=by show s.b^s.k*1=_;rw[DW,e]
 have eC:pC [s]=s.c:=by show s.c*1=_;rw[DW]
 rw[<- eC,<- hl.sum];congr 1;refine C3 fun t mt=>?_;obtain⟨r0,r1,m0,mw,w0,_⟩:=hl.ok t mt;rw[eT]at mw;rw[ie m0 r0 r1];unfold lW;rw[<- mw,show B+t.2.1*t.2.2-1-t.1=(B-1-t.1)+t.2.1*t.2.2 by omega,Fp _ _ (by omega)];omega
theorem kY{s:SdK}{sh fr:Int->Bool}(o:s.Ok N)(e:s.b^s.k=N)(hsh:∀j:Nat,j<N->sh (B+(j:Int))=true->rv s.b s.p s.k (B+(j:Int))<=s.c)(hfr:∀j:Nat,j<N->rv s.b s.p s.k (B+(j:Int))<s.c->fr (B+(j:Int))=true) :
 aN sh B N*s.u-N*s.h<=s.u/\N*s.h-aN fr B N*s.u<=s.u:=by
 have q:=sT (B:=B) o e;obtain⟨b0,b1,b2,b3⟩:=o.c_bd;rw[e]at b2 b3;have u1:=o.u1;have a:=i6 o B
 have m1:=ib (q:=sh) (q1:=zc [s]) (q2:=fun n=>decide (rv s.b s.p s.k n=s.c)) (B:=B) N fun j hj z=>by
  have:=hsh j hj z;rcases Int.lt_or_eq_of_le this with w|w
  · exact .inl (by show(decide _&&true)=true;rw[decide_eq_true w];rfl)
  · exact .inr (decide_eq_true w)
 have m2:=bX (q:=zc [s]) (q':=fr) (B:=B) N fun j hj z=>hfr j hj (by
  have z:(decide (rv s.b s.p s.k (B+(j:Int))<s.c)&&true)=true:=z
  simpa using z)
 rw[q]at m1 m2;have k1:=AQ (show aN sh B N<=s.c+1 by omega) (show 0<=s.u by omega);have k2:=AQ m2 (show 0<=s.u by omega);rw[C2,BR]at k1;rw[BL s.h]at b2 b3;omega
theorem ju{N:Int}(h:2<=b)(hN:N<=2^31):N<=b^needed b N:=by
 have ex:∀m:Nat,N<=b^m->∃e,N<=b^e/\∀k<e,b^k<N:=by
  intro m
  induction m with
  | zero=>intro hm;exact⟨0,hm,fun k hk=>absurd hk (Nat.not_lt_zero k)⟩
  | succ m ih =>
    intro hm;rcases Gq (b^m) N with q|q
    · refine⟨m+1,hm,fun k hk=>?_⟩;have:=bE (b:=b) (by omega) (show k<=m by omega);omega
    · exact ih q
 obtain⟨e,e1,e2⟩:=ex 31 (Fi hN (bT h 31));rw[gv h e1 e2 hN];exact e1
noncomputable def rwP(rows:List (Int×List Int))(B:Int)(N:Nat):List (List Rat):=(Bq N).map fun j:Nat=>rows.map fun r=>az r.1 r.2 (B+(j:Int))
noncomputable def in1(sh:Bool)(x q:Rat):Bool:=if sh=true then decide (x.num*q.den<=q.num*x.den)else decide (x.num*q.den<q.num*x.den)
noncomputable def zo(sh:Bool)(p qs:List Rat):Bool:=(p.zip qs).all fun z=>in1 sh z.1 z.2
noncomputable def yH(qs:List Rat):Int:=qs.foldl (fun t q=>t*q.num) 1
noncomputable def yG(qs:List Rat):Int:=qs.foldl (fun t q=>t*(q.den:Int)) 1
noncomputable def jG(sh:Bool)(ps:List (List Rat))(qs:List Rat):Int:=((ps.filter fun p=>zo sh p qs).length:Int)
noncomputable def dA(ps:List (List Rat))(qs:List Rat)(bn bd:Int):Bool:=decide (bn*ps.length*yG qs<max (jG true ps qs*yG qs-ps.length*yH qs) (ps.length*yH qs-jG false ps qs*yG qs)*bd)
noncomputable def AJ(qs:List Rat):Prop:=∀q∈qs,0<=q.num/\q.num<=q.den
noncomputable def sdK(N:Int)(z:(Int×List Int)×Rat):SdK:=⟨z.1.1,z.1.2,needed z.1.1 N,z.2.num,z.2.den⟩
theorem jc{α:Type}(f:α->Int):∀(xs:List α)(t:Int),xs.foldl (fun t x=>t*f x) t=t*(xs.map f).foldr (· * ·) 1
 | [],t=>by show t=t*1;rw[DW]
 | x::xs,t=>by
   rw[Fm,jc f xs (t*f x),A1,List.foldr_cons,ER]
theorem ia(q:List Rat->Bool)(f:Int->List Rat)(B:Int):∀N:Nat,((((Bq N).map fun j:Nat=>f (B+(j:Int))).filter q).length:Int)=aN (fun n=>q (f n)) B N
 | 0=>rfl
 | N+1=>by
   rw[Eh,Bw,List.filter_append,Be,Cg,ia q f B N];show _=aN _ B N+if q (f (B+(N:Int)))=true then 1 else 0
   congr 1;rw[A1,D2,List.filter_cons,List.filter_nil];by_cases h:q (f (B+(N:Int)))=true
   · rw[if_pos h,if_pos h];rfl
   · rw[if_neg h,if_neg h];rfl
theorem j7(h:2<=b)(ex:IsEx b p)(k:Nat){n:Int}(hn:0<=n)(x:in1 true (az b p n) q=true):rv b p k n<=q.num*b^k / (q.den:Int):=by
 obtain⟨t1,t2⟩:=km h ex k hn;have x:(az b p n).num*q.den<=q.num*(az b p n).den:=by unfold in1 at x;simpa using x
 have dq:=fL q;have hd:0<((az b p n).den:Int):=fL _;have pp:=dz h k;rw[Int.le_ediv_iff_mul_le dq];generalize ((az b p n).den:Int)=d at *;generalize (az b p n).num=y at *;generalize b^k=c at *;generalize rv b p k n=r at *;generalize (q.den:Int)=u at *;generalize q.num=v at *;refine Ci (a:=d) ?_ hd;have m1:=AQ t1 (show 0<=u by omega);have m2:=AQ x (show 0<=c by omega);have e1:r*u*d=r*d*u:=by grind
 have e2:v*c*d=v*d*c:=by grind
 have e3:y*c*u=y*u*c:=by grind
 rw[e1,e2];rw[e3]at m1;omega
theorem j8(h:2<=b)(ex:IsEx b p)(k:Nat){n:Int}(hn:0<=n)(x:rv b p k n<q.num*b^k / (q.den:Int)):in1 false (az b p n) q=true:=by
 obtain⟨t1,t2⟩:=km h ex k hn;have dq:=fL q;have hd:0<((az b p n).den:Int):=fL _;have pp:=dz h k;have le:=Int.ediv_mul_le (q.num*b^k) (show(q.den:Int)≠0 by omega);unfold in1;rw[if_neg (by decide),decide_eq_true_eq];generalize q.num*b^k / (q.den:Int)=c' at *;generalize ((az b p n).den:Int)=d at *;generalize (az b p n).num=y at *;generalize b^k=c at *;generalize rv b p k n=r at *;generalize (q.den:Int)=u at *;generalize q.num=v at *;refine Eo (a:=c) ?_ (by omega);have m0:=AQ (show r+1<=c' by omega) (show 0<=d by omega);have m1:=Dd (show y*c<c'*d by omega) dq;have m2:=AQ le (show 0<=d by omega);have e1:y*u*c=y*c*u:=by grind
 have e2:v*d*c=v*c*d:=by grind
 have e3:c'*d*u=c'*u*d:=by grind
 rw[e1,e2];rw[e3]at m1;omega
theorem gP{α β γ:Type}(f:α->γ):∀(xs:List α)(ys:List β),ys.length=xs.length->(xs.zip ys).map (fun z=>f z.1)=xs.map f
 | [],_,_=>by simp
 | x::xs,[],h=>by cases h
 | x::xs,y::ys,h=>by rw[DQ,A1,A1,gP f xs ys (by simpa using h)]
theorem gO{α β γ:Type}(f:β->γ):∀(xs:List α)(ys:List β),ys.length=xs.length->(xs.zip ys).map (fun z=>f z.2)=ys.map f
 | [],[],_=>rfl
 | [],y::ys,h=>by cases h
 | x::xs,[],h=>by cases h
 | x::xs,y::ys,h=>by rw[DQ,A1,A1,gO f xs ys (by simpa using h)]
theorem bZ(rows:List (Int×List Int))(B:Int)(N:Nat):(rwP rows B N).length=N:=by unfold rwP;rw[AV,CV]
theorem sy(N:Int)(rows:List (Int×List Int)):rows.foldl (aM N) 1=(rows.map fun r=>max 1 ((r.1-1)*(needed r.1 N:Int))).foldr (· * ·) 1:=by
 have:=jc (fun r:Int×List Int=>max 1 ((r.1-1)*(needed r.1 N:Int))) rows 1;rw[BR]at this;exact this
theorem mC{qs:List Rat}(hr:IsRow rows)(hB:0<=B)(hN:(N:Int)<=2^31)(hl:qs.length=rows.length)(hq:AJ qs) :
 0<=yH qs/\yH qs<=yG qs/\0<yG qs/\jG true (rwP rows B N) qs<=N/\0<=jG false (rwP rows B N) qs /\
 jG true (rwP rows B N) qs*yG qs-N*yH qs<=(rows.foldl (aM N) 1+rows.length)*yG qs/\N*yH qs-jG false (rwP rows B N) qs*yG qs<=(rows.foldl (aM N) 1+rows.length)*yG qs:=by
 have ok:∀s∈(rows.zip qs).map (sdK N),s.Ok N:=fun s ms=>by
  obtain⟨z,mz,rfl⟩:=BB.mp ms;obtain⟨a1,a2,a3⟩:=hr.ok z.1 (Cp mz).1;obtain⟨c1,c2⟩:=hq z.2 (Cp mz).2;exact⟨a1,a3,c1,c2,fL _,ju a1 hN⟩
 have co:((rows.zip qs).map (sdK N)).Pairwise fun s t=>BI s.b t.b=1:=by
  have e:=gP (fun r:Int×List Int=>r.1) rows qs hl;have p:((rows.zip qs).map fun z=>z.1.1).Pairwise fun x y:Int=>BI x y=1:=by rw[e,Dj];exact hr.co
  rw[Dj]at p ⊢;exact p
 have eH:pH ((rows.zip qs).map (sdK N))=yH qs:=by
  unfold pH yH;rw[B4,jc (fun q:Rat=>q.num),BR,<- gO (fun q:Rat=>q.num) rows qs hl];rfl
 have eU:pU ((rows.zip qs).map (sdK N))=yG qs:=by
  unfold pU yG;rw[B4,jc (fun q:Rat=>(q.den:Int)),BR,<- gO (fun q:Rat=>(q.den:Int)) rows qs hl];rfl
 have eL:pL ((rows.zip qs).map (sdK N))=rows.foldl (aM N) 1:=by
  unfold pL;rw[B4,sy,<- gP (fun r:Int×List Int=>max 1 ((r.1-1)*(needed r.1 N:Int))) rows qs hl];rfl
 have en:(((rows.zip qs).map (sdK N)).length:Int)=rows.length:=by rw[AV,List.length_zip,hl,Nat.min_self]
 have inZ:∀(sh:Bool)(n:Int),zo sh (rows.map fun r=>az r.1 r.2 n) qs=(rows.zip qs).all fun z=>in1 sh (az z.1.1 z.1.2 n) z.2:=fun sh n=>by
  have key:∀(rs:List (Int×List Int))(qs:List Rat),((rs.map fun r=>az r.1 r.2 n).zip qs).all (fun z=>in1 sh z.1 z.2)=(rs.zip qs).all fun z=>in1 sh (az z.1.1 z.1.2 n) z.2:=by
   intro rs
   induction rs with
   | nil=>intro qs;rfl
   | cons r rs ih =>
     intro qs
     cases qs with
     | nil=>rfl
     | cons q qs=>rw[A1,DQ,DQ,Gd,Gd,ih]
  exact key rows qs
 have cS:∀sh,jG sh (rwP rows B N) qs=aN (fun n=>zo sh (rows.map fun r=>az r.1 r.2 n) qs) B N:=fun sh=>ia (fun p=>zo sh p qs) (fun n=>rows.map fun r:Int×List Int=>az r.1 r.2 n) B N
 have main:=ku (B:=B) (N:=N) (sh:=fun n=>zo true (rows.map fun r=>az r.1 r.2 n) qs) (fr:=fun n=>zo false (rows.map fun r=>az r.1 r.2 n) qs) ok co (fun j hj z s ms=>by
  obtain⟨x,mx,rfl⟩:=BB.mp ms;obtain⟨a1,a2,a3⟩:=hr.ok x.1 (Cp mx).1;rw[inZ]at z
  exact j7 a1 a3 _ (by omega) (Ct.mp z x mx)) (fun j hj z=>by
  show zo false _ qs=true;rw[inZ,Ct];intro x mx;obtain⟨a1,a2,a3⟩:=hr.ok x.1 (Cp mx).1
  exact j8 a1 a3 _ (by omega) (z _ (BB.mpr ⟨x,mx,rfl⟩)))
 obtain⟨t0,u0,h0,hu,_⟩:=kQ _ ok;rw[eH,eU,eL,en]at main;rw[eU]at u0 hu;rw[eH]at h0 hu;obtain⟨n1,n2⟩:=ic (fun n=>zo true (rows.map fun r=>az r.1 r.2 n) qs) B N;obtain⟨n3,n4⟩:=ic (fun n=>zo false (rows.map fun r=>az r.1 r.2 n) qs) B N;rw[cS,cS];exact⟨h0,hu,u0,n2,n3,main.1,main.2⟩
theorem hC{ps:List (List Rat)}{qs:List Rat}{bn bd:Int}(h1:(jG true ps qs*yG qs-ps.length*yH qs)*bd<=bn*ps.length*yG qs)(h2:(ps.length*yH qs-jG false ps qs*yG qs)*bd<=bn*ps.length*yG qs)(hb:0<=bd):dA ps qs bn bd=false:=by
 unfold dA;rw[decide_eq_false_iff_not];rcases Int.le_total (jG true ps qs*yG qs-ps.length*yH qs) (ps.length*yH qs-jG false ps qs*yG qs)with c|c
 · rw[Int.max_eq_right c];omega
 · rw[Int.max_eq_left c];omega
theorem gj{qs:List Rat}(hr:IsRow rows)(hB:0<=B)(h1:1<=N)(hN:(N:Int)<=2^31)(hl:qs.length=rows.length)(hq:AJ qs) :
 dA (rwP rows B N) qs (mn (qd (rows.foldl (aM N) 1+rows.length) N) 1).num (mn (qd (rows.foldl (aM N) 1+rows.length) N) 1).den=false:=by
 obtain⟨h0,hu,u0,s1,f0,m1,m2⟩:=mC (B:=B) (N:=N) hr hB hN hl hq;have hl:=bZ rows B N;generalize rows.foldl (aM N) 1+(rows.length:Int)=P at *;have N0:(0:Int)<=N:=by omega
 unfold mn;split
 · have e:=iJ (a:=P) (c:=(N:Int)) (by omega);have d0:=fL (qd P N);have k1:=AQ m1 (show 0<=((qd P N).den:Int) by omega);have k2:=AQ m2 (show 0<=((qd P N).den:Int) by omega);have e2:(qd P N).num*(N:Int)*yG qs=P*yG qs*(qd P N).den:=by rw[e];grind
   refine hC ?_ ?_ (by omega)
   · rw[hl,e2];exact k1
   · rw[hl,e2];exact k2
 · have H0:=Bm N0 h0;have HU:=Bc hu N0;have SU:=AQ s1 (show 0<=yG qs by omega);have FU:=Bm f0 (show 0<=yG qs by omega);have e1:(1:Rat).num=1:=rfl;have e2:(((1:Rat).den:Nat):Int)=1:=rfl;refine hC ?_ ?_ (by rw[e2];omega)
   · rw[hl,e1,e2,BR];omega
   · rw[hl,e1,e2,BR];omega
theorem mN(h:2<=b)(ex:IsEx b p)(hB:0<=B)(hq:0<=q.num/\q.num<=q.den)(e:(N:Int)=b^k) :
 dA (rwP [(b,p)] B N) [q] 1 N=false:=by
 have o:(⟨b,p,k,q.num,q.den⟩:SdK).Ok N:=⟨h,ex,hq.1,hq.2,fL _,by show(N:Int)<=b^k;omega⟩;have cS:∀sh,jG sh (rwP [(b,p)] B N) [q]=aN (fun n=>zo sh [az b p n] [q]) B N:=fun sh=>ia (fun p=>zo sh p [q]) (fun n=>[az b p n]) B N;have i1:∀sh n,zo sh [az b p n] [q]=in1 sh (az b p n) q:=fun sh n=>by show(in1 sh (az b p n) q&&true)=_;rw[Ge]
 have main:=kY (B:=B) (sh:=fun n=>zo true [az b p n] [q]) (fr:=fun n=>zo false [az b p n] [q]) o e.symm (fun j hj z=>by
  rw[i1]at z
  exact j7 h ex k (by omega) z) (fun j hj z=>by
  show zo false _ [q]=true;rw[i1]
  exact j8 h ex k (by omega) z)
 have main:aN (fun n=>zo true [az b p n] [q]) B N*(q.den:Int)-N*q.num<=q.den/\N*q.num-aN (fun n=>zo false [az b p n] [q]) B N*(q.den:Int)<=q.den:=main;have eH:yH [q]=q.num:=by show 1*q.num=_;rw[BR]
 have eU:yG [q]=q.den:=by show 1*(q.den:Int)=_;rw[BR]
 have hl:=bZ [(b,p)] B N;have N0:(0:Int)<=N:=by omega
 refine hC ?_ ?_ N0
 · rw[hl,eH,eU,cS,BR,BL (N:Int) (q.den:Int)];exact AQ main.1 N0
 · rw[hl,eH,eU,cS,BR,BL (N:Int) (q.den:Int)];exact AQ main.2 N0
theorem dL(q:Rat):tupD (fr q)=some [.int q.num,.int q.den]:=rfl
theorem dP{α:Type}{f:α->AN}:∀{xs:List α}{ds:List AN},BC (fun x d=>d=f x) xs ds->ds=xs.map f
 | _,_,.nil=>rfl
 | _,_,.cons h t=>by rw[h,dP t];rfl
theorem pB{n:Int}(hb:2<=b)(h16:b<=16)(ex:IsEx b p)(h0:0<=n)(h1:n<=10^9):(0<=(az b p n).num/\(az b p n).num<=(az b p n).den)/\(az b p n).den<2^40:=by
 have f:=Fx.turn hb h16 ex h0 (show n<=10^9+1 by omega);have f0:=f.nn hb;have f1:=f.lt hb;have f2:=f.sm hb;rw[Rat.lt_iff]at f1;have e1:(1:Rat).num=1:=rfl;have e2:(((1:Rat).den:Nat):Int)=1:=rfl;rw[e1,e2]at f1;exact⟨⟨Rat.num_nonneg.mpr f0,by omega⟩,f2.2⟩
noncomputable def Nm(q:Rat):Prop:=(0<=q.num/\q.num<=q.den)/\q.den<2^40
structure Pts (ps:List (List Rat)) (s:Nat):Prop where
 lo:1<=ps.length
 hi:ps.length<=80
 s1:1<=s
 s4:s<=4
 len:∀p∈ps,p.length=s
 nm:∀p∈ps,∀q∈p,Nm q
theorem kH(hr:IsRow rows)(h1:1<=N)(h2:N<=80)(b0:0<=B)(b9:B+N<=10^9):Pts (rwP rows B N) rows.length:=by
 refine⟨by rw[bZ];exact h1,by rw[bZ];exact h2,hr.lo,hr.hi,fun p mp=>?_,fun p mp q mq=>?_⟩
 · obtain⟨j,_,rfl⟩:=BB.mp mp;rw[AV]
 · obtain⟨j,mj,rfl⟩:=BB.mp mp;obtain⟨r,mr,rfl⟩:=BB.mp mq;have:=Cc.mp mj;obtain⟨a1,a2,a3⟩:=hr.ok r mr;exact pB a1 a2 a3 (by omega) (by omega)
theorem Nm.one:Nm 1:=⟨⟨by decide,by decide⟩,by decide⟩
theorem Nm.sm(h:Nm q):yU 60 q:=by
 obtain⟨⟨a,b⟩,c⟩:=h;exact⟨by omega,by omega⟩
structure Bx (ps:List (List Rat)) (s:Nat) (qs:List Rat):Prop where
 len:qs.length=s
 of:∀q∈qs,q=1\/∃p∈ps,q∈p
theorem Bx.nm{ps:List (List Rat)}{s t:Nat}{qs:List Rat}(h:Bx ps s qs)(hp:Pts ps t):∀q∈qs,Nm q:=fun q m=>by
 rcases h.of q m with rfl|⟨p,mp,mq⟩
 · exact Nm.one
 · exact hp.nm p mp q mq
noncomputable def aQ:List W->(AN->Prop)->Prop:=fun ws Q=>∃(rows:List (Int×List Int))(B m:Int),ws=[.d (rowD rows),.d (.int B),.d (.int m)]/\((IsRow rows)/\(0<=B)/\(B+m<=10^9)/\(0<=m)/\(m<=100))/\Q (d9 (rwP rows B m.toNat))
theorem aQ.mono:∀ws (Q Q':AN->Prop),(∀d,Q d->Q' d)->aQ ws Q->aQ ws Q':=fun _ _ _ h_=>Bg fun _=>Bg fun _=>Bg fun _=>A8 (A8 (h_ _))
theorem aQ.len:∀ws (Q:AN->Prop),aQ ws Q->ws.length=3:=fun _ _ h_=>by obtain⟨_,_,_,e_,_⟩:=h_;subst e_;rfl
theorem aQ.eq(rows:List (Int×List Int))(B m:Int)(hr:IsRow rows)(B0:0<=B)(B9:B+m<=10^9)(m0:0<=m)(m9:m<=100):aQ [.d (rowD rows),.d (.int B),.d (.int m)]=VL.ret (d9 (rwP rows B m.toNat):AN):=by
 refine ae fun Q=>⟨?_,fun q_=>⟨rows,B,m,rfl,⟨hr,B0,B9,m0,m9⟩,q_⟩⟩;rintro⟨rows',B',m',e_,_,q_⟩;simp_arith only[gE,cK,cN,bR,bP,cY,fK,cX,iG,mo]at e_;obtain⟨rfl,rfl,rfl⟩:=e_;exact q_
theorem gf:FnScope ["row", "begin", "many"] ["row", "begin", "many"] (defScope (yw 15)):=⟨rfl,rfl,rfl,by decide +kernel,rfl,by decide +kernel,by decide +kernel⟩
theorem d_points_of(Fn:FnIn K mg "points_of" (yw 15) ["row", "begin", "many"])(Z:Bz mg)(d_turned:∀rl,Dfn P w K mg base rl "turned" ["base", "exchange", "n"] 3 cb)   : Dfn P w K mg base rl "points_of" ["row", "begin", "many"] 4 aQ:=by
 have sc:=gf;refine Dfn.of Fn sc (aQ.mono) (aQ.len) (fun cdv A outer s H E hr=>(au (aO (eV Z.tuple_ (aa (bf ["n", "row"] [none,some 0] rfl (jP Z.range_ (aa (vn 1) (aa (v_add (vn 1) (vn 2)) ab))) (fun _=>(al 0 (show Cs (["n", "row"]:List Str) by decide +kernel))) (fun _=>ck) (fun _=>(eV Z.tuple_ (aa (bf ["base", "exchange", "n"] [none,none,some 0] rfl (dI (vn 1)) (fun _=>(dh (n:=2) rfl (aH (al 0 (show Cs (["base", "exchange", "n"]:List Str) by decide +kernel)) (aH (al 1 (show Cs (["base", "exchange", "n"]:List Str) by decide +kernel)) cn)))) (fun _=>ck) (fun _=>(am (d_turned _) (hr.mono (by decide)) (aa (vn 0) (aa (vn 1) (aa (vn 2) ab)))))) ab)))) ab))))) ?_;rintro ws Q ⟨rows,B,m,rfl,⟨hr,B0,B9,m0,m9⟩,hQ⟩;refine aJ ?_;have sz:=BQ;have em:(B+m-B).toNat=m.toNat:=by omega
 have rl:=hr.hi;simp_arith only[ai,af,cb.eq,bh,bJ,bo,bL,bm,bK,bg,bH,bI,em];refine ig (xs:=Bq m.toNat) (enc:=fun j:Nat=>.int (B+(j:Int))) (fun j d=>d=yW (rows.map fun r=>az r.1 r.2 (B+(j:Int)))) rfl ?_ (by rw[CV];omega) ?_
 · intro j mj K hK;have hj:=Cc.mp mj;simp_arith only[ai,af,zh,cb.eq,bh,bJ,bo,bL,bm,bK,bg,bH,bI];refine cx (xs:=rows) (enc:=fun r=>B3 [.int r.1,exD r.2]) (fun r=>fr (az r.1 r.2 (B+(j:Int)))) rfl ?_ (by omega) ?_
   · intro r mr;obtain⟨a1,a2,a3⟩:=hr.ok r mr;have n0:0<=B+(j:Int):=by omega
     have n9:B+(j:Int)<2^900:=DL (show B+(j:Int)<2^60 by omega) (bE (by decide) (by decide));unfold zh;simp_arith only[ai,af,cb.eq,bh,bJ,bo,bL,bm,bK,bg,bH,bI]
   · refine hK _ (by unfold yW;rw[B4];rfl)
 · intro ds pd;rw[dP pd];have e:B3 ((Bq m.toNat).map fun j:Nat=>yW (rows.map fun r=>az r.1 r.2 (B+(j:Int))))=d9 (rwP rows B m.toNat):=by unfold d9 rwP;rw[B4];rfl
   rw[e];exact a_ hQ
noncomputable def aB:List W->(AN->Prop)->Prop:=fun ws Q=>∃(b N:Int),ws=[.d (.int b),.d (.int N)]/\((2<=b)/\(b<=16)/\(N<=2^31))/\Q (.int ((needed b N:Nat):Int))
theorem aB.mono:∀ws (Q Q':AN->Prop),(∀d,Q d->Q' d)->aB ws Q->aB ws Q':=fun _ _ _ h_=>Bg fun _=>Bg fun _=>A8 (A8 (h_ _))
theorem aB.len:∀ws (Q:AN->Prop),aB ws Q->ws.length=2:=fun _ _ h_=>by obtain⟨_,_,e_,_⟩:=h_;subst e_;rfl
theorem aB.eq(b N:Int)(h2:2<=b)(h16:b<=16)(n1:N<=2^31):aB [.d (.int b),.d (.int N)]=VL.ret (.int ((needed b N:Nat):Int):AN):=by
 refine ae fun Q=>⟨?_,fun q_=>⟨b,N,rfl,⟨h2,h16,n1⟩,q_⟩⟩;rintro⟨b',N',e_,_,q_⟩;simp_arith only[and_true]at e_;obtain⟨rfl,rfl⟩:=e_;exact q_
theorem c6:FnScope ["base", "many", "exponent", "reached"] ["base", "many"] (defScope (yw 16)):=⟨rfl,rfl,rfl,by decide +kernel,rfl,by decide +kernel,by decide +kernel⟩
theorem d_figures_needed(Fn:FnIn K mg "figures_needed" (yw 16) ["base", "many"])(Z:Bz mg)    : Dfn P w K mg base rl "figures_needed" ["base", "many"] 1 aB:=by
 have sc:=c6
 refine Dfn.of Fn sc (aB.mono) (aB.len) (fun cdv A outer s H E hr=>(ah (nZ (bO (aa ac (aa ac ab))) (dh (n:=2) rfl (aH (al 2 sc.nd) (aH (al 3 sc.nd) cn))))
  (ah (dG [] Bv (cE kS l4 (bC _) (vn 3) (vn 1)) (ah (iw 2 sc.nd qu ac)
  (au (iw 3 sc.nd hJ (vn 0)))))
  (au (aO (vn 2)))))) ?_
 rintro ws Q ⟨b,N,rfl,⟨h2,h16,n1⟩,hQ⟩;refine aJ ?_;simp_arith only[ai,af];refine eP (σ:=Nat) (fun e=>[some (.d (.int b)),some (.d (.int N)),some (.d (.int (e:Int))),some (.d (.int (b^e)))]) (fun e=>decide (b^e<N)) (fun e=>e+1) (fun e=>(N-b^e).toNat) (fun e=>∀k<e,b^k<N) 0 (by rw[BV];rfl) (fun k hk=>absurd hk (Nat.not_lt_zero k)) ?_ ?_ ?_
 · intro e _;simp_arith only[ai,af]
 · intro e he c;have c1:b^e<N:=by simpa using c
   have hp:0<b^e:=Cu (by omega);have hs:b^e*2<=b^(e+1):=by rw[Bj];exact Bc h2 (by omega)
   have cm:bp (b^e) b:=.rt (by omega);refine⟨fun k hk=>?_,(show(N-b^(e+1)).toNat<(N-b^e).toNat by omega),_,by(simp_arith only[ai,af,cm])<;>rfl,?_⟩
   · by_cases hke:k=e
     · subst hke;exact c1
     · exact he k (by omega)
   · simp_arith only[af,Bj];rfl
 · intro e he c;have c1:¬b^e<N:=by simpa using c
   rw[gv h2 (by omega) he n1]at hQ;simp_arith only[ai,af];exact a_ hQ
noncomputable def aP:List W->(AN->Prop)->Prop:=fun ws Q=>∃(rows:List (Int×List Int))(N:Int),ws=[.d (rowD rows),.d (.int N)]/\((IsRow rows)/\(1<=N)/\(N<=100))/\Q (fr (mn (qd (rows.foldl (aM N) 1+rows.length) N) 1))
theorem aP.mono:∀ws (Q Q':AN->Prop),(∀d,Q d->Q' d)->aP ws Q->aP ws Q':=fun _ _ _ h_=>Bg fun _=>Bg fun _=>A8 (A8 (h_ _))
theorem aP.len:∀ws (Q:AN->Prop),aP ws Q->ws.length=2:=fun _ _ h_=>by obtain⟨_,_,e_,_⟩:=h_;subst e_;rfl
theorem aP.eq(rows:List (Int×List Int))(N:Int)(hr:IsRow rows)(n0:1<=N)(n9:N<=100):aP [.d (rowD rows),.d (.int N)]=VL.ret (fr (mn (qd (rows.foldl (aM N) 1+rows.length) N) 1):AN):=by
 refine ae fun Q=>⟨?_,fun q_=>⟨rows,N,rfl,⟨hr,n0,n9⟩,q_⟩⟩;rintro⟨rows',N',e_,_,q_⟩;simp_arith only[gE,cK,cN,bR,bP,cY,fK,cX,iG,mo]at e_;obtain⟨rfl,rfl⟩:=e_;exact q_
theorem gb:FnScope ["row", "many", "product", "base", "exchange"] ["row", "many"] (defScope (yw 17)):=⟨rfl,rfl,rfl,by decide +kernel,rfl,by decide +kernel,by decide +kernel⟩
theorem d_row_bound(Fn:FnIn K mg "row_bound" (yw 17) ["row", "many"])(Z:Bz mg)(d_lesser:∀rl,Dfn P w K mg base rl "lesser" ["one", "other"] 2 cc)(d_fraction:∀rl,Dfn P w K mg base rl "fraction" ["top", "bottom"] 2 ba)(d_figures_needed:∀rl,Dfn P w K mg base rl "figures_needed" ["base", "many"] 1 aB)(gl_ONE:GlD K mg "ONE" (pr 1 1))  : Dfn P w K mg base rl "row_bound" ["row", "many"] 3 aP:=by
 have sc:=gb
 refine Dfn.of Fn sc (aP.mono) (aP.len) (fun cdv A outer s H E hr=>(ah (aj 2 sc.nd ac)
  (ah (bA [3,4] Bv rfl (dI (vn 0)) (dh (n:=2) rfl (aH (al 3 sc.nd) (aH (al 4 sc.nd) cn))) (au (iw 2 sc.nd hJ (n8 Z.max_ (aa ac (aa (v_mul (v_sub (vn 3) ac) (am (d_figures_needed _) (hr.mono (by decide)) (aa (vn 3) (aa (vn 1) ab)))) ab))))))
  (au (aO (am (d_lesser _) (hr.mono (by decide)) (aa (am (d_fraction _) (hr.mono (by decide)) (aa (v_add (vn 2) (fX Z.len_ (aa (vn 0) ab))) (aa (vn 1) ab))) (aa (rB gl_ONE) ab)))))))) ?_
 rintro ws Q ⟨rows,N,rfl,⟨hr,n0,n9⟩,hQ⟩;refine aJ ?_;have sz:=BQ;have rl:=hr.hi;simp_arith only[ai,af,cc.eq,ba.eq,aB.eq,bh,bJ,bo,bL,bm,bK,bg,bH,bI];refine i7 (xs:=rows) (enc:=fun r=>B3 [.int r.1,exD r.2]) (fun i ρ=>ρ=[some (.d (rowD rows)),some (.d (.int N)),some (.d (.int ((rows.take i).foldl (aM N) 1))),none,none]) rfl rfl ?_ ?_
 · rintro i hi ρ rfl K hK;obtain⟨a1,a2,a3⟩:=hr.ok rows[i] (B6 hi);obtain⟨p1,p2⟩:=bY (n:=N) hr i;have nl:=gu rows[i].1 N;have n31:N<=2^31:=by omega
   have cm1:bp (rows[i].1-1) ((needed rows[i].1 N:Nat):Int):=.rt (by omega);have cm2:bp ((rows.take i).foldl (aM N) 1) (max 1 ((rows[i].1-1)*((needed rows[i].1 N:Nat):Int))):=.lt (by omega);have e:(rows.take (i+1)).foldl (aM N) 1=(rows.take i).foldl (aM N) 1*max 1 ((rows[i].1-1)*(needed rows[i].1 N:Nat)):=by rw[c_ hi];rfl
   simp_arith only[ai,af,cc.eq,ba.eq,aB.eq,bh,bJ,bo,bL,bm,bK,bg,bH,bI];refine hK _ (cW ?_);rw[e];rfl
 · rintro ρ rfl;rw[BK (AY _)];obtain⟨p1,p2⟩:=bY (n:=N) hr rows.length;rw[BK (AY _)]at p1 p2;have N0:0<N:=by omega
   have nz:N.natAbs<2^8000:=A7 (show N.natAbs<2^40 by omega) (Ch (by decide) (by decide));have s1:yU 2000 (qd (rows.foldl (aM N) 1+rows.length) N):=(pO (k:=60) N0 (by omega) (by omega)).mono (by decide);have s2:yU 2000 1:=xS.mono (by decide);simp_arith only[ai,af,cc.eq,ba.eq,aB.eq,bh,bJ,bo,bL,bm,bK,bg,bH,bI,AL];exact a_ hQ
noncomputable def aw:List W->(AN->Prop)->Prop:=fun ws Q=>∃(b:Int),ws=[.reel,.d (.int b)]/\((2<=b)/\(b<=16))/\∀p:List Int,(IsEx b p)->Q (exD p)
theorem aw.mono:∀ws (Q Q':AN->Prop),(∀d,Q d->Q' d)->aw ws Q->aw ws Q':=fun _ _ _ h_=>Bg fun _=>A8 (A8 fun q_ o_ ho_=>h_ _ (q_ o_ ho_))
theorem aw.len:∀ws (Q:AN->Prop),aw ws Q->ws.length=2:=fun _ _ h_=>by obtain⟨_,e_,_⟩:=h_;subst e_;rfl
theorem aw.eq(b:Int)(h2:2<=b)(h16:b<=16):aw [.reel,.d (.int b)]=zH (anyM fun p:List Int=>IsEx b p) fun p=>VL.ret (exD p:AN):=by
 refine ae fun Q=>⟨?_,fun q_=>⟨b,rfl,⟨h2,h16⟩,q_⟩⟩;rintro⟨b',e_,_,q_⟩;simp_arith only[gE,cK,cN,bR,bP,cY,fK,cX]at e_;obtain rfl:=e_;exact q_
theorem dv:FnScope ["_law_feed_here", "_law_base", "_law_left", "_law_found", "_law_plain", "_law_k"] ["_law_feed_here", "_law_base"] (defScope (yw 21)):=⟨rfl,rfl,rfl,by decide +kernel,rfl,by decide +kernel,by decide +kernel⟩
theorem d__law_exchange(Fn:FnIn K mg "_law_exchange" (yw 21) ["_law_feed_here", "_law_base"])(Z:Bz mg)(d__law_draw:∀rl,Dfn P w K mg base rl "_law_draw" ["_law_feed_here", "_law_many"] 2 dO)   : Dfn P w K mg base rl "_law_exchange" ["_law_feed_here", "_law_base"] 3 aw:=by
 have sc:=dv
 refine Dfn.of Fn sc (aw.mono) (aw.len) (fun cdv A outer s H E hr=>(ah (eh 2 sc.nd (jR Z.list_ Z.range_ (aa ac (aa (vn 1) ab))))
  (ah (eh 3 sc.nd (bG (aa ac ab)))
  (ah (aj 4 sc.nd (l9 (kW hr.units) iA (bC _) (am (d__law_draw _) (hr.mono (by decide)) (aa (vn 0) (aa ac ab))) ac))
  (ah (bA [5] Bv rfl (bF Z.range_ (aa (v_sub (vn 1) ac) ab)) (al 5 sc.nd) (au (jM 3 2 (by decide) (jS (fV (vn 4)) ac (am (d__law_draw _) (hr.mono (by decide)) (aa (vn 0) (aa (fX Z.len_ (aa (vn 2) ab)) ab)))))))
  (au (aO (eV Z.tuple_ (aa (vn 3) ab))))))))) ?_
 rintro ws Q ⟨b,rfl,⟨h2,h16⟩,hQ⟩;refine aJ ?_;have sz:=BQ;simp_arith only[ai,af,p__law_draw.eq]
 (with_reducible (first|refine ax fun k0 hk0=>?_|refine aE fun k0 hk0=>?_))
 simp_arith only[ai,af,p__law_draw.eq];refine fB (fun i ρ=>∃f l:List Int,ρ=[some .reel,some (.d (.int b)),some (.ml (l.map .int)),some (.ml (f.map .int)),some (.d (.bool (k0==0))),none]/\f.head?=some 0/\(f++l).Perm (0::jA 1 (b-1).toNat)/\f.length=i+1) ⟨[0],jA 1 (b-1).toNat,by rw[g9];rfl,rfl,.refl _,rfl⟩ ?_ ?_
 · rintro i hi ρ ⟨f,l,rfl,hf,hp,hl⟩ K hK
   have hlen:l.length+i=(b-1).toNat:=by
    have:=hp.length_eq;rw[Be,Bb,cf]at this;omega
   have fin1:∀(z:Int)(hz:z.toNat<l.length),VL.ret (Fl.nx [some .reel,some (.d (.int b)),some (.ml ((l.map BA).eraseIdx z.toNat)),some (.ml (f.map .int++[BA l[z.toNat]])),some (.d (.bool (k0==0))),some (.d (.int (0+(i:Int))))]) K:=fun z hz=>by
    refine hK _ (cW ⟨f++[l[z.toNat]],l.eraseIdx z.toNat,?_,?_,mI hz hp,by simp[hl]⟩)
    · rw[gw,Bw];rfl
    · cases f with
      | nil=>cases hf
      | cons x f=>exact hf
   have l0:0<l.length:=by omega
   have l62:l.length<2^62:=by omega
   have fsz:f.length<sizeLine:=by omega
   simp_arith only[ai,af,p__law_draw.eq];by_cases hk:k0=0
   · subst hk;have hz:(0:Int).toNat<l.length:=by show 0<l.length;omega
     rw[if_pos (by rfl),Bp,A5 hz,Fk,opt_some];exact fin1 0 hz
   · rw[if_neg (by simpa using hk)]
     (with_reducible (first|refine ax fun z hz=>?_|refine aE fun z hz=>?_))
     have hz':z.toNat<l.length:=by omega
     refine ja ⟨hz.1,hz.2,by omega⟩ ?_;rw[Bp,A5 hz',Fk,opt_some];exact fin1 z hz'
 · rintro ρ ⟨f,l,rfl,hf,hp,hl⟩
   have hlen:l.length=0:=by
    have:=hp.length_eq;rw[Be,Bb,cf]at this;omega
   have:l=[]:=List.length_eq_zero_iff.mp hlen;subst this;rw[Co]at hp;simp_arith only[ai,af,p__law_draw.eq];exact a_ (hQ f (qt h2 hf hp))
noncomputable def bw:List W->(AN->Prop)->Prop:=fun ws Q=>∃(m:Int),ws=[.reel,.d (.int m)]/\((1<=m)/\(m<=4))/\∀rows:List (Int×List Int),(IsRow rows/\rows.length<=m.toNat)->Q (rowD rows)
theorem bw.mono:∀ws (Q Q':AN->Prop),(∀d,Q d->Q' d)->bw ws Q->bw ws Q':=fun _ _ _ h_=>Bg fun _=>A8 (A8 fun q_ o_ ho_=>h_ _ (q_ o_ ho_))
theorem bw.len:∀ws (Q:AN->Prop),bw ws Q->ws.length=2:=fun _ _ h_=>by obtain⟨_,e_,_⟩:=h_;subst e_;rfl
theorem bw.eq(m:Int)(m1:1<=m)(m4:m<=4):bw [.reel,.d (.int m)]=zH (anyM fun rows:List (Int×List Int)=>IsRow rows/\rows.length<=m.toNat) fun rows=>VL.ret (rowD rows:AN):=by
 refine ae fun Q=>⟨?_,fun q_=>⟨m,rfl,⟨m1,m4⟩,q_⟩⟩;rintro⟨m',e_,_,q_⟩;simp_arith only[gE,cK,cN,bR,bP,cY,fK,cX,iG,mo]at e_;obtain rfl:=e_;exact q_
theorem gZ:FnScope ["_law_feed_here", "_law_most", "_law_some", "_law_bases", "_law_at", "_law_many"] ["_law_feed_here", "_law_most"] (defScope (yw 22)):=⟨rfl,rfl,rfl,by decide +kernel,rfl,by decide +kernel,by decide +kernel⟩
theorem d__law_row(Fn:FnIn K mg "_law_row" (yw 22) ["_law_feed_here", "_law_most"])(Z:Bz mg)(d__law_draw:∀rl,Dfn P w K mg base rl "_law_draw" ["_law_feed_here", "_law_many"] 2 dO)(d__law_exchange:∀rl,Dfn P w K mg base rl "_law_exchange" ["_law_feed_here", "_law_base"] 3 aw)   : Dfn P w K mg base rl "_law_row" ["_law_feed_here", "_law_most"] 4 bw:=by
 have sc:=gZ
 refine Dfn.of Fn sc (bw.mono) (bw.len) (fun cdv A outer s H E hr=>(ah (aj 2 sc.nd (bG (aa (bG (aa ac (aa ac (aa ac (aa ac ab))))) (aa (bG (aa ac (aa ac (aa ac (aa ac ab))))) (aa (bG (aa ac (aa ac (aa ac (aa ac ab))))) (aa (bG (aa ac (aa ac (aa ac (aa ac ab))))) (aa (bG (aa ac (aa ac (aa ac (aa ac ab))))) (aa (bG (aa ac (aa ac (aa ac (aa ac ab))))) (aa (bG (aa ac (aa ac (aa ac (aa ac ab))))) ab)))))))))
  (ah (aj 2 sc.nd (jT (vn 2) (bG (aa (bG (aa ac (aa ac (aa ac (aa ac ab))))) (aa (bG (aa ac (aa ac (aa ac (aa ac ab))))) (aa (bG (aa ac (aa ac (aa ac (aa ac ab))))) (aa (bG (aa ac (aa ac (aa ac (aa ac ab))))) (aa (bG (aa ac (aa ac (aa ac (aa ac ab))))) ab))))))))
  (ah (aj 3 sc.nd (cF (vn 2) (am (d__law_draw _) (hr.mono (by decide)) (aa (vn 0) (aa ac ab)))))
  (ah (aj 4 sc.nd (am (d__law_draw _) (hr.mono (by decide)) (aa (vn 0) (aa ac ab))))
  (ah (aj 5 sc.nd (v_add ac (am (d__law_draw _) (hr.mono (by decide)) (aa (vn 0) (aa (vn 1) ab)))))
  (au (aO (eV Z.tuple_ (aa (bf ["_law_base", "_law_feed_here"] [none,some 0] rfl (cJ (pf (jT (pf (vn 3) (gQ (vn 4)) gR) (pf (vn 3) gR (gQ (vn 4)))) gR (gQ (vn 5)))) (fun _=>(al 0 (show Cs (["_law_base", "_law_feed_here"]:List Str) by decide +kernel))) (fun _=>ck) (fun _=>(bO (aa (vn 0) (aa (am (d__law_exchange _) (hr.mono (by decide)) (aa (vn 1) (aa (vn 0) ab))) ab))))) ab)))))))))) ?_
 rintro ws Q ⟨m,rfl,⟨m1,m4⟩,hQ⟩;refine aJ ?_;have sz:=BQ;simp_arith only[ai,af,p__law_draw.eq,aw.eq]
 (with_reducible (first|refine ax fun a ha=>?_|refine aE fun a ha=>?_))
 refine yI (bU (xs:=[[2,3,5,7],[3,2,7,5],[4,9,5,7],[16,15,7,11],[10,3,7,13],[6,5,7,11],[12,5,11,7],[14,3,5,11],[13,16,9,5],[8,3,5,7],[5,2,3,7],[9,2,5,7]]) (enc:=fun bs:List Int=>EX (bs.map .int)) lU rfl ha.1 ha.2 (by decide) ?_);intro bs good;have g4:=good.1;simp_arith only[ai,af,p__law_draw.eq,aw.eq]
 (with_reducible (first|refine ax fun c hc=>?_|refine aE fun c hc=>?_))
 simp_arith only[ai,af,p__law_draw.eq,aw.eq]
 (with_reducible (first|refine ax fun d hd=>?_|refine aE fun d hd=>?_))
 simp_arith only[ai,af,p__law_draw.eq,aw.eq];rw[nM hc.1,oI hc.1,oI (by omega),<- List.map_drop,<- List.map_take,<- Bw,<- List.map_take];refine ja (by simp;omega) ?_;refine ig (xs:=(bs.drop c.toNat++bs.take c.toNat).take (1+d).toNat) (enc:=BA) (fun b x=>∃p,IsEx b p/\x=B3 [.int b,exD p]) rfl ?_ (by simp;omega) ?_
 · intro b mb K hK;obtain⟨c1,c2⟩:=(di good _ _).2 b mb;simp_arith only[ai,af,zh,p__law_draw.eq,aw.eq]
   (with_reducible (first|refine ax fun p hp=>?_|refine aE fun p hp=>?_))
   exact hK _ ⟨p,hp,rfl⟩
 · intro ds pd;have pd':BC (fun x d=>∃b p,x=BA b/\d=B3 [.int b,exD p]/\IsEx b p) (((bs.drop c.toNat++bs.take c.toNat).take (1+d).toNat).map BA) ds:=cA pd;obtain⟨rows,rfl,e,hx⟩:=kr pd';obtain⟨r1,r2⟩:=m7 good (by omega) (by omega) e hx;exact a_ (hQ rows ⟨r1,by omega⟩)
noncomputable def aS:List W->(AN->Prop)->Prop:=fun ws Q=>∃(b k:Int),ws=[.d (.int b),.d (.int k)]/\((2<=b)/\(b<=16)/\(0<=k)/\(k<=4000))/\Q (.int (b^k.toNat))
theorem aS.mono:∀ws (Q Q':AN->Prop),(∀d,Q d->Q' d)->aS ws Q->aS ws Q':=fun _ _ _ h_=>Bg fun _=>Bg fun _=>A8 (A8 (h_ _))
theorem aS.len:∀ws (Q:AN->Prop),aS ws Q->ws.length=2:=fun _ _ h_=>by obtain⟨_,_,e_,_⟩:=h_;subst e_;rfl
theorem aS.eq(b k:Int)(h2:2<=b)(h16:b<=16)(h0:0<=k)(hk:k<=4000):aS [.d (.int b),.d (.int k)]=VL.ret (.int (b^k.toNat):AN):=by
 refine ae fun Q=>⟨?_,fun q_=>⟨b,k,rfl,⟨h2,h16,h0,hk⟩,q_⟩⟩;rintro⟨b',k',e_,_,q_⟩;simp_arith only[and_true]at e_;obtain⟨rfl,rfl⟩:=e_;exact q_
theorem eZ:FnScope ["_law_base", "_law_k", "_law_found", "_law_turn"] ["_law_base", "_law_k"] (defScope (yw 23)):=⟨rfl,rfl,rfl,by decide +kernel,rfl,by decide +kernel,by decide +kernel⟩
theorem d__law_power(Fn:FnIn K mg "_law_power" (yw 23) ["_law_base", "_law_k"])(Z:Bz mg)    : Dfn P w K mg base rl "_law_power" ["_law_base", "_law_k"] 1 aS:=by
 have sc:=eZ
 refine Dfn.of Fn sc (aS.mono) (aS.len) (fun cdv A outer s H E hr=>(ah (aj 2 sc.nd ac)
  (ah (bA [3] Bv rfl (bF Z.range_ (aa (vn 1) ab)) (al 3 sc.nd) (au (aj 2 sc.nd (v_mul (vn 2) (vn 0)))))
  (au (aO (vn 2)))))) ?_
 rintro ws Q ⟨b,k,rfl,⟨h2,h16,h0,hk⟩,hQ⟩;refine aJ ?_;simp_arith only[ai,af];refine jd (fun i=>[some (.d (.int b)),some (.d (.int k)),some (.d (.int (b^i))),none]) (by rw[BV]) ?_ ?_
 · intro i hi;have c:bp (b^i) b:=.rt (by omega);refine⟨_,by(simp_arith only[ai,af])<;>rfl,?_⟩;simp_arith only[af,Bj]
 · simp_arith only[af];exact a_ hQ
noncomputable def aI:List W->(AN->Prop)->Prop:=fun ws Q=>∃(p qs:List Rat)(sh:Bool),ws=[.d (yW p),.d (yW qs),.d (.bool sh)]/\((p.length<=4)/\(∀q∈p,yU 60 q)/\(∀q∈qs,yU 60 q))/\Q (.bool (zo sh p qs))
theorem aI.mono:∀ws (Q Q':AN->Prop),(∀d,Q d->Q' d)->aI ws Q->aI ws Q':=fun _ _ _ h_=>Bg fun _=>Bg fun _=>Bg fun _=>A8 (A8 (h_ _))
theorem aI.len:∀ws (Q:AN->Prop),aI ws Q->ws.length=3:=fun _ _ h_=>by obtain⟨_,_,_,e_,_⟩:=h_;subst e_;rfl
theorem aI.eq(p qs:List Rat)(sh:Bool)(h4:p.length<=4)(hp:∀q∈p,yU 60 q)(hq:∀q∈qs,yU 60 q):aI [.d (yW p),.d (yW qs),.d (.bool sh)]=VL.ret (.bool (zo sh p qs):AN):=by
 refine ae fun Q=>⟨?_,fun q_=>⟨p,qs,sh,rfl,⟨h4,hp,hq⟩,q_⟩⟩;rintro⟨p',qs',sh',e_,_,q_⟩;simp_arith only[gE,cK,cN,bR,bP,cY]at e_;obtain⟨rfl,rfl,rfl⟩:=e_;exact q_
theorem ff:FnScope ["_law_point", "_law_box", "_law_shut", "_law_top", "_law_bottom", "_law_high", "_law_under"] ["_law_point", "_law_box", "_law_shut"] (defScope (yw 25)):=⟨rfl,rfl,rfl,by decide +kernel,rfl,by decide +kernel,by decide +kernel⟩
theorem d__law_is_in(Fn:FnIn K mg "_law_is_in" (yw 25) ["_law_point", "_law_box", "_law_shut"])(Z:Bz mg)    : Dfn P w K mg base rl "_law_is_in" ["_law_point", "_law_box", "_law_shut"] 1 aI:=by
 have sc:=ff
 refine Dfn.of Fn sc (aI.mono) (aI.len) (fun cdv A outer s H E hr=>(ah (bA [3,4,5,6] Bv rfl (l5 Z.zip_ (aa (vn 0) (aa (vn 1) ab))) (dh (n:=2) rfl (aH (dh (n:=2) rfl (aH (al 3 sc.nd) (aH (al 4 sc.nd) cn))) (aH (dh (n:=2) rfl (aH (al 5 sc.nd) (aH (al 6 sc.nd) cn))) cn))) (au (jm (An.pb (ux (cE kU o6 (bC _) (v_mul (vn 3) (vn 6)) (v_mul (vn 5) (vn 4))) (rm (An.pb (rq (rn (fV (vn 2))) (pc (cE (kW hr.units) iA (bC _) (v_mul (vn 3) (vn 6)) (v_mul (vn 5) (vn 4))))))))) (au (aO dN)) eA)))
  (au (aO dN)))) ?_
 rintro ws Q ⟨p,qs,sh,rfl,⟨h4,hp,hq⟩,hQ⟩;refine aJ ?_;have sz:=BQ;simp_arith only[ai,af,AL];refine yI (sM ⟨rfl,rfl⟩ ?_);rw[ip];refine qE (xs:=p.zip qs) (enc:=fun z=>B3 [fr z.1,fr z.2]) (fun z=>!in1 sh z.1 z.2) (fun _=>.d (.bool false)) rfl ?_ ?_ ?_
 · rintro⟨x,q⟩ mz;obtain⟨a1,a2⟩:=hp x (Cp mz).1;obtain⟨c1,c2⟩:=hq q (Cp mz).2;have m1:bp x.num (q.den:Int):=.rt (by omega);have m2:bp q.num (x.den:Int):=.rt (by omega)
   have key:∀c:Bool,c=(!in1 sh x q)->∀(ρ1:En),(((List.set ρ1 3 none).set 4 none).set 5 none).set 6 none=[some (.d (yW p)),some (.d (yW qs)),some (.d (.bool sh)),none,none,none,none]->((!in1 sh x q)=true->(if c=true then VL.ret (Fl.rt (W.d (B1 false)))else VL.ret (Fl.nx ρ1))=VL.ret (Fl.rt (W.d (B1 false))))/\((!in1 sh x q)=false->∃ρ',(if c=true then VL.ret (Fl.rt (W.d (B1 false)))else VL.ret (Fl.nx ρ1))=VL.ret (Fl.nx ρ')/\(((List.set ρ' 3 none).set 4 none).set 5 none).set 6 none=[some (.d (yW p)),some (.d (yW qs)),some (.d (.bool sh)),none,none,none,none]):=by
    rintro c rfl ρ1 e;refine⟨fun h=>by rw[if_pos h],fun h=>⟨ρ1,by rw[if_neg (by rw[h];decide)],e⟩⟩
   have e3:∀(c d:Bool)(a b:Mo Fl),(if c=true then a else if d=true then a else b)=if(c||d)=true then a else b:=fun c d a b=>by cases c<;>cases d<;>rfl
   cases sh
   · simp_arith only[ai,af,AL,dL,m1,m2,e3];refine key _ ?_ _ rfl;unfold in1;rcases EI (x.num*q.den) (q.num*x.den)with c|c|c
     · have c3:¬q.num*x.den<x.num*q.den:=by omega
       have c4:¬x.num*q.den=q.num*x.den:=by omega
       simp[c,c3,c4]
     · simp[c]
     · have c3:¬x.num*q.den<q.num*x.den:=by omega
       simp[c,c3]
   · simp_arith only[ai,af,AL,dL,m1,m2,e3];refine key _ ?_ _ rfl;unfold in1;by_cases c:q.num*x.den<x.num*q.den
     · simp[c]
     · have c3:x.num*q.den<=q.num*x.den:=by omega
       simp[c,c3]
 · rintro⟨x,q⟩ mz e
   have:zo sh p qs=false:=by
    unfold zo;rw[List.all_eq_false];exact⟨_,mz,by simpa using e⟩
   rw[this]at hQ;exact a_ hQ
 · intro h
   have:zo sh p qs=true:=by
    unfold zo;rw[Ct];intro z mz;simpa using h z mz
   rw[this]at hQ;simp_arith only[ai,af];exact a_ hQ
theorem zn(a b:Int):VL.itemAt (pr a b) 0=some (.int a):=rfl
theorem zm(a b:Int):VL.itemAt (pr a b) 1=some (.int b):=rfl
theorem Pts.q60{ps:List (List Rat)}{s:Nat}(h:Pts ps s):∀p∈ps,∀q∈p,yU 60 q:=fun p mp q mq=>(h.nm p mp q mq).sm
theorem lC(f:List Rat->Bool):∀ps:List (List Rat),(ps.filterMap fun p=>if f p=true then some (yW p)else none).length=(ps.filter f).length
 | []=>rfl
 | p::ps=>by
   rw[Dr,List.filter_cons];cases f p<;>simp[lC f ps]
noncomputable def aG:List W->(AN->Prop)->Prop:=fun ws Q=>∃(ps:List (List Rat))(qs:List Rat)(bn bd:Int),ws=[.d (d9 ps),.d (yW qs),.d (pr bn bd)]/\((ps.length<=80)/\(qs.length<=4)/\(∀p∈ps,p.length<=4)/\(∀p∈ps,∀q∈p,yU 60 q)/\(∀q∈qs,yU 60 q)/\(bn.natAbs<2^50)/\(bd.natAbs<2^50))/\Q (.bool (dA ps qs bn bd))
theorem aG.mono:∀ws (Q Q':AN->Prop),(∀d,Q d->Q' d)->aG ws Q->aG ws Q':=fun _ _ _ h_=>Bg fun _=>Bg fun _=>Bg fun _=>Bg fun _=>A8 (A8 (h_ _))
theorem aG.len:∀ws (Q:AN->Prop),aG ws Q->ws.length=3:=fun _ _ h_=>by obtain⟨_,_,_,_,e_,_⟩:=h_;subst e_;rfl
theorem aG.eq(ps:List (List Rat))(qs:List Rat)(bn bd:Int)(hp:ps.length<=80)(hq4:qs.length<=4)(h4:∀p∈ps,p.length<=4)(h60:∀p∈ps,∀q∈p,yU 60 q)(hq:∀q∈qs,yU 60 q)(hn:bn.natAbs<2^50)(hd:bd.natAbs<2^50):aG [.d (d9 ps),.d (yW qs),.d (pr bn bd)]=VL.ret (.bool (dA ps qs bn bd):AN):=by
 refine ae fun Q=>⟨?_,fun q_=>⟨ps,qs,bn,bd,rfl,⟨hp,hq4,h4,h60,hq,hn,hd⟩,q_⟩⟩;rintro⟨ps',qs',bn',bd',e_,_,q_⟩;simp_arith only[gE,cK,cN,bR,bP,cY,fK,cX,iG,mo,xH]at e_;obtain⟨rfl,rfl,rfl,rfl⟩:=e_;exact q_
theorem d8:FnScope ["_law_points", "_law_box", "_law_bound", "_law_size", "_law_high", "_law_under", "_law_many", "_law_shut", "_law_free", "_law_above", "_law_lack"] ["_law_points", "_law_box", "_law_bound"] (defScope (yw 26)):=⟨rfl,rfl,rfl,by decide +kernel,rfl,by decide +kernel,by decide +kernel⟩
theorem d__law_passes(Fn:FnIn K mg "_law_passes" (yw 26) ["_law_points", "_law_box", "_law_bound"])(Z:Bz mg)(d__law_is_in:∀rl,Dfn P w K mg base rl "_law_is_in" ["_law_point", "_law_box", "_law_shut"] 1 aI)   : Dfn P w K mg base rl "_law_passes" ["_law_points", "_law_box", "_law_bound"] 2 aG:=by
 have sc:=d8
 refine Dfn.of Fn sc (aG.mono) (aG.len) (fun cdv A outer s H E hr=>(ah (aj 3 sc.nd (bO (aa ac (aa ac ab))))
  (ah (bA [4,5] Bv rfl (dI (vn 1)) (dh (n:=2) rfl (aH (al 4 sc.nd) (aH (al 5 sc.nd) cn))) (au (aj 3 sc.nd (bO (aa (v_mul (cF (vn 3) ac) (vn 4)) (aa (v_mul (cF (vn 3) ac) (vn 5)) ab))))))
  (ah (aj 6 sc.nd (fX Z.len_ (aa (vn 0) ab)))
  (ah (aj 7 sc.nd (fX Z.len_ (aa (bf ["_law_point", "_law_box"] [none,some 1] rfl (dI (vn 0)) (fun _=>(al 0 (show Cs (["_law_point", "_law_box"]:List Str) by decide +kernel))) (fun _=>nX (fV (am (d__law_is_in _) (hr.mono (by decide)) (aa (vn 0) (aa (vn 1) (aa dN ab)))))) (fun _=>(vn 0))) ab)))
  (ah (aj 8 sc.nd (fX Z.len_ (aa (bf ["_law_point", "_law_box"] [none,some 1] rfl (dI (vn 0)) (fun _=>(al 0 (show Cs (["_law_point", "_law_box"]:List Str) by decide +kernel))) (fun _=>nX (fV (am (d__law_is_in _) (hr.mono (by decide)) (aa (vn 0) (aa (vn 1) (aa dN ab)))))) (fun _=>(vn 0))) ab)))
  (ah (aj 9 sc.nd (v_sub (v_mul (vn 7) (cF (vn 3) ac)) (v_mul (vn 6) (cF (vn 3) ac))))
  (ah (aj 10 sc.nd (v_sub (v_mul (vn 6) (cF (vn 3) ac)) (v_mul (vn 8) (cF (vn 3) ac))))
  (au (aO (l9 kU o6 (bC _) (v_mul (n8 Z.max_ (aa (vn 9) (aa (vn 10) ab))) (cF (vn 2) ac)) (v_mul (v_mul (cF (vn 2) ac) (vn 6)) (cF (vn 3) ac))))))))))))) ?_
 rintro ws Q ⟨ps,qs,bn,bd,rfl,⟨hp,hq4,h4,h60,hq,hn,hd⟩,hQ⟩;refine aJ ?_;have sz:=BQ;simp_arith only[ai,af,AL];refine i7 (xs:=qs) (enc:=fr) (fun i ρ=>ρ=[some (.d (d9 ps)),some (.d (yW qs)),some (.d (pr bn bd)),some (.d (pr (yH (qs.take i)) (yG (qs.take i)))),none,none,none,none,none,none,none]) rfl rfl ?_ ?_
 · rintro i hi ρ rfl K hK;obtain⟨a1,a2⟩:=hq qs[i] (B6 hi);have m1:bp (yH (qs.take i)) qs[i].num:=.rt (by omega);have m2:bp (yG (qs.take i)) (qs[i].den:Int):=.rt (by omega);have e1:yH (qs.take (i+1))=yH (qs.take i)*qs[i].num:=c_ hi;have e2:yG (qs.take (i+1))=yG (qs.take i)*qs[i].den:=c_ hi;simp_arith only[ai,af,AL,dL,zn,zm,m1,m2];refine hK _ (cW ?_);rw[e1,e2];rfl
 · rintro ρ rfl;rw[BK (AY _)]
   have it:∀(sh:Bool)(x:List Rat),x∈ps->zh [none,some (.d (yW qs))] (qA 0) (jV (uB aI (aD (dt 0) (aD (dt 1) (aD (vC (B1 sh)) jW))))) (dt 0) (yW x)=VL.ret (if zo sh x qs=true then some (yW x)else none):=fun sh x mx=>by
    have a1:=h4 x mx;have a2:=h60 x mx;unfold zh;simp_arith only[ai,af,aI.eq,AL];cases zo sh x qs<;>rfl
   have m1:bp (((ps.filter fun p=>zo true p qs).length:Nat):Int) (yG qs):=.lt (by have:=D3 (fun p=>zo true p qs) ps;omega);have m2:bp (((ps.filter fun p=>zo false p qs).length:Nat):Int) (yG qs):=.lt (by have:=D3 (fun p=>zo false p qs) ps;omega);have m3:bp (ps.length:Int) (yH qs):=.lt (by omega);have m4:∀z,bp z bd:=fun z=>.rt (by omega);have m5:bp bn (ps.length:Int):=.rt (by omega)
   have m6:bp (bn*(ps.length:Int)) (yG qs):=.lt (by
    rw[FO];have:=Nat.mul_le_mul (show bn.natAbs<=2^50 by omega) (show(ps.length:Int).natAbs<=80 by omega)
    omega)
   simp_arith only[ai,af,AL];refine yJ (oK (xs:=ps) (enc:=yW) (fun p=>if zo true p qs=true then some (yW p)else none) rfl (it true) (by omega) ?_);rw[lC];simp_arith only[ai,af,AL];refine yJ (oK (xs:=ps) (enc:=yW) (fun p=>if zo false p qs=true then some (yW p)else none) rfl (it false) (by omega) ?_);rw[lC];simp_arith only[ai,af,AL,zn,zm,m1,m2,m3,m4,m5,m6];exact a_ hQ
noncomputable def aT:List W->(AN->Prop)->Prop:=fun ws Q=>∃(qs:List Rat),ws=[.d (.list (qs.map fr))]/\((1<=qs.length)/\(∀q∈qs,yU 60 q))/\∀q:Rat,(q∈qs)->Q (fr q)
theorem aT.mono:∀ws (Q Q':AN->Prop),(∀d,Q d->Q' d)->aT ws Q->aT ws Q':=fun _ _ _ h_=>Bg fun _=>A8 (A8 fun q_ o_ ho_=>h_ _ (q_ o_ ho_))
theorem aT.len:∀ws (Q:AN->Prop),aT ws Q->ws.length=1:=fun _ _ h_=>by obtain⟨_,e_,_⟩:=h_;subst e_;rfl
theorem aT.eq(qs:List Rat)(h1:1<=qs.length)(hq:∀q∈qs,yU 60 q):aT [.d (.list (qs.map fr))]=zH (anyM fun q:Rat=>q∈qs) fun q=>VL.ret (fr q:AN):=by
 refine ae fun Q=>⟨?_,fun q_=>⟨qs,rfl,⟨h1,hq⟩,q_⟩⟩;rintro⟨qs',e_,_,q_⟩;simp_arith only[gE,cK,cN,bR,bP,cY]at e_;obtain rfl:=e_;exact q_
theorem e8:FnScope ["_law_numbers", "_law_found", "_law_one"] ["_law_numbers"] (defScope (yw 27)):=⟨rfl,rfl,rfl,by decide +kernel,rfl,by decide +kernel,by decide +kernel⟩
theorem d__law_least(Fn:FnIn K mg "_law_least" (yw 27) ["_law_numbers"])(Z:Bz mg)    : Dfn P w K mg base rl "_law_least" ["_law_numbers"] 1 aT:=by
 have sc:=e8
 refine Dfn.of Fn sc (aT.mono) (aT.len) (fun cdv A outer s H E hr=>(ah (aj 1 sc.nd (cF (vn 0) ac))
  (ah (bA [2] Bv rfl (cJ (vn 0)) (al 2 sc.nd) (au (jm (cE kS l4 (bC _) (v_mul (cF (vn 2) ac) (cF (vn 1) ac)) (v_mul (cF (vn 1) ac) (cF (vn 2) ac))) (au (aj 1 sc.nd (vn 2))) eA)))
  (au (aO (vn 1)))))) ?_
 rintro ws Q ⟨qs,rfl,⟨h1,hq⟩,hQ⟩;refine aJ ?_
 have e0:L2.atI (qs.map fr) 0=some (fr qs[0]):=by
  have:(qs.map fr)=fr qs[0]::(qs.drop 1).map fr:=by
   conv=>lhs;rw[<- Fg 1 qs,Bw,List.take_one]
   cases qs with
   | nil=>exact absurd h1 (by decide)
   | cons x xs=>rfl
  rw[this];exact at0 _ _
 simp_arith only[ai,af,AL,e0];refine i7 (xs:=qs) (enc:=fr) (fun i ρ=>∃q,q∈qs/\ρ=[some (.d (.list (qs.map fr))),some (.d (fr q)),none]) rfl ⟨qs[0],B6 _,rfl⟩ ?_ ?_
 · rintro i hi ρ ⟨q,mq,rfl⟩ K hK;obtain⟨a1,a2⟩:=hq qs[i] (B6 hi);obtain⟨c1,c2⟩:=hq q mq;have mi:=B6 hi;generalize qs[i]=x at *;have m1:bp x.num (q.den:Int):=.rt (by omega);have m2:bp q.num (x.den:Int):=.rt (by omega);simp_arith only[ai,af,AL,dL,m1,m2];by_cases c:x.num*q.den<q.num*x.den
   · have t:decide (x.num*q.den<q.num*x.den)=true:=decide_eq_true c;simp_arith only[ai,af,t,c];exact hK _ (cW ⟨x,mi,rfl⟩)
   · have t:decide (x.num*q.den<q.num*x.den)=false:=decide_eq_false c;simp_arith only[ai,af,t,c];exact hK _ (cW ⟨q,mq,rfl⟩)
 · rintro ρ ⟨q,mq,rfl⟩;simp_arith only[ai,af];exact a_ (hQ q mq)
theorem iK{k:List Int}{x:AN}{p:List Int×AN}(m:p∈putI kvs k x):p.1=k\/∃p'∈kvs,p.1=p'.1:=by
 unfold putI at m;split at m
 · obtain⟨y,my,rfl⟩:=BB.mp m;refine .inr ⟨y,my,?_⟩;split<;>rfl
 · rcases Ce.mp m with m|m
   · exact .inr ⟨p,m,rfl⟩
   · cases Bh.mp m;exact .inl rfl
theorem iM(kvs:List (List Int×AN))(k:List Int)(x:AN):(putI kvs k x).length<=kvs.length+1:=by
 unfold putI;split<;>simp
theorem iN{p:List Int×AN}:∀{kvs ks:List (List Int×AN)},p∈kvs.foldl (fun ks p=>putI ks p.1 p.2) ks->(∃p'∈kvs,p.1=p'.1)\/∃p'∈ks,p.1=p'.1
 | [],ks,m=>.inr ⟨p,m,rfl⟩
 | y::kvs,ks,m=>by
   rcases iN (kvs:=kvs) m with⟨z,mz,e⟩|⟨z,mz,e⟩
   · exact .inl ⟨z,AU _ mz,e⟩
   · rcases iK mz with e2|⟨z2,m2,e2⟩
     · exact .inl ⟨y,AZ,e.trans e2⟩
     · exact .inr ⟨z2,m2,e.trans e2⟩
theorem fu:∀(kvs ks:List (List Int×AN)),(kvs.foldl (fun ks p=>putI ks p.1 p.2) ks).length<=ks.length+kvs.length
 | [],ks=>AY _
 | y::kvs,ks=>by
   have:=fu kvs (putI ks y.1 y.2);have:=iM ks y.1 y.2;rw[Fm,Bb];omega
theorem kF{p:List Int×AN}(m:p∈putFl kvs):∃p'∈kvs,p.1=p'.1:=by
 rcases iN m with h|⟨z,mz,_⟩
 · exact h
 · cases mz
theorem kG(kvs:List (List Int×AN)):(putFl kvs).length<=kvs.length:=by
 have:=fu kvs [];rw[C_,Nat.zero_add]at this;exact this
theorem lm{G:Rat->Prop}:∀{kvs:List (List Int×AN)},(∀p∈kvs,∃q:Rat,p.1=[q.num,(q.den:Int)]/\G q)->∃qs:List Rat,kvs.map (fun p=>kI p.1)=qs.map fr/\qs.length=kvs.length/\∀q∈qs,G q
 | [],_=>⟨[],rfl,rfl,fun q m=>(by cases m)⟩
 | p::kvs,h=>by
   obtain⟨q,e,g⟩:=h p AZ;obtain⟨qs,e1,e2,e3⟩:=lm (G:=G) (kvs:=kvs) fun p' m=>h p' (AU _ m);refine⟨q::qs,by rw[A1,A1,e1,e];rfl,by rw[Bb,Bb,e2],fun x m=>?_⟩;rcases Bo.mp m with rfl|m
   · exact g
   · exact e3 x m
noncomputable def yP(ps:List (List Rat)):Nat:=(ps.headD []).length
theorem mT(kvs:List (List Int×AN)):nA [.d (.list (kvs.map dQ))]=VL.ret (.xm (putFl kvs)):=qi _ kvs rfl
theorem qz{ps:List (List Rat)}(h:1<=ps.length):L2.atI ps 0=some (ps.headD []):=by
 cases ps with
 | nil=>exact absurd h (by decide)
 | cons p ps=>exact at0 _ _
theorem qr(k:List (List Int×AN)):(W.xm k).isPk=false:=rfl
theorem qS:oO (.d (.tuple [.int 1,.int 1]))=some [1,1]:=t9 [1,1]
theorem mQ{ps:List (List Rat)}{x:AN}(hl:∀p∈ps,i<p.length):∀p∈putI (putFl (ps.map fun p=>([(p.getD i 0).num,((p.getD i 0).den:Int)],x))) [1,1] x,∃q:Rat,p.1=[q.num,(q.den:Int)]/\(q=1\/∃p∈ps,q∈p):=fun p m=>by
 rcases iK m with e|⟨z,mz,e⟩
 · exact⟨1,e,.inl rfl⟩
 · obtain⟨y,my,e2⟩:=kF mz;obtain⟨c,mc,rfl⟩:=BB.mp my;refine⟨c.getD i 0,e.trans e2,.inr ⟨c,mc,?_⟩⟩;have:=hl c mc;rw[BZ,A5 this];exact B6 this
noncomputable def aU:List W->(AN->Prop)->Prop:=fun ws Q=>∃(ps:List (List Rat)),ws=[.d (d9 ps)]/\((Pts ps (yP ps))/\((ps.length+1)^yP ps<=1000))/\∀bs:List (List Rat),(bs.length<=1000/\∀b∈bs,Bx ps (yP ps) b)->Q (.list (bs.map yW))
theorem aU.mono:∀ws (Q Q':AN->Prop),(∀d,Q d->Q' d)->aU ws Q->aU ws Q':=fun _ _ _ h_=>Bg fun _=>A8 (A8 fun q_ o_ ho_=>h_ _ (q_ o_ ho_))
theorem aU.len:∀ws (Q:AN->Prop),aU ws Q->ws.length=1:=fun _ _ h_=>by obtain⟨_,e_,_⟩:=h_;subst e_;rfl
theorem aU.eq(ps:List (List Rat))(hp:Pts ps (yP ps))(hm:(ps.length+1)^yP ps<=1000):aU [.d (d9 ps)]=zH (anyM fun bs:List (List Rat)=>bs.length<=1000/\∀b∈bs,Bx ps (yP ps) b) fun bs=>VL.ret (.list (bs.map yW):AN):=by
 refine ae fun Q=>⟨?_,fun q_=>⟨ps,rfl,⟨hp,hm⟩,q_⟩⟩;rintro⟨ps',e_,_,q_⟩;simp_arith only[gE,cK,cN,bR,bP,cY]at e_;obtain rfl:=e_;exact q_
theorem fg:FnScope ["_law_points", "_law_found", "_law_side", "_law_numbers", "_law_longer", "_law_box"] ["_law_points"] (defScope (yw 24)):=⟨rfl,rfl,rfl,by decide +kernel,rfl,by decide +kernel,by decide +kernel⟩
theorem d__law_boxes(Fn:FnIn K mg "_law_boxes" (yw 24) ["_law_points"])(Z:Bz mg)    : Dfn P w K mg base rl "_law_boxes" ["_law_points"] 1 aU:=by
 have sc:=fg
 refine Dfn.of Fn sc (aU.mono) (aU.len) (fun cdv A outer s H E hr=>(ah (aj 1 sc.nd (bG (aa (bO ab) ab)))
  (ah (bA [2,3,4,5] Bv rfl (bF Z.range_ (aa (fX Z.len_ (aa (cF (vn 0) ac) ab)) ab)) (al 2 sc.nd) (ah (eh 3 sc.nd (pg hr.units rfl Z.dict_ (aa (bf ["_law_point", "_law_side"] [none,some 2] rfl (dI (vn 0)) (fun _=>(al 0 (show Cs (["_law_point", "_law_side"]:List Str) by decide +kernel))) (fun _=>ck) (fun _=>(bO (aa (cF (vn 0) (vn 1)) (aa dN ab))))) ab)))
  (ah (oX 3 hr.units (bO (aa ac (aa ac ab))) dN)
  (ah (eh 4 sc.nd (bG ab))
  (ah (oZ 3 (bA [5] Bv rfl (cJ (vn 1)) (al 5 sc.nd) (au (q9 4 (aa (bf ["_law_one", "_law_box"] [none,some 5] rfl (l6 (vn 3)) (fun _=>(al 0 (show Cs (["_law_one", "_law_box"]:List Str) by decide +kernel))) (fun _=>ck) (fun _=>(n_ (vn 1) (bO (aa (vn 0) ab))))) ab)))))
  (au (jL 4 (aj 1 sc.nd (vn 4)))))))))
  (au (aO (vn 1)))))) ?_
 rintro ws Q ⟨ps,rfl,⟨hp,hm⟩,hQ⟩;refine aJ ?_;have sz:=BQ;have e0:=qz hp.lo;have l80:=hp.hi;have es:(ps.headD []).length=yP ps:=rfl;have s4:=hp.s4;simp_arith only[ai,af,AL,e0,es];refine fB (fun i ρ=>∃bs:List (List Rat),ρ=[some (.d (d9 ps)),some (.d (.list (bs.map yW))),none,none,none,none]/\bs.length<=(ps.length+1)^i/\∀b∈bs,Bx ps i b) ⟨[[]],rfl,AY _,fun b m=>by cases Bh.mp m;exact⟨rfl,fun q m=>(by cases m)⟩⟩ ?_ ?_
 · rintro i hi ρ ⟨bs,rfl,hb,hx⟩ K hK;have hl:∀p∈ps,i<p.length:=fun p mp=>by rw[hp.len p mp];exact hi
   simp_arith only[ai,af,AL,Dy];refine yJ (cx (xs:=ps) (enc:=yW) (fun p=>dQ ([(p.getD i 0).num,((p.getD i 0).den:Int)],.bool true)) rfl ?_ (by omega) ?_)
   · intro p mp
     have ep:L2.atI p (i:Int)=some (p.getD i 0):=by
      have:=hl p mp;refine df ?_;rw[BZ,A5 this];rfl
     unfold zh;simp_arith only[ai,af,AL,ep];rfl
   · have em:(ps.map fun p=>dQ ([(p.getD i 0).num,((p.getD i 0).den:Int)],.bool true))=(ps.map fun p=>(([(p.getD i 0).num,((p.getD i 0).den:Int)]:List Int),B1 true)).map dQ:=by rw[B4];rfl
     rw[em];have kl:=kG (ps.map fun p=>(([(p.getD i 0).num,((p.getD i 0).den:Int)]:List Int),B1 true));rw[AV]at kl;have pl:=iM (putFl (ps.map fun p=>(([(p.getD i 0).num,((p.getD i 0).den:Int)]:List Int),B1 true))) [1,1] (.bool true);have mk:=mQ (x:=B1 true) hl;have kz:(putFl (ps.map fun p=>(([(p.getD i 0).num,((p.getD i 0).den:Int)]:List Int),B1 true))).length<sizeLine:=by omega
     obtain⟨qs,k1,k2,k3⟩:=lm mk;simp_arith only[ai,af,AL,mT,qr,pI,yM,um,qS,pJ,kz];generalize putI (putFl (ps.map fun p=>(([(p.getD i 0).num,((p.getD i 0).den:Int)]:List Int),B1 true))) [1,1] (.bool true)=kvs at *;have q81:qs.length<=ps.length+1:=by omega
     have hM:bs.length*(ps.length+1)<=(ps.length+1)^(i+1):=by rw[Go];exact Dm _ hb
     have hM2:(ps.length+1)^(i+1)<=1000:=Ca (Ch (by omega) hi) hm;refine i7 (xs:=bs) (enc:=yW) (fun j ρ=>∃ls:List (List Rat),ρ=[some (.d (d9 ps)),some (.d (.list (bs.map yW))),some (.d (.int (i:Int))),some (.xr kvs),some (.ml (ls.map yW)),none]/\ls.length<=j*(ps.length+1)/\∀l∈ls,Bx ps (i+1) l) rfl ⟨[],rfl,Db _,fun l m=>(by cases m)⟩ ?_ ?_
     · rintro j hj ρ ⟨ls,rfl,hz,hg⟩ K2 hK2;have bj:=hx bs[j] (B6 hj);generalize bs[j]=bx at *
       have hj2:j*(ps.length+1)+(ps.length+1)<=1000:=by
        have:=Dm (ps.length+1) (show j+1<=bs.length by omega);rw[GF,GG]at this;omega
       simp_arith only[ai,af,AL,mR,t7,k1];refine cx (xs:=qs) (enc:=fr) (fun q=>yW (bx++[q])) (by first|exact k1|rfl) ?_ (by omega) ?_
       · intro q mq;have bl:bx.length+1<=sizeLine:=by have:=bj.len;omega
         unfold zh;simp_arith only[ai,af,AL,bl];unfold yW;rw[Bw];rfl
       · have sl:ls.length+qs.length<=sizeLine:=by omega
         simp_arith only[ai,af,AL,sl];refine hK2 _ (cW ⟨ls++qs.map fun q=>bx++[q],?_,?_,fun l ml=>?_⟩)
         · rw[Bw,B4];rfl
         · rw[Be,AV,GF,GG];omega
         · rcases Ce.mp ml with m|m
           · exact hg l m
           · obtain⟨q,mq,rfl⟩:=BB.mp m;refine⟨by rw[Be,bj.len];rfl,fun x mx=>?_⟩;rcases Ce.mp mx with m|m
             · exact bj.of x m
             · cases Bh.mp m;exact k3 q mq
     · rintro ρ ⟨ls,rfl,hz,hg⟩;simp_arith only[ai,af,AL];exact hK _ (cW ⟨ls,rfl,Ca hz hM,hg⟩)
 · rintro ρ ⟨bs,rfl,hb,hx⟩;simp_arith only[ai,af];exact a_ (hQ bs ⟨Ca hb hm,hx⟩)
theorem j9(h:1<=N):yP (rwP rows B N)=rows.length:=by
 obtain⟨n,rfl⟩:∃n,N=n+1:=⟨N-1,by omega⟩;unfold yP rwP;rw[List.range_succ_eq_map,A1,List.headD_cons,AV]
theorem xQ:IsEx 2 [0,1]:=⟨rfl,rfl,by decide,by decide⟩
theorem uY{ex:List Int}(h:IsEx 3 ex):IsRow [(2,[0,1]),(3,ex)]:=by
 refine⟨(show 1<=2 by decide),(show 2<=4 by decide),fun r mr=>?_,?_⟩
 · rcases Bo.mp mr with rfl|mr
   · exact⟨(show(2:Int)<=2 by decide),(show(2:Int)<=16 by decide),xQ⟩
   · cases Bh.mp mr;exact⟨(show(2:Int)<=3 by decide),(show(3:Int)<=16 by decide),h⟩
 · refine List.pairwise_cons.mpr ⟨fun y my=>?_,DP _ _⟩;cases Bh.mp my;show BI 2 3=1;decide
theorem tT(q:Rat):fr q=pr q.num q.den:=rfl
theorem pK(rows:List (Int×List Int))(B:Int)(n m:Nat):rwP rows B n++rwP rows (B+n) m=rwP rows B (n+m):=by
 unfold rwP;rw[List.range_add,Bw,B4];congr 1;refine C3 fun j _=>?_;show _=List.map (fun r:Int×List Int=>az r.1 r.2 (B+((n+j:Nat):Int))) rows;rw[Cg,Int.add_assoc]
theorem t6{P:Int}{N:Int}(hN:0<N)(h1:P.natAbs<2^50)(h2:N.natAbs<2^50):(mn (qd P N) 1).num.natAbs<2^50/\((mn (qd P N) 1).den:Int).natAbs<2^50:=by
 have s:=pO (k:=50) hN h1 h2;obtain⟨a,b⟩:=s;unfold mn;split
 · exact⟨a,by omega⟩
 · exact⟨by decide,by decide⟩
theorem nT{α:Type}(f:α->Bool):∀xs:List α,Dh (xs.map fun x=>B1 (f x))=true
 | []=>rfl
 | x::xs=>by
   rw[A1];show(AN.canLay0 (.bool (f x))&&Dh (xs.map fun x=>B1 (f x)))=true;rw[nT f xs];rfl
theorem jk{α:Type}(f:α->Bool):∀xs:List α,(∀x∈xs,f x=false)->((xs.map fun x=>B1 (f x)).any fun z=>z.eqv (.bool true))=false
 | [],_=>rfl
 | x::xs,h=>by
   rw[A1,List.any_cons,jk f xs fun y m=>h y (AU _ m),h x AZ];rfl
noncomputable def ar:List W->(AN->Prop)->Prop:=fun ws Q=>ws=[.reel]/\(True)/\Q (.bool true)
theorem ar.mono:∀ws (Q Q':AN->Prop),(∀d,Q d->Q' d)->ar ws Q->ar ws Q':=fun _ _ _ h_=>A8 (A8 (h_ _))
theorem ar.len:∀ws (Q:AN->Prop),ar ws Q->ws.length=1:=fun _ _ h_=>by obtain⟨e_,_⟩:=h_;subst e_;rfl
theorem ar.eq   : ar [.reel]=VL.ret (.bool true:AN):=by
 refine ae fun Q=>⟨?_,fun q_=>⟨rfl,trivial,q_⟩⟩;rintro⟨e_,_,q_⟩;simp_arith only[gE,cK,cN,bR,bP,cY]at e_;exact q_
theorem cD:FnScope ["_law_feed_here", "_law_row_here", "_law_begin", "_law_points", "_law_bound", "_law_sides", "_law_boxes_here", "_law_k"] ["_law_feed_here"] (defScope (yw 28)):=⟨rfl,rfl,rfl,by decide +kernel,rfl,by decide +kernel,by decide +kernel⟩
theorem d__law_eighty_right(Fn:FnIn K mg "_law_eighty_right" (yw 28) ["_law_feed_here"])(Z:Bz mg)(d__law_draw:∀rl,Dfn P w K mg base rl "_law_draw" ["_law_feed_here", "_law_many"] 2 dO)(d_row_bound:∀rl,Dfn P w K mg base rl "row_bound" ["row", "many"] 3 aP)(d_points_of:∀rl,Dfn P w K mg base rl "points_of" ["row", "begin", "many"] 4 aQ)(d__law_exchange:∀rl,Dfn P w K mg base rl "_law_exchange" ["_law_feed_here", "_law_base"] 3 aw)(d__law_least:∀rl,Dfn P w K mg base rl "_law_least" ["_law_numbers"] 1 aT)(d__law_passes:∀rl,Dfn P w K mg base rl "_law_passes" ["_law_points", "_law_box", "_law_bound"] 2 aG)   : Dfn P w K mg base rl "_law_eighty_right" ["_law_feed_here"] 5 ar:=by
 have sc:=cD
 refine Dfn.of Fn sc (ar.mono) (ar.len) (fun cdv A outer s H E hr=>(ah (aj 1 sc.nd (bO (aa (bO (aa ac (aa (bO (aa ac (aa ac ab))) ab))) (aa (bO (aa ac (aa (am (d__law_exchange _) (hr.mono (by decide)) (aa (vn 0) (aa ac ab))) ab))) ab))))
  (ah (aj 2 sc.nd (am (d__law_draw _) (hr.mono (by decide)) (aa (vn 0) (aa (cF (bG (aa ac (aa ac (aa (v_sub (v_pow ac ac) ac) ab)))) (am (d__law_draw _) (hr.mono (by decide)) (aa (vn 0) (aa ac ab)))) ab))))
  (ah (aj 3 sc.nd (n_ (am (d_points_of _) (hr.mono (by decide)) (aa (vn 1) (aa (vn 2) (aa ac ab)))) (am (d_points_of _) (hr.mono (by decide)) (aa (vn 1) (aa (v_add (vn 2) ac) (aa ac ab))))))
  (ah (aj 4 sc.nd (am (d_row_bound _) (hr.mono (by decide)) (aa (vn 1) (aa ac ab))))
  (ah (dH 5 sc.nd ["_law_side", "_law_points"] [none,some 3] rfl (bF Z.range_ (aa ac ab)) (fun _=>(al 0 (show Cs (["_law_side", "_law_points"]:List Str) by decide +kernel))) (fun _=>ck) (fun _=>(jT (bf ["_law_point", "_law_side"] [none,some 0] rfl (dI (vn 1)) (fun _=>(al 0 (show Cs (["_law_point", "_law_side"]:List Str) by decide +kernel))) (fun _=>ck) (fun _=>(cF (vn 0) (vn 1)))) (bG (aa (bO (aa ac (aa ac ab))) ab)))))
  (ah (eh 6 sc.nd (bG (aa (bO (aa (bO (aa ac (aa ac ab))) (aa (am (d__law_least _) (hr.mono (by decide)) (aa (cF (vn 5) ac) ab)) ab))) (aa (bO (aa (am (d__law_least _) (hr.mono (by decide)) (aa (cF (vn 5) ac) ab)) (aa (bO (aa ac (aa ac ab))) ab))) ab))))
  (ah (bA [7] Bv rfl (bF Z.range_ (aa ac ab)) (al 7 sc.nd) (au (n6 6 (aa (bO (aa (cF (cF (vn 5) ac) (am (d__law_draw _) (hr.mono (by decide)) (aa (vn 0) (aa ac ab)))) (aa (cF (cF (vn 5) ac) (am (d__law_draw _) (hr.mono (by decide)) (aa (vn 0) (aa ac ab)))) ab))) ab))))
  (au (jL 6 (aO (l9 (kR hr.u65) jO (by with_unfolding_all rfl) dN (bf ["_law_box", "_law_points", "_law_bound"] [none,some 3,some 4] rfl (cJ (vn 6)) (fun _=>(al 0 (show Cs (["_law_box", "_law_points", "_law_bound"]:List Str) by decide +kernel))) (fun _=>ck) (fun _=>(am (d__law_passes _) (hr.mono (by decide)) (aa (vn 1) (aa (vn 0) (aa (vn 2) ab)))))))))))))))))) ?_
 rintro ws Q ⟨rfl,_,hQ⟩;refine aJ ?_;have sz:=BQ;have cp9:uq 10 9:=⟨by decide,by decide,by decide⟩;have e9:(10:Int)^GD 9=1000000000:=by decide
 simp_arith only[ai,af,AL,p__law_draw.eq,aw.eq]
 (with_reducible (first|refine ax fun ex hex=>?_|refine aE fun ex hex=>?_))
 obtain⟨R,eR,hr,rl⟩:∃R:List (Int×List Int),B3 [.tuple [.int 2,.tuple [.int 0,.int 1]],.tuple [.int 3,exD ex]]=rowD R/\IsRow R/\R.length=2:=⟨[(2,[0,1]),(3,ex)],rfl,uY hex,rfl⟩;simp_arith only[ai,af,AL,p__law_draw.eq,cp9,e9];rw[eR]
 (with_reducible (first|refine ax fun a ha=>?_|refine aE fun a ha=>?_))
 refine yI (bU (xs:=[1,100,999999920]) (enc:=BA) (fun m:Int=>1<=m/\m<=999999920) rfl ha.1 ha.2 (by decide) ?_);intro m hm;simp_arith only[ai,af,AL,p__law_draw.eq]
 (with_reducible (first|refine ax fun b hb=>?_|refine aE fun b hb=>?_))
 have b0:=hb.1;have b9:b<999999920:=by omega
 have ep:B3 ((rwP R b 40).map yW++(rwP R (b+40) 40).map yW)=d9 (rwP R b 80):=by
  rw[<- Bw];have:=pK R b 40 40;exact congrArg d9 this
 have hP:=kH (N:=80) hr (by decide) (by decide) b0 (by omega);have t40:GD 40=40:=rfl;have l40:=bZ R b 40;have l41:=bZ R (b+40) 40;have l80:=bZ R b 80;have gl:40+40<=sizeLine:=by omega
 have sd:=j9 (rows:=R) (B:=b) (N:=80) (by decide);rw[rl]at hP;have hold:=fun(qs:List Rat)(h1:qs.length=2)(h2:AJ qs)=>gj (N:=80) hr b0 (by decide) (by decide) (h1.trans rl.symm) h2;rw[show((80:Nat):Int)=80 from rfl]at hold;simp_arith only[ai,af,p__law_draw.eq,aP.eq,aQ.eq,aw.eq,aT.eq,aG.eq,AL,t40,l40,l41,gl,ep];refine yJ (ig (xs:=Bq 2) (enc:=fun j:Nat=>.int (0+(j:Int))) (fun j d=>d=EX ((((rwP R b 80).map fun p:List Rat=>p.getD j 0)++[1]).map fr)) rfl ?_ (by rw[CV];omega) ?_)
 · intro j mj K hK;have hj:=Cc.mp mj;unfold zh;simp_arith only[ai,af,AL,Dy];refine cx (xs:=rwP R b 80) (enc:=yW) (fun p=>fr (p.getD j 0)) rfl ?_ (by omega) ?_
   · intro p mp;have:=hP.len p mp
     have ep:L2.atI p (j:Int)=some (p.getD j 0):=by
      refine df ?_;rw[BZ,A5 (by omega)];rfl
     unfold zh;simp_arith only[ai,af,AL,ep]
   · have gl2:(rwP R b 80).length+1<=sizeLine:=by omega
     simp_arith only[ai,af,AL,gl2];refine hK _ ?_;rw[Bw,B4];rfl
 · intro ds pd;rw[dP pd];have bq:∀{q:List Rat},Bx (rwP R b 80) 2 q->AJ q:=fun h q m=>(h.nm hP q m).1
   have sm:∀j:Nat,j<2->∀q∈((rwP R b 80).map fun p:List Rat=>p.getD j 0)++[1],q=1\/∃p∈rwP R b 80,q∈p:=fun j hj q mq=>by
    rcases Ce.mp mq with m|m
    · obtain⟨p,mp,rfl⟩:=BB.mp m;have:=hP.len p mp;refine .inr ⟨p,mp,?_⟩;rw[BZ,A5 (by omega)];exact B6 _
    · exact .inl (Bh.mp m)
   have er:(Bq 2).map (fun j=>EX ((((rwP R b 80).map fun p:List Rat=>p.getD j 0)++[1]).map fr))=[EX ((((rwP R b 80).map fun p:List Rat=>p.getD 0 0)++[1]).map fr),EX ((((rwP R b 80).map fun p:List Rat=>p.getD 1 0)++[1]).map fr)]:=rfl;rw[er];have s0:=sm 0 (by decide);have s1:=sm 1 (by decide);have z0:(((rwP R b 80).map fun p:List Rat=>p.getD 0 0)++[1]).length=81:=by rw[Be,AV,l80];rfl
   have z1:(((rwP R b 80).map fun p:List Rat=>p.getD 1 0)++[1]).length=81:=by rw[Be,AV,l80];rfl
   generalize ((rwP R b 80).map fun p:List Rat=>p.getD 0 0)++[1]=c0 at *;generalize ((rwP R b 80).map fun p:List Rat=>p.getD 1 0)++[1]=c1 at *
   have nmq:∀q:Rat,(q=1\/∃p∈rwP R b 80,q∈p)->Nm q:=fun q h=>by
    rcases h with rfl|⟨p,mp,mq⟩
    · exact Nm.one
    · exact hP.nm p mp q mq
   have k0:∀q∈c0,yU 60 q:=fun q m=>(nmq q (s0 q m)).sm;have k1:∀q∈c1,yU 60 q:=fun q m=>(nmq q (s1 q m)).sm;have o0:1<=c0.length:=by omega
   have o1:1<=c1.length:=by omega
   simp_arith only[ai,af,AL,aT.eq]
   (with_reducible (first|refine ax fun q1 hq1=>?_|refine aE fun q1 hq1=>?_))
   try simp_arith only[ai,af,AL,aT.eq]
   (with_reducible (first|refine ax fun q0 hq0=>?_|refine aE fun q0 hq0=>?_))
   try simp_arith only[ai,af,AL]
   refine fB (fun i ρ=>∃bs:List (List Rat),ρ=[some .reel,some (.d (rowD R)),some (.d (.int b)),some (.d (d9 (rwP R b 80))),some (.d (fr (mn (qd (R.foldl (aM 80) 1+R.length) 80) 1))),some (.d (.list [.list (c0.map fr),.list (c1.map fr)])),some (.ml (bs.map yW)),none]/\bs.length<=2+i/\∀q∈bs,Bx (rwP R b 80) 2 q) ⟨[[1,q1],[q0,1]],rfl,(show 2<=2+0 by decide),fun q m=>?_⟩ ?_ ?_
   · rcases Bo.mp m with rfl|m
     · refine⟨rfl,fun x mx=>?_⟩;rcases Bo.mp mx with rfl|mx
       · exact .inl rfl
       · cases Bh.mp mx;exact s1 _ hq1
     · cases Bh.mp m;refine⟨rfl,fun x mx=>?_⟩;rcases Bo.mp mx with rfl|mx
       · exact s0 _ hq0
       · cases Bh.mp mx;exact .inl rfl
   · rintro i hi ρ ⟨bs,rfl,hz,hx⟩ K hK;simp_arith only[ai,af,AL,p__law_draw.eq]
     (with_reducible (first|refine ax fun u hu=>?_|refine aE fun u hu=>?_))
     try simp_arith only[ai,af,AL,p__law_draw.eq]
     refine bU (xs:=c0) (enc:=fr) (fun q=>q=1\/∃p∈rwP R b 80,q∈p) rfl hu.1 (by omega) s0 ?_;intro x hx0
     try simp_arith only[ai,af,AL,p__law_draw.eq]
     (with_reducible (first|refine ax fun v hv=>?_|refine aE fun v hv=>?_))
     try simp_arith only[ai,af,AL,p__law_draw.eq]
     refine bU (xs:=c1) (enc:=fr) (fun q=>q=1\/∃p∈rwP R b 80,q∈p) rfl hv.1 (by omega) s1 ?_;intro y hy0;have bl:bs.length<sizeLine:=by omega
     try simp_arith only[ai,af,AL,bl]
     refine hK _ (cW ⟨bs++[[x,y]],by rw[Bw];rfl,by rw[Be];show _+1<=_;omega,fun q m=>?_⟩);rcases Ce.mp m with m|m
     · exact hx q m
     · cases Bh.mp m;refine⟨rfl,fun z mz=>?_⟩;rcases Bo.mp mz with rfl|mz
       · exact hx0
       · cases Bh.mp mz;exact hy0
   · rintro ρ ⟨bs,rfl,hz,hx⟩;obtain⟨b1,b2⟩:=bY (n:=80) hr R.length;rw[BK (AY _)]at b1 b2;obtain⟨m1,m2⟩:=t6 (P:=R.foldl (aM 80) 1+R.length) (N:=80) (by decide) (by omega) (by decide);simp_arith only[ai,af,AL];rw[tT (mn (qd (R.foldl (aM 80) 1+R.length) 80) 1)];refine cx (xs:=bs) (enc:=yW) (fun q=>.bool (dA (rwP R b 80) q (mn (qd (R.foldl (aM 80) 1+R.length) 80) 1).num (mn (qd (R.foldl (aM 80) 1+R.length) 80) 1).den)) rfl ?_ (by omega) ?_
     · intro q mq;have hb:=hx q mq;have f1:(rwP R b 80).length<=80:=by omega
       have f2:q.length<=4:=by have:=hb.len;omega
       have f3:∀p∈rwP R b 80,p.length<=4:=fun p mp=>by have:=hP.len p mp;omega
       have f4:=hP.q60;have f5:∀x∈q,yU 60 x:=fun x mx=>(hb.nm hP x mx).sm;unfold zh;simp_arith only[ai,af,p__law_draw.eq,aP.eq,aQ.eq,aw.eq,aT.eq,aG.eq,AL]
     · have an:=jk (fun q=>dA (rwP R b 80) q (mn (qd (R.foldl (aM 80) 1+R.length) 80) 1).num (mn (qd (R.foldl (aM 80) 1+R.length) 80) 1).den) bs fun q mq=>hold q (hx q mq).len (bq (hx q mq));simp_arith only[ai,af,AL,an,nT];exact a_ hQ
theorem va(h1:1<=n)(h3:n<=3):∃c:Int,L2.atI [BA 40,.int 9,.int 5] ((n:Int)-1)=some (.int c)/\1<=c/\c<=40/\(c.toNat+1)^n<=1000:=by
 rcases(show n=1\/n=2\/n=3 by omega)with rfl|rfl|rfl
 · exact⟨40,rfl,by decide,by decide,by decide⟩
 · exact⟨9,rfl,by decide,by decide,by decide⟩
 · exact⟨5,rfl,by decide,by decide,by decide⟩
theorem xF{ex:List Int}(h2:2<=b)(h16:b<=16)(h:IsEx b ex):IsRow [(b,ex)] :=
 ⟨(show 1<=1 by decide),(show 1<=4 by decide),fun r mr=>by cases Bh.mp mr;exact⟨h2,h16,h⟩,DP _ _⟩
theorem rY:FnScope ["_law_script", "_law_feed_here", "_law_turn", "_law_row_here", "_law_begin", "_law_many", "_law_points", "_law_bound", "_law_base"] ["_law_script"] (defScope (yw 29)):=⟨rfl,rfl,rfl,by decide +kernel,rfl,by decide +kernel,by decide +kernel⟩
theorem mY(Z:Bz mg)(d__law_feed:DfnR P w K mg base "_law_feed" ["_law_script"] 1 uf)(d__law_power:∀rl,Dfn P w K mg base rl "_law_power" ["_law_base", "_law_k"] 1 aS)(d_points_of:∀rl,Dfn P w K mg base rl "points_of" ["row", "begin", "many"] 4 aQ)(d__law_eighty_right:∀rl,Dfn P w K mg base rl "_law_eighty_right" ["_law_feed_here"] 5 ar)(d__law_row:∀rl,Dfn P w K mg base rl "_law_row" ["_law_feed_here", "_law_most"] 4 bw)(d__law_draw:∀rl,Dfn P w K mg base rl "_law_draw" ["_law_feed_here", "_law_many"] 2 dO)(d_row_bound:∀rl,Dfn P w K mg base rl "row_bound" ["row", "many"] 3 aP)(d__law_exchange:∀rl,Dfn P w K mg base rl "_law_exchange" ["_law_feed_here", "_law_base"] 3 aw)(d__law_passes:∀rl,Dfn P w K mg base rl "_law_passes" ["_law_points", "_law_box", "_law_bound"] 2 aG)(d__law_boxes:∀rl,Dfn P w K mg base rl "_law_boxes" ["_law_points"] 1 aU)(F:Fun K "law" "law" (yw 29) f fd):FnOk P w K mg base AI 7 f fd ["_law_script"] (eE K):=by
 have sc:=rY
 refine qc F sc (fun cdv A outer s H E hr=>(oY 1 d__law_feed (hr.mono (by decide)) sc.nd (aa (vn 0) ab) (fun r=>(ah (bA [2,3,4,5,6,7] Bv rfl (bF Z.range_ (aa ac ab)) (al 2 sc.nd) (ah (aj 3 sc.nd (am (d__law_row _) (hr.mono (by decide)) (aa (vn 1) (aa ac ab))))
  (ah (aj 4 sc.nd (am (d__law_draw _) (hr.mono (by decide)) (aa (vn 1) (aa (cF (bG (aa ac (aa ac (aa (v_sub (v_pow ac ac) ac) ab)))) (am (d__law_draw _) (hr.mono (by decide)) (aa (vn 1) (aa ac ab)))) ab))))
  (ah (aj 5 sc.nd (v_add ac (am (d__law_draw _) (hr.mono (by decide)) (aa (vn 1) (aa (cF (bG (aa ac (aa ac (aa ac ab)))) (v_sub (fX Z.len_ (aa (vn 3) ab)) ac)) ab)))))
  (ah (aj 6 sc.nd (am (d_points_of _) (hr.mono (by decide)) (aa (vn 3) (aa (vn 4) (aa (vn 5) ab)))))
  (ah (aj 7 sc.nd (am (d_row_bound _) (hr.mono (by decide)) (aa (vn 3) (aa (vn 5) ab))))
  (au (jm (cE (oB hr.u65) jO (by with_unfolding_all rfl) dN (bf ["_law_box", "_law_points", "_law_bound"] [none,some 6,some 7] rfl (cJ (am (d__law_boxes _) (hr.mono (by decide)) (aa (vn 6) ab))) (fun _=>(al 0 (show Cs (["_law_box", "_law_points", "_law_bound"]:List Str) by decide +kernel))) (fun _=>ck) (fun _=>(am (d__law_passes _) (hr.mono (by decide)) (aa (vn 1) (aa (vn 0) (aa (vn 2) ab))))))) (au (aO dN)) eA))))))))
  (ah (aj 8 sc.nd (v_add ac (am (d__law_draw _) (hr.mono (by decide)) (aa (vn 1) (aa ac ab)))))
  (ah (aj 3 sc.nd (bO (aa (bO (aa (vn 8) (aa (am (d__law_exchange _) (hr.mono (by decide)) (aa (vn 1) (aa (vn 8) ab))) ab))) ab)))
  (ah (aj 5 sc.nd (am (d__law_power _) (hr.mono (by decide)) (aa (vn 8) (aa (v_add ac (am (d__law_draw _) (hr.mono (by decide)) (aa (vn 1) (aa ac ab)))) ab))))
  (ah (aj 6 sc.nd (am (d_points_of _) (hr.mono (by decide)) (aa (vn 3) (aa (v_mul (vn 5) (am (d__law_draw _) (hr.mono (by decide)) (aa (vn 1) (aa ac ab)))) (aa (vn 5) ab)))))
  (ah (jm (cE (oB hr.u65) jO (by with_unfolding_all rfl) dN (bf ["_law_box", "_law_points", "_law_many"] [none,some 6,some 5] rfl (cJ (am (d__law_boxes _) (hr.mono (by decide)) (aa (vn 6) ab))) (fun _=>(al 0 (show Cs (["_law_box", "_law_points", "_law_many"]:List Str) by decide +kernel))) (fun _=>ck) (fun _=>(am (d__law_passes _) (hr.mono (by decide)) (aa (vn 1) (aa (vn 0) (aa (bO (aa ac (aa (vn 2) ab))) ab))))))) (au (aO dN)) eA)
  (au (aO (am (d__law_eighty_right _) (hr.mono (by decide)) (aa (vn 1) ab))))))))))))) ?_
 intro ns hn;have ps:=uf.eq hn;have sz:=BQ;have cp9:uq 10 9:=⟨by decide,by decide,by decide⟩;have e9:(10:Int)^GD 9=1000000000:=by decide
 simp_arith only[ai,af,ps];refine nJ ?_ ?_
 · intro i hi K hK;simp_arith only[ai,af,p__law_draw.eq,bw.eq]
   (with_reducible (first|refine ax fun rows hrows=>?_|refine aE fun rows hrows=>?_))
   obtain⟨hr,r3⟩:=hrows;have r1:=hr.lo;obtain⟨c,ec,c1,c40,cM⟩:=va r1 (show rows.length<=3 by omega);simp_arith only[ai,af,p__law_draw.eq,bh,bJ,bo,bL,bm,bK,bg,bH,bI,cp9,e9]
   (with_reducible (first|refine ax fun a ha=>?_|refine aE fun a ha=>?_))
   refine yI (bU (xs:=[1,100,999999960]) (enc:=BA) (fun m:Int=>1<=m/\m<=999999960) rfl ha.1 ha.2 (by decide) ?_);intro m hm;simp_arith only[ai,af,p__law_draw.eq,bh,bJ,bo,bL,bm,bK,bg,bH,bI,ec]
   (with_reducible (first|refine ax fun b hb=>?_|refine aE fun b hb=>?_))
   simp_arith only[ai,af,p__law_draw.eq,bh,bJ,bo,bL,bm,bK,bg,bH,bI,ec]
   (with_reducible (first|refine ax fun d hd=>?_|refine aE fun d hd=>?_))
   have n1:1<=1+d:=by omega
   have n9:1+d<=40:=by omega
   have nc:(1+d).toNat<=c.toNat:=by omega
   generalize 1+d=N at n1 n9 nc ⊢;have b0:=hb.1;have b9:b+N<=10^9:=by omega
   have hP:=kH (N:=N.toNat) hr (by omega) (by omega) b0 (by omega);have pl:=bZ rows b N.toNat;have sd:=j9 (rows:=rows) (B:=b) (N:=N.toNat) (by omega);have hP2:Pts (rwP rows b N.toNat) (yP (rwP rows b N.toNat)):=by rw[sd];exact hP
   have hM:((rwP rows b N.toNat).length+1)^yP (rwP rows b N.toNat)<=1000:=by
    rw[sd,pl];exact Ca (Nat.pow_le_pow_left (by omega) _) cM
   have hold:=fun(qs:List Rat)(h1:qs.length=rows.length)(h2:AJ qs)=>gj (N:=N.toNat) hr b0 (by omega) (by omega) h1 h2;rw[show((N.toNat:Nat):Int)=N by omega]at hold;obtain⟨b1,b2⟩:=bY (n:=N) hr rows.length;rw[BK (AY _)]at b1 b2;obtain⟨m1,m2⟩:=t6 (P:=rows.foldl (aM N) 1+rows.length) (N:=N) (by omega) (by omega) (by omega);have N0:0<=N:=by omega
   have N100:N<=100:=by omega
   simp_arith only[ai,af,aS.eq,aQ.eq,ar.eq,bw.eq,p__law_draw.eq,aP.eq,aw.eq,aG.eq,aU.eq,bh,bJ,bo,bL,bm,bK,bg,bH,bI,aU.eq]
   (with_reducible (first|refine ax fun bs hbs=>?_|refine aE fun bs hbs=>?_))
   obtain⟨z1,hx⟩:=hbs;rw[sd]at hx;rw[tT (mn (qd (rows.foldl (aM N) 1+rows.length) N) 1)];refine cx (xs:=bs) (enc:=yW) (fun q=>.bool (dA (rwP rows b N.toNat) q (mn (qd (rows.foldl (aM N) 1+rows.length) N) 1).num (mn (qd (rows.foldl (aM N) 1+rows.length) N) 1).den)) rfl ?_ (by omega) ?_
   · intro q mq;have hb:=hx q mq;have f1:(rwP rows b N.toNat).length<=80:=by omega
     have f2:q.length<=4:=by have:=hb.len;omega
     have f3:∀p∈rwP rows b N.toNat,p.length<=4:=fun p mp=>by have:=hP.len p mp;omega
     have f4:=hP.q60;have f5:∀x∈q,yU 60 x:=fun x mx=>(hb.nm hP x mx).sm;unfold zh;simp_arith only[ai,af,aS.eq,aQ.eq,ar.eq,bw.eq,p__law_draw.eq,aP.eq,aw.eq,aG.eq,aU.eq,AL]
   · have an:=jk (fun q=>dA (rwP rows b N.toNat) q (mn (qd (rows.foldl (aM N) 1+rows.length) N) 1).num (mn (qd (rows.foldl (aM N) 1+rows.length) N) 1).den) bs fun q mq=>hold q (hx q mq).len fun x mx=>((hx q mq).nm hP x mx).1;simp_arith only[ai,af,an,nT];exact hK _ (cW rfl)
 · simp_arith only[ai,af,p__law_draw.eq]
   (with_reducible (first|refine ax fun e he=>?_|refine aE fun e he=>?_))
   simp_arith only[ai,af,p__law_draw.eq,aw.eq]
   (with_reducible (first|refine ax fun ex hex=>?_|refine aE fun ex hex=>?_))
   simp_arith only[ai,af,p__law_draw.eq,aw.eq,aS.eq,aQ.eq,ar.eq,bw.eq,p__law_draw.eq,aP.eq,aw.eq,aG.eq,aU.eq]
   (with_reducible (first|refine ax fun k hk=>?_|refine aE fun k hk=>?_))
   simp_arith only[ai,af,p__law_draw.eq,aw.eq,aS.eq,aQ.eq,ar.eq,bw.eq,p__law_draw.eq,aP.eq,aw.eq,aG.eq,aU.eq]
   (with_reducible (first|refine ax fun a ha=>?_|refine aE fun a ha=>?_))
   have b2:2<=2+e:=by omega
   have b6:2+e<=6:=by omega
   generalize 2+e=b at hex b2 b6 ⊢;have hr:=xF b2 (by omega) hex;have pk:∃kk:Nat,(1+k).toNat=kk/\(kk=1\/kk=2):=⟨_,rfl,by omega⟩;obtain⟨kk,ek,hk2⟩:=pk;rw[ek]
   have M2:1<=b^kk/\b^kk<=36:=by
    rcases hk2 with rfl|rfl
    · rw[Bj,BV];omega
    · rw[Bj,Bj,BV,BR];have h1:=Cd b6 b6 (by omega) (by decide);have h2:=Cd b2 b2 (by decide) (by omega);omega
   obtain⟨M,eM⟩:∃M:Int,M=b^kk:=⟨_,rfl⟩;rw[<- eM]at M2 ⊢;obtain⟨M1,M36⟩:=M2;have cm:bp M a:=.lt (by omega);obtain⟨B,eB⟩:∃B:Int,B=M*a:=⟨_,rfl⟩;rw[<- eB];have B0:0<=B:=by rw[eB];exact Bm (by omega) ha.1
   have B9:B+M<=10^9:=by
    have:=Cd M36 (show a<=1000 by omega) ha.1 (by decide);rw[<- eB]at this;omega
   have hP:=kH (N:=M.toNat) hr (by omega) (by omega) B0 (by omega);have pl:=bZ [(b,ex)] B M.toNat;have sd:=j9 (rows:=[(b,ex)]) (B:=B) (N:=M.toNat) (by omega);have hP2:Pts (rwP [(b,ex)] B M.toNat) (yP (rwP [(b,ex)] B M.toNat)):=by rw[sd];exact hP
   have hM:((rwP [(b,ex)] B M.toNat).length+1)^yP (rwP [(b,ex)] B M.toNat)<=1000:=by
    rw[sd,pl];show(M.toNat+1)^1<=1000;rw[Nat.pow_one];omega
   have hM0:0<=M:=by omega
   have hM100:M<=100:=by omega
   rw[show B3 [B3 [BA b,exD ex]]=rowD [(b,ex)]from rfl];simp_arith only[ai,af,aS.eq,aQ.eq,ar.eq,bw.eq,p__law_draw.eq,aP.eq,aw.eq,aG.eq,aU.eq,bh,bJ,bo,bL,bm,bK,bg,bH,bI,aU.eq,cm]
   (with_reducible (first|refine ax fun bs hbs=>?_|refine aE fun bs hbs=>?_))
   obtain⟨z1,hx⟩:=hbs;rw[sd]at hx;refine yJ (cx (xs:=bs) (enc:=yW) (fun q=>.bool (dA (rwP [(b,ex)] B M.toNat) q 1 M)) rfl ?_ (by omega) ?_)
   · intro q mq;have hb:=hx q mq;have f1:(rwP [(b,ex)] B M.toNat).length<=80:=by omega
     have f2:q.length<=4:=by have:=hb.len;rw[this];show 1<=4;decide
     have f3:∀p∈rwP [(b,ex)] B M.toNat,p.length<=4:=fun p mp=>by rw[hP.len p mp];show 1<=4;decide
     have f4:=hP.q60;have f5:∀x∈q,yU 60 x:=fun x mx=>(hb.nm hP x mx).sm;have f6:(1:Int).natAbs<2^50:=by decide
     have f7:M.natAbs<2^50:=by omega
     have f8:=aG.eq (rwP [(b,ex)] B M.toNat) q 1 M f1 f2 f3 f4 f5 f6 f7;unfold zh;simp_arith only[ai,af];rw[show B3 [BA 1,BA M]=pr 1 M from rfl,f8];simp_arith only[ai,af]
   · have an:=jk (fun q=>dA (rwP [(b,ex)] B M.toNat) q 1 M) bs fun q mq=>by
       have hb:=hx q mq;obtain⟨y,rfl⟩:∃y,q=[y]:=List.length_eq_one_iff.mp hb.len;have:=mN (N:=M.toNat) (k:=kk) b2 hex B0 (hb.nm hP y AZ).1 (by rw[<- eM];omega);rw[show((M.toNat:Nat):Int)=M by omega]at this;exact this
     simp_arith only[ai,af,an,nT,ar.eq];exact qk
structure Txt (K:CB) (mg:Str->Option AR):Prop where
 bz:Bz mg
 f__law_feed:FnIn K mg "_law_feed" (yw 19) ["_law_script"]
 f__law_draw:FnIn K mg "_law_draw" (yw 20) ["_law_feed_here", "_law_many"]
 f_common_divisor:FnIn K mg "common_divisor" (yw 5) ["one", "other"]
 f_fraction:FnIn K mg "fraction" (yw 6) ["top", "bottom"]
 f_is_below:FnIn K mg "is_below" (yw 7) ["one", "other"]
 f_lesser:FnIn K mg "lesser" (yw 8) ["one", "other"]
 f_power:FnIn K mg "power" (yw 10) ["base", "exponent"]
 f_figures_of:FnIn K mg "figures_of" (yw 11) ["base", "n"]
 f_number_of:FnIn K mg "number_of" (yw 12) ["base", "figures"]
 f_turned:FnIn K mg "turned" (yw 13) ["base", "exchange", "n"]
 f_points_of:FnIn K mg "points_of" (yw 15) ["row", "begin", "many"]
 f_figures_needed:FnIn K mg "figures_needed" (yw 16) ["base", "many"]
 f_row_bound:FnIn K mg "row_bound" (yw 17) ["row", "many"]
 f__law_exchange:FnIn K mg "_law_exchange" (yw 21) ["_law_feed_here", "_law_base"]
 f__law_row:FnIn K mg "_law_row" (yw 22) ["_law_feed_here", "_law_most"]
 f__law_power:FnIn K mg "_law_power" (yw 23) ["_law_base", "_law_k"]
 f__law_is_in:FnIn K mg "_law_is_in" (yw 25) ["_law_point", "_law_box", "_law_shut"]
 f__law_passes:FnIn K mg "_law_passes" (yw 26) ["_law_points", "_law_box", "_law_bound"]
 f__law_least:FnIn K mg "_law_least" (yw 27) ["_law_numbers"]
 f__law_boxes:FnIn K mg "_law_boxes" (yw 24) ["_law_points"]
 f__law_eighty_right:FnIn K mg "_law_eighty_right" (yw 28) ["_law_feed_here"]
 g_ONE:GlD K mg "ONE" (pr 1 1)
theorem sR(F:Fun K "law" "law" (yw 29) f fd)(T:Txt K mg)  : FnOk P w K mg base AI 7 f fd ["_law_script"] (eE K):=by
 have d__law_feed:DfnR P w K mg base "_law_feed" ["_law_script"] 1 uf:=K44.d__law_feed T.f__law_feed T.bz   ;have d__law_draw:∀rl,Dfn P w K mg base rl "_law_draw" ["_law_feed_here", "_law_many"] 2 dO:=fun rl=>K44.d__law_draw T.f__law_draw T.bz   ;have d_common_divisor:∀rl,Dfn P w K mg base rl "common_divisor" ["one", "other"] 1 aC:=fun rl=>K44.d_common_divisor T.f_common_divisor T.bz   ;have d_fraction:∀rl,Dfn P w K mg base rl "fraction" ["top", "bottom"] 2 ba:=fun rl=>K44.d_fraction T.f_fraction T.bz d_common_divisor  ;have d_is_below:∀rl,Dfn P w K mg base rl "is_below" ["one", "other"] 1 bv:=fun rl=>K44.d_is_below T.f_is_below T.bz   ;have d_lesser:∀rl,Dfn P w K mg base rl "lesser" ["one", "other"] 2 cc:=fun rl=>K44.d_lesser T.f_lesser T.bz d_is_below  ;have d_power:∀rl,Dfn P w K mg base rl "power" ["base", "exponent"] 1 cP:=fun rl=>K44.d_power T.f_power T.bz   ;have d_figures_of:∀rl,Dfn P w K mg base rl "figures_of" ["base", "n"] 1 aR:=fun rl=>K44.d_figures_of T.f_figures_of T.bz   ;have d_number_of:∀rl,Dfn P w K mg base rl "number_of" ["base", "figures"] 1 aY:=fun rl=>K44.d_number_of T.f_number_of T.bz   ;have d_turned:∀rl,Dfn P w K mg base rl "turned" ["base", "exchange", "n"] 3 cb:=fun rl=>K44.d_turned T.f_turned T.bz d_fraction d_number_of d_power d_figures_of  ;have d_points_of:∀rl,Dfn P w K mg base rl "points_of" ["row", "begin", "many"] 4 aQ:=fun rl=>K44.d_points_of T.f_points_of T.bz d_turned  ;have d_figures_needed:∀rl,Dfn P w K mg base rl "figures_needed" ["base", "many"] 1 aB:=fun rl=>K44.d_figures_needed T.f_figures_needed T.bz   ;have d_row_bound:∀rl,Dfn P w K mg base rl "row_bound" ["row", "many"] 3 aP:=fun rl=>K44.d_row_bound T.f_row_bound T.bz d_lesser d_fraction d_figures_needed T.g_ONE ;have d__law_exchange:∀rl,Dfn P w K mg base rl "_law_exchange" ["_law_feed_here", "_law_base"] 3 aw:=fun rl=>K44.d__law_exchange T.f__law_exchange T.bz d__law_draw  ;have d__law_row:∀rl,Dfn P w K mg base rl "_law_row" ["_law_feed_here", "_law_most"] 4 bw:=fun rl=>K44.d__law_row T.f__law_row T.bz d__law_draw d__law_exchange  ;have d__law_power:∀rl,Dfn P w K mg base rl "_law_power" ["_law_base", "_law_k"] 1 aS:=fun rl=>K44.d__law_power T.f__law_power T.bz   ;have d__law_is_in:∀rl,Dfn P w K mg base rl "_law_is_in" ["_law_point", "_law_box", "_law_shut"] 1 aI:=fun rl=>K44.d__law_is_in T.f__law_is_in T.bz   ;have d__law_passes:∀rl,Dfn P w K mg base rl "_law_passes" ["_law_points", "_law_box", "_law_bound"] 2 aG:=fun rl=>K44.d__law_passes T.f__law_passes T.bz d__law_is_in  ;have d__law_least:∀rl,Dfn P w K mg base rl "_law_least" ["_law_numbers"] 1 aT:=fun rl=>K44.d__law_least T.f__law_least T.bz   ;have d__law_boxes:∀rl,Dfn P w K mg base rl "_law_boxes" ["_law_points"] 1 aU:=fun rl=>K44.d__law_boxes T.f__law_boxes T.bz   ;have d__law_eighty_right:∀rl,Dfn P w K mg base rl "_law_eighty_right" ["_law_feed_here"] 5 ar:=fun rl=>K44.d__law_eighty_right T.f__law_eighty_right T.bz d__law_draw d_row_bound d_points_of d__law_exchange d__law_least d__law_passes  
 exact mY T.bz d__law_feed d__law_power d_points_of d__law_eighty_right d__law_row d__law_draw d_row_bound d__law_exchange d__law_passes d__law_boxes   F
end
theorem us_0(hl:us.length=0):us=[]:=List.eq_nil_of_length_eq_zero hl
theorem wF(hl:us.length=1):∃a0,us=[a0]:=by
 cases us with
 | nil=>cases hl
 | cons a0 t=>cases us_0 (Gr hl);exact⟨a0,rfl⟩
theorem wE(hl:us.length=2):∃a0 a1,us=[a0,a1]:=by
 cases us with
 | nil=>cases hl
 | cons a0 t=>obtain⟨a1,rfl⟩:=wF (Gr hl);exact⟨a0,a1,rfl⟩
theorem xl(hl:us.length=3):∃a0 a1 a2,us=[a0,a1,a2]:=by
 cases us with
 | nil=>cases hl
 | cons a0 t=>obtain⟨a1,a2,rfl⟩:=wE (Gr hl);exact⟨a0,a1,a2,rfl⟩
noncomputable def FF(K:CB)(x:Str)(st:Stmt):Prop:=∃(f:Addr)(oc kV dc pm cd ct:AR)(od an:Option Addr)(sl:Array (Option AR)),Fv K Bu x=some (some (.ref f))/\K.lookup f=some ⟨oc,od,.func (Fw x x (defArgs st) (defBody st) (defScope st) .none kV dc pm an cd ct),sl⟩/\FP K cd x=true/\FQ K (.ref f)=true
theorem ff_mk{K:CB}{st:Stmt}{oc kV dc pm cd ct:AR}{od an:Option Addr}{sl:Array (Option AR)}(a:Fv K Bu x=some (some (.ref f)))(l:K.lookup f=some ⟨oc,od,.func (Fw x x (defArgs st) (defBody st) (defScope st) .none kV dc pm an cd ct),sl⟩)(c:FP K cd x=true)(k:FQ K (.ref f)=true):FF K x st:=⟨f,oc,kV,dc,pm,cd,ct,od,an,sl,a,l,c,k⟩
theorem aW{K:CB}(X:K.In h)(G:h.Ns Bu mg){st:Stmt}(q:FF K x st)(hb:∀(kV doc pm:AR)(an:Option Addr)(cdv ct:AR)(us:List AR),us.length=ps.length->bindArgs (Fw x x (defArgs st) (defBody st) (defScope st) .none kV doc pm an cdv ct) ⟨us,[]⟩=pure (ps.zip us):=by intro _ _ _ _ _ _ us hl;first|(cases us_0 hl;exact rfl)|(obtain⟨_,rfl⟩:=wF hl;exact rfl)|(obtain⟨_,_,rfl⟩:=wE hl;exact rfl)|(obtain⟨_,_,_,rfl⟩:=xl hl;exact rfl)):FnIn K mg x st ps:=by
 obtain⟨f,_,_,_,_,_,_,_,_,_,a,l,c,k⟩:=q;exact⟨⟨f,_,PySem.W.mg_of X G a,lB l c k,(lB l c k).binds hb⟩⟩
abbrev NI(K:CB)(x:Str)(f:Addr):Prop:=Fv K Bu x=some (some (.ref f))
abbrev NZ(K:CB)(x:Str):Prop:=Fv K Bu x=some none
abbrev LK(K:CB)(x:Str)(st:Stmt)(f:Addr)(oc:AR)(od:Option Addr)(kV dc pm:AR)(an:Option Addr)(cd ct:AR)(sl:Array (Option AR)):Prop:=K.lookup f=some ⟨oc,od,.func (Fw x x (defArgs st) (defBody st) (defScope st) .none kV dc pm an cd ct),sl⟩
theorem all_mk{l:Fz}{w:BM}{K:CB}{fa:Addr}(X:K.In h)(G:h.Ns Bu mg)(hfa:mg "law" = some (.ref fa))
 {f22:Addr}{od22 an22:Option Addr}{sl22:Array (Option AR)}{oc22 kV22 dc22 pm22 cd22 ct22:AR}
 (f1:FF K "_law_feed" (yw 19))(f2:FF K "_law_draw" (yw 20))(f3:FF K "common_divisor" (yw 5))(f4:FF K "fraction" (yw 6))(f5:FF K "is_below" (yw 7))(f6:FF K "lesser" (yw 8))(f7:FF K "power" (yw 10))(f8:FF K "figures_of" (yw 11))(f9:FF K "number_of" (yw 12))(f10:FF K "turned" (yw 13))(f11:FF K "points_of" (yw 15))(f12:FF K "figures_needed" (yw 16))(f13:FF K "row_bound" (yw 17))(f14:FF K "_law_exchange" (yw 21))(f15:FF K "_law_row" (yw 22))(f16:FF K "_law_power" (yw 23))(f17:FF K "_law_is_in" (yw 25))(f18:FF K "_law_passes" (yw 26))(f19:FF K "_law_least" (yw 27))(f20:FF K "_law_boxes" (yw 24))(f21:FF K "_law_eighty_right" (yw 28))(a22:NI K "law" f22)(l22:LK K "law" (yw 29) f22 oc22 od22 kV22 dc22 pm22 an22 cd22 ct22 sl22)(c22:FP K cd22 "law" = true)(k22:FQ K (.ref f22)=true)
 (z_int:NZ K "int")(z_bool:NZ K "bool")(z_str:NZ K "str")(z_list:NZ K "list")(z_tuple:NZ K "tuple")(z_dict:NZ K "dict")(z_isinstance:NZ K "isinstance")(z_len:NZ K "len")(z_abs:NZ K "abs")(z_repr:NZ K "repr")(z_range:NZ K "range")(z_all:NZ K "all")(z_any:NZ K "any")(z_sum:NZ K "sum")(z_min:NZ K "min")(z_max:NZ K "max")(z_sorted:NZ K "sorted")(z_zip:NZ K "zip")(z_enumerate:NZ K "enumerate")(z_reversed:NZ K "reversed")(z_divmod:NZ K "divmod")(z_set:NZ K "set")(g_ONE:GlK K "ONE" (pr 1 1))  :
 ∃fd:CZ,(∀(s:AS)(v:AR),Gw s fd ⟨[v],[]⟩ [("_law_script", v)])/\∀base:Heap,K.In base->base.Ns Bu mg->FnOk l.prog w K mg base AI 7 fa fd ["_law_script"] (eE K):=by
 have e:=hfa.symm.trans (PySem.W.mg_of X G a22);cases e;have B:Bz mg:=⟨A_ X G z_int,A_ X G z_bool,A_ X G z_str,A_ X G z_list,A_ X G z_tuple,A_ X G z_dict,A_ X G z_isinstance,A_ X G z_len,A_ X G z_abs,A_ X G z_repr,A_ X G z_range,A_ X G z_all,A_ X G z_any,A_ X G z_sum,A_ X G z_min,A_ X G z_max,A_ X G z_sorted,A_ X G z_zip,A_ X G z_enumerate,A_ X G z_reversed,A_ X G z_divmod,A_ X G z_set⟩;have T:Txt K mg:=⟨B,(aW X G f1),(aW X G f2),(aW X G f3),(aW X G f4),(aW X G f5),(aW X G f6),(aW X G f7),(aW X G f8),(aW X G f9),(aW X G f10),(aW X G f11),(aW X G f12),(aW X G f13),(aW X G f14),(aW X G f15),(aW X G f16),(aW X G f17),(aW X G f18),(aW X G f19),(aW X G f20),(aW X G f21),g_ONE.of X G⟩;have FL:=lB (st:=yw 29) l22 c22 k22;exact⟨_,fun s v=>.of_eq rfl,fun base _ _=>sR FL T ⟩
theorem walk{l:Fz}{q:Bd}{YP:BM->Heap->Prop}{d:DefRec}{K:GH->CB}(hn:l.most=some 63)(hdf:d.params.defaults=[])
 (hY:∀(w:BM)(h:Heap),YP w h->(K w.params).In h)
 (F:∀(w:BM)(mg:Str->Option AR)(fa:Addr)(h:Heap),(K w.params).In h->h.Ns Bu mg->mg d.name=some (.ref fa) ->
  ∃fd:CZ,(∀(s:AS)(u:AR),Gw s fd ⟨[u],[]⟩ [("_law_script", u)])/\∀base:Heap,(K w.params).In base->base.Ns Bu mg->FnOk l.prog w (K w.params) mg base AI 7 fa fd ["_law_script"] (eE (K w.params))) :
 PySem.W.WalkO q loose XP YP l.row.toRowW d [] (fun f vs=>PySem.call f vs) :=
 L2.walk_of (n:=63) (k:=7) (x := "_law_script") (CX:=fun _=>AI) (sp:=fun w=>eE (K w.params)) hn (by decide) hdf ⟨rfl,by decide,by decide,rfl⟩ hY F (fun _ _ a ns hl _ hS=>⟨a,ns,rfl,hS,hl,fun _=>rfl⟩) fun _ _ _ _ _ z=>z
end K44
noncomputable def PySem.W.Fast.tw16503254524119365248:PySem.Params->CB:=K44.heapK
theorem PySem.W.Fast.te16503254524119365248:K44.heapK=PySem.W.Fast.tw16503254524119365248:=rfl
open PySem PySem.W PyProof.Rows
set_option maxRecDepth 100000 in
set_option maxHeartbeats 0 in
theorem PySem.Challenge.cw_evenpoints_k44_whole_rows_keep_their_bou_holds : PySem.Challenge.rw_evenpoints_k44_whole_rows_keep_their_bou.Holds := by
 refine(congrArg Fz.Holds K44.rw_eq).mpr ?_
 w_on;o_law
 refine holds_open (loose:=[]) (XP:=XL K44.zview []) (YP:=Hook.says (kHook K44.heapK K44.heapA K44.heapE)) K44.zleft
  (Hook.of _) (Hook.keeps _) (fun s e=>xl_of s (Ba.mp e).1)
  XL.keeps (by rfl) (by rfl) (by rfl) (fun s e=>recFacts_of (Ba.mp e).2) (by rfl)
  (by first|assumption|decide +kernel) (by decide +kernel) ⟨rfl,rfl,rfl,rfl,rfl,by decide +kernel⟩ ?hw ?hc
 (case hw=>w_witness2)
 k_fill
 refine K44.walk (l:=K44.rwN) rfl rfl (fun w h Y=>PySem.W.kIn_of (as:=K44.heapA) (e:=K44.heapE) Y) ?F
 case F =>
  intro w mg fa h KX G hmg
  refine' K44.all_mk KX G hmg ?f1 ?f2 ?f3 ?f4 ?f5 ?f6 ?f7 ?f8 ?f9 ?f10 ?f11 ?f12 ?f13 ?f14 ?f15 ?f16 ?f17 ?f18 ?f19 ?f20 ?f21 ?a22 ?l22 ?c22 ?k22 ?zint ?zbool ?zstr ?zlist ?ztuple ?zdict ?zisinstance ?zlen ?zabs ?zrepr ?zrange ?zall ?zany ?zsum ?zmin ?zmax ?zsorted ?zzip ?zenumerate ?zreversed ?zdivmod ?zset ?gONE 
  all_goals (try (refine' K44.ff_mk ?a ?l ?c ?k;(case a=>k_is);(case l=>k_is);(case c=>k_is);(case k=>k_is)))
  all_goals (try change _=_)
  (case a22=>k_is);(case l22=>k_is);(case c22=>k_is);(case k22=>k_is)
  (case zint=>k_is)
  (case zbool=>k_is)
  (case zstr=>k_is)
  (case zlist=>k_is)
  (case ztuple=>k_is)
  (case zdict=>k_is)
  (case zisinstance=>k_is)
  (case zlen=>k_is)
  (case zabs=>k_is)
  (case zrepr=>k_is)
  (case zrange=>k_is)
  (case zall=>k_is)
  (case zany=>k_is)
  (case zsum=>k_is)
  (case zmin=>k_is)
  (case zmax=>k_is)
  (case zsorted=>k_is)
  (case zzip=>k_is)
  (case zenumerate=>k_is)
  (case zreversed=>k_is)
  (case zdivmod=>k_is)
  (case zset=>k_is)
  (case gONE=>refine' L2.VL.GlK.pair ?h1 ?h2;(case h1=>k_is);(case h2=>k_is))
