import PyProof.Rows.All
import Wide.All
import OpenK.AllK
import Wide.FinOn
import Lean
import PyProof.EqAt
import PyProof.EqKinds
import PyProof.TupleCall
import KE.KDictSum
import KE.KMinKey
import PyProof.Rows.CallKwBuiltin
import PyProof.SumWalkG
import PyProof.WalksMore
import PyProof.AutoSeq1
import PyProof.Rows.Range3
import PySem.Challenge.RW_evenpoints_k67_sum_and_mirrored_tables
set_option Elab.async false
set_option linter.all false
set_option maxRecDepth 100000
set_option maxHeartbeats 4000000
open And renaming intro->Ff, imp_right->Fo
open Array renaming length_toList->IL, forIn_toList->Jc, mk->LI
open Bool renaming and_eq_true_iff->FE, or_eq_true_iff->Gc, false_ne_true->Gi, false_eq_true->Iu, eq_iff_iff->Iy, and_eq_true->Jv, true_and->Lq
open Classical renaming choose_spec->Fw, choose->Gn
open Exists renaming imp->Fu
open False renaming elim->GC
open ForInStep renaming yield->Iz
open Iff renaming rfl->Jo
open Int renaming toNat_natCast->Gy, fmod_nonneg_of_pos->HR, mul_zero->Ii, fmod_lt_of_pos->Iw, fdiv_eq_ediv_of_nonneg->IH, toNat_of_nonneg->IP, zero_add->IQ, eq_ofNat_of_zero_le->I_, emod_eq_of_lt->Jq, emod_add_mul_ediv->Ju, add_mul_emod_self_left->JQ, mul_one->Kg, sub_zero->KE, ediv_one->LB, mul_comm->LF
open List renaming getD_eq_getElem?_getD->Fi, getElem?_eq_getElem->Fp, length_map->Fq, mem_cons_of_mem->Fv, mem_cons_self->FB, range->FJ, getElem?_eq_some_iff->FK, mem_append_right->FO, getElem?_set_ne->FP, replicate->FQ, size_toArray->FS, getElem?_set_self->FT, map_cons->FV, mem_map->Gf, getElem?_map->Gg, getElem_mem->Gm, Nodup->Gp, map_map->Gu, getElem?_set->GG, all_eq_true->GH, lookup_cons->GJ, length_append->GK, find?_cons->GL, take_of_length_le->GO, length_take->GQ, mem_range->GR, mem_cons->GT, replicate_succ->GV, length_range->GZ, getElem_map->G5, drop_eq_getElem_cons->Ha, sum_cons->Hd, length_cons->Hm, map_congr_left->Hr, getElem_of_mem->Hs, getElem?_append_left->Ht, nodup_cons->Hy, forIn_cons->Hz, length_zipIdx->HB, flatten_cons->HK, append_nil->HM, of_mem_zip->HN, map_append->HP, mem_map_of_mem->HQ, getElem?_append_right->HU, length_drop->HX, getElem_range->HZ, ext_getElem->Ip, mem_zipIdx_iff_getElem?->Ix, flatMap_cons->IF, forIn_nil->IJ, drop_length->IK, getElem?_range->IN, mem_append->IR, getElem?_replicate->IV, map_take->Jd, take_succ_eq_append_getElem->Je, drop_of_length_le->Jh, filterMap_eq_map'->Ji, reverse_cons->Jl, getElem?_eq_none->Jt, zipIdx_cons->Jx, mem_flatMap->Jz, any_cons->JB, filterMap_cons->JE, foldl_cons->JH, zipIdx_nil->JL, range_succ->JM, length_zip->JN, all_map->JZ, mem_singleton->J1, zip_cons_cons->J3, drop_zero->J6, mem_of_find?_eq_some->J7, getElem?_take_of_lt->J_, foldl->Ka, append_assoc->Kb, getElem_zip->Km, map_flatMap->Kn, length_nil->Kw, map_nil->Kx, nil_append->KA, sum_append->KB, mem_append_left->KJ, mem_of_getElem?->KM, mem_of_mem_take->KP, length_reverse->K6, length_zipWith->K9, length_flatMap->La, getElem_zipIdx->Lb, getD->LU
open List.cons renaming injEq->G4
open Nat renaming le_refl->FC, lt_of_lt_of_le->FU, ne_of_lt->Gj, le_trans->Gq, pow_le_pow_right->GP, zero_le->GW, lt_irrefl->G0, le_add_right->Hb, ne_of_gt->Hv, le_of_succ_le->ID, lt_succ_of_lt->IE, min_eq_left->Ja, min_eq_right->Jw, sub_zero->J0, lt_succ_self->Kl, pow_lt_pow_right->KN, mul_le_mul_left->K4, le_of_lt->Lz, succ_mul->LC
open Nat.succ renaming inj->KF
open Ne renaming symm->Kf
open Option renaming isSome_iff_exists->Ic, map_eq_some_iff->Jf, isSome_some->JX
open Option.some renaming inj->Gv
open Or renaming inr->G_, inl->HJ
open PyProof.Rows renaming slot_tuple_getitem->Ga, callWith_type1->Gz, tupleItemsOf_->IZ, assignInOrder_cons->JR, args_tuple_getitem->JV, envOfC->J9, subscriptTail_builtinR->Kr, AllBare->KU, IntsAre->K1, IsTup->Lg, subscriptTail->Lm, Subscript_->Lw
open PySem renaming wpAny_bind->Fb, PyData->Fd, wpAny_pure->Fj, Value->Fm, Shared->Ft, starEach->FA, sizeLine_eq->FG, wpAny->FN, wpAny_setField_rec->FX, Program->F0, wpAny_field->F_, model->Gb, wpAny_callSpecial?_slot->Ge, wpAny_mono->Gk, wpAny_newObj_type->Go, foldedSetIterable->Gx, World->GD, mainGlobals->GE, wpAny_call_entry->GF, Around->GN, mem_of_lookup->GU, wpAny_seqItems->GY, compareOp->G1, Paired->G6, assignEach->G8, backTo->Hf, wpAny_truthy_bool->Hh, cellsFrom->Hn, letOwnedTupleGo->Hw, IsPair->HD, wpAny_updateSeq_pair->HE, behindInMarks->HF, wpAny_standAt->HG, wpAny_holding->HH, swapsWith->HL, codeAny->HS, wpAny_rule->Ia, wpAny_passesOwn->Ib, wpAny_comprehension_free->Ie, bootBuiltins->Ih, FuncData->Il, wpAny_onRaise->Im, noFill_tuple_add->Io, binaryOp->Ir, sysModules->IA, wpAny_sequenceKey->IB, wpAny_letGo->IM, swapsWithSole->IS, swappedStores->IT, NameKind->IU, seq_tuple_add->IW, wpAny_attempt->Jb, assign->Jg, wpAny_pyIter_list->Jj, sliceBounds->Jk, wpAny_pyIter_enum->Jp, newFunctionEnv->Jr, wpAny_newTuple->Js, wpAny_pyIter_zip->Jy, IsEnum->JA, wpAny_execs_nil->JF, getItem->JG, theTreesLotGoes->JI, wpAny_letOwnedTupleGo_enum->JP, wpAny_pyIter_tuple->JS, codeAny_mono->JT, wpAny_Call_Name_kw->JU, wpAny_typeOf->JW, tupleKind_room_in1->JY, pyNext->J8, field->Kh, ZipApart->Ki, rawInt->Kj, wpAny_isInstance->Kk, wpAny_pyNext_range_end->Ko, wpAny_pyIter_rangeiter->Kq, codeAny_compStart_list->Ks, importedModules->Kt, wpAny_isTrue_Compare1->Ku, IsPart->Kv, codeAny_loop->Ky, IsEnumOut->KC, call_meets->KI, wpAny_loadName_local->KL, IsZip->KO, intBits_le_iff->KQ, isSubtype_stop->KR, wpAny_loadName_cell->KW, CmpOp->KY, IsRangeIter->KZ, subscripted->K0, wpAny_noted->K3, wpAny_of_eq->K5, tupleKind->Lh, assignInOrder->Li, Operator->Lj, cLine->Lk, evalPart_none->Ll, attributeBase->Ln, compTurn->Lo, noteFrame->Lp, standAt->Ls, Keyword->Lu, typeLookup->Lv, valueAt->Lx, callerA->Ly, concat_meets->LA, callType_new->LD, DictEntry->LJ, inplaceOp->LL, PassesOwn->LM, pyIter->LN, lastMarks->LO, Result->LP, BindsTo->LQ, keywordEach->LR, pushCells->LS, wpAny_mkInt->LV, Params->LW, relabel->LY, atKey->LZ
open PySem.AutoSeq1 renaming wpAny_loadPart'->Hj
open PySem.Builtin.Range renaming rangeSize->Ik, small->K_
open PySem.Builtin.Slice renaming slicePlaces->GX, sliceApplied->HV, sliceAdjust->II, sliceFields->J4
open PySem.Builtin.SmallTypes renaming nextOf->FM, ownedTupleIsFree->FR, ownedTupleHandOut->Gh
open PySem.Builtin.Tuple renaming tupleExact->Gr, tupleItemsOf->HW, tupleIsExact->IG
open PySem.Calls renaming Name_function_global->JO
open PySem.F renaming args_tuple_add_2->Hi, entry_tuple_add->Hl, slot_tuple_add->Ho
open PySem.Heap renaming get?_push_of_some->Fh, lt_size->Fz, get?_push_size->FF, size_push->Gs, SameBut->Hu, get?_push_ne->Jn
open PySem.Heap.SameBut renaming refl->Kd, update->K7
open PySem.NameKind renaming free->GM, cell->HI
open PySem.Paired renaming length->G7
open PySem.PassesOwn renaming never->GB
open PySem.PyData renaming int->FW, tuple->FY, canLay0->GS, bool->Hq, depthAll->HA, depth->HY, canLayAll0->Ig, eqv->IC, leavesShort->I0, str->Jm, showable->JJ, list->JK, bulkAll->J5, leavesShortAll->Kz
open PySem.PyData.list renaming injEq->Kc
open PySem.PyData.tuple renaming injEq->Iv
open PySem.SeqAt renaming shaped->G3
open PySem.Shared renaming heap->K8
open PySem.Value renaming ref->HC, none->H_, bool->JC, int->JD, str->Ld, type->Lr
open PySem.W renaming codeIn->FH, keepIn->FI, mg_none_of->FZ, boot_heap->G9, Frag->Ij, OpenLaw->KG, boot_drawn->KH, boot_toks->Lc, nsIn->LG, fnOf->LH, OpenLaw->LX
open Sum renaming inl->Gw, inr->H0
open Sum.inl renaming inj->Ke
open True renaming intro->Iq
open PySem PySem.Spec PyProof.Rows
variable{α:Type}{m p:Int}{xs xs':List Fd}{us:List Fm}{a b it f:Addr}{P:F0}{w:GD}{h h':Heap}{o r ns ys ks:List Int}{t' i j n c C:Nat}{A:GN}{E Q:Fm->Ft->Prop}{u:Fm}{s:Ft}{pos pos' px:Pos}{pins:List (Addr×Obj)}{op:KY}{tg iter:Expr}{fp:List Addr}{fd:Il}{scope:Scope}{d:Fd}{ifs:List Expr}{tn:Nat->Heap->Prop}{Rp:Addr->LP->Ft->Prop}{T:List (List Int)}{ts:List (List (List Int))}
noncomputable section
namespace L2
open PySem
noncomputable def nN(s:Stmt)(j:Nat):Stmt:=match s with
 | .ClassDef _ _ _ body _ _ _ _ _ _ _=>body.getD j (.Pass ⟨0,0,0,0⟩)
 | _=>.Pass ⟨0,0,0,0⟩
noncomputable def defArgs(s:Stmt):Arguments:=match s with
 | .FunctionDef _ a _ _ _ _ _ _ _ _=>a
 | _=>{posonlyargs:=[],args:=[],vararg:=none,kwonlyargs:=[],kw_defaults:=[],kwarg:=none,defaults:=[]}
noncomputable def defBody(s:Stmt):List Stmt:=match s with
 | .FunctionDef _ _ b _ _ _ _ _ _ _=>b
 | _=>[]
noncomputable def defScope(s:Stmt):Scope:=match s with
 | .FunctionDef _ _ _ _ _ _ sc _ _ _=>sc
 | _=>{kind:=.function,names:=[],isGenerator:=false,isCoroutine:=false}
end L2
namespace L2.TT
open PySem PySem.W
noncomputable def DW(tb:String->Option Builtin)(p:F0)(w:GD)(m:Nat)(ann:Option Fm):Nat->SharedT->Thread->Option SharedT
 | 0,_,_=>none
 | n+1,s,t=>match through t with
   | true=>some s
   | false=>match stepOk m ann t with
     | false=>none
     | true=>match stepT (denote tb) p w s t with
       | some r=>DW tb p w m ann n r.1 r.2
       | none=>none
theorem rO{tb:String->Option Builtin}{p:F0}{w:GD}{m:Nat}{ann:Option Fm}:∀{n:Nat}{s s':SharedT}{t:Thread},DW tb p w m ann n s t=some s'->topRun tb p w m ann n s.abs t=some s'.abs
 | 0,_,_,_,h=>by cases h
 | n+1,s,s',t,h=>by
   unfold DW at h
   unfold topRun
   cases he:through t with
   | true=>rw[he]at h;cases h;rfl
   | false =>
     rw[he]at h
     cases hk:stepOk m ann t with
     | false=>rw[hk]at h;cases h
     | true =>
       rw[hk]at h
       cases hs:stepT (denote tb) p w s t with
       | none=>rw[hs]at h;cases h
       | some r=>rw[hs]at h;rw[stepT_spec hs];exact rO h
noncomputable def bt(os:List Obj):Nat->Nat->Nat->BT
 | 0,_,_=>.nil
 | f+1,a,b=>match os[b]? with
   | some o=>.node o (bt os f (2*a) (a+b)) (bt os f (2*a) (2*a+b))
   | none=>.nil
theorem boot_abs(P:LW):absHeap (bt (G9 P).objs.toList 12 1 0) (G9 P).objs.size (G9 P).life=G9 P:=by kernel_rfl
abbrev xN(p q:F0)(loose:List Str)(Xt:Ft->Bool){α:Type}(Yf:Ft->α)(h₀:Heap)(s:Ft) :=
 (staticsOk (Kt p.main.body) h₀ s.heap&&namesBound p s.heap&&gensDone s&&laidKept h₀ s.heap,openSeen q loose (Kt p.main.body) Xt true s,Yf s)
theorem left_of{p q:F0}{loose:List Str}{Xt:Ft->Bool}{Yf:Ft->α}{Ya:GD->α}{N m M:Nat}{ann:Option Fm}
 (e:opening p=plainProg p.main.scope.names)(hN:Nat.ble 600 N=true)(f:∀s,fenceModules? p s=some s)(le:Nat.ble M N=true)
 (size:∀w:GD,((G9 w.params).isNs GE,(G9 w.params).objs.size,(G9 w.params).nsMap GE "__annotations__")=(true,m,ann))
 (run:∀(w:GD)(os:OsState),(DW treeTable p w m ann M ⟨bt (G9 w.params).objs.toList 12 1 0,(G9 w.params).objs.size,(G9 w.params).life,LI [],KH,Lc,os⟩ (topStub p)).map (fun s=>xN p q loose Xt Yf (G9 w.params) s.abs)=some (true,openGood q loose,Ya w)) :
 LeftO p q loose Xt Yf Ya N:=fun w=>by
 obtain⟨⟨h,gs,d,k,os⟩,eo,e'⟩:=Jf.mp (boot_open e hN f w)
 obtain⟨rfl,rfl,rfl,rfl⟩:h=G9 w.params/\gs=LI []/\d=KH/\k=Lc:=by simpa using e'
 obtain⟨z1,z2,z3⟩:_/\_/\_:=by simpa only[Prod.mk.injEq]using size w
 obtain⟨s',r,l⟩:=Jf.mp (run w os)
 obtain⟨l1,l2,l3⟩:_/\_/\_:=by simpa only[xN,Prod.mk.injEq]using l
 have r:=rO r
 have hb:SharedT.abs ⟨bt (G9 w.params).objs.toList 12 1 0,(G9 w.params).objs.size,(G9 w.params).life,LI [],KH,Lc,os⟩=⟨G9 w.params,LI [],KH,Lc,os⟩:=by
  show Ft.mk (absHeap _ _ _) _ _ _ _=_
  rw[boot_abs]
 rw[hb]at r
 have r:=topRun_mono (N-M) _ _ _ _ r
 rw[show M+(N-M)=N by have:=Nat.le_of_ble_eq_true le;omega]at r
 have t:topFrom treeTable p w N ⟨G9 w.params,LI [],KH,Lc,os⟩=some s'.abs:=by
  unfold topFrom
  dsimp only
  rw[z1,z2,z3,r]
  show(match staticsOk (Kt p.main.body) (G9 w.params) s'.abs.heap&&namesBound p s'.abs.heap&&gensDone s'.abs&&laidKept (G9 w.params) s'.abs.heap with|true=>_|false=>_)=_
  rw[l1]
 unfold openEnds
 rw[eo]
 show(topFrom treeTable p w N _).map _=_
 rw[t]
 exact congrArg some (Prod.ext l2 l3)
end L2.TT
namespace K67
open PySem
def C5(i:Nat):Stmt:=PySem.Challenge.pw_evenpoints_k67_sum_and_mirrored_tables.main.body.getD i (.Pass ⟨0,0,0,0⟩)
end K67
noncomputable def PySem.W.Fast.tw12542758607651479526:PySem.Program:=PySem.Challenge.pw_evenpoints_k67_sum_and_mirrored_tables
theorem PySem.W.Fast.te12542758607651479526:PySem.Challenge.pw_evenpoints_k67_sum_and_mirrored_tables=PySem.W.Fast.tw12542758607651479526:=rfl
namespace K67
open PySem PySem.W L2
def Ct:Stmt:=C5 0
def Cs:Stmt:=C5 1
def Cr:Stmt:=C5 2
def Cq:Stmt:=C5 3
def Cp:Stmt:=C5 4
def Co:Stmt:=C5 5
def Cn:Stmt:=C5 6
def Cm:Stmt:=C5 7
def Ck:Stmt:=C5 8
def Cj:Stmt:=C5 9
def Bh:Stmt:=C5 10
def Bg:Stmt:=C5 11
def BI:Stmt:=C5 12
def Bf:Stmt:=C5 13
def Be:Stmt:=C5 14
def BH:Stmt:=C5 15
def Bd:Stmt:=C5 16
def Bc:Stmt:=C5 17
def Bb:Stmt:=C5 18
def Ba:Stmt:=C5 19
def A_:Stmt:=C5 20
def A9:Stmt:=C5 21
def A8:Stmt:=C5 22
def A7:Stmt:=C5 23
def A6:Stmt:=C5 24
def A5:Stmt:=C5 25
def A4:Stmt:=C5 26
def A3:Stmt:=C5 27
def A2:Stmt:=C5 28
def A1:Stmt:=C5 29
def A0:Stmt:=C5 30
def BG:Stmt:=C5 31
def AZ:Stmt:=C5 32
def AY:Stmt:=C5 33
def AX:Stmt:=C5 34
def BF:Stmt:=C5 35
def AW:Stmt:=C5 36
def BE:Stmt:=C5 37
def AV:Stmt:=C5 38
def AU:Stmt:=C5 39
def AT:Stmt:=C5 40
def AS:Stmt:=C5 41
def AR:Stmt:=C5 42
def AQ:Stmt:=C5 43
def BD:Stmt:=C5 44
def AO:Stmt:=C5 45
def AN:Stmt:=C5 46
def AM:Stmt:=C5 47
def AL:Stmt:=C5 48
def AK:Stmt:=C5 49
def AJ:Stmt:=C5 50
def BC:Stmt:=C5 51
def AI:Stmt:=C5 52
def AH:Stmt:=C5 53
def AG:Stmt:=C5 54
def AF:Stmt:=C5 55
def AE:Stmt:=C5 56
def AD:Stmt:=C5 57
def AC:Stmt:=C5 58
def Dy:F0:={PySem.Challenge.pw_evenpoints_k67_sum_and_mirrored_tables with main:={PySem.Challenge.pw_evenpoints_k67_sum_and_mirrored_tables.main with body:=[Ct,Cs,Cr,Cq,Cp,Co,Cn,Cm,Ck,Cj,Bh,Bg,BI,Bf,Be,BH,Bd,Bc,Bb,Ba,A_,A9,A8,A7,A6,A5,A4,A3,A2,A1,A0,BG,AZ,AY,AX,BF,AW,BE,AV,AU,AT,AS,AR,AQ,BD,AO,AN,AM,AL,AK,AJ,BC,AI,AH,AG,AF,AE,AD,AC]}}
def rwN:LX:={PySem.Challenge.rw_evenpoints_k67_sum_and_mirrored_tables with prog:=Dy}
noncomputable def zview:F0:={PySem.Challenge.pw_evenpoints_k67_sum_and_mirrored_tables with main:={PySem.Challenge.pw_evenpoints_k67_sum_and_mirrored_tables.main with body:=[Cs,Cq,Cp,Co,Cm,Ck,Bh,Bg,Bf,Be,Bd,Bc,Bb,Ba,A_,A9,A8,A7,A6,A5,A4,A3,A2,A1,A0,AZ,AY,AX,AW,AV,AU,AT,AS,AR,AQ,AO,AN,AM,AL,AK,AJ,AI,AH,AG,AF,AE,AD,AC]}}
theorem rw_eq:PySem.Challenge.rw_evenpoints_k67_sum_and_mirrored_tables=rwN:=rfl
noncomputable def CI(P:LW)(x:Str)(t:Nat)(v:Fm):LJ:=⟨Fd.keyHash P x,.str x t,v⟩
noncomputable def CH(n q:Str)(s:Stmt)(pm cd:Fm):Obj:=⟨.type "function", none,.func (fnOf n q (defArgs s) (defBody s) (defScope s) .none .none .none pm none cd .none),#[]⟩
noncomputable def CK(n q:Str)(a b c:Nat)(l x y:Int)(r:Nat)(z:Int)(r2:Nat)(v1 v2 v3:Fm)(r3:Nat)(u:Int)(c2:Nat):Obj:=⟨.type "code", none,.fields #[.str n a,.str q b,.str "/claim/cut.py" c,.int l 0,.int x 0,.int 0 0,.int 0 0,.int y 0,.ref r,.bool true,.int z 0,.ref r2,v1,v2,v3,.ref r3,.int u 0,.int l 0,.str "/claim/cut.py" c2],#[]⟩
noncomputable def CF:Fm:=.str "evenpoints.choices" 187
noncomputable def CD:Fm:=.str "evenpoints.errors" 199
noncomputable def CC:Fm:=.str "evenpoints.fractions" 271
noncomputable def CB:Fm:=.str "evenpoints.figures" 288
noncomputable def CA:Fm:=.str "evenpoints.rows" 302
noncomputable def Cz:Fm:=.str "evenpoints.tables" 319
noncomputable def Cy:Fm:=.str "evenpoints.nets" 419
noncomputable def Cw:Fm:=.str "evenpoints.netpapers" 444
noncomputable def Cv:Fm:=.str "evenpoints.strength" 459
noncomputable def Cu:Fm:=.str "evenpoints.netchecker" 507
noncomputable def si:Fm:=.str "law_evenpoints_k67_sum_and_mirrored_tables" 566
abbrev CG(n:Str):=CH n n
abbrev CJ(n:Str):=CK n n
noncomputable def heapK(P:LW):Frag :=
 (nat_lit 2,(.mk .none none (.dict #[] 0) #[])) ::
 (nat_lit 3,(.mk (.type "dict") none (.dict #[CI P "__name__" 165 (.str "law_evenpoints_k67_sum_and_mirrored_tables" 566),CI P "__doc__" 166 .none,CI P "__package__" 167 .none,CI P "__loader__" 168 (.builtin "__main__.__loader__#opaque"),CI P "__spec__" 169 .none,CI P "__annotations__" 170 (.ref 6),CI P "__builtins__" 171 (.ref 4),CI P "__file__" 173 (.str "/claim/cut.py" 172),CI P "__cached__" 174 .none,CI P "ways_to_take" 198 (.ref 21),CI P "EvenError" 218 (.ref 31),CI P "NoNet" 245 (.ref 51),CI P "NoUpper" 270 (.ref 70),CI P "is_whole" 279 (.ref 79),CI P "is_place" 287 (.ref 86),CI P "power" 299 (.ref 93),CI P "MOST_POINTS" 301 (.int 40 300),CI P "MOST_SIDES" 305 (.int 4 304),CI P "inverse_of" 318 (.ref 100),CI P "is_figures" 326 (.ref 105),CI P "is_table" 332 (.ref 110),CI P "columns_of" 338 (.ref 115),CI P "product_sum" 344 (.ref 120),CI P "applied" 350 (.ref 125),CI P "combined" 359 (.ref 132),CI P "table_times" 365 (.ref 137),CI P "unit_figures" 371 (.ref 142),CI P "unit_table" 377 (.ref 147),CI P "first_filled" 386 (.ref 154),CI P "scaled" 392 (.ref 159),CI P "cleared" 398 (.ref 164),CI P "reduced" 404 (.ref 169),CI P "right_inverse" 410 (.ref 174),CI P "combination" 418 (.ref 181),CI P "is_tables" 426 (.ref 186),CI P "shapes_of" 432 (.ref 191),CI P "rows_of" 443 (.ref 198),CI P "net_paper" 458 (.ref 205),CI P "strength" 469 (.ref 212),CI P "is_upper" 475 (.ref 217),CI P "beginning" 481 (.ref 222),CI P "sum_figure" 491 (.ref 229),CI P "sum_tables" 497 (.ref 234),CI P "mirrored_tables" 506 (.ref 241),CI P "is_shape" 514 (.ref 246),CI P "are_inverses" 520 (.ref 251),CI P "is_net_paper" 530 (.ref 258),CI P "check_inverses" 544 (.ref 265),CI P "check_combination" 555 (.ref 272),CI P "lets_net" 565 (.ref 279),CI P "_law_tape" 576 (.ref 286),CI P "_law_pick" 587 (.ref 293),CI P "_law_size" 595 (.ref 300),CI P "_law_sum_table" 601 (.ref 305),CI P "_law_mirror" 607 (.ref 310),CI P "_law_strong" 618 (.ref 317),CI P "law" 624 (.ref 322)] 57) #[])) ::
 (nat_lit 6,(.mk (.type "dict") none (.dict #[] 0) #[])) ::
 (nat_lit 20,CJ "ways_to_take" 189 190 191 2 2 3 15 181 16 .none (.ref 17) (.ref 18) 19 196 197) ::
 (nat_lit 21,CG "ways_to_take" (C5 1) CF (.ref 20)) ::
 (nat_lit 22,(.mk (.type "tuple") none (.seq #[(.type "ValueError")] 0) #[])) ::
 (nat_lit 29,(.mk (.type "tuple") none (.seq #[] 0) #[])) ::
 (nat_lit 30,(.mk (.type "dict") none (.dict #[CI P "__module__" 208 (.str "evenpoints.errors" 199),CI P "__firstlineno__" 212 (.int 8 211),CI P "__static_attributes__" 213 (.ref 29),CI P "__weakref__" 215 (.ref 32),CI P "__doc__" 216 .none] 3) #[])) ::
 (nat_lit 31,(.mk (.type "type") none (.cls (.mk "EvenError" [(.type "ValueError")] [(.ref 31),(.type "ValueError"),(.type "Exception"),(.type "BaseException"),(.type "object")] 30 "EvenError" true [] [(.ref 51),(.ref 70)] false none false)) #[(some (.ref 22)),none,(some (.str "EvenError" 201)),(some (.str "EvenError" 209)),(some (.builtin "ValueError.__new__")),(some (.bool true))])) ::
 (nat_lit 32,(.mk (.type "getset_descriptor") none (.fields #[(.str "__weakref__" 214),(.ref 31),(.builtin "ExceptionGroup.__weakref__"),.none]) #[])) ::
 (nat_lit 35,(.mk (.type "tuple") none (.seq #[(.ref 31)] 0) #[])) ::
 (nat_lit 47,CK "__init__" "NoNet.__init__" 231 232 233 12 3 3 42 181 43 .none (.ref 44) (.ref 45) 46 237 238) ::
 (nat_lit 48,CH "__init__" "NoNet.__init__" (nN (C5 4) 0) CD (.ref 47)) ::
 (nat_lit 49,(.mk (.type "tuple") none (.seq #[(.str "number" 240),(.str "word" 241)] 0) #[])) ::
 (nat_lit 50,(.mk (.type "dict") none (.dict #[CI P "__module__" 226 (.str "evenpoints.errors" 199),CI P "__firstlineno__" 230 (.int 10 229),CI P "__init__" 239 (.ref 48),CI P "__static_attributes__" 242 (.ref 49),CI P "__doc__" 243 .none] 2) #[])) ::
 (nat_lit 51,(.mk (.type "type") none (.cls (.mk "NoNet" [(.ref 31)] [(.ref 51),(.ref 31),(.type "ValueError"),(.type "Exception"),(.type "BaseException"),(.type "object")] 50 "NoNet" true [] [] false none false)) #[(some (.ref 35)),none,(some (.str "NoNet" 219)),(some (.str "NoNet" 227)),(some (.builtin "ValueError.__new__")),(some (.bool true))])) ::
 (nat_lit 54,(.mk (.type "tuple") none (.seq #[(.ref 31)] 0) #[])) ::
 (nat_lit 66,CK "__init__" "NoUpper.__init__" 258 259 260 17 2 3 61 181 62 .none (.ref 63) (.ref 64) 65 263 264) ::
 (nat_lit 67,CH "__init__" "NoUpper.__init__" (nN (C5 5) 0) CD (.ref 66)) ::
 (nat_lit 68,(.mk (.type "tuple") none (.seq #[(.str "number" 266)] 0) #[])) ::
 (nat_lit 69,(.mk (.type "dict") none (.dict #[CI P "__module__" 253 (.str "evenpoints.errors" 199),CI P "__firstlineno__" 257 (.int 15 256),CI P "__init__" 265 (.ref 67),CI P "__static_attributes__" 267 (.ref 68),CI P "__doc__" 268 .none] 2) #[])) ::
 (nat_lit 70,(.mk (.type "type") none (.cls (.mk "NoUpper" [(.ref 31)] [(.ref 70),(.ref 31),(.type "ValueError"),(.type "Exception"),(.type "BaseException"),(.type "object")] 69 "NoUpper" true [] [] false none false)) #[(some (.ref 54)),none,(some (.str "NoUpper" 246)),(some (.str "NoUpper" 254)),(some (.builtin "ValueError.__new__")),(some (.bool true))])) ::
 (nat_lit 78,CJ "is_whole" 273 274 275 20 1 3 73 181 74 .none (.ref 75) (.ref 76) 77 277 278) ::
 (nat_lit 79,CG "is_whole" (C5 7) CC (.ref 78)) ::
 (nat_lit 85,CJ "is_place" 280 281 282 22 2 3 80 181 81 .none (.ref 82) (.ref 83) 84 285 286) ::
 (nat_lit 86,CG "is_place" (C5 8) CC (.ref 85)) ::
 (nat_lit 92,CJ "power" 290 291 292 25 2 3 87 181 88 .none (.ref 89) (.ref 90) 91 297 298) ::
 (nat_lit 93,CG "power" (C5 10) CB (.ref 92)) ::
 (nat_lit 99,CJ "inverse_of" 306 307 308 33 2 3 94 181 95 .none (.ref 96) (.ref 97) 98 316 317) ::
 (nat_lit 100,CG "inverse_of" (C5 14) CA (.ref 99)) ::
 (nat_lit 104,CJ "is_figures" 321 322 323 42 3 3 101 181 102 .none .none .none 103 324 325) ::
 (nat_lit 105,CG "is_figures" (C5 16) Cz (.ref 104)) ::
 (nat_lit 109,CJ "is_table" 327 328 329 46 4 3 106 181 107 .none .none .none 108 330 331) ::
 (nat_lit 110,CG "is_table" (C5 17) Cz (.ref 109)) ::
 (nat_lit 114,CJ "columns_of" 333 334 335 50 1 3 111 181 112 .none .none .none 113 336 337) ::
 (nat_lit 115,CG "columns_of" (C5 18) Cz (.ref 114)) ::
 (nat_lit 119,CJ "product_sum" 339 340 341 52 3 3 116 181 117 .none .none .none 118 342 343) ::
 (nat_lit 120,CG "product_sum" (C5 19) Cz (.ref 119)) ::
 (nat_lit 124,CJ "applied" 345 346 347 54 3 3 121 181 122 .none .none .none 123 348 349) ::
 (nat_lit 125,CG "applied" (C5 20) Cz (.ref 124)) ::
 (nat_lit 131,CJ "combined" 351 352 353 56 3 3 126 181 127 .none (.ref 128) (.ref 129) 130 357 358) ::
 (nat_lit 132,CG "combined" (C5 21) Cz (.ref 131)) ::
 (nat_lit 136,CJ "table_times" 360 361 362 58 3 3 133 181 134 .none .none .none 135 363 364) ::
 (nat_lit 137,CG "table_times" (C5 22) Cz (.ref 136)) ::
 (nat_lit 141,CJ "unit_figures" 366 367 368 61 2 3 138 181 139 .none .none .none 140 369 370) ::
 (nat_lit 142,CG "unit_figures" (C5 23) Cz (.ref 141)) ::
 (nat_lit 146,CJ "unit_table" 372 373 374 63 1 3 143 181 144 .none .none .none 145 375 376) ::
 (nat_lit 147,CG "unit_table" (C5 24) Cz (.ref 146)) ::
 (nat_lit 153,CJ "first_filled" 378 379 380 65 1 3 148 181 149 .none (.ref 150) (.ref 151) 152 384 385) ::
 (nat_lit 154,CG "first_filled" (C5 25) Cz (.ref 153)) ::
 (nat_lit 158,CJ "scaled" 387 388 389 70 3 3 155 181 156 .none .none .none 157 390 391) ::
 (nat_lit 159,CG "scaled" (C5 26) Cz (.ref 158)) ::
 (nat_lit 163,CJ "cleared" 393 394 395 72 4 3 160 181 161 .none .none .none 162 396 397) ::
 (nat_lit 164,CG "cleared" (C5 27) Cz (.ref 163)) ::
 (nat_lit 168,CJ "reduced" 399 400 401 75 2 3 165 181 166 .none .none .none 167 402 403) ::
 (nat_lit 169,CG "reduced" (C5 28) Cz (.ref 168)) ::
 (nat_lit 173,CJ "right_inverse" 405 406 407 89 2 3 170 181 171 .none .none .none 172 408 409) ::
 (nat_lit 174,CG "right_inverse" (C5 29) Cz (.ref 173)) ::
 (nat_lit 180,CJ "combination" 411 412 413 96 2 3 175 181 176 .none (.ref 177) (.ref 178) 179 416 417) ::
 (nat_lit 181,CG "combination" (C5 30) Cz (.ref 180)) ::
 (nat_lit 185,CJ "is_tables" 421 422 423 99 2 3 182 181 183 .none .none .none 184 424 425) ::
 (nat_lit 186,CG "is_tables" (C5 32) Cy (.ref 185)) ::
 (nat_lit 190,CJ "shapes_of" 427 428 429 106 2 3 187 181 188 .none .none .none 189 430 431) ::
 (nat_lit 191,CG "shapes_of" (C5 33) Cy (.ref 190)) ::
 (nat_lit 197,CJ "rows_of" 433 434 435 110 2 3 192 181 193 .none (.ref 194) (.ref 195) 196 441 442) ::
 (nat_lit 198,CG "rows_of" (C5 34) Cy (.ref 197)) ::
 (nat_lit 204,CJ "net_paper" 446 447 448 116 3 3 199 181 200 .none (.ref 201) (.ref 202) 203 456 457) ::
 (nat_lit 205,CG "net_paper" (C5 36) Cw (.ref 204)) ::
 (nat_lit 211,CJ "strength" 461 462 463 126 2 3 206 181 207 .none (.ref 208) (.ref 209) 210 467 468) ::
 (nat_lit 212,CG "strength" (C5 38) Cv (.ref 211)) ::
 (nat_lit 216,CJ "is_upper" 470 471 472 131 1 3 213 181 214 .none .none .none 215 473 474) ::
 (nat_lit 217,CG "is_upper" (C5 39) Cv (.ref 216)) ::
 (nat_lit 221,CJ "beginning" 476 477 478 133 2 3 218 181 219 .none .none .none 220 479 480) ::
 (nat_lit 222,CG "beginning" (C5 40) Cv (.ref 221)) ::
 (nat_lit 228,CJ "sum_figure" 482 483 484 138 4 3 223 181 224 .none (.ref 225) (.ref 226) 227 489 490) ::
 (nat_lit 229,CG "sum_figure" (C5 41) Cv (.ref 228)) ::
 (nat_lit 233,CJ "sum_tables" 492 493 494 142 3 3 230 181 231 .none .none .none 232 495 496) ::
 (nat_lit 234,CG "sum_tables" (C5 42) Cv (.ref 233)) ::
 (nat_lit 240,CJ "mirrored_tables" 498 499 500 144 3 3 235 181 236 .none (.ref 237) (.ref 238) 239 504 505) ::
 (nat_lit 241,CG "mirrored_tables" (C5 43) Cv (.ref 240)) ::
 (nat_lit 245,CJ "is_shape" 509 510 511 147 3 3 242 181 243 .none .none .none 244 512 513) ::
 (nat_lit 246,CG "is_shape" (C5 45) Cu (.ref 245)) ::
 (nat_lit 250,CJ "are_inverses" 515 516 517 151 4 3 247 181 248 .none .none .none 249 518 519) ::
 (nat_lit 251,CG "are_inverses" (C5 46) Cu (.ref 250)) ::
 (nat_lit 257,CJ "is_net_paper" 521 522 523 155 4 3 252 181 253 .none (.ref 254) (.ref 255) 256 528 529) ::
 (nat_lit 258,CG "is_net_paper" (C5 47) Cu (.ref 257)) ::
 (nat_lit 264,CJ "check_inverses" 531 532 533 163 4 3 259 181 260 .none (.ref 261) (.ref 262) 263 542 543) ::
 (nat_lit 265,CG "check_inverses" (C5 48) Cu (.ref 264)) ::
 (nat_lit 271,CJ "check_combination" 545 546 547 168 4 3 266 181 267 .none (.ref 268) (.ref 269) 270 553 554) ::
 (nat_lit 272,CG "check_combination" (C5 49) Cu (.ref 271)) ::
 (nat_lit 278,CJ "lets_net" 556 557 558 174 4 3 273 181 274 .none (.ref 275) (.ref 276) 277 563 564) ::
 (nat_lit 279,CG "lets_net" (C5 50) Cu (.ref 278)) ::
 (nat_lit 285,CJ "_law_tape" 568 569 570 183 2 3 280 181 281 .none (.ref 282) (.ref 283) 284 574 575) ::
 (nat_lit 286,CG "_law_tape" (C5 52) si (.ref 285)) ::
 (nat_lit 292,CJ "_law_pick" 577 578 579 188 2 3 287 181 288 .none (.ref 289) (.ref 290) 291 585 586) ::
 (nat_lit 293,CG "_law_pick" (C5 53) si (.ref 292)) ::
 (nat_lit 299,CJ "_law_size" 588 589 590 198 1 3 294 181 295 .none (.ref 296) (.ref 297) 298 593 594) ::
 (nat_lit 300,CG "_law_size" (C5 54) si (.ref 299)) ::
 (nat_lit 304,CJ "_law_sum_table" 596 597 598 201 3 3 301 181 302 .none .none .none 303 599 600) ::
 (nat_lit 305,CG "_law_sum_table" (C5 55) si (.ref 304)) ::
 (nat_lit 309,CJ "_law_mirror" 602 603 604 210 1 3 306 181 307 .none .none .none 308 605 606) ::
 (nat_lit 310,CG "_law_mirror" (C5 56) si (.ref 309)) ::
 (nat_lit 316,CJ "_law_strong" 608 609 610 212 3 3 311 181 312 .none (.ref 313) (.ref 314) 315 616 617) ::
 (nat_lit 317,CG "_law_strong" (C5 57) si (.ref 316)) ::
 (nat_lit 321,CJ "law" 619 620 621 220 1 3 318 181 319 .none .none .none 320 622 623) ::
 (nat_lit 322,CG "law" (C5 58) si (.ref 321))::[]
noncomputable def heapA:List Addr:=nat_lit 2::nat_lit 3::nat_lit 6::nat_lit 20::nat_lit 21::nat_lit 22::nat_lit 29::nat_lit 30::nat_lit 31::nat_lit 32::nat_lit 35::nat_lit 47::nat_lit 48::nat_lit 49::nat_lit 50::nat_lit 51::nat_lit 54::nat_lit 66::nat_lit 67::nat_lit 68::nat_lit 69::nat_lit 70::nat_lit 78::nat_lit 79::nat_lit 85::nat_lit 86::nat_lit 92::nat_lit 93::nat_lit 99::nat_lit 100::nat_lit 104::nat_lit 105::nat_lit 109::nat_lit 110::nat_lit 114::nat_lit 115::nat_lit 119::nat_lit 120::nat_lit 124::nat_lit 125::nat_lit 131::nat_lit 132::nat_lit 136::nat_lit 137::nat_lit 141::nat_lit 142::nat_lit 146::nat_lit 147::nat_lit 153::nat_lit 154::nat_lit 158::nat_lit 159::nat_lit 163::nat_lit 164::nat_lit 168::nat_lit 169::nat_lit 173::nat_lit 174::nat_lit 180::nat_lit 181::nat_lit 185::nat_lit 186::nat_lit 190::nat_lit 191::nat_lit 197::nat_lit 198::nat_lit 204::nat_lit 205::nat_lit 211::nat_lit 212::nat_lit 216::nat_lit 217::nat_lit 221::nat_lit 222::nat_lit 228::nat_lit 229::nat_lit 233::nat_lit 234::nat_lit 240::nat_lit 241::nat_lit 245::nat_lit 246::nat_lit 250::nat_lit 251::nat_lit 257::nat_lit 258::nat_lit 264::nat_lit 265::nat_lit 271::nat_lit 272::nat_lit 278::nat_lit 279::nat_lit 285::nat_lit 286::nat_lit 292::nat_lit 293::nat_lit 299::nat_lit 300::nat_lit 304::nat_lit 305::nat_lit 309::nat_lit 310::nat_lit 316::nat_lit 317::nat_lit 321::nat_lit 322::[]
theorem heapE:∀P,heapA=(heapK P).map (·.1):=fun _=>rfl
theorem yF:∀w:GD,((G9 w.params).isNs GE,(G9 w.params).objs.size,(G9 w.params).nsMap GE "__annotations__")=(true,11,some (.ref 6)):=fun w=>by kernel_rfl
set_option maxHeartbeats 0 in
theorem zleft:LeftO Dy zview [] (fun s=>xlAt zview [] s&&recOk (RowW.records rwN.row.toRowW) s) (Hook.obs (kHook heapK heapA heapE)) (Hook.val (kHook heapK heapA heapE)) 4804 :=
 L2.TT.left_of (M:=4804) (by kernel_rfl) rfl (fun s=>by kernel_rfl) rfl yF fun w os=>by kernel_rfl
end K67
namespace L2
abbrev EL:=Sum Int Str
noncomputable def jw:EL->Fm->Bool
 | .inl k,v=>Fm.isInt k v
 | .inr x,v=>Fm.isStrOf x v
noncomputable def B3(w:GD):EL->Int
 | .inl k=>hashInt k
 | .inr x=>hashStr w x
theorem aZ:∀{k:EL}{v:Fm},jw k v=true->(∃i t,k=Gw i/\v=JD i t)\/(∃x t,k=H0 x/\v=Ld x t)
 | .inl i,v,h=>by
   obtain⟨t,e⟩:=Fm.isInt_shape (k:=i) (v:=v) h
   exact .inl ⟨i,t,rfl,e⟩
 | .inr x,v,h=>by
   obtain⟨t,e⟩:=Fm.isStrOf_shape (x:=x) (v:=v) h
   exact .inr ⟨x,t,rfl,e⟩
theorem nL(i:Int)(t:Tok):jw (.inl i) (.int i t)=true:=by simp[jw,Fm.isInt]
theorem nK(x:Str)(t:Tok):jw (.inr x) (.str x t)=true:=by simp[jw,Fm.isStrOf]
theorem xS(a b:Int):decide ((Gw a:EL)=Gw b)=(a==b):=by
 by_cases e:a=b
 · subst e;simp
 · have h:¬(Gw a:EL)=Gw b:=fun q=>e (Ke q)
   rw[decide_eq_false h]
   exact(beq_eq_false_iff_ne.mpr e).symm
theorem xP(a b:Str):decide ((H0 a:EL)=H0 b)=decide (a=b):=by
 by_cases e:a=b
 · subst e;simp
 · have h:¬(H0 a:EL)=H0 b:=fun q=>e (H0.inj q)
   rw[decide_eq_false h,decide_eq_false e]
theorem xR(a:Int)(b:Str):decide ((Gw a:EL)=H0 b)=false:=decide_eq_false (fun q=>nomatch q)
theorem xQ(a:Str)(b:Int):decide ((H0 a:EL)=Gw b)=false:=decide_eq_false (fun q=>nomatch q)
noncomputable def bB(prog:F0)(w:GD):PySem.KeyKind prog w EL where
 is:=jw
 hash:=B3 w
 inj:=fun v a b ha hb=>by
  rcases aZ ha with⟨i,t,rfl,rfl⟩|⟨x,t,rfl,rfl⟩
  · rcases aZ hb with⟨j,u,rfl,e⟩|⟨y,u,rfl,e⟩
    · injection e with e1 _;rw[e1]
    · exact nomatch e
  · rcases aZ hb with⟨j,u,rfl,e⟩|⟨y,u,rfl,e⟩
    · exact nomatch e
    · injection e with e1 _;rw[e1]
 byValue:=fun k v h=>by
   rcases aZ h with⟨i,t,rfl,rfl⟩|⟨x,t,rfl,rfl⟩<;>rfl
 pyHash:=fun hv h=>by
  rcases aZ hv with⟨i,t,rfl,rfl⟩|⟨x,t,rfl,rfl⟩
  · exact wpAny_pyHash_int h
  · exact wpAny_pyHash_str h
 eqBool:=fun hu hv h=>by
  rcases aZ hu with⟨i,t,rfl,rfl⟩|⟨x,t,rfl,rfl⟩
  · rcases aZ hv with⟨j,u,rfl,rfl⟩|⟨y,u,rfl,rfl⟩
    · rw[xS]at h;exact wpAny_eqBool_int h
    · rw[xR]at h;exact SeqAt.EqAt.int_str i t y u _ _ _ _ h
  · rcases aZ hv with⟨j,u,rfl,rfl⟩|⟨y,u,rfl,rfl⟩
    · rw[xQ]at h;exact SeqAt.EqAt.str_int x t j u _ _ _ _ h
    · rw[xP]at h;exact wpAny_eqBool_str h
 «strs»:=fun k x t v h=>by
  rcases aZ h with⟨i,u,rfl,e⟩|⟨y,u,rfl,e⟩
  · exact nomatch e
  · injection e with e1 _
    subst e1
    cases v<;>rfl
theorem ju(prog:F0)(w:GD)(i:Int)(t:Tok):(bB prog w).is (.inl i) (.int i t)=true:=nL i t
theorem jt(prog:F0)(w:GD)(x:Str)(t:Tok):(bB prog w).is (.inr x) (.str x t)=true:=nK x t
inductive V where
 | non|bl (b:Bool)|int (i:Int)|str (x:Str)|byt (b:Array UInt8)|flt (b:UInt64)|ref (a:Addr)|ty (n:String)
 deriving DecidableEq
noncomputable def RelV:V->Fm->Prop
 | .non,u=>u=H_
 | .bl b,u=>u=JC b
 | .int i,u=>∃t,u=JD i t
 | .str x,u=>∃t,u=Ld x t
 | .byt b,u=>∃t,u=Fm.bytes b t
 | .flt b,u=>∃t,u=Fm.float b t
 | .ref a,u=>u=HC a
 | .ty n,u=>u=Lr n
abbrev cw:List V->List Fm->Prop:=G6 RelV
theorem cw.length{xs:List V}(r:cw xs us):xs.length=us.length:=G7 r
theorem cw.get:∀{xs:List V}{us:List Fm}{i:Nat}{x:V},cw xs us->xs[i]?=some x->∃u,us[i]?=some u/\RelV x u
 | _,_,_,_,.nil,e=>by simp at e
 | _,_,0,_,.cons r _,e=>by simp at e;subst e;exact⟨_,rfl,r⟩
 | _,_,i+1,x,.cons _ t,e=>by
   obtain⟨u,h1,h2⟩:=cw.get (i:=i) (x:=x) t (by simpa using e)
   exact⟨u,by simpa using h1,h2⟩
theorem cw.append:∀{xs ys:List V}{us ws:List Fm},cw xs us->cw ys ws->cw (xs++ys) (us++ws)
 | _,_,_,_,.nil,s=>s
 | _,_,_,_,.cons r t,s=>.cons r (cw.append t s)
theorem cw.take:∀{xs:List V}{us:List Fm}(n:Nat),cw xs us->cw (xs.take n) (us.take n)
 | _,_,0,_=>.nil
 | _,_,_+1,.nil=>.nil
 | _,_,n+1,.cons r t=>.cons r (cw.take n t)
theorem cw.drop:∀{xs:List V}{us:List Fm}(n:Nat),cw xs us->cw (xs.drop n) (us.drop n)
 | _,_,0,r=>r
 | _,_,_+1,.nil=>.nil
 | _,_,n+1,.cons _ t=>cw.drop n t
noncomputable def vp:Option V->Option Fm->Prop
 | some v,some u=>RelV v u
 | none,none=>True
 | _,_=>False
noncomputable def KV{κ:Type}:List (κ×V)->List (κ×Fm)->Prop:=G6 fun(p:κ×V)(q:κ×Fm)=>p.1=q.1/\RelV p.2 q.2
noncomputable def kV:EL->V
 | .inl i=>.int i
 | .inr x=>.str x
inductive HO where
 | lst (xs:List V)
 | tup (xs:List V)
 | dK (kvs:List (EL×V))|dT (kvs:List (List EL×V))
 | set (S:Int->Bool) (n:Nat)
 | ins (C dx:Addr) (fs:List (Str×V))
 | own (x:Addr)
 | xd (fs:List (Str×V))
 | met (f x:Addr)
 | rng (lo hi:Int)
 | frz (o:Obj) (u:HO)
 | tbl (ps:Array Fm)
 | ext (φ:Heap->Prop)
abbrev Hp:=Addr->Option HO
noncomputable def upd(H:Hp)(a:Addr)(o:HO):Hp:=fun b=>if b=a then some o else H b
theorem au{H:Hp}{o:HO}:upd H a o a=some o:=by unfold upd;rw[if_pos rfl]
theorem ak{H:Hp}{o:HO}(h:b≠a):upd H a o b=H b:=by unfold upd;rw[if_neg h]
theorem sV{H:Hp}{o u:HO}:upd (upd H a o) a u=upd H a u:=by
 funext b;unfold upd;split<;>rfl
theorem zI{H:Hp}{o u:HO}(h:H a=some o)(h':H b=some u)(d:o≠u):a≠b:=by
 intro e;subst e;rw[h]at h';exact d (Gv h')
theorem aK{H:Hp}{o:HO}(h:H a=some o)(h':H b=none):a≠b:=by
 intro e;subst e;rw[h]at h';cases h'
section
variable(P:F0)(w:GD)
noncomputable def oJ(h:Heap)(a:Addr)(items:Array Fm):Prop:=∃o,h.get? a=some o/\o.cls = .type "tuple" /\ (∃n,o.data = .seq items n)/\o.dict=none
theorem oJ.tup{h:Heap}{a:Addr}{items:Array Fm}(x:oJ h a items):Lg h a items:=let ⟨o,e1,e2,e3,_⟩:=x;⟨o,e1,e2,e3⟩
theorem oJ.new(h:Heap)(items:Array Fm):oJ (h.push {cls:=.type "tuple", data:=.seq items}) h.objs.size items:=⟨_,FF _ rfl,rfl,⟨_,rfl⟩,rfl⟩
noncomputable def da(H:Hp)(h:Heap)(a:Addr):HO->Prop
 | .lst xs=>xs.length<=sizeLine/\∃(its:List Fm)(n:Nat),cw xs its/\h.get? a=some {cls:=.type "list", data:=.seq its.toArray n}
 | .tup xs=>xs.length<=sizeLine/\∃its:List Fm,cw xs its/\oJ h a its.toArray
 | .dK kvs=>kvs.length<=sizeLine/\(a==IA)=false/\∃vs,KV kvs vs/\h.DictOf (bB P w) a vs
 | .dT kvs=>kvs.length<=sizeLine/\(a==IA)=false/\∃xs:List (List EL×Addr×Fm),
     G6 (fun(p:List EL×V)(q:List EL×Addr×Fm)=>p.1=q.1/\H q.2.1=some (.tup (p.1.map kV))/\RelV p.2 q.2.2) kvs xs /\
     ∃o es ep,h.get? a=some o/\o.ExactDict/\o.data = .dict es ep/\es.toList=xs.map (entryOfKey (Lh (bB P w)))/\(xs.map (·.1)).Nodup
 | .set S n=>h.SetOf (intKind P w) a S n
 | .ins C dx fs=>H dx=some (.own a)/\fs.length<=1000/\dx≠a/\h.get? a=some (W.instObj C dx) /\
     ∃mA,h.Ns1 dx mA/\(∀f,vp (fs.lookup f) (mA f))/\PySem.Within mA (fs.map (·.1))
 | .own _=>∃o,h.get? a=some o
 | .xd fs=>∃mA,h.Ns1 a mA/\∀f,vp (fs.lookup f) (mA f)
 | .rng lo hi=>∃t u v,h.get? a=some {cls:=.type "range", data:=.fields #[.int lo t,.int hi u,.int 1 v]}
 | .frz o u=>h.get? a=some o/\da H h a u
 | .tbl ps=>h.get? a=some {cls:=.none,data:=.fields ps}
 | .met f x=>h.get? a=some (W.methodObj (.ref f) (.ref x))
 | .ext φ=>φ h/\(∃o,h.get? a=some o)/\∀h1 h2:Heap,φ h1->(∀o,h1.get? a=some o->h2.get? a=some o)->φ h2
noncomputable def E2(H:Hp)(h:Heap):Prop:=∀a o,H a=some o->da P w H h a o
end
section
variable{P:F0}{w:GD}{H H':Hp}{h h':Heap}{a:Addr}{o:HO}
theorem da.lt(x:da P w H h a o):a<h.objs.size:=by
 cases o with
 | lst xs=>obtain⟨_,_,_,_,e⟩:=x;exact Fz e
 | tup xs=>obtain⟨_,_,_,p⟩:=x;exact p.tup.lt
 | dK kvs=>obtain⟨_,_,_,_,o,_,_,e,_⟩:=x;exact Fz e
 | dT kvs=>obtain⟨_,_,_,_,o,_,_,e,_⟩:=x;exact Fz e
 | set S n=>obtain⟨o,_,_,_,e,_⟩:=x;exact Fz e
 | ins C dx fs=>obtain⟨_,_,_,e,_⟩:=x;exact Fz e
 | own y=>obtain⟨_,e⟩:=x;exact Fz e
 | xd fs=>obtain⟨_,⟨_,_,_,e,_⟩,_⟩:=x;exact Fz e
 | rng lo hi=>obtain⟨_,_,_,e⟩:=x;exact Fz e
 | frz ob u=>obtain⟨e,_⟩:=x;exact Fz e
 | tbl ps=>exact Fz (show h.get? a=some _ from x)
 | met f y=>exact Fz (show h.get? a=some _ from x)
 | ext φ=>obtain⟨_,⟨_,e⟩,_⟩:=x;exact Fz e
theorem G6.mapP{α β:Type}{F G:α->β->Prop}:∀{l₁:List α}{l₂:List β},G6 F l₁ l₂->(∀a b,F a b->G a b)->G6 G l₁ l₂
 | _,_,.nil,_=>.nil
 | _,_,.cons r t,f=>.cons (f _ _ r) (G6.mapP t f)
theorem da.stay(x:da P w H h a o)(k:∀b u,(b=a\/H b=some (.own a))->h.get? b=some u->h'.get? b=some u)
 (ho:∀b,H b=some (.own a)->H' b=some (.own a))(ht:∀b xs,H b=some (.tup xs)->H' b=some (.tup xs)):da P w H' h' a o:=by
 induction o with
 | lst xs=>obtain⟨z,its,n,r,e⟩:=x;exact⟨z,its,n,r,k _ _ (.inl rfl) e⟩
 | tup xs=>obtain⟨z,its,r,ob,e,c⟩:=x;exact⟨z,its,r,ob,k _ _ (.inl rfl) e,c⟩
 | dK kvs=>obtain⟨z,y,vs,r,ob,es,ep,e,c⟩:=x;exact⟨z,y,vs,r,ob,es,ep,k _ _ (.inl rfl) e,c⟩
 | dT kvs =>
   obtain⟨z,y,xs,r,ob,es,ep,e,c⟩:=x
   exact⟨z,y,xs,G6.mapP r fun p q z=>⟨z.1,ht _ _ z.2.1,z.2.2⟩,ob,es,ep,k _ _ (.inl rfl) e,c⟩
 | set S n=>obtain⟨ob,es,ep,t,e,c⟩:=x;exact⟨ob,es,ep,t,k _ _ (.inl rfl) e,c⟩
 | ins C dx fs =>
   obtain⟨d,z,ne,e,mA,⟨od,es,ep,e2,c⟩,r⟩:=x
   exact⟨ho _ d,z,ne,k _ _ (.inl rfl) e,mA,⟨od,es,ep,k _ _ (.inr d) e2,c⟩,r⟩
 | own y=>obtain⟨ob,e⟩:=x;exact⟨ob,k _ _ (.inl rfl) e⟩
 | xd fs=>obtain⟨mA,⟨od,es,ep,e,c⟩,r⟩:=x;exact⟨mA,⟨od,es,ep,k _ _ (.inl rfl) e,c⟩,r⟩
 | rng lo hi=>obtain⟨t,u,v,e⟩:=x;exact⟨t,u,v,k _ _ (.inl rfl) e⟩
 | frz ob u ih=>obtain⟨e,q⟩:=x;exact⟨k _ _ (.inl rfl) e,ih q⟩
 | tbl ps =>
   have e:h.get? a=some {cls:=.none,data:=.fields ps}:=x
   show h'.get? a=some {cls:=.none,data:=.fields ps}
   exact k a _ (.inl rfl) e
 | met f y =>
   have e:h.get? a=some (W.methodObj (.ref f) (.ref y)):=x
   show h'.get? a=some (W.methodObj (.ref f) (.ref y))
   exact k a _ (.inl rfl) e
 | ext φ=>obtain⟨p,⟨o,e⟩,st⟩:=x;exact⟨st _ _ p fun o q=>k _ _ (.inl rfl) q,⟨o,k _ _ (.inl rfl) e⟩,st⟩
theorem E2.lt(x:E2 P w H h)(e:H a=some o):a<h.objs.size:=(x a o e).lt
theorem E2.fresh(x:E2 P w H h)(e:h.objs.size<=a):H a=none:=by
 cases q:H a with
 | none=>rfl
 | some u=>exact absurd (FU (x.lt q) e) (G0 _)
theorem E2.kept(x:E2 P w H h)(k:∀b u,h.get? b=some u->h'.get? b=some u):E2 P w H h':=fun a o e =>
 (x a o e).stay (fun b u _ q=>k b u q) (fun _ q=>q) fun _ _ q=>q
theorem E2.laid(x:E2 P w H h)(k:∀b u,h.get? b=some u->h'.get? b=some u)(hp:h.objs.size<=a)(new:da P w (upd H a o) h' a o):E2 P w (upd H a o) h':=fun b u e=>by
 have hn:=x.fresh hp
 by_cases hb:b=a
 · subst hb;rw[au]at e;cases e;exact new
 · rw[ak hb]at e
   exact(x b u e).stay (fun c v _ q=>k c v q) (fun c q=>by rw[ak (aK q hn)];exact q) fun c xs q=>by rw[ak (aK q hn)];exact q
end
noncomputable def Rd(H:Hp)(a:Addr)(u:HO):Prop:=H a=some u\/∃o,H a=some (.frz o u)
theorem Rd.ok{H:Hp}{u:HO}(r:Rd H a u)(x:E2 P w H h):da P w H h a u:=by
 rcases r with r|⟨o,r⟩
 · exact x a u r
 · obtain⟨_,q⟩:=x a _ r
   exact q
noncomputable def EI:Option HO->Prop
 | some (.lst _)=>True
 | some (.dK _)=>True
 | some (.dT _)=>True
 | some (.set _ _)=>True
 | some (.ins _ _ _)=>True
 | some (.ext _)=>True
 | _=>False
section
variable{P:F0}{w:GD}{H:Hp}{h h':Heap}{x e:Addr}{o':HO}
theorem E2.write(ok:E2 P w H h)(mu:EI (H x))(he:e=x\/H e=some (.own x))(k:∀b u,b≠e->h.get? b=some u->h'.get? b=some u)(heo:∃u,h'.get? e=some u)
 (new:da P w (upd H x o') h' x o'):E2 P w (upd H x o') h':=fun b u q=>by
 have nown:∀c y,H c=some (.own y)->c≠x:=fun c y r z=>by subst z;rw[r]at mu;exact mu
 have ntup:∀c xs,H c=some (.tup xs)->c≠x:=fun c xs r z=>by subst z;rw[r]at mu;exact mu
 by_cases hb:b=x
 · subst hb;rw[au]at q;cases q;exact new
 · rw[ak hb]at q
   by_cases hbe:b=e
   · have q':H b=some (.own x):=by
       rcases he with z|z
       · exact absurd (hbe.trans z) hb
       · rw[hbe];exact z
     rw[q]at q';cases q'
     obtain⟨v,hv⟩:=heo
     exact⟨v,by rw[hbe];exact hv⟩
   · refine(ok b u q).stay (fun c v hc r=>k c v ?_ r) (fun c r=>by rw[ak (nown c b r)];exact r) fun c xs r=>by rw[ak (ntup c xs r)];exact r
     rcases hc with rfl|hc
     · exact hbe
     · rintro rfl
       rcases he with z|z
       · exact nown c b hc z
       · rw[hc]at z;cases z;exact hb rfl
end
structure Un (fs ex:List Addr) (H H':Hp) (h h':Heap):Prop where
 keep:∀b o,h.get? b=some o->H b=none->b∉fs->b∉ex->h'.get? b=some o
 slot:∀b o,h.get? b=some o->H b=none->b∈fs->b∉ex->∃sl,h'.get? b=some {o with slots:=sl}
 free:∀b o,h.get? b=some o->H b=none->b∉ex->H' b=none
 there:∀b o,h.get? b=some o->b∉ex->∃o',h'.get? b=some o'
 tups:∀b xs,H b=some (.tup xs)->H' b=some (.tup xs)
 frzs:∀b o u,H b=some (.frz o u)->H' b=some (.frz o u)
 tbls:∀b ps,H b=some (.tbl ps)->∃more,H' b=some (.tbl (ps++more))
section
variable{fs fs' ex ex':List Addr}{H H1 H2:Hp}{h h1 h2 h':Heap}{a x e:Addr}{o:HO}
theorem Un.any(u:Un fs ex H H1 h h1){ob:Obj}(q:h.get? b=some ob)(n:H b=none)(hx:b∉ex):∃sl,h1.get? b=some {ob with slots:=sl}:=by
 by_cases hb:b∈fs
 · exact u.slot b ob q n hb hx
 · exact⟨ob.slots,u.keep b ob q n hb hx⟩
theorem Un.kept(k:∀b u,h.get? b=some u->h'.get? b=some u):Un fs ex H H h h' :=
 ⟨fun b ob q _ _ _=>k b ob q,fun b ob q _ _ _=>⟨ob.slots,k b ob q⟩,fun _ _ _ n _=>n,fun b ob q _=>⟨ob,k b ob q⟩,fun _ _ q=>q,fun _ _ _ q=>q,fun _ ps q=>⟨#[],by rw[q];simp⟩⟩
theorem Un.refl:Un fs ex H H h h:=Un.kept fun _ _ q=>q
theorem Un.laid(k:∀b u,h.get? b=some u->h'.get? b=some u)(hp:h.objs.size<=a)(hn:H a=none):Un fs ex H (upd H a o) h h' where
 keep:=fun b u q _ _ _=>k b u q
 slot:=fun b u q _ _ _=>⟨u.slots,k b u q⟩
 free:=fun b u q n _=>by rw[ak (Gj (FU (Fz q) hp))];exact n
 there:=fun b u q _=>⟨u,k b u q⟩
 tups:=fun b xs q=>by rw[ak (aK q hn)];exact q
 frzs:=fun b u xs q=>by rw[ak (aK q hn)];exact q
 tbls:=fun b ps q=>⟨#[],by rw[ak (aK q hn),q];simp⟩
theorem Un.write(mu:EI (H x))(he:e=x\/H e=some (.own x))(k:∀b u,b≠e->h.get? b=some u->h'.get? b=some u)(heo:∃u,h'.get? e=some u):Un fs ex H (upd H x o) h h':=by
 have hx:∀b,H b=none->b≠x:=fun b n z=>by subst z;rw[n]at mu;exact mu
 have hb:∀b,H b=none->b≠e:=fun b n z=>by
  subst z
  rcases he with r|r
  · exact hx b n r
  · rw[n]at r;cases r
 have hm:∀b u,H b=some u->¬EI (some u)->b≠x:=fun b u q nm z=>by subst z;rw[q]at mu;exact nm mu
 refine⟨fun b u q n _ _=>k b u (hb b n) q,fun b u q n _ _=>⟨u.slots,k b u (hb b n) q⟩,fun b u q n _=>by rw[ak (hx b n)];exact n,fun b u q _=>?_,
  fun b xs q=>by rw[ak (hm b _ q fun z=>z)];exact q,fun b u xs q=>by rw[ak (hm b _ q fun z=>z)];exact q,fun b ps q=>⟨#[],by rw[ak (hm b _ q fun z=>z),q];simp⟩⟩
 by_cases hbe:b=e
 · subst hbe;exact heo
 · exact⟨u,k b u hbe q⟩
end
noncomputable def C4(h:Heap)(H:Hp):List Addr:=(FJ h.objs.size).filter fun a=>(H a).isSome
noncomputable def qi(h:Heap)(H:Hp):Heap:=W.hideAll h (C4 h H)
theorem nO(h:Heap)(H:Hp):(qi h H).objs.size=h.objs.size:=W.hideAll_size _ _
theorem qh{H:Hp}{o:Obj}(e:h.get? b=some o)(n:H b=none):(qi h H).get? b=some o :=
 W.hideAll_get _ e fun hm=>by
  have q:(H b).isSome=true:=(List.mem_filter.mp hm).2
  rw[n]at q;simp at q
theorem ul{H:Hp}{o:Obj}(e:(qi h H).get? b=some o):h.get? b=some o/\H b=none:=by
 have e':h.get? b=some o:=W.of_hideAll (C4 h H) e
 refine⟨e',?_⟩
 cases q:H b with
 | none=>rfl
 | some x =>
   have hm:b∈C4 h H:=List.mem_filter.mpr ⟨GR.mpr (Fz e'),by simp[q]⟩
   have z:(qi h H).get? b=none:=W.hideAll_none (C4 h H) hm
   rw[z]at e;cases e
noncomputable def u7(g h:Heap)(L:Addr):List (Addr×Obj):=(FJ h.objs.size).filterMap fun a=>if a=L\/(g.get? a).isSome=true then none else(h.get? a).map fun o=>(a,o)
noncomputable def rest(g h:Heap)(L d:Addr):List (Addr×Obj):=(u7 g h L).filter fun p=>decide (p.1≠d)
structure Mod (K:W.Frag) (mg:Str->Option Fm) (base:Heap):Prop where
 kin:K.In base
 glob:base.Ns GE mg
 blt:∃mb,base.Ns builtinsNs mb/\∀x:Str,x ≠ "__name__" -> mb x=Ih x
 nolimit:base.NoLimit
structure Cx where
 prog:F0
 w:GD
 K:W.Frag
 mg:Str->Option Fm
 base:Heap
 A:GN
 N:List Str
 s₀:Ft
 H₀:Hp
 env:Env
 outer:List Env
 stack:List Env
 ex:List Addr
 fn:Str->Bool
 calm:Bool
 pn:List (Addr×Obj)
 xe:Fm->Ft->Prop
noncomputable def frs(l:List Env):List Addr:=l.filterMap (·.frame)
abbrev Cx.fs(X:Cx):List Addr:=frs X.outer
noncomputable def Eb(sc:Scope)(x:Str):Prop:=sc.names.lookup x=some .local\/sc.names.lookup x=some .cell\/sc.names.lookup x=some .free
noncomputable def Loc(sc:Scope)(x:Str):Prop:=sc.names.lookup x=some .local\/sc.names.lookup x=some .cell
noncomputable def Look(env:Env)(h:Heap)(m:Str->Option Fm)(x:Str)(u:Fm):Prop :=
 (env.kindOf x=some .local/\m x=some u)\/((env.kindOf x=some .cell\/env.kindOf x=some .free)/\∃c,env.cells.lookup x=some c/\h.IsCell c (some u))
structure Cx.Ok (X:Cx):Prop where
 mod:Mod X.K X.mg X.base
 kind:X.env.scope.kind = .function
 glob:X.env.globals=GE
 blt:X.env.builtins=builtinsNs
 above:X.s₀.heap.objs.size<=X.env.locals
 inj:∀x y c,X.env.cells.lookup x=some c->X.env.cells.lookup y=some c->x=y
 has:∀x,(X.env.kindOf x=some .cell\/X.env.kindOf x=some .free)->∃c,X.env.cells.lookup x=some c
 cab:∀x c,X.fn x=true->X.env.cells.lookup x=some c->X.s₀.heap.objs.size<=c
 hd:X.calm=true->X.A.handled=none
 frames:X.A.frames=some X.stack
 stk:X.stack=X.outer\/(X.stack=X.env::X.outer/\X.env.frame=some X.env.locals)
 exf:∀b∈X.ex,b≠X.env.locals/\∀x c,X.env.cells.lookup x=some c->c≠b
 bs:∀b o,X.base.get? b=some o->X.s₀.heap.get? b=some o/\X.H₀ b=none
 bsz:X.base.objs.size<=X.s₀.heap.objs.size
 noex:∀b o,X.base.get? b=some o->b∉X.ex
 exfs:∀b∈X.ex,b∉X.fs
 funs:X.s₀.heap.FunFrames X.base X.outer
 frf:∀b∈X.fs,X.H₀ b=none
structure Inv (X:Cx) (pins:List (Addr×Obj)) (σ:List (Option V)) (H:Hp) (s:Ft):Prop where
 ok:X.Ok
 os:s.os=X.s₀.os
 bare:KU s.gens
 base:Un X.fs X.ex X.H₀ H X.s₀.heap s.heap
 loc:∃m,s.heap.Ns X.env.locals m/\∀(i:Nat)(x:Str)(v:V),X.N[i]?=some x->σ[i]?=some (some v)->Eb X.env.scope x->∃u,RelV v u/\Look X.env s.heap m x u
 cell:∀x c,X.env.cells.lookup x=some c->∃v,s.heap.IsCell c v
 free:H X.env.locals=none
 freeC:∀x c,X.env.cells.lookup x=some c->H c=none
 pin:∀p∈X.pn++pins,s.heap.get? p.1=some p.2/\H p.1=none/\p.1≠X.env.locals/\p.1∉X.fs/\∀v,p.2.data ≠ .cell v
 hok:E2 X.prog X.w H s.heap
 len:σ.length=X.N.length
section
variable{X:Cx}{pins:List (Addr×Obj)}{σ:List (Option V)}{H H':Hp}{s:Ft}{h':Heap}
theorem Cx.Ok.nofr(ok:X.Ok){o:Obj}(e:X.base.get? b=some o):b∉X.fs:=fun hb=>by
 have:=(ok.funs.mem hb).1
 rw[e]at this;cases this
theorem Inv.bs(I:Inv X pins σ H s):∀b o,X.base.get? b=some o->s.heap.get? b=some o/\H b=none:=fun b o e =>
 ⟨I.base.keep b o (I.ok.bs b o e).1 (I.ok.bs b o e).2 (I.ok.nofr e) (I.ok.noex b o e),I.base.free b o (I.ok.bs b o e).1 (I.ok.bs b o e).2 (I.ok.noex b o e)⟩
theorem Inv.bk(I:Inv X pins σ H s):∀b o,X.base.get? b=some o->s.heap.get? b=some o:=fun b o e=>(I.bs b o e).1
theorem Inv.mod(I:Inv X pins σ H s):Mod X.K X.mg X.base:=I.ok.mod
theorem Inv.kIn(I:Inv X pins σ H s):X.K.In s.heap:=I.ok.mod.kin.keeps I.bk
theorem Inv.lt(I:Inv X pins σ H s):X.env.locals<s.heap.objs.size:=let ⟨_,hn,_⟩:=I.loc;hn.lt
theorem Inv.sz(I:Inv X pins σ H s):X.s₀.heap.objs.size<=s.heap.objs.size:=Gq I.ok.above (Lz I.lt)
theorem Inv.nofs(I:Inv X pins σ H s)(h:s.heap.objs.size<=a):a∉X.fs:=fun hb=>by
 obtain⟨_,o,ho,_⟩:=I.ok.funs.mem hb
 exact absurd (FU (Fz ho) (Gq I.sz h)) (G0 _)
theorem Inv.cne(I:Inv X pins σ H s):∀x c,X.env.cells.lookup x=some c->c≠X.env.locals:=fun x c e z=>by
 obtain⟨v,o,ho,hd⟩:=I.cell x c e
 obtain⟨m,⟨o',es,ep,ho',hd',_⟩,_⟩:=I.loc
 rw[z,ho']at ho;cases ho;rw[hd']at hd;cases hd
theorem Inv.funs(I:Inv X pins σ H s):s.heap.FunFrames X.base X.outer:=by
 have all:∀(l:List Env),(∀b∈frs l,b∈X.fs)->X.s₀.heap.FunFrames X.base l->s.heap.FunFrames X.base l:=by
  intro l
  induction l with
  | nil=>intro _ _;trivial
  | cons env r ih =>
    intro hs hl
    obtain⟨hk,⟨L,o,hf,hn,ho,hd⟩,hr⟩:=hl
    have hL:L∈X.fs:=hs L (by unfold frs;rw[JE,hf];exact FB)
    obtain⟨sl,e⟩:=I.base.slot L o ho (I.ok.frf L hL) hL fun z=>I.ok.exfs L z hL
    exact⟨hk,⟨L,_,hf,hn,e,hd⟩,ih (fun b hb=>hs b (by unfold frs;rw[JE,hf];exact Fv _ hb)) hr⟩
 exact all X.outer (fun _ hb=>hb) I.ok.funs
theorem Inv.stack(I:Inv X pins σ H s):s.heap.FunFrames X.base X.stack:=by
 rcases I.ok.stk with e|⟨e,hf⟩
 · rw[e];exact I.funs
 · rw[e]
   obtain⟨m,hn,_⟩:=I.loc
   refine .cons (by rw[I.ok.kind];decide) hf hn ?_ I.funs
   exact Heap.get?_none_of_le (Gq I.ok.bsz I.ok.above)
theorem Inv.stkSub(I:Inv X pins σ H s):∀b∈frs X.stack,b∈X.env.locals::X.fs:=fun b hb=>by
 rcases I.ok.stk with e|⟨e,hf⟩
 · rw[e]at hb;exact Fv _ hb
 · rw[e]at hb
   unfold frs at hb
   rw[JE,hf]at hb
   exact hb
theorem Inv.stkFree(I:Inv X pins σ H s):∀b∈frs X.stack,H b=none:=fun b hb=>by
 rcases GT.mp (I.stkSub b hb)with e|hb
 · rw[e];exact I.free
 · obtain⟨_,o,ho,_⟩:=I.ok.funs.mem hb
   exact I.base.free b o ho (I.ok.frf b hb) fun z=>I.ok.exfs b z hb
theorem Inv.step{g':Array GenState}{d':Drawn}{ch:List Addr}(I:Inv X pins σ H s)
 (hch:∀b∈ch,(b∈X.ex\/X.s₀.heap.objs.size<=b)/\b≠X.env.locals/\(∀x c,X.env.cells.lookup x=some c->c≠b)/\∀p∈X.pn++pins,p.1≠b)
 (keep:∀b o,b≠X.env.locals->b∉X.fs->b∉ch->s.heap.get? b=some o->H b=none->h'.get? b=some o)
 (slot:∀b o,b≠X.env.locals->b∈X.fs->b∉ch->s.heap.get? b=some o->H b=none->∃sl,h'.get? b=some {o with slots:=sl})(free:∀b o,b∉ch->s.heap.get? b=some o->H b=none->H' b=none)
 (there:∀b o,b∉ch->s.heap.get? b=some o->∃o',h'.get? b=some o')
 (tups:∀b xs,H b=some (.tup xs)->H' b=some (.tup xs))(frzs:∀b o u,H b=some (.frz o u)->H' b=some (.frz o u))(tbls:∀b ps,H b=some (.tbl ps)->∃more,H' b=some (.tbl (ps++more)))
 (ns:∀m,s.heap.Ns X.env.locals m->h'.Ns X.env.locals m)(hok:E2 X.prog X.w H' h')(hg:KU g') :
 Inv X pins σ H' {s with heap:=h',gens:=g',drawn:=d',toks:=t' }:=by
 have neL:∀b o,X.s₀.heap.get? b=some o->b≠X.env.locals:=fun b o e=>Gj (FU (Fz e) I.ok.above)
 have neC:∀b o,X.s₀.heap.get? b=some o->b∉X.ex->b∉ch:=fun b o e hx hb=>by
  rcases(hch b hb).1 with z|z
  · exact hx z
  · exact absurd (FU (Fz e) z) (G0 _)
 have cellK:∀x c,X.env.cells.lookup x=some c->∀v,s.heap.IsCell c v->h'.IsCell c v:=fun x c e v ⟨o,ho,hd⟩=>by
  have nch:c∉ch:=fun z=>(hch c z).2.2.1 x c e rfl
  by_cases hc:c∈X.fs
  · obtain⟨sl,q⟩:=slot c o (I.cne x c e) hc nch ho (I.freeC x c e)
    exact⟨_,q,hd⟩
  · exact⟨o,keep c o (I.cne x c e) hc nch ho (I.freeC x c e),hd⟩
 refine⟨I.ok,I.os,hg,⟨fun b o e n hb hx=>?_,fun b o e n hb hx=>?_,fun b o e n hx=>?_,fun b o e hx=>?_,fun b xs e=>tups b xs (I.base.tups b xs e),fun b o xs e=>frzs b o xs (I.base.frzs b o xs e),fun b ps e=>?_⟩,?_,fun x c e=>?_,?_,fun x c e=>?_,fun p hp=>?_,hok,I.len⟩
 · exact keep b o (neL b o e) hb (neC b o e hx) (I.base.keep b o e n hb hx) (I.base.free b o e n hx)
 · obtain⟨sl,e1⟩:=I.base.slot b o e n hb hx
   obtain⟨sl',e2⟩:=slot b _ (neL b o e) hb (neC b o e hx) e1 (I.base.free b o e n hx)
   exact⟨sl',e2⟩
 · obtain⟨o',e1⟩:=I.base.there b o e hx
   exact free b o' (neC b o e hx) e1 (I.base.free b o e n hx)
 · obtain⟨o',e1⟩:=I.base.there b o e hx
   exact there b o' (neC b o e hx) e1
 · obtain⟨m1,e1⟩:=I.base.tbls b ps e
   obtain⟨m2,e2⟩:=tbls b _ e1
   exact⟨m1++m2,by rw[e2,Array.append_assoc]⟩
 · obtain⟨m,hn,hl⟩:=I.loc
   refine⟨m,ns m hn,fun i x v e1 e2 e3=>?_⟩
   obtain⟨u,r,l⟩:=hl i x v e1 e2 e3
   refine⟨u,r,?_⟩
   rcases l with l|⟨k,c,e,z⟩
   · exact .inl l
   · exact .inr ⟨k,c,e,cellK x c e _ z⟩
 · obtain⟨v,z⟩:=I.cell x c e
   exact⟨v,cellK x c e v z⟩
 · obtain⟨m,⟨o,_,_,ho,_⟩,_⟩:=I.loc
   exact free _ o (fun z=>(hch _ z).2.1 rfl) ho I.free
 · obtain⟨v,o,ho,hd⟩:=I.cell x c e
   exact free c o (fun z=>(hch c z).2.2.1 x c e rfl) ho (I.freeC x c e)
 · obtain⟨e,n,ne,nf,d⟩:=I.pin p hp
   have nch:p.1∉ch:=fun z=>(hch p.1 z).2.2.2 p hp rfl
   exact⟨keep p.1 p.2 ne nf nch e n,free p.1 p.2 nch e n,ne,nf,d⟩
theorem Inv.un(I:Inv X pins σ H s)(u:Un X.fs [] H H' s.heap h')(hok:E2 X.prog X.w H' h'):Inv X pins σ H' {s with heap:=h',toks:=t' }:=by
 obtain⟨m,⟨o,es,ep,ho,r⟩,_⟩:=id I.loc
 obtain⟨sl,hL⟩:=u.any ho I.free (by simp)
 exact I.step (g':=s.gens) (d':=s.drawn) (ch:=[]) (fun _ z=>nomatch z) (fun b o _ hb _ e n=>u.keep b o e n hb (by simp)) (fun b o _ hb _ e n=>u.slot b o e n hb (by simp)) (fun b o _ e n=>u.free b o e n (by simp)) (fun b o _ e=>u.there b o e (by simp)) u.tups u.frzs u.tbls (fun m' hm=>by
  obtain⟨o',es',ep',ho',r'⟩:=hm
  rw[ho]at ho';cases ho'
  exact⟨_,es',ep',hL,r'⟩) hok I.bare
theorem Inv.call{g':Array GenState}{d':Drawn}{ch:List Addr}(I:Inv X pins σ H s)(u:Un (frs X.stack) ch H H' s.heap h')(hok:E2 X.prog X.w H' h')(hg:KU g')
 (hch:∀b∈ch,(b∈X.ex\/X.s₀.heap.objs.size<=b)/\b≠X.env.locals/\(∀x c,X.env.cells.lookup x=some c->c≠b)/\∀p∈X.pn++pins,p.1≠b) :
 Inv X pins σ H' {s with heap:=h',gens:=g',drawn:=d',toks:=t' }:=by
 obtain⟨m,⟨o,es,ep,ho,r⟩,_⟩:=id I.loc
 obtain⟨sl,hL⟩:=u.any ho I.free fun z=>(hch _ z).2.1 rfl
 exact I.step (ch:=ch) hch (fun b o hL hb hc e n=>u.keep b o e n (fun z=>(GT.mp (I.stkSub b z)).elim hL hb) hc) (fun b o _ _ hc e n=>u.any e n hc) (fun b o hc e n=>u.free b o e n hc) (fun b o hc e=>u.there b o e hc) u.tups u.frzs u.tbls (fun m' hm=>by
  obtain⟨o',es',ep',ho',r'⟩:=hm
  rw[ho]at ho';cases ho'
  exact⟨_,es',ep',hL,r'⟩) hok hg
theorem Inv.turned(I:Inv X pins σ H s)(k:∀b o,b≠it->s.heap.get? b=some o->h'.get? b=some o)(hn:H it=none)(hL:it≠X.env.locals)
 (h1:it∈X.ex\/X.s₀.heap.objs.size<=it)(h2:∀x c,X.env.cells.lookup x=some c->c≠it)(h3:∀p∈X.pn++pins,p.1≠it):Inv X pins σ H {s with heap:=h',toks:=t' }:=by
 have nit:∀b u,H b=some u->b≠it:=fun b u e z=>by rw[z,hn]at e;cases e
 refine I.step (g':=s.gens) (d':=s.drawn) (ch:=[it]) (fun b hb=>?_) (fun b o _ _ hc e _=>k b o (fun z=>hc (by simp[z])) e) (fun b o _ _ hc e _=>⟨o.slots,k b o (fun z=>hc (by simp[z])) e⟩) (fun _ _ _ _ n=>n)
  (fun b o hc e=>⟨o,k b o (fun z=>hc (by simp[z])) e⟩) (fun _ _ e=>e) (fun _ _ _ e=>e) (fun b ps e=>⟨#[],by rw[e];simp⟩) (fun m hm=>?_) (fun b u e=>?_) I.bare
 · have e:b=it:=by simpa using hb
   subst e
   exact⟨h1,hL,h2,h3⟩
 · obtain⟨o,es,ep,ho,r⟩:=hm
   exact⟨o,es,ep,k _ o (Kf hL) ho,r⟩
 · refine(I.hok b u e).stay (fun c v hc q=>k c v ?_ q) (fun _ q=>q) fun _ _ q=>q
   rcases hc with z|z
   · rw[z];exact nit b u e
   · exact nit c _ z
theorem Inv.tok(I:Inv X pins σ H s)(t:Nat):Inv X pins σ H {s with toks:=t}:=I.un (h':=s.heap) (t':=t) Un.refl I.hok
theorem Inv.kept{t':Nat}(I:Inv X pins σ H s)(k:∀b u,s.heap.get? b=some u->h'.get? b=some u):Inv X pins σ H {s with heap:=h',toks:=t' }:=I.un (Un.kept k) (I.hok.kept k)
theorem Inv.laid{a:Addr}{o:HO}{t':Nat}(I:Inv X pins σ H s)(k:∀b u,s.heap.get? b=some u->h'.get? b=some u)(hp:s.heap.objs.size<=a)(new:da X.prog X.w (upd H a o) h' a o) :
 Inv X pins σ (upd H a o) {s with heap:=h',toks:=t' }:=I.un (Un.laid k hp (I.hok.fresh hp)) (I.hok.laid k hp new)
theorem Inv.write{x e:Addr}{o:HO}{t':Nat}(I:Inv X pins σ H s)(mu:EI (H x))(he:e=x\/H e=some (.own x))(k:∀b u,b≠e->s.heap.get? b=some u->h'.get? b=some u)(heo:∃u,h'.get? e=some u)
 (new:da X.prog X.w (upd H x o) h' x o):Inv X pins σ (upd H x o) {s with heap:=h',toks:=t' }:=I.un (Un.write mu he k heo) (I.hok.write mu he k heo new)
theorem Inv.pins_of{pins':List (Addr×Obj)}(I:Inv X pins σ H s)(h:∀p∈pins',s.heap.get? p.1=some p.2/\H p.1=none/\p.1≠X.env.locals/\p.1∉X.fs/\∀v,p.2.data ≠ .cell v):Inv X pins' σ H s :=
 ⟨I.ok,I.os,I.bare,I.base,I.loc,I.cell,I.free,I.freeC,fun p hp=>(IR.mp hp).elim (fun z=>I.pin p (KJ _ z)) (h p),I.hok,I.len⟩
theorem j_{N:List Str}(hN:N.Nodup){x:Str}(a:N[i]?=some x)(b:N[j]?=some x):i=j:=by
 obtain⟨h1,e1⟩:=FK.mp a
 obtain⟨h2,e2⟩:=FK.mp b
 exact(List.getElem_inj hN).mp (e1.trans e2.symm)
theorem ig{M:Model}{x:Str}{v:V}{Q:Unit->Ft->Prop}(I:Inv X pins σ H s)(hN:X.N.Nodup)(hi:X.N[i]?=some x)(hx:Loc X.env.scope x)(r:RelV v u)
 (h:∀s',Inv X pins (σ.set i (some v)) H s'->(∃a,Hu a s.heap s'.heap/\(a=X.env.locals\/X.env.cells.lookup x=some a))->Q () s')(hf:X.fn x=true\/X.env.scope.names.lookup x=some .local:=by first|exact .inl rfl|exact .inr rfl|assumption):FN M A (storeName X.env x u) Q E s:=by
 obtain⟨m,hn,hl⟩:=id I.loc
 have hcls:(X.env.scope.kind == .class||(X.env.scope.kind == .module&&X.env.locals != X.env.globals))=false:=by rw[I.ok.kind];rfl
 have hiσ:i<σ.length:=by rw[I.len];exact(FK.mp hi).1
 have cne:=I.cne
 have tracked:∀{a:Addr}{h':Heap},(∃o,s.heap.get? a=some o/\H a=none)->Hu a s.heap h'->E2 X.prog X.w H h':=fun{a h'} ha hs b ob e=>by
  obtain⟨_,_,hfree⟩:=ha
  refine(I.hok b ob e).stay (fun c w' hc q=>(hs.2 c ?_).trans q) (fun _ q=>q) fun _ _ q=>q
  rintro rfl
  rcases hc with rfl|hc
  · rw[hfree]at e;cases e
  · rw[hfree]at hc;cases hc
 rcases hx with hk|hk
 · refine wpAny_storeName_local hk hn (fun h' hn' hs=>?_) hcls
   obtain⟨oL,_,_,hoL,_⟩:=id hn
   refine h _ ⟨I.ok,I.os,I.bare,⟨fun b o e n hb hx=>?_,fun b o e n hb hx=>?_,I.base.free,fun b o e hx=>?_,I.base.tups,I.base.frzs,I.base.tbls⟩,⟨_,hn',fun j y v' e1 e2 e3=>?_⟩,fun y c e=>?_,I.free,I.freeC,fun p hp=>?_,tracked ⟨oL,hoL,I.free⟩ hs,by simpa using I.len⟩ ⟨_,hs,.inl rfl⟩
   · exact(hs.2 b (Gj (FU (Fz e) I.ok.above))).trans (I.base.keep b o e n hb hx)
   · obtain⟨sl,e1⟩:=I.base.slot b o e n hb hx
     exact⟨sl,(hs.2 b (Gj (FU (Fz e) I.ok.above))).trans e1⟩
   · obtain⟨o',e1⟩:=I.base.there b o e hx
     exact⟨o',(hs.2 b (Gj (FU (Fz e) I.ok.above))).trans e1⟩
   · by_cases hj:j=i
     · subst hj
       rw[hi]at e1;cases e1
       rw[FT hiσ]at e2
       cases e2
       exact⟨u,r,.inl ⟨hk,by simp⟩⟩
     · rw[FP (Kf hj)]at e2
       obtain⟨u',r',q⟩:=hl j y v' e1 e2 e3
       refine⟨u',r',?_⟩
       rcases q with⟨k,e⟩|⟨k,c,e,z⟩
       · refine .inl ⟨k,?_⟩
         have:y≠x:=fun e=>hj (j_ hN e1 (e▸hi))
         simp[this,e]
       · exact .inr ⟨k,c,e,z.sameBut hs (cne y c e)⟩
   · obtain⟨w',z⟩:=I.cell y c e
     exact⟨w',z.sameBut hs (cne y c e)⟩
   · obtain⟨e,n,ne,nf,d⟩:=I.pin p hp
     exact⟨(hs.2 p.1 ne).trans e,n,ne,nf,d⟩
 · have hfn:X.fn x=true:=by
     rcases hf with z|z
     · exact z
     · rw[z]at hk;cases hk
   obtain⟨c,hc⟩:=I.ok.has x (.inl hk)
   obtain⟨w',z⟩:=I.cell x c hc
   refine wpAny_storeName_cell I.ok.kind hk hc z (fun h' hc' hs=>?_)
   obtain⟨oc,hoc,hocd⟩:=id z
   refine h {s with heap:=h' } ⟨I.ok,I.os,I.bare,⟨fun b o e n hb hx=>?_,fun b o e n hb hx=>?_,I.base.free,fun b o e hx=>?_,I.base.tups,I.base.frzs,I.base.tbls⟩,⟨m,hn.sameBut hs (Kf (cne x c hc)),fun j y v' e1 e2 e3=>?_⟩,fun y c' e=>?_,I.free,I.freeC,fun p hp=>?_,tracked ⟨oc,hoc,I.freeC x c hc⟩ hs,by simpa using I.len⟩ ⟨c,hs,.inr hc⟩
   · exact(hs.2 b (Gj (FU (Fz e) (I.ok.cab x c hfn hc)))).trans (I.base.keep b o e n hb hx)
   · obtain⟨sl,e1⟩:=I.base.slot b o e n hb hx
     exact⟨sl,(hs.2 b (Gj (FU (Fz e) (I.ok.cab x c hfn hc)))).trans e1⟩
   · obtain⟨o',e1⟩:=I.base.there b o e hx
     exact⟨o',(hs.2 b (Gj (FU (Fz e) (I.ok.cab x c hfn hc)))).trans e1⟩
   · by_cases hj:j=i
     · subst hj
       rw[hi]at e1;cases e1
       rw[FT hiσ]at e2
       cases e2
       exact⟨u,r,.inr ⟨.inl hk,c,hc,hc'⟩⟩
     · rw[FP (Kf hj)]at e2
       obtain⟨u',r',q⟩:=hl j y v' e1 e2 e3
       refine⟨u',r',?_⟩
       rcases q with q|⟨k,c',e,z'⟩
       · exact .inl q
       · refine .inr ⟨k,c',e,z'.sameBut hs ?_⟩
         rintro rfl
         exact hj (j_ hN e1 (I.ok.inj _ _ _ e hc▸hi))
   · by_cases hcc:c'=c
     · subst hcc;exact⟨_,hc'⟩
     · obtain⟨w2,z2⟩:=I.cell y c' e
       exact⟨w2,z2.sameBut hs hcc⟩
   · obtain⟨e,n,ne,nf,d⟩:=I.pin p hp
     refine⟨(hs.2 p.1 ?_).trans e,n,ne,nf,d⟩
     intro q
     rw[q,hoc]at e
     have q':oc=p.2:=Gv e
     exact d w' (by rw[<- q'];exact hocd)
theorem dO{M:Model}{x:Str}{v:V}{Q:Unit->Ft->Prop}(I:Inv X pins σ H s)(hN:X.N.Nodup)(hi:X.N[i]?=some x)(hx:Loc X.env.scope x)(r:RelV v u)
 (h:∀s',Inv X pins (σ.set i (some v)) H s'->Q () s')(hf:X.fn x=true\/X.env.scope.names.lookup x=some .local:=by first|exact .inl rfl|exact .inr rfl|assumption):FN M A (storeName X.env x u) Q E s :=
 ig I hN hi hx r (fun s' I' _=>h s' I') hf
end
abbrev XK:=Fm->Option Addr->Hp->Prop
abbrev St:=List (Option V)
abbrev VK:=V->Hp->Prop
abbrev TE:=St->Hp->VK->Prop
abbrev TT:=St->Hp->(Bool->Hp->Prop)->Prop
abbrev TA:=St->Hp->(List V->Hp->Prop)->Prop
structure Ends where
 nx:St->Hp->Prop
 rt:VK
 bk:St->Hp->Prop:=fun _ _=>False
 ct:St->Hp->Prop:=fun _ _=>False
abbrev TS:=Ends->St->Hp->Prop
noncomputable def EP(X:Cx)(pins:List (Addr×Obj))(σ:St)(Q:VK)(u:Fm)(s':Ft):Prop:=∃v H',Inv X pins σ H' s'/\RelV v u/\Q v H'
noncomputable def TP(X:Cx)(pins:List (Addr×Obj))(σ:St)(Q:Bool->Hp->Prop)(b:Bool)(s':Ft):Prop:=∃H',Inv X pins σ H' s'/\Q b H'
noncomputable def AP(X:Cx)(pins:List (Addr×Obj))(σ:St)(Q:List V->Hp->Prop)(us:List Fm)(s':Ft):Prop:=∃vs H',Inv X pins σ H' s'/\cw vs us/\Q vs H'
noncomputable def SP(X:Cx)(pins:List (Addr×Obj))(D:Ends)(f:Flow)(s':Ft):Prop :=
 match f with
 | .next=>∃σ' H',Inv X pins σ' H' s'/\D.nx σ' H'
 | .brk=>∃σ' H',Inv X pins σ' H' s'/\D.bk σ' H'
 | .cont=>∃σ' H',Inv X pins σ' H' s'/\D.ct σ' H'
 | .ret u=>∃v σ' H',Inv X pins σ' H' s'/\RelV v u/\D.rt v H'
noncomputable def PE(X:Cx)(e:Expr)(t:TE):Prop :=
 ∀(pins:List (Addr×Obj))(s:Ft)(σ:St)(H:Hp)(Q:VK),Inv X pins σ H s->t σ H Q->FN (Gb X.prog X.w) X.A (eval e X.env) (EP X pins σ Q) X.xe s
noncomputable def PT(X:Cx)(e:Expr)(t:TT):Prop :=
 ∀(pins:List (Addr×Obj))(s:Ft)(σ:St)(H:Hp)(Q:Bool->Hp->Prop),Inv X pins σ H s->t σ H Q->FN (Gb X.prog X.w) X.A (isTrue e X.env (eval e X.env)) (TP X pins σ Q) X.xe s
noncomputable def PW(X:Cx)(e:Expr)(t:TT):Prop :=
 ∀(whole:Sem Fm)(pins:List (Addr×Obj))(s:Ft)(σ:St)(H:Hp)(Q:Bool->Hp->Prop),Inv X pins σ H s->t σ H Q->FN (Gb X.prog X.w) X.A (isTrue e X.env whole) (TP X pins σ Q) X.xe s
theorem PW.pt{X:Cx}{e:Expr}{t:TT}(h:PW X e t):PT X e t:=h _
noncomputable def PA(X:Cx)(es:List Expr)(t:TA):Prop :=
 ∀(pos:Pos)(pins:List (Addr×Obj))(s:Ft)(σ:St)(H:Hp)(Q:List V->Hp->Prop),Inv X pins σ H s->t σ H Q->FN (Gb X.prog X.w) X.A (spliced (Hf pos (FA es X.env))) (AP X pins σ Q) X.xe s
noncomputable def PS(X:Cx)(st:Stmt)(t:TS):Prop :=
 ∀(pins:List (Addr×Obj))(s:Ft)(σ:St)(H:Hp)(D:Ends),Inv X pins σ H s->t D σ H->FN (Gb X.prog X.w) X.A (exec st X.env) (SP X pins D) X.xe s
noncomputable def Ey(X:Cx)(st:List Stmt)(t:TS):Prop :=
 ∀(pins:List (Addr×Obj))(s:Ft)(σ:St)(H:Hp)(D:Ends),Inv X pins σ H s->t D σ H->FN (Gb X.prog X.w) X.A (execs st X.env) (SP X pins D) X.xe s
theorem C7{t:Sem α}{Q Q':α->Ft->Prop}{M:Model}(h:FN M A t Q E s)(hQ:∀a s,Q a s->Q' a s):FN M A t Q' E s:=Gk h hQ fun _ _ x=>x
section
variable{X:Cx}
noncomputable def zb(i:Nat):TE:=fun σ H Q=>∃v,σ[i]?=some (some v)/\Q v H
noncomputable def tC(v:V):TE:=fun _ H Q=>Q v H
theorem dw{x:Str}(hN:X.N[i]?=some x)(hv:Eb X.env.scope x)(hd:(x==("__debug__" : Str))=false:=by decide)(hcd:(x==("__classdict__" : Str))=false:=by decide):PE X (.Name x pos) (zb i):=by
 intro pins s σ H Q I h
 obtain⟨v,e,h⟩:=h
 obtain⟨m,hn,hl⟩:=I.loc
 obtain⟨u,r,l⟩:=hl i x v hN e hv
 have fin:EP X pins σ Q u s:=⟨v,H,I,r,h⟩
 rcases l with⟨hk,hm⟩|⟨hk,c,hc,hcell⟩
 · exact wpAny_Name (KL I.ok.kind hk hn hm fin) hd
 · rcases hk with hk|hk
   · exact wpAny_Name (KW I.ok.kind hk hc hcell fin) hd
   · exact wpAny_Name (wpAny_loadName_free I.ok.kind hk hc hcell fin hcd) hd
theorem dz{i j pos}:PE X (.Constant (.int i) j pos) (tC (.int i)):=fun _ _ _ H _ I h=>wpAny_Constant_int ⟨.int i,H,I.tok _,⟨_,rfl⟩,h⟩
theorem zF{b j pos}:PE X (.Constant (.bool b) j pos) (tC (.bl b)):=fun _ _ _ H _ I h=>Constant_bool ⟨.bl b,H,I,rfl,h⟩
theorem xA{j pos}:PE X (.Constant .none j pos) (tC .non):=fun _ _ _ H _ I h=>Constant_none ⟨.non,H,I,rfl,h⟩
theorem dS{x j pos}:PE X (.Constant (.str x) j pos) (tC (.str x)):=fun _ _ _ H _ I h=>Calls.Constant_str ⟨.str x,H,I.tok _,⟨_,rfl⟩,h⟩
noncomputable def Gl(X:Cx)(x:Str):Prop:=X.env.kindOf x=some .globalImplicit
theorem nH{σ:St}{H:Hp}{x:Str}(I:Inv X pins σ H s)(hg:Gl X x)(hm:X.mg x=some u)(h:Q u s)
 (hd:(x==("__debug__" : Str))=false:=by decide):FN (Gb X.prog X.w) X.A (eval (.Name x pos) X.env) Q E s :=
 JO I.ok.kind hg (Calls.loadGlobal_global (by rw[I.ok.glob];exact I.mod.glob.keeps I.bk) hm h) hd
theorem dA{σ:St}{H:Hp}{x:Str}(I:Inv X pins σ H s)(hg:Gl X x)(hm:X.mg x=none)(hv:Ih x=some u)(h:Q u s)
 (hn:x ≠ "__name__" := by decide)(hd:(x==("__debug__" : Str))=false:=by decide):FN (Gb X.prog X.w) X.A (eval (.Name x pos) X.env) Q E s:=by
 obtain⟨mb,h1,h2⟩:=I.mod.blt
 exact JO I.ok.kind hg (Calls.loadGlobal_builtin (by rw[I.ok.glob];exact I.mod.glob.keeps I.bk) hm (by rw[I.ok.blt];exact h1.keeps I.bk) ((h2 x hn).trans hv) h) hd
theorem t9{x:Str}{v:V}(hg:Gl X x)(hm:X.mg x=some u)(r:RelV v u)(hd:(x==("__debug__" : Str))=false:=by decide):PE X (.Name x pos) (tC v) :=
 fun _ _ _ H _ I h=>nH I hg hm ⟨v,H,I,r,h⟩ hd
theorem ua{x:Str}{v:V}(hg:Gl X x)(hm:X.mg x=none)(hv:Ih x=some u)(r:RelV v u)(hn:x ≠ "__name__" := by decide)(hd:(x==("__debug__" : Str))=false:=by decide):PE X (.Name x pos) (tC v) :=
 fun _ _ _ H _ I h=>dA I hg hm hv ⟨v,H,I,r,h⟩ hn hd
variable{a b:Expr}{ta tb:TE}{pos:Pos}
noncomputable def PC(X:Cx)(op:KY)(a b:Expr)(t:TE):Prop :=
 ∀ (pins:List (Addr×Obj))(s:Ft)(σ:St)(H:Hp)(Q:VK),Inv X pins σ H s->t σ H Q ->
   FN (Gb X.prog X.w) X.A (eval a X.env) (fun v s₁=>FN (Gb X.prog X.w) X.A (eval b X.env) (fun u s₂=>FN (Gb X.prog X.w) X.A (G1 op v u) (EP X pins σ Q) X.xe s₂) X.xe s₁) X.xe s
theorem pL(b:Expr)(h:op ≠ .In)(h2:op ≠ .NotIn):HF op b=false:=by
 have e1:(op==KY.In)=false:=by cases op<;>first|rfl|exact absurd rfl h
 have e2:(op==KY.NotIn)=false:=by cases op<;>first|rfl|exact absurd rfl h2
 cases b<;>simp[HF,e1,e2]
noncomputable def tB(t:TE):TT:=fun σ H Q=>t σ H fun x H1=>∃c,x = .bl c/\Q c H1
theorem xm{t:TE}(h:PC X op a b t)(h1:HF op b=false:=by first|exact pL _ (by decide) (by decide)|rfl):PT X (.Compare a [op] [b] pos) (tB t):=by
 intro pins s σ H Q I hw
 refine Ku (C7 (h pins s σ H _ I hw) fun v s1 h1=>C7 h1 fun u s2 h2=>C7 h2 fun c s3 ⟨x,H1,I1,r1,q1⟩=>?_) h1
 obtain⟨d,rfl,q⟩:=q1
 cases r1
 exact Hh ⟨H1,I1,q⟩
theorem xg{e:Expr}{t:TE}(h:PE X e t)(he:∀whole,isTrue e X.env whole=(do let v <- whole;Ls e.pos;holding [v] (truthy v)):=by intro _;rfl):PT X e (tB t):=by
 intro pins s σ H Q I hw
 refine isTrue_plain (C7 (h pins s σ H _ I hw) fun v s1 ⟨x,H1,I1,r1,q1⟩=>?_) (he _)
 obtain⟨d,rfl,q⟩:=q1
 cases r1
 exact Hh ⟨H1,I1,q⟩
variable{tA tB':TT}{rest:List Expr}
noncomputable def BY(t u:TT):TT:=fun σ H Q=>t σ H fun c H1=>if c=true then u σ H1 Q else Q false H1
noncomputable def Db(t u:TT):TT:=fun σ H Q=>t σ H fun c H1=>if c=true then Q true H1 else u σ H1 Q
noncomputable def BQ(t:TT):TT:=fun σ H Q=>t σ H fun c H1=>Q (!c) H1
theorem tO(ha:PT X a tA):PW X (.BoolOp .And [a] pos) tA:=by
 intro wh pins s σ H Q I h
 refine isTrue_and (C7 (ha pins s σ H Q I h) fun c s1 e=>?_)
 cases c with
 | true=>exact isTrue_and_nil e
 | false=>exact e
theorem xa(ha:PT X a tA):PW X (.BoolOp .Or [a] pos) tA:=by
 intro wh pins s σ H Q I h
 refine isTrue_or (C7 (ha pins s σ H Q I h) fun c s1 e=>?_)
 cases c with
 | false=>exact isTrue_or_nil e
 | true=>exact e
theorem xb(ha:PT X a tA)(hb:PW X (.BoolOp .And (b::rest) pos) tB'):PW X (.BoolOp .And (a::b::rest) pos) (BY tA tB'):=by
 intro wh pins s σ H Q I h
 refine isTrue_and (C7 (ha pins s σ H _ I h) fun c s1 ⟨H1,I1,q1⟩=>?_)
 cases c with
 | true=>exact hb wh pins s1 σ H1 Q I1 q1
 | false=>exact⟨H1,I1,q1⟩
theorem zA(ha:PT X a tA)(hb:PW X (.BoolOp .Or (b::rest) pos) tB'):PW X (.BoolOp .Or (a::b::rest) pos) (Db tA tB'):=by
 intro wh pins s σ H Q I h
 refine isTrue_or (C7 (ha pins s σ H _ I h) fun c s1 ⟨H1,I1,q1⟩=>?_)
 cases c with
 | true=>exact⟨H1,I1,q1⟩
 | false=>exact hb wh pins s1 σ H1 Q I1 q1
theorem xj(ha:PT X a tA):PT X (.UnaryOp .Not a pos) (BQ tA):=by
 intro pins s σ H Q I h
 exact isTrue_not (ha pins s σ H (fun c H1=>Q (!c) H1) I h)
noncomputable def zr(ta tb:TE):TE:=fun σ H Q=>ta σ H fun x H1=>∃c,x = .bl c/\if c=true then tb σ H1 Q else Q (.bl false) H1
noncomputable def ze(ta:TE):TE:=fun σ H Q=>ta σ H fun x H1=>∃c,x = .bl c/\Q (.bl (!c)) H1
theorem xx{op}{t:TE}(h:PE X a t):PE X (.BoolOp op [a] pos) t:=fun pins s σ H Q I hw=>BoolOp_one (h pins s σ H Q I hw)
theorem xC(ha:PE X a ta)(hb:PE X (.BoolOp .And (b::rest) pos) tb):PE X (.BoolOp .And (a::b::rest) pos) (zr ta tb):=by
 intro pins s σ H Q I h
 refine BoolOp_and (C7 (ha pins s σ H _ I h) fun v s1 ⟨x,H1,I1,r1,q1⟩=>?_)
 obtain⟨c,rfl,q1⟩:=q1
 cases r1
 refine Hh ?_
 cases c with
 | true=>exact hb pins s1 σ H1 Q I1 q1
 | false=>exact⟨.bl false,H1,I1,rfl,q1⟩
theorem xy(ha:PE X a ta):PE X (.UnaryOp .Not a pos) (ze ta):=by
 intro pins s σ H Q I h
 refine UnaryOp_ (C7 (ha pins s σ H _ I h) fun v s1 ⟨x,H1,I1,r1,q1⟩=>?_)
 obtain⟨c,rfl,q1⟩:=q1
 cases r1
 exact not_of (Hh ⟨.bl (!c),H1,I1,rfl,q1⟩)
noncomputable def De(t:TT)(ta tb:TE):TE:=fun σ H Q=>t σ H fun c H1=>if c=true then ta σ H1 Q else tb σ H1 Q
theorem pC{c:Expr}(hc:PT X c tA)(ha:PE X a ta)(hb:PE X b tb):PE X (.IfExp c a b pos) (De tA ta tb):=by
 intro pins s σ H Q I h
 refine wpAny_IfExp (C7 (hc pins s σ H _ I h) fun d s1 ⟨H1,I1,q1⟩=>?_)
 cases d with
 | true=>exact ha pins s1 σ H1 Q I1 q1
 | false=>exact hb pins s1 σ H1 Q I1 q1
end
noncomputable def Eo(K:W.Frag)(H:Hp)(a:Addr)(xs:List V):Prop :=
 Rd H a (.lst xs) \/
  ∃(o:Obj)(its:Array Fm)(n:Nat),K.lookup a=some o/\o.cls = .type "list" /\ o.dict=none/\o.data = .seq its n/\its.size<=sizeLine/\cw xs its.toList
noncomputable def Em(K:W.Frag)(H:Hp)(a:Addr)(xs:List V):Prop :=
 Rd H a (.tup xs) \/
  ∃(o:Obj)(its:Array Fm)(n:Nat),K.lookup a=some o/\o.cls = .type "tuple" /\ o.data = .seq its n/\its.size<=sizeLine/\cw xs its.toList/\o.dict=none
noncomputable def Ce:Fm->Option V
 | .none=>some .non
 | .bool b=>some (.bl b)
 | .int i _=>some (.int i)
 | .str x _=>some (.str x)
 | .bytes b _=>some (.byt b)
 | .float b _=>some (.flt b)
 | .ref a=>some (.ref a)
 | .type n=>some (.ty n)
 | _=>none
theorem RelV.abs{x:V}(r:RelV x u):Ce u=some x:=by
 cases x with
 | non=>cases r;rfl
 | bl _=>cases r;rfl
 | int _=>obtain⟨t,rfl⟩:=r;rfl
 | str _=>obtain⟨t,rfl⟩:=r;rfl
 | byt _=>obtain⟨t,rfl⟩:=r;rfl
 | flt _=>obtain⟨t,rfl⟩:=r;rfl
 | ref _=>cases r;rfl
 | ty _=>cases r;rfl
theorem RelV.inj{x y:V}(r:RelV x u)(q:RelV y u):x=y:=Gv (r.abs.symm.trans q.abs)
theorem cw.inj:∀{xs ys:List V}{us:List Fm},cw xs us->cw ys us->xs=ys
 | _,_,_,.nil,.nil=>rfl
 | _,_,_,.cons r t,.cons r' t'=>by rw[r.inj r',cw.inj t t']
section
variable{X:Cx}{pins:List (Addr×Obj)}{σ:St}{H:Hp}{s:Ft}{a:Addr}{xs ys:List V}
theorem Inv.list(I:Inv X pins σ H s)(h:Eo X.K H a xs):∃its:List Fm,cw xs its/\PlainL s.heap a its.toArray/\xs.length<=sizeLine:=by
 rcases h with h|⟨o,its,n,hk,hc,hd,hs,hz,r⟩
 · obtain⟨z,its,n,r,e⟩:=h.ok I.hok
   exact⟨its,r,⟨_,n,e,rfl,rfl,rfl⟩,z⟩
 · refine⟨its.toList,r,⟨o,n,I.kIn a o hk,hc,hd,by simpa using hs⟩,?_⟩
   have e:=r.length
   simp only[IL]at e
   omega
theorem Inv.tuple(I:Inv X pins σ H s)(h:Em X.K H a xs):∃its:List Fm,cw xs its/\Lg s.heap a its.toArray/\xs.length<=sizeLine:=by
 rcases h with h|⟨o,its,n,hk,hc,hs,hz,r,hd⟩
 · obtain⟨z,its,r,p⟩:=h.ok I.hok
   exact⟨its,r,p.tup,z⟩
 · refine⟨its.toList,r,⟨o,I.kIn a o hk,hc,n,by simpa using hs⟩,?_⟩
   have e:=r.length
   simp only[IL]at e
   omega
theorem Inv.list_inj(I:Inv X pins σ H s)(h:Eo X.K H a xs)(h':Eo X.K H a ys):xs=ys:=by
 obtain⟨its,r,⟨o,n,e,_,_,d⟩,_⟩:=I.list h
 obtain⟨its',r',⟨o',n',e',_,_,d'⟩,_⟩:=I.list h'
 rw[e]at e';cases e'
 rw[d]at d'
 injection d' with d1 _
 have:its=its':=by simpa using congrArg Array.toList d1
 subst this
 exact r.inj r'
theorem Inv.tupleD(I:Inv X pins σ H s)(h:Em X.K H a xs):∃ob,s.heap.get? a=some ob/\ob.cls = .type "tuple" /\ ob.dict=none:=by
 rcases h with h|⟨o,its,n,hk,hc,hs,hz,r,hd⟩
 · obtain⟨z,its,r,⟨o,e1,e2,_,e3⟩⟩:=h.ok I.hok
   exact⟨o,e1,e2,e3⟩
 · exact⟨o,I.kIn a o hk,hc,hd⟩
theorem Inv.tuple_inj(I:Inv X pins σ H s)(h:Em X.K H a xs)(h':Em X.K H a ys):xs=ys:=by
 obtain⟨its,r,⟨o,e,_,n,d⟩,_⟩:=I.tuple h
 obtain⟨its',r',⟨o',e',_,n',d'⟩,_⟩:=I.tuple h'
 rw[e]at e';cases e'
 rw[d]at d'
 injection d' with d1 _
 have:its=its':=by simpa using congrArg Array.toList d1
 subst this
 exact r.inj r'
end
abbrev Cx.wish(X:Cx)(E:Fm->Ft->Prop):Cx:={X with xe:=E}
abbrev Cx.nox(X:Cx):Cx:=X.wish fun _ _=>False
theorem Cx.Ok.wish{X:Cx}(ok:X.Ok)(E:Fm->Ft->Prop):(X.wish E).Ok :=
 ⟨ok.mod,ok.kind,ok.glob,ok.blt,ok.above,ok.inj,ok.has,ok.cab,ok.hd,ok.frames,ok.stk,ok.exf,ok.bs,ok.bsz,ok.noex,ok.exfs,ok.funs,ok.frf⟩
theorem Cx.Ok.unwish{X:Cx}(ok:(X.wish E).Ok):X.Ok :=
 ⟨ok.mod,ok.kind,ok.glob,ok.blt,ok.above,ok.inj,ok.has,ok.cab,ok.hd,ok.frames,ok.stk,ok.exf,ok.bs,ok.bsz,ok.noex,ok.exfs,ok.funs,ok.frf⟩
section
variable{X:Cx}{pins:List (Addr×Obj)}{σ:St}{H:Hp}{s:Ft}{E:Fm->Ft->Prop}
theorem Inv.wish(I:Inv X pins σ H s)(E:Fm->Ft->Prop):Inv (X.wish E) pins σ H s:=⟨I.ok.wish E,I.os,I.bare,I.base,I.loc,I.cell,I.free,I.freeC,I.pin,I.hok,I.len⟩
theorem Inv.unwish(I:Inv (X.wish E) pins σ H s):Inv X pins σ H s:=⟨I.ok.unwish,I.os,I.bare,I.base,I.loc,I.cell,I.free,I.freeC,I.pin,I.hok,I.len⟩
theorem SP.unwish{D:Ends}{f:Flow}{s':Ft}(h:SP (X.wish E) pins D f s'):SP X pins D f s':=by
 cases f with
 | next=>obtain⟨σ',H',I,q⟩:=h;exact⟨σ',H',I.unwish,q⟩
 | brk=>obtain⟨σ',H',I,q⟩:=h;exact⟨σ',H',I.unwish,q⟩
 | cont=>obtain⟨σ',H',I,q⟩:=h;exact⟨σ',H',I.unwish,q⟩
 | ret u=>obtain⟨v,σ',H',I,r,q⟩:=h;exact⟨v,σ',H',I.unwish,r,q⟩
theorem Ey.nox{st:List Stmt}{t:TS}(h:Ey X.nox st t):Ey X st t:=fun pins s σ H D I hw =>
 Gk (h pins s σ H D (I.wish _) hw) (fun _ _ q=>q.unwish) fun _ _ z=>GC z
end
section
variable{X:Cx}{st:Stmt}{rest:List Stmt}{t u:TS}{e:Expr}{te:TE}{pos:Pos}
noncomputable def zh:TS:=fun D σ H=>D.nx σ H
noncomputable def BN(t u:TS):TS:=fun D σ H=>t {D with nx:=u D} σ H
theorem tS:Ey X [] zh:=fun _ _ σ H _ I h=>JF ⟨σ,H,I,h⟩
theorem cJ(h1:PS X st t)(h2:Ey X rest u):Ey X (st::rest) (BN t u):=by
 intro pins s σ H D I h
 refine wpAny_execs_cons (C7 (h1 pins s σ H {D with nx:=u D} I h) fun f s1 q=>?_)
 cases f with
 | next =>
   obtain⟨σ',H',I',q⟩:=q
   exact h2 pins s1 σ' H' D I' q
 | ret v=>exact q
 | brk=>exact q
 | cont=>exact q
theorem jn(h1:PS X st t):Ey X [st] t:=by
 intro pins s σ H D I h
 refine wpAny_execs_cons (C7 (h1 pins s σ H D I h) fun f s1 q=>?_)
 cases f with
 | next=>exact JF q
 | ret v=>exact q
 | brk=>exact q
 | cont=>exact q
theorem Inv.quiet{σ:St}{H:Hp}(I:Inv X pins σ H s):interactive X.env=false:=by simp[interactive,I.ok.kind]
noncomputable def zj(te:TE):TS:=fun D σ H=>te σ H fun _ H1=>D.nx σ H1
theorem mW(he:PE X e te)(hs:HL e none pos.line X.env=pure false:=by rfl):PS X (.Expr e pos) (zj te):=by
 intro pins s σ H D I h
 exact wpAny_Expr_any (C7 (he pins s σ H _ I h) fun v s1 ⟨x,H1,I1,r1,q1⟩=>⟨σ,H1,I1,q1⟩) I.quiet hs
noncomputable def BO(te:TE):TS:=fun D σ H=>te σ H D.rt
theorem mV(he:PE X e te):PS X (.Return (some e) pos) (BO te):=by
 intro pins s σ H D I h
 exact wpAny_Return_some (C7 (he pins s σ H _ I h) fun v s1 ⟨x,H1,I1,r1,q1⟩=>⟨x,σ,H1,I1,r1,q1⟩)
noncomputable def BU(c:TT)(t u:TS):TS:=fun D σ H=>c σ H fun b H1=>if b=true then t D σ H1 else u D σ H1
theorem zD{c:Expr}{a b:List Stmt}{tc:TT}(hc:PT X c tc)(ha:Ey X a t)(hb:Ey X b u):PS X (.If c a b pos) (BU tc t u):=by
 intro pins s σ H D I h
 refine wpAny_If (C7 (hc pins s σ H _ I h) fun d s1 ⟨H1,I1,q1⟩=>?_)
 cases d with
 | true=>exact ha pins s1 σ H1 D I1 q1
 | false=>exact hb pins s1 σ H1 D I1 q1
noncomputable def wA:TS:=fun _ _ _=>False
theorem pj:PS X st wA:=fun _ _ _ _ _ _ h=>h.elim
end
abbrev TG:=V->St->Hp->(St->Hp->Prop)->Prop
abbrev El:=List V->St->Hp->(St->Hp->Prop)->Prop
noncomputable def PG(X:Cx)(target:Expr)(t:TG):Prop :=
 ∀ (pins:List (Addr×Obj))(s:Ft)(σ:St)(H:Hp)(v:V)(u:Fm)(Q:St->Hp->Prop),Inv X pins σ H s->RelV v u->t v σ H Q ->
   FN (Gb X.prog X.w) X.A (Jg target X.env u) (fun _ s'=>∃σ' H',Inv X pins σ' H' s'/\Q σ' H') X.xe s
noncomputable def EE(X:Cx)(ts:List Expr)(t:El):Prop :=
 ∀ (pins:List (Addr×Obj))(s:Ft)(σ:St)(H:Hp)(vs:List V)(us:List Fm)(Q:St->Hp->Prop),Inv X pins σ H s->cw vs us->t vs σ H Q ->
   FN (Gb X.prog X.w) X.A (Li ((G8 ts X.env).map (·.2)) us) (fun _ s'=>∃σ' H',Inv X pins σ' H' s'/\Q σ' H') X.xe s
abbrev Ej:=V->V->Hp->VK->Prop
noncomputable def EB(X:Cx)(op:Lj)(t:Ej):Prop :=
 ∀ (pins:List (Addr×Obj))(s:Ft)(σ:St)(H:Hp)(x y:V)(v u:Fm)(Q:VK),Inv X pins σ H s->RelV x v->RelV y u->t x y H Q ->
   FN (Gb X.prog X.w) X.A (LL op v u) (EP X pins σ Q) X.xe s
section
variable{X:Cx}{pos:Pos}
noncomputable def qr(i:Nat):TG:=fun v σ H Q=>Q (σ.set i (some v)) H
theorem jq{x:Str}(hN:X.N.Nodup)(hi:X.N[i]?=some x)(hx:Loc X.env.scope x)(hf:X.fn x=true\/X.env.scope.names.lookup x=some .local:=by first|exact .inl rfl|exact .inr rfl|assumption):PG X (.Name x pos) (qr i):=by
 intro pins s σ H v u Q I r h
 exact wpAny_assign_Name (dO I hN hi hx r (fun s' I'=>⟨_,H,I',h⟩) hf)
noncomputable def B9:El:=fun vs σ H Q=>vs=[]/\Q σ H
noncomputable def z9(t:TG)(u:El):El:=fun vs σ H Q=>∃v r,vs=v::r/\t v σ H fun σ' H'=>u r σ' H' Q
theorem na:EE X [] B9:=by
 intro pins s σ H vs us Q I r h
 obtain⟨e,h⟩:=h
 subst e
 cases r
 exact assignInOrder_nil ⟨σ,H,I,h⟩
theorem gX{e:Expr}{es:List Expr}{t:TG}{u:El}(h1:PG X e t)(h2:EE X es u)
 (hs:(G8 (e::es) X.env).map (·.2)=Jg e X.env::(G8 es X.env).map (·.2):=by rfl):EE X (e::es) (z9 t u):=by
 intro pins s σ H vs us Q I r h
 obtain⟨v,vr,e1,h⟩:=h
 subst e1
 cases r with
 | cons r rr =>
   rw[hs]
   refine JR (C7 (h1 pins s σ H _ _ _ I r h) fun _ s1 ⟨σ1,H1,I1,q1⟩=>?_)
   exact h2 pins s1 σ1 H1 _ _ Q I1 rr q1
noncomputable def B8(K:W.Frag)(n:Nat)(t:El):TG:=fun v σ H Q=>∃a xs,v = .ref a/\Em K H a xs/\xs.length=n/\t xs σ H Q
theorem rE{es:List Expr}{k:Nat}{t:El}(hc:X.calm=true)(h:EE X es t)
 (hn:(G8 es X.env).length=n:=by rfl)(hst:(G8 es X.env).findIdx? (·.1)=none:=by rfl):PG X (.Tuple es k pos) (B8 X.K n t):=by
 intro pins s σ H v u Q I r hw
 obtain⟨a,xs,e1,hq,hl,hw⟩:=hw
 subst e1
 cases r
 obtain⟨its,rv,ht,hz⟩:=I.tuple hq
 refine assign_Tuple_tuple (I.ok.hd hc) ht (by simp[hn,<- hl,rv.length]) hst fun h' hx=>?_
 have I1:Inv X pins σ H {s with heap:=h' }:=I.kept (t':=s.toks) fun b o e=>hx b o (Gj (Fz e)) e
 exact h pins _ σ H xs _ Q I1 (by simpa using rv) hw
noncomputable def zq(te:TE)(g:TG):TS:=fun D σ H=>te σ H fun x H1=>g x σ H1 D.nx
theorem mX{e:Expr}{te:TE}{g:TG}(he:PE X e te)(hg:PG X tg g)(hs:IS [tg] e pos.line X.env=pure false:=by rfl)(hw:IT [tg] e X.env=pure none:=by rfl)
 (h1:(G8 [tg] X.env).map (·.2)=[Jg tg X.env]:=by rfl):PS X (.Assign [tg] e pos) (zq te g):=by
 intro pins s σ H D I h
 refine wpAny_Assign_stores (C7 (he pins s σ H _ I h) fun v s1 ⟨x,H1,I1,r1,q1⟩=>?_) hs hw
 rw[h1]
 exact C7 (hg pins s1 σ H1 x v _ I1 r1 q1) fun _ s2 q=>q
theorem iC{x:Str}{e:Expr}{te:TE}(hN:X.N.Nodup)(hi:X.N[i]?=some x)(hx:Loc X.env.scope x)(he:PE X e te)(hs:HL e (some (.Name x pos')) pos.line X.env=pure false:=by rfl)(hf:X.fn x=true\/X.env.scope.names.lookup x=some .local:=by first|exact .inl rfl|exact .inr rfl|assumption) :
 PS X (.Assign [.Name x pos'] e pos) (zq te (qr i)):=by
 intro pins s σ H D I h
 refine wpAny_Assign_Name (C7 (he pins s σ H _ I h) fun v s1 ⟨y,H1,I1,r1,q1⟩=>?_) hs
 exact dO I1 hN hi hx r1 (fun s2 I2=>⟨_,H1,I2,q1⟩) hf
noncomputable def BP(i j:Nat)(ta:TA):TS:=fun D σ H=>ta σ H fun vs H1=>∃v w,vs=[v,w]/\D.nx ((σ.set i (some v)).set j (some w)) H1
theorem xn{x y:Str}{a b:Expr}{ta:TA}{py pt:Pos}{kt k2 pt2}(hc:X.calm=true)(hN:X.N.Nodup)(hi:X.N[i]?=some x)(hj:X.N[j]?=some y)(hij:i≠j)
 (hx:X.env.scope.names.lookup x=some .local)(hy:X.env.scope.names.lookup y=some .local)(ha:PA X [a,b] ta)
 (hw:IT [.Tuple [.Name x px,.Name y py] kt pt] (.Tuple [a,b] k2 pt2) X.env=pure (some [x,y]))
 (hs:IS [.Tuple [.Name x px,.Name y py] kt pt] (.Tuple [a,b] k2 pt2) pos.line X.env=pure false:=by rfl) :
 PS X (.Assign [.Tuple [.Name x px,.Name y py] kt pt] (.Tuple [a,b] k2 pt2) pos) (BP i j ta):=by
 intro pins s σ H D I h
 rw[exec_Assign_arm]
 refine Fb (HG ?_)
 rw[hs]
 refine Fb (Fj ?_)
 rw[if_neg (by decide)]
 refine Fb (Tuple_ (C7 (ha _ pins s σ H _ I h) fun us s1 ⟨vs,H1,I1,r1,q1⟩=>?_))
 obtain⟨v,w,e1,q1⟩:=q1
 subst e1
 obtain⟨u1,u2,rfl,rv,rw'⟩:∃u1 u2,us=[u1,u2]/\RelV v u1/\RelV w u2:=by
  cases r1 with
  | cons p q =>
    cases q with
    | cons p' q' =>
      cases q'
      exact⟨_,_,rfl,p,p'⟩
 refine Go ?_ (by show 2<=sizeLine;decide)
 have I2:Inv X pins σ H1 {s1 with heap:=s1.heap.push {cls:=.type "tuple", data:=.seq [u1,u2].toArray}}:=I1.kept (t':=s1.toks) fun b o e=>Fh _ e
 rw[hw]
 refine Fb (Fj ?_)
 show FN (Gb X.prog X.w) X.A (do rule "assign.swapped-stores"; let items <- unpackItems (.ref s1.heap.objs.size) 2 none;Li [fun v=>bindName X.env y v,fun v=>bindName X.env x v] items.reverse;pure Flow.next) _ _ _
 refine Fb (Ia (Fb (unpackItems_tuple (items:=#[u1,u2]) (I.ok.hd hc) (Lg.new s1.heap _) fun h' hx'=>?_)))
 have I3:=I2.kept (h':=h') (t':=s1.toks) fun b o e=>hx' b o (Gj (Fz e)) e
 show FN _ _ (Li [fun v=>bindName X.env y v,fun v=>bindName X.env x v] [u2,u1] >>= fun _=>pure Flow.next) _ _ _
 refine Fb (JR (wpAny_bindName (dO I3 hN hj (.inl hy) rw' (fun s2 I4=>?_) (.inr hy))))
 refine JR (wpAny_bindName (dO I4 hN hi (.inl hx) rv (fun s3 I5=>assignInOrder_nil (Fj ?_)) (.inr hx)))
 rw[List.set_comm _ _ (Kf hij)]at I5
 exact⟨_,H1,I5,q1⟩
noncomputable def BX(i:Nat)(te:TE)(ti:Ej):TS:=fun D σ H=>∃x,σ[i]?=some (some x)/\te σ H fun y H1=>ti x y H1 fun z H2=>D.nx (σ.set i (some z)) H2
theorem rC{x:Str}{e:Expr}{te:TE}{op:Lj}{ti:Ej}(hN:X.N.Nodup)(hi:X.N[i]?=some x)(hx:Loc X.env.scope x)(he:PE X e te)(ho:EB X op ti)(hf:X.fn x=true\/X.env.scope.names.lookup x=some .local:=by first|exact .inl rfl|exact .inr rfl|assumption) :
 PS X (.AugAssign (.Name x pos') op e pos) (BX i te ti):=by
 intro pins s σ H D I h
 obtain⟨v,e1,h⟩:=h
 obtain⟨m,hn,hl⟩:=I.loc
 have vis:Eb X.env.scope x:=by rcases hx with k|k;exact .inl k;exact .inr (.inl k)
 obtain⟨u,r,l⟩:=hl i x v hi e1 vis
 refine wpAny_AugAssign_Name ?_
 have go:FN (Gb X.prog X.w) X.A (eval e X.env) (fun w s₂=>FN (Gb X.prog X.w) X.A (LL op u w) (fun r s₃=>FN (Gb X.prog X.w) X.A (storeName X.env x r) (fun _=>SP X pins D .next) X.xe s₃) X.xe s₂) X.xe s:=by
  refine C7 (he pins s σ H _ I h) fun w s1 ⟨y,H1,I1,r1,q1⟩=>?_
  refine C7 (ho pins s1 σ H1 v y u w _ I1 r r1 q1) fun z s2 ⟨zv,H2,I2,r2,q2⟩=>?_
  exact dO I2 hN hi hx r2 (fun s3 I3=>⟨_,H2,I3,q2⟩) hf
 rcases l with⟨hk,hm⟩|⟨hk,c,hc,hcell⟩
 · exact KL I.ok.kind hk hn hm go
 · rcases hk with hk|hk
   · exact KW I.ok.kind hk hc hcell go
   · rcases hx with k|k
     · have:X.env.scope.names.lookup x=some .free:=hk
       rw[k]at this;cases this
     · have:X.env.scope.names.lookup x=some .free:=hk
       rw[k]at this;cases this
end
section
variable{X:Cx}{pos:Pos}
noncomputable def ww(c:TT)(tb:TS):TS:=fun D σ H=>∃W:Nat->St->Hp->Prop,(∃m,W m σ H)/\∀m σ H,W m σ H ->
 c σ H fun b H1=>if b=true then ∃N:St->Hp->Prop,(∀σ' H',N σ' H'->∃m',m'<m/\W m' σ' H')/\tb {D with nx:=N,ct:=N,bk:=D.nx} σ H1 else D.nx σ H1
theorem pi{c:Expr}{body:List Stmt}{tc:TT}{tb:TS}(hp:LM (Gb X.prog X.w) X.A X.env X.xe)(hc:PT X c tc)(hb:Ey X body tb):PS X (.While c body [] pos) (ww tc tb):=by
 intro pins s σ H D I h
 obtain⟨W,⟨m0,w0⟩,turn⟩:=h
 refine wpAny_While (codeAny_whileLoop (fun n s'=>∃σ' H',Inv X pins σ' H' s'/\W n σ' H') ?_ m0 ⟨σ,H,I,w0⟩)
 rintro n s1 ⟨σ1,H1,I1,w1⟩
 refine Ib hp (C7 (hc pins s1 σ1 H1 _ I1 (turn n σ1 H1 w1)) fun b s2 ⟨H2,I2,q2⟩=>?_)
 cases b with
 | true =>
   obtain⟨N,hN,q2⟩:=q2
   rw[if_pos rfl]
   refine Ib hp (C7 (hb pins s2 σ1 H2 _ I2 q2) fun f s3 q3=>?_)
   cases f with
   | next =>
     obtain⟨σ3,H3,I3,n3⟩:=q3
     obtain⟨m',hm,w3⟩:=hN σ3 H3 n3
     exact⟨m',hm,σ3,H3,I3,w3⟩
   | cont =>
     obtain⟨σ3,H3,I3,n3⟩:=q3
     obtain⟨m',hm,w3⟩:=hN σ3 H3 n3
     exact⟨m',hm,σ3,H3,I3,w3⟩
   | brk=>exact q3
   | ret v=>exact q3
 | false =>
   rw[if_neg Gi]
   exact JF ⟨σ1,H2,I2,q2⟩
end
structure It where
 go:Nat->Hp->Prop
 yld:Nat->Hp->V->Hp->Prop
 stop:Nat->Hp->Prop
noncomputable def iU(X:Cx)(pins:List (Addr×Obj))(H:Hp)(b:Addr):Prop :=
 H b=none/\b≠X.env.locals/\b∉X.fs/\(b∈X.ex\/X.s₀.heap.objs.size<=b)/\(∀x c,X.env.cells.lookup x=some c->c≠b)/\∀p∈X.pn++pins,p.1≠b
theorem Inv.fpOk{X:Cx}{σ:St}{H H':Hp}(I:Inv X pins σ H s)(hb:s.heap.objs.size<=b)(hn:H' b=none):iU X pins H' b:=by
 refine⟨hn,Hv (FU I.lt hb),I.nofs hb,.inr (Gq I.sz hb),fun x c e z=>?_,fun p hp z=>?_⟩
 · obtain⟨v,q⟩:=I.cell x c e
   exact absurd (FU q.lt (by rw[z];exact hb)) (G0 _)
 · exact absurd (FU (Fz (I.pin p hp).1) (by rw[z];exact hb)) (G0 _)
structure Turn (P:F0) (w:GD) (K:W.Frag) (tg:Expr) (J:It) (fp:List Addr) (it:Addr) (tn:Nat->Heap->Prop):Prop where
 mem:it∈fp
 obj:∀i h,tn i h->∀b∈fp,∃o,h.get? b=some o/\∀v,o.data ≠ .cell v
 keep:∀i h h',tn i h->(∀b∈fp,∀o,h.get? b=some o->h'.get? b=some o)->tn i h'
 item:∀(X:Cx),X.prog=P->X.w=w->X.K=K->X.calm=true->∀(i:Nat)(pins:List (Addr×Obj))(s:Ft)(σ:St)(H:Hp)(E:Fm->Ft->Prop),Inv X pins σ H s->(∀b∈fp,iU X pins H b)->tn i s.heap->J.go i H ->
  FN (Gb P w) X.A (J8 (.ref it)) (fun r s1=>∃u,r=some u /\
   FN (Gb P w) X.A (Hw tg (.ref it) u) (fun _ s2=>∃x H',Inv X pins σ H' s2/\RelV x u/\J.yld i H x H'/\tn (i+1) s2.heap/\∀b∈fp,H' b=none) E s1) E s
 done:∀(X:Cx),X.prog=P->X.w=w->X.K=K->X.calm=true->∀(i:Nat)(pins:List (Addr×Obj))(s:Ft)(σ:St)(H:Hp)(E:Fm->Ft->Prop),Inv X pins σ H s->(∀b∈fp,iU X pins H b)->tn i s.heap->J.stop i H ->
  FN (Gb P w) X.A (J8 (.ref it)) (fun r s1=>r=none/\Inv X pins σ H s1) E s
 self:∀(A:GN)(i:Nat)(s:Ft)(Q:Fm->Ft->Prop)(E:Fm->Ft->Prop),tn i s.heap->Q (.ref it) s->FN (Gb P w) A (LN (.ref it)) Q E s
abbrev TI:=St->Hp->(It->Hp->Prop)->Prop
noncomputable def ED(X:Cx)(pins:List (Addr×Obj))(σ:St)(tg:Expr)(R:It->Hp->Prop)(itv:Fm)(s2:Ft):Prop :=
 ∃(it:Addr)(fp:List Addr)(tn:Nat->Heap->Prop)(J:It)(H':Hp),itv = .ref it/\Inv X pins σ H' s2/\Turn X.prog X.w X.K tg J fp it tn/\tn 0 s2.heap/\(∀b∈fp,iU X pins H' b)/\R J H'
noncomputable def PI(X:Cx)(tg iter:Expr)(wi:TI):Prop :=
 ∀ (pins:List (Addr×Obj))(s:Ft)(σ:St)(H:Hp)(R:It->Hp->Prop),Inv X pins σ H s->wi σ H R ->
   FN (Gb X.prog X.w) X.A (eval iter X.env) (fun v s1=>FN (Gb X.prog X.w) X.A (LN v) (ED X pins σ tg R) X.xe s1) X.xe s
theorem nP{M:Model}{o:Obj}{n:String}{vs:Array Fm}{Q:Unit->Ft->Prop}(ho:s.heap.get? it=some o)(hc:o.cls = .type n)(hd:o.data = .fields vs)
 (hn:["enumerate", "zip", "dict_itemiterator", "dict_reverseitemiterator", "odict_iterator", "itertools.zip_longest", "itertools.pairwise"].contains n=false)(hQ:Q () s):FN M A (Hw tg (.ref it) u) Q E s:=by
 unfold Hw
 cases tg<;>first
  | exact Fj hQ
  | (cases u<;>first
      | exact Fj hQ
      | (refine Fb (wpAny_load ho ?_)
         rw[hc,hd]
         show FN M A (if(["enumerate", "zip", "dict_itemiterator", "dict_reverseitemiterator", "odict_iterator", "itertools.zip_longest", "itertools.pairwise"].contains n&&vs[0]?==some (Kj _))=true then _ else _) Q E s
         rw[if_neg (by intro h;rw[hn,Bool.false_and]at h;cases h)]
         exact Fj hQ))
noncomputable def EV(K:W.Frag)(a:Addr):It :=
 ⟨fun i H=>∃xs x,Eo K H a xs/\xs[i]?=some x,fun i H x H'=>H'=H/\∀xs,Eo K H a xs->xs[i]?=some x,fun i H=>∃xs,Eo K H a xs/\xs.length<=i⟩
noncomputable def ET(K:W.Frag)(a:Addr):It :=
 ⟨fun i H=>∃xs x,Em K H a xs/\xs[i]?=some x,fun i H x H'=>H'=H/\∀xs,Em K H a xs->xs[i]?=some x,fun i H=>∃xs,Em K H a xs/\xs.length<=i⟩
noncomputable def EU(lo:Int)(n:Nat):It:=⟨fun i _=>i<n,fun i H x H'=>H'=H/\x = .int (lo+i),fun i _=>n<=i⟩
theorem mj{K:W.Frag}(a it:Addr):Turn P w K tg (EV K a) [it] it (fun i h=>h.IsListIter it a i) where
 mem:=by simp
 obj:=fun i h st b hb=>by
  have e:b=it:=by simpa using hb
  subst e
  obtain⟨o,e,c,d⟩:=st
  exact⟨o,e,fun v z=>by rw[d]at z;cases z⟩
 keep:=fun i h h' st k=>st.at fun o e=>k it (by simp) o e
 item:=by
  intro X hP hw hK hc i pins s σ H E I hf st hg
  subst hP hw hK
  obtain⟨xs,x,hq,hx⟩:=hg
  obtain⟨its,rv,p,hz⟩:=I.list hq
  obtain⟨u,hu,ru⟩:=rv.get hx
  obtain⟨f0,f1,f2,f3,f4,f5⟩:=hf it (by simp)
  refine wpAny_pyNext_list_item st p.isList (x:=u) (by simpa using hu) fun h' st' sb=>?_
  have I1:Inv X pins σ H {s with heap:=h' }:=I.turned (t':=s.toks) (fun b o hb e=>(sb.2 b hb).trans e) f0 f1 f3 f4 f5
  obtain⟨o,e,c,d⟩:=id st'
  exact⟨u,rfl,nP (s:={s with heap:=h' }) e c d (by decide) ⟨x,H,I1,ru,⟨rfl,fun ys hy=>by rw[I.list_inj hy hq];exact hx⟩,st',fun b hb=>(hf b hb).1⟩⟩
 done:=by
  intro X hP hw hK hc i pins s σ H E I hf st hg
  subst hP hw hK
  obtain⟨xs,hq,hx⟩:=hg
  obtain⟨its,rv,p,hz⟩:=I.list hq
  obtain⟨f0,f1,f2,f3,f4,f5⟩:=hf it (by simp)
  have hl:=rv.length
  exact wpAny_pyNext_list_end (I.ok.hd hc) st p.isList (by simp;omega) fun h' eb=>⟨rfl,I.turned (t':=s.toks) (fun b o hb e=>eb b o hb e) f0 f1 f3 f4 f5⟩
 self:=fun _ _ _ _ _ st h=>wpAny_pyIter_listiter st h
theorem kY{K:W.Frag}(a it:Addr):Turn P w K tg (ET K a) [it] it (fun i h=>h.IsTupleIter it a i) where
 mem:=by simp
 obj:=fun i h st b hb=>by
  have e:b=it:=by simpa using hb
  subst e
  obtain⟨o,e,c,d⟩:=st
  exact⟨o,e,fun v z=>by rw[d]at z;cases z⟩
 keep:=fun i h h' st k=>st.at fun o e=>k it (by simp) o e
 item:=by
  intro X hP hw hK hc i pins s σ H E I hf st hg
  subst hP hw hK
  obtain⟨xs,x,hq,hx⟩:=hg
  obtain⟨its,rv,p,hz⟩:=I.tuple hq
  obtain⟨u,hu,ru⟩:=rv.get hx
  obtain⟨f0,f1,f2,f3,f4,f5⟩:=hf it (by simp)
  refine wpAny_pyNext_tuple_item st (show s.heap.IsTuple a its.toArray from p) (x:=u) (by simpa using hu) fun h' st' sb=>?_
  have I1:Inv X pins σ H {s with heap:=h' }:=I.turned (t':=s.toks) (fun b o hb e=>(sb.2 b hb).trans e) f0 f1 f3 f4 f5
  obtain⟨o,e,c,d⟩:=id st'
  exact⟨u,rfl,nP (s:={s with heap:=h' }) e c d (by decide) ⟨x,H,I1,ru,⟨rfl,fun ys hy=>by rw[I.tuple_inj hy hq];exact hx⟩,st',fun b hb=>(hf b hb).1⟩⟩
 done:=by
  intro X hP hw hK hc i pins s σ H E I hf st hg
  subst hP hw hK
  obtain⟨xs,hq,hx⟩:=hg
  obtain⟨its,rv,p,hz⟩:=I.tuple hq
  obtain⟨f0,f1,f2,f3,f4,f5⟩:=hf it (by simp)
  have hl:=rv.length
  exact wpAny_pyNext_tuple_end (I.ok.hd hc) st (show s.heap.IsTuple a its.toArray from p) (by simp;omega) fun h' eb=>⟨rfl,I.turned (t':=s.toks) (fun b o hb e=>eb b o hb e) f0 f1 f3 f4 f5⟩
 self:=fun _ _ _ _ _ st h=>wpAny_pyIter_tupleiter st h
theorem kZ{K:W.Frag}(it:Addr)(lo:Int)(n:Nat):Turn P w K tg (EU lo n) [it] it (fun i h=>KZ h it (lo+(i:Nat)*1) ((n:Int)-(i:Nat)) 1) where
 mem:=by simp
 obj:=fun i h st b hb=>by
  have e:b=it:=by simpa using hb
  subst e
  exact⟨_,st,fun v z=>by
   have z':Data.fields _=Data.cell v:=z
   cases z'⟩
 keep:=fun i h h' st k=>k it (by simp) _ st
 item:=by
  intro X hP hw hK hc i pins s σ H E I hf st hg
  subst hP hw hK
  obtain⟨f0,f1,f2,f3,f4,f5⟩:=hf it (by simp)
  have W:=Walks.range (prog:=X.prog) (w:=X.w) (I.ok.hd hc) it lo 1 n
  refine W.item i s _ _ hg st fun v h' tk hv st' kk=>?_
  obtain⟨t,rfl⟩:=hv
  have I1:Inv X pins σ H {s with heap:=h',toks:=tk}:=I.turned (fun b o hb e=>kk b o (by simpa using hb) e) f0 f1 f3 f4 f5
  refine⟨_,rfl,nP (s:={s with heap:=h',toks:=tk}) (n := "range_iterator") st' rfl rfl (by decide) ⟨.int (lo+i),H,I1,⟨t,?_⟩,⟨rfl,rfl⟩,st',fun b hb=>(hf b hb).1⟩⟩
  rw[Kg]
 done:=by
  intro X hP hw hK hc i pins s σ H E I hf st hg
  subst hP hw hK
  obtain⟨f0,f1,f2,f3,f4,f5⟩:=hf it (by simp)
  exact Ko (I.ok.hd hc) st (by have:n<=i:=hg;omega) fun h' eb=>⟨rfl,I.turned (t':=s.toks) (fun b o hb e=>eb b o hb e) f0 f1 f3 f4 f5⟩
 self:=fun _ _ _ _ _ st h=>Kq st h
section
variable{X:Cx}{tg:Expr}
noncomputable def zV(K:W.Frag)(tl:TE):TI:=fun σ H R=>tl σ H fun x H1=>∃a,x = .ref a/\(∃xs,Eo K H1 a xs)/\R (EV K a) H1
noncomputable def B5(K:W.Frag)(tl:TE):TI:=fun σ H R=>tl σ H fun x H1=>∃a,x = .ref a/\(∃xs,Em K H1 a xs)/\R (ET K a) H1
theorem tW{l:Expr}{tl:TE}(hl:PE X l tl):PI X tg l (zV X.K tl):=by
 intro pins s σ H R I h
 refine C7 (hl pins s σ H _ I h) fun v s1 ⟨x,H1,I1,r1,q1⟩=>?_
 obtain⟨a,e,⟨xs,hq⟩,q⟩:=q1
 subst e
 cases r1
 obtain⟨its,rv,p,hz⟩:=I1.list hq
 refine Jj p.isList ?_
 refine⟨s1.heap.objs.size,[s1.heap.objs.size],_,_,H1,rfl,I1.kept (t':=s1.toks) fun b o e=>Fh _ e,mj a _,⟨_,FF _ rfl,rfl,rfl⟩,fun b hb=>?_,q⟩
 have e:b=s1.heap.objs.size:=by simpa using hb
 subst e
 exact I1.fpOk (FC _) (I1.hok.fresh (FC _))
theorem xq{l:Expr}{tl:TE}(hl:PE X l tl):PI X tg l (B5 X.K tl):=by
 intro pins s σ H R I h
 refine C7 (hl pins s σ H _ I h) fun v s1 ⟨x,H1,I1,r1,q1⟩=>?_
 obtain⟨a,e,⟨xs,hq⟩,q⟩:=q1
 subst e
 cases r1
 obtain⟨its,rv,p,hz⟩:=I1.tuple hq
 refine JS (show s1.heap.IsTuple a its.toArray from p) ?_
 refine⟨s1.heap.objs.size,[s1.heap.objs.size],_,_,H1,rfl,I1.kept (t':=s1.toks) fun b o e=>Fh _ e,kY a _,⟨_,FF _ rfl,rfl,rfl⟩,fun b hb=>?_,q⟩
 have e:b=s1.heap.objs.size:=by simpa using hb
 subst e
 exact I1.fpOk (FC _) (I1.hok.fresh (FC _))
theorem jX{σ:St}{H:Hp}{R:It->Hp->Prop}{lo hi:Int}{t u v:Tok}{tk:Nat}(I:Inv X pins σ H s)(h1 : -(2^62)<=lo)(h2:lo<2^62)(h3 : -(2^62)<=hi)(h4:hi<2^62)
 (q:R (EU lo (hi-lo).toNat) H):FN (Gb X.prog X.w) X.A (LN (.ref s.heap.objs.size)) (ED X pins σ tg R) E {s with heap:=s.heap.push {cls:=.type "range", data:=.fields #[.int lo t,.int hi u,.int 1 v]},toks:=tk}:=by
 refine wpAny_pyIter_range (IsRange.new ..) (small_one h1 h2 h3 h4) ?_
 have I1:Inv X pins σ H {s with heap:=s.heap.push {cls:=.type "range", data:=.fields #[.int lo t,.int hi u,.int 1 v]},toks:=tk}:=I.kept fun b o e=>Fh _ e
 refine⟨(s.heap.push {cls:=.type "range", data:=.fields #[.int lo t,.int hi u,.int 1 v]}).objs.size,[(s.heap.push {cls:=.type "range", data:=.fields #[.int lo t,.int hi u,.int 1 v]}).objs.size],_,_,H,rfl,
  I1.kept (t':=tk) fun b o e=>Fh _ e,kZ _ lo (hi-lo).toNat,?_,fun b hb=>?_,q⟩
 · have e1:lo+((0:Nat):Int)*1=lo:=by simp
   have e2:(((hi-lo).toNat:Nat):Int)-((0:Nat):Int)=Ik lo hi 1:=by rw[rangeSize_one];split<;>omega
   show KZ _ _ (lo+((0:Nat):Int)*1) ((((hi-lo).toNat:Nat):Int)-((0:Nat):Int)) 1
   rw[e1,e2]
   exact FF _ rfl
 · have e:b=(s.heap.push {cls:=.type "range", data:=.fields #[.int lo t,.int hi u,.int 1 v]}).objs.size:=by simpa using hb
   subst e
   exact I1.fpOk (FC _) (I1.hok.fresh (FC _))
noncomputable def zU(ta:TA):TI:=fun σ H R=>ta σ H fun vs H1=>∃j:Int,vs=[.int j] /\ -(2^62)<=j/\j<2^62/\R (EU 0 j.toNat) H1
noncomputable def zT(ta:TA):TI:=fun σ H R=>ta σ H fun vs H1=>∃i j:Int,vs=[.int i,.int j]/\(-(2^62)<=i/\i<2^62 /\ -(2^62)<=j/\j<2^62)/\R (EU i (j-i).toNat) H1
theorem m_{a:Expr}{ta:TA}{p:Pos}(hg:Gl X "range")(hm:X.mg "range" = none)(ha:PA X [a] ta)(hs:FA [a] X.env=[(false,eval a X.env)]:=by rfl):PI X tg (.Call (.Name "range" p) [a] [] pos) (zU ta):=by
 intro pins s σ H R I h
 refine Call_ (dA I hg hm boot_range (Gz (C7 (ha pos pins s σ H _ I h) fun us s1 ⟨vs,H1,I1,r1,q1⟩=>?_) hs rfl))
 obtain⟨j,e,q1,q2,q⟩:=q1
 subst e
 cases r1 with
 | cons r rr =>
   cases rr
   obtain⟨t,rfl⟩:=r
   exact call_range_1 (jX I1 (by omega) (by omega) q1 q2 (by simpa using q))
theorem m9{a b:Expr}{ta:TA}{p:Pos}(hg:Gl X "range")(hm:X.mg "range" = none)(ha:PA X [a,b] ta)(hs:FA [a,b] X.env=[(false,eval a X.env),(false,eval b X.env)]:=by rfl)(hs2:FA [b] X.env=[(false,eval b X.env)]:=by rfl) :
 PI X tg (.Call (.Name "range" p) [a,b] [] pos) (zT ta):=by
 intro pins s σ H R I h
 refine Call_ (dA I hg hm boot_range (Gz (C7 (ha pos pins s σ H _ I h) fun us s1 ⟨vs,H1,I1,r1,q1⟩=>?_) (by rw[hs,hs2]) (by rw[hs2];rfl)))
 obtain⟨i,j,e,⟨q1,q2,q3,q4⟩,q⟩:=q1
 subst e
 cases r1 with
 | cons r rr =>
   cases rr with
   | cons r' rr =>
     cases rr
     obtain⟨t,rfl⟩:=r
     obtain⟨t',rfl⟩:=r'
     exact call_range_2 (jX I1 q1 q2 q3 q4 q)
noncomputable def BV(wi:TI)(g:TG)(tb:TS):TS:=fun D σ H=>wi σ H fun J H1=>∃W:Nat->Nat->St->Hp->Prop,(∃m,W 0 m σ H1)/\∀i m σ H,W i m σ H ->
 (J.stop i H/\D.nx σ H)\/(J.go i H/\∃N:St->Hp->Prop,(∀σ' H',N σ' H'->∃m',m'<m/\W (i+1) m' σ' H')/\∀x H',J.yld i H x H'->g x σ H' fun σ2 H2=>tb {D with nx:=N,ct:=N,bk:=D.nx} σ2 H2)
noncomputable def eO(fp:List Addr)(h:Heap):List (Addr×Obj):=fp.filterMap fun b=>(h.get? b).map fun o=>(b,o)
theorem br{o:Obj}(hb:b∈fp)(e:h.get? b=some o):(b,o)∈eO fp h:=List.mem_filterMap.mpr ⟨b,hb,by rw[e];rfl⟩
theorem nu{p:Addr×Obj}(hp:p∈eO fp h):p.1∈fp/\h.get? p.1=some p.2:=by
 obtain⟨b,hb,e⟩:=List.mem_filterMap.mp hp
 cases q:h.get? b with
 | none=>rw[q]at e;cases e
 | some o =>
   rw[q]at e
   have e':(b,o)=p:=Gv e
   subst e'
   exact⟨hb,q⟩
theorem Inv.pinned{σ:St}{H:Hp}(I:Inv X pins σ H s)(hf:∀b∈fp,iU X pins H b)(ho:∀b∈fp,∃o,s.heap.get? b=some o/\∀v,o.data ≠ .cell v):Inv X (pins++eO fp s.heap) σ H s :=
 I.pins_of fun p hp=>(IR.mp hp).elim (fun z=>I.pin p (FO _ z)) fun z=>by
  obtain⟨hb,e⟩:=nu z
  obtain⟨f0,f1,f2,_⟩:=hf p.1 hb
  obtain⟨o,e',d⟩:=ho p.1 hb
  rw[e]at e';cases e'
  exact⟨e,f0,f1,f2,d⟩
theorem Inv.unpinned{pl:List (Addr×Obj)}{σ:St}{H:Hp}(I:Inv X (pins++pl) σ H s):Inv X pins σ H s:=I.pins_of fun p hp=>I.pin p (FO _ (KJ _ hp))
theorem xo{body:List Stmt}{wi:TI}{g:TG}{tb:TS}(hp:LM (Gb X.prog X.w) X.A X.env X.xe)(hc:X.calm=true)(hi:PI X tg iter wi)(hg:PG X tg g)(hb:Ey X body tb)
 (hs:∀x,Gx iter X.env x=pure x:=by intro _;rfl):PS X (.For tg iter body [] pos) (BV wi g tb):=by
 intro pins s σ H D I h
 refine wpAny_For (C7 (hi pins s σ H _ I h) fun v s1 h1=>C7 h1 fun itv s2 h2=>?_) hs
 obtain⟨it,fp,tn,J,H2,e,I2,T,st2,f2,W,⟨m0,w0⟩,turn⟩:=h2
 subst e
 have stat:∀{H':Hp},(∀b∈fp,H' b=none)->∀b∈fp,iU X pins H' b:=fun hn b hb=>⟨hn b hb,(f2 b hb).2⟩
 refine codeAny_forLoop_any (fun n s'=>∃i σ' H',Inv X pins σ' H' s'/\tn i s'.heap/\(∀b∈fp,H' b=none)/\W i n σ' H') ?_ m0 ⟨0,σ,H2,I2,st2,fun b hb=>(f2 b hb).1,w0⟩
 rintro n s3 ⟨i,σ3,H3,I3,st3,fr3,w3⟩
 rcases turn i n σ3 H3 w3 with⟨stop,qn⟩|⟨go,N,hN,step⟩
 · refine Ib hp (C7 (T.done X rfl rfl rfl hc i pins s3 σ3 H3 X.xe I3 (stat fr3) st3 stop) fun r s4 ⟨hr,I4⟩=>?_)
   subst hr
   exact JF ⟨σ3,H3,I4,qn⟩
 · refine Ib hp (C7 (T.item X rfl rfl rfl hc i pins s3 σ3 H3 X.xe I3 (stat fr3) st3 go) fun r s4 ⟨u,hr,h4⟩=>?_)
   subst hr
   refine Ib hp (C7 h4 fun _ s5 ⟨x,H5,I5,r5,y5,st5,fr5⟩=>?_)
   have I5':=I5.pinned (stat fr5) (T.obj _ _ st5)
   refine Ib hp (C7 (hg _ s5 σ3 H5 x u _ I5' r5 (step x H5 y5)) fun _ s6 ⟨σ6,H6,I6,q6⟩=>?_)
   refine Ib hp (C7 (hb _ s6 σ6 H6 _ I6 q6) fun f s7 q7=>?_)
   have again:∀{σ7:St}{H7:Hp},Inv X (pins++eO fp s5.heap) σ7 H7 s7->N σ7 H7->∃m,m<n/\∃i σ' H',Inv X pins σ' H' s7/\tn i s7.heap/\(∀b∈fp,H' b=none)/\W i m σ' H':=fun{σ7 H7} I7 n7=>by
    obtain⟨m',hm,w7⟩:=hN σ7 H7 n7
    refine⟨m',hm,i+1,σ7,H7,I7.unpinned,T.keep _ _ _ st5 fun b hb o e=>(I7.pin (b,o) (FO _ (FO _ (br hb e)))).1,fun b hb=>?_,w7⟩
    obtain⟨o,e,d⟩:=T.obj _ _ st5 b hb
    exact(I7.pin (b,o) (FO _ (FO _ (br hb e)))).2.1
   cases f with
   | next=>obtain⟨σ7,H7,I7,n7⟩:=q7;exact again I7 n7
   | cont=>obtain⟨σ7,H7,I7,n7⟩:=q7;exact again I7 n7
   | brk=>obtain⟨σ7,H7,I7,q7⟩:=q7;exact⟨σ7,H7,I7.unpinned,q7⟩
   | ret v=>obtain⟨x7,σ7,H7,I7,r7,q7⟩:=q7;exact⟨x7,σ7,H7,I7.unpinned,r7,q7⟩
end
abbrev R2:=V->V->Hp->VK->Prop
noncomputable def EH(X:Cx)(f:Fm->Fm->Sem Fm)(r:R2):Prop :=
 ∀ (pins:List (Addr×Obj))(s:Ft)(σ:St)(H:Hp)(x y:V)(v u:Fm)(Q:VK),Inv X pins σ H s->RelV x v->RelV y u->r x y H Q ->
   FN (Gb X.prog X.w) X.A (f v u) (EP X pins σ Q) X.xe s
noncomputable def Ee(X:Cx)(f:Fm->Sem Fm)(r:V->Hp->VK->Prop):Prop :=
 ∀ (pins:List (Addr×Obj))(s:Ft)(σ:St)(H:Hp)(x:V)(v:Fm)(Q:VK),Inv X pins σ H s->RelV x v->r x H Q ->
   FN (Gb X.prog X.w) X.A (f v) (EP X pins σ Q) X.xe s
noncomputable def d_(X:Cx)(f:Fm)(r:List V->Hp->VK->Prop):Prop :=
 ∀ (pins:List (Addr×Obj))(s:Ft)(σ:St)(H:Hp)(xs:List V)(us:List Fm)(Q:VK),Inv X pins σ H s->cw xs us->r xs H Q ->
   FN (Gb X.prog X.w) X.A (call f us) (EP X pins σ Q) X.xe s
noncomputable def Dc(r:R2)(ta tb:TE):TE:=fun σ H Q=>ta σ H fun x H1=>tb σ H1 fun y H2=>r x y H2 Q
noncomputable def C_(r:V->Hp->VK->Prop)(ta:TE):TE:=fun σ H Q=>ta σ H fun x H1=>r x H1 Q
noncomputable def rI(C:Int->Int->Prop)(g:Int->Int->V):R2:=fun x y H Q=>∃i j,x = .int i/\y = .int j/\C i j/\Q (g i j) H
noncomputable def Dw(g:Int->Int->V):R2:=fun x y H Q=>∃i j,x = .int i/\y = .int j/\Q (g i j) H
noncomputable def rU(g:Int->V):V->Hp->VK->Prop:=fun x H Q=>∃i,x = .int i/\Q (g i) H
section
variable{X:Cx}{a b c:Expr}{ta tb tc:TE}{pos:Pos}
theorem Ag(ha:PE X a ta)(hb:PE X b tb){σ:St}{H:Hp}{R:V->V->Hp->Prop}(I:Inv X pins σ H s)
 (h:ta σ H fun x H1=>tb σ H1 fun y H2=>R x y H2){f:Fm->Fm->Sem Fm}
 (hf:∀v u s2 x y H2,Inv X pins σ H2 s2->RelV x v->RelV y u->R x y H2->FN (Gb X.prog X.w) X.A (f v u) Q X.xe s2) :
 FN (Gb X.prog X.w) X.A (eval a X.env) (fun v s₁=>FN (Gb X.prog X.w) X.A (eval b X.env) (fun u s₂=>FN (Gb X.prog X.w) X.A (f v u) Q X.xe s₂) X.xe s₁) X.xe s:=by
 refine C7 (ha pins s σ H _ I h) fun v s1 ⟨x,H1,I1,r1,q1⟩=>?_
 refine C7 (hb pins s1 σ H1 _ I1 q1) fun u s2 ⟨y,H2,I2,r2,q2⟩=>?_
 exact hf v u s2 x y H2 I2 r1 r2 q2
theorem xv{op:Lj}{r:R2}(ho:EH X (Ir op) r)(ha:PE X a ta)(hb:PE X b tb):PE X (.BinOp a op b pos) (Dc r ta tb):=by
 intro pins s σ H Q I h
 exact wpAny_BinOp (Ag ha hb I h fun v u s2 x y H2 I2 rx ry q=>ho pins s2 σ H2 x y v u Q I2 rx ry q)
theorem xu{op:UnaryOp}{r:V->Hp->VK->Prop}(ho:Ee X (unaryOp op) r)(ha:PE X a ta):PE X (.UnaryOp op a pos) (C_ r ta):=by
 intro pins s σ H Q I h
 exact UnaryOp_ (C7 (ha pins s σ H _ I h) fun v s1 ⟨x,H1,I1,r1,q1⟩=>ho pins s1 σ H1 x v Q I1 r1 q1)
theorem DA{f:Fm->Fm->Sem Fm}{C:Int->Int->Prop}{g:Int->Int->Int}
 (rule:∀(i j:Int)(t u:Tok)(s:Ft)(Q:Fm->Ft->Prop)(E:Fm->Ft->Prop),C i j->Q (.int (g i j) s.toks) {s with toks:=s.toks+1}->FN (Gb X.prog X.w) X.A (f (.int i t) (.int j u)) Q E s) :
 EH X f (rI C fun i j=>.int (g i j)):=by
 intro pins s σ H x y v u Q I rx ry h
 obtain⟨i,j,rfl,rfl,hc,q⟩:=h
 obtain⟨t,rfl⟩:=rx
 obtain⟨t',rfl⟩:=ry
 exact rule i j t t' s _ _ hc ⟨.int (g i j),H,I.tok _,⟨_,rfl⟩,q⟩
theorem Bs{f:Fm->Fm->Sem Fm}{g:Int->Int->Int}
 (rule:∀(i j:Int)(t u:Tok)(s:Ft)(Q:Fm->Ft->Prop)(E:Fm->Ft->Prop),Q (.int (g i j) s.toks) {s with toks:=s.toks+1}->FN (Gb X.prog X.w) X.A (f (.int i t) (.int j u)) Q E s) :
 EH X f (Dw fun i j=>.int (g i j)):=by
 intro pins s σ H x y v u Q I rx ry h
 obtain⟨i,j,rfl,rfl,q⟩:=h
 obtain⟨t,rfl⟩:=rx
 obtain⟨t',rfl⟩:=ry
 exact rule i j t t' s _ _ ⟨.int (g i j),H,I.tok _,⟨_,rfl⟩,q⟩
theorem yo{f:Fm->Fm->Sem Fm}{g:Int->Int->Bool}
 (rule:∀(i j:Int)(t u:Tok)(s:Ft)(Q:Fm->Ft->Prop)(E:Fm->Ft->Prop),Q (.bool (g i j)) s->FN (Gb X.prog X.w) X.A (f (.int i t) (.int j u)) Q E s) :
 EH X f (Dw fun i j=>.bl (g i j)):=by
 intro pins s σ H x y v u Q I rx ry h
 obtain⟨i,j,rfl,rfl,q⟩:=h
 obtain⟨t,rfl⟩:=rx
 obtain⟨t',rfl⟩:=ry
 exact rule i j t t' s _ _ ⟨.bl (g i j),H,I,rfl,q⟩
noncomputable def BB(i j:Int):Prop:=0<=j/\j<=1000000/\i.natAbs<2^64
theorem rM:EH X (Ir .Add) (Dw fun i j=>.int (i+j)):=Bs fun _ _ _ _ _ _ _ q=>add_int q
theorem xG:EH X (Ir .Sub) (Dw fun i j=>.int (i-j)):=Bs fun _ _ _ _ _ _ _ q=>sub_int q
theorem uf:EH X (Ir .Mod) (rI (fun _ j=>j≠0) fun i j=>.int (i.fmod j)):=DA fun _ _ _ _ _ _ _ hc q=>mod_int' hc q
theorem xH:EH X (Ir .Pow) (rI BB fun i j=>.int (i^j.toNat)):=DA fun _ _ _ _ _ _ _ hc q=>pow_int_small hc.1 hc.2.1 hc.2.2 q
theorem CZ{f:Fm->Sem Fm}{g:Int->Int}
 (rule:∀(i:Int)(t:Tok)(s:Ft)(Q:Fm->Ft->Prop)(E:Fm->Ft->Prop),Q (.int (g i) s.toks) {s with toks:=s.toks+1}->FN (Gb X.prog X.w) X.A (f (.int i t)) Q E s) :
 Ee X f (rU fun i=>.int (g i)):=by
 intro pins s σ H x v Q I rx h
 obtain⟨i,rfl,q⟩:=h
 obtain⟨t,rfl⟩:=rx
 exact rule i t s _ _ ⟨.int (g i),H,I.tok _,⟨_,rfl⟩,q⟩
theorem qW:Ee X (unaryOp .USub) (rU fun i=>.int (-i)):=CZ fun _ _ _ _ _ q=>neg_int q
end
noncomputable def Bm:V->V->Bool
 | .non,.non=>true | .non,.int _=>true | .int _,.non=>true | .non,.bl _=>true | .bl _,.non=>true | .non,.str _=>true | .str _,.non=>true
 | .int _,.int _=>true | .bl _,.bl _=>true | .str _,.str _=>true | .byt _,.byt _=>true
 | .int _,.str _=>true | .str _,.int _=>true | .bl _,.str _=>true | .str _,.bl _=>true
 | _,_=>false
noncomputable def Dx:R2:=fun x y H Q=>Bm x y=true/\Q (.bl (decide (x=y))) H
noncomputable def Dt:R2:=fun x y H Q=>Bm x y=true/\Q (.bl (!decide (x=y))) H
theorem nW{i j:Int}:decide (V.int i=V.int j)=(i==j):=by
 rw[Iy]
 simp
theorem rS{i j:Bool}:decide (V.bl i=V.bl j)=(i==j):=by
 rw[Iy]
 simp
theorem nV{i j:Str}:decide (V.str i=V.str j)=(i==j):=by
 rw[Iy]
 simp
theorem nX{i j:Array UInt8}:decide (V.byt i=V.byt j)=(i.toList==j.toList):=by
 rw[Iy]
 cases i
 cases j
 simp
section
variable{X:Cx}{a b c:Expr}{ta tb tc:TE}{pos:Pos}
theorem aR{σ:St}{H:Hp}{Q:VK}{k k':Bool}(I:Inv X pins σ H s)(q:Q (.bl k) H)(e:k=k'):EP X pins σ Q (.bool k') s:=by
 subst e
 exact⟨.bl k,H,I,rfl,q⟩
theorem pK:EH X (G1 .Eq) Dx:=by
 intro pins s σ H x y v u Q I rx ry h
 obtain⟨hs,q⟩:=h
 cases x with
 | non =>
   cases rx
   cases y with
   | non=>cases ry;exact PySem.EqNone.eq_none_none (aR I q (by simp))
   | bl j=>cases ry;exact PySem.EqNone.eq_none_bool (aR I q (by simp))
   | int j=>obtain⟨t',rfl⟩:=ry;exact PySem.EqNone.eq_none_int (aR I q (by simp))
   | str j=>obtain⟨t',rfl⟩:=ry;exact PySem.EqNone.eq_none_str (aR I q (by simp))
   | _=>exact absurd (show false=true from hs) Gi
 | bl i =>
   cases rx
   cases y with
   | non=>cases ry;exact PySem.EqNone.eq_bool_none (aR I q (by simp))
   | bl j=>cases ry;exact eq_bool (aR I q rS)
   | str j=>obtain⟨t',rfl⟩:=ry;exact PySem.EqMixed.eq_bool_str (aR I q (by simp))
   | _=>exact absurd (show false=true from hs) Gi
 | int i =>
   obtain⟨t,rfl⟩:=rx
   cases y with
   | non=>cases ry;exact PySem.EqNone.eq_int_none (aR I q (by simp))
   | int j=>obtain⟨t',rfl⟩:=ry;exact eq_int (aR I q nW)
   | str j=>obtain⟨t',rfl⟩:=ry;exact PySem.EqMixed.eq_int_str (aR I q (by simp))
   | _=>exact absurd (show false=true from hs) Gi
 | str i =>
   obtain⟨t,rfl⟩:=rx
   cases y with
   | non=>cases ry;exact PySem.EqNone.eq_str_none (aR I q (by simp))
   | bl j=>cases ry;exact PySem.EqMixed.eq_str_bool (aR I q (by simp))
   | int j=>obtain⟨t',rfl⟩:=ry;exact PySem.EqMixed.eq_str_int (aR I q (by simp))
   | str j=>obtain⟨t',rfl⟩:=ry;exact eq_str (aR I q nV)
   | _=>exact absurd (show false=true from hs) Gi
 | byt i =>
   obtain⟨t,rfl⟩:=rx
   cases y with
   | byt j=>obtain⟨t',rfl⟩:=ry;exact W.eq_bytes (aR I q nX)
   | _=>exact absurd (show false=true from hs) Gi
 | _=>cases y<;>exact absurd (show false=true from hs) Gi
theorem ud:EH X (G1 .NotEq) Dt:=by
 intro pins s σ H x y v u Q I rx ry h
 obtain⟨hs,q⟩:=h
 cases x with
 | non =>
   cases rx
   cases y with
   | non=>cases ry;exact PySem.EqNone.ne_none_none (aR I q (by simp))
   | bl j=>cases ry;exact PySem.EqNone.ne_none_bool (aR I q (by simp))
   | int j=>obtain⟨t',rfl⟩:=ry;exact PySem.EqNone.ne_none_int (aR I q (by simp))
   | str j=>obtain⟨t',rfl⟩:=ry;exact PySem.EqNone.ne_none_str (aR I q (by simp))
   | _=>exact absurd (show false=true from hs) Gi
 | bl i =>
   cases rx
   cases y with
   | non=>cases ry;exact PySem.EqNone.ne_bool_none (aR I q (by simp))
   | bl j=>cases ry;exact ne_bool (aR I q (congrArg not rS))
   | str j=>obtain⟨t',rfl⟩:=ry;exact PySem.EqMixed.ne_bool_str (aR I q (by simp))
   | _=>exact absurd (show false=true from hs) Gi
 | int i =>
   obtain⟨t,rfl⟩:=rx
   cases y with
   | non=>cases ry;exact PySem.EqNone.ne_int_none (aR I q (by simp))
   | int j=>obtain⟨t',rfl⟩:=ry;exact ne_int (aR I q (congrArg not nW))
   | str j=>obtain⟨t',rfl⟩:=ry;exact PySem.EqMixed.ne_int_str (aR I q (by simp))
   | _=>exact absurd (show false=true from hs) Gi
 | str i =>
   obtain⟨t,rfl⟩:=rx
   cases y with
   | non=>cases ry;exact PySem.EqNone.ne_str_none (aR I q (by simp))
   | bl j=>cases ry;exact PySem.EqMixed.ne_str_bool (aR I q (by simp))
   | int j=>obtain⟨t',rfl⟩:=ry;exact PySem.EqMixed.ne_str_int (aR I q (by simp))
   | str j=>obtain⟨t',rfl⟩:=ry;exact ne_str (aR I q (congrArg not nV))
   | _=>exact absurd (show false=true from hs) Gi
 | byt i =>
   obtain⟨t,rfl⟩:=rx
   cases y with
   | byt j=>obtain⟨t',rfl⟩:=ry;exact W.ne_bytes (aR I q (congrArg not nX))
   | _=>exact absurd (show false=true from hs) Gi
 | _=>cases y<;>exact absurd (show false=true from hs) Gi
theorem ug:EH X (G1 .Lt) (Dw fun i j=>.bl (decide (i<j))):=yo fun _ _ _ _ _ _ _ q=>lt_int q
theorem pI:EH X (G1 .LtE) (Dw fun i j=>.bl (decide (i<=j))):=yo fun _ _ _ _ _ _ _ q=>le_int q
theorem nq:EH X (G1 .Gt) (Dw fun i j=>.bl (decide (j<i))):=yo fun _ _ _ _ _ _ _ q=>gt_int q
theorem zG:EH X (G1 .GtE) (Dw fun i j=>.bl (decide (j<=i))):=yo fun _ _ _ _ _ _ _ q=>ge_int q
theorem rL:EH X (G1 .Is) (fun x y H Q=>y = .non/\Q (.bl (decide (x = .non))) H):=by
 intro pins s σ H x y v u Q I rx ry h
 obtain⟨rfl,q⟩:=h
 cases ry
 refine is_none_gen (aR I q ?_)
 cases x<;>first
  | (cases rx;rfl)
  | (obtain⟨t,rfl⟩:=rx;rfl)
theorem jr:EH X (G1 .IsNot) (fun x y H Q=>y = .non/\Q (.bl (!decide (x = .non))) H):=by
 intro pins s σ H x y v u Q I rx ry h
 obtain⟨rfl,q⟩:=h
 cases ry
 refine isnot_none_gen (aR I q ?_)
 cases x<;>first
  | (cases rx;rfl)
  | (obtain⟨t,rfl⟩:=rx;rfl)
theorem aH(b:Expr)(h:op ≠ .In:=by decide)(h2:op ≠ .NotIn:=by decide):HF op b=false:=by
 have e1:(op==KY.In)=false:=by cases op<;>first|rfl|exact absurd rfl h
 have e2:(op==KY.NotIn)=false:=by cases op<;>first|rfl|exact absurd rfl h2
 cases b<;>simp[HF,e1,e2]
theorem t_{r:R2}(ho:EH X (G1 op) r)(ha:PE X a ta)(hb:PE X b tb)(hm:HF op b=false):PE X (.Compare a [op] [b] pos) (Dc r ta tb):=by
 intro pins s σ H Q I h
 exact wpAny_Compare1 (Ag ha hb I h fun v u s2 x y H2 I2 rx ry q=>ho pins s2 σ H2 x y v u Q I2 rx ry q) hm
noncomputable def wz(t:TE):TT:=fun σ H Q=>t σ H fun x H'=>∃k,x = .bl k/\Q k H'
theorem tR{r:R2}(ho:EH X (G1 op) r)(ha:PE X a ta)(hb:PE X b tb)(hm:HF op b=false):PT X (.Compare a [op] [b] pos) (wz (Dc r ta tb)):=by
 intro pins s σ H Q I h
 refine Ku (C7 (ha pins s σ H _ I h) fun v s1 ⟨x,H1,I1,r1,q1⟩=>C7 (hb pins s1 σ H1 _ I1 q1) fun u s2 ⟨y,H2,I2,r2,q2⟩ =>
  C7 (ho pins s2 σ H2 x y v u _ I2 r1 r2 q2) fun c s3 ⟨z,H3,I3,r3,k,e,q3⟩=>?_) hm
 subst e
 cases r3
 exact Hh ⟨H3,I3,q3⟩
noncomputable def rj(r r':R2)(ta tb tc:TE):TE:=fun σ H Q=>ta σ H fun x H1=>tb σ H1 fun y H2=>r x y H2 fun z H3=>∃k,z = .bl k /\
 (if k=true then tc σ H3 fun w' H4=>r' y w' H4 Q else Q (.bl false) H3)
theorem pF{op':KY}{r r':R2}(ho:EH X (G1 op) r)(ho':EH X (G1 op') r')(ha:PE X a ta)(hb:PE X b tb)(hc:PE X c tc)
 (hm:LO [op,op'] [b,c]=false:=by with_unfolding_all rfl):PE X (.Compare a [op,op'] [b,c] pos) (rj r r' ta tb tc):=by
 intro pins s σ H Q I h
 refine Compare_chain (C7 (ha pins s σ H _ I h) fun v s1 ⟨x,H1,I1,r1,q1⟩=>chain_link (C7 (hb pins s1 σ H1 _ I1 q1) fun u s2 ⟨y,H2,I2,r2,q2⟩ =>
  C7 (ho pins s2 σ H2 x y v u _ I2 r1 r2 q2) fun d s3 ⟨z,H3,I3,r3,k,e,q3⟩=>?_)) hm
 subst e
 cases r3
 refine Hh ?_
 cases k with
 | false=>exact ite_ff ⟨.bl false,H3,I3,rfl,q3⟩
 | true=>exact ite_tt (chain_last (C7 (hc pins s3 σ H3 _ I3 q3) fun w' s4 ⟨z',H4,I4,r4,q4⟩=>ho' pins s4 σ H4 y z' u w' Q I4 r2 r4 q4))
theorem pg{op':KY}{r r':R2}(ho:EH X (G1 op) r)(ho':EH X (G1 op') r')(ha:PE X a ta)(hb:PE X b tb)(hc:PE X c tc)
 (hm:LO [op,op'] [b,c]=false:=by with_unfolding_all rfl):PT X (.Compare a [op,op'] [b,c] pos) (wz (rj r r' ta tb tc)):=by
 intro pins s σ H Q I h
 refine isTrue_chain (C7 (ha pins s σ H _ I h) fun v s1 ⟨x,H1,I1,r1,q1⟩=>test_link (C7 (hb pins s1 σ H1 _ I1 q1) fun u s2 ⟨y,H2,I2,r2,q2⟩ =>
  C7 (ho pins s2 σ H2 x y v u _ I2 r1 r2 q2) fun d s3 ⟨z,H3,I3,r3,k,e,q3⟩=>?_)) hm
 subst e
 cases r3
 refine Hh ?_
 cases k with
 | false =>
   obtain⟨k',e',q'⟩:=q3
   cases e'
   exact ite_ff ⟨H3,I3,q'⟩
 | true =>
   refine ite_tt (test_last (C7 (hc pins s3 σ H3 _ I3 q3) fun w' s4 ⟨z',H4,I4,r4,q4⟩=>C7 (ho' pins s4 σ H4 y z' u w' _ I4 r2 r4 q4) fun d' s5 ⟨z2,H5,I5,r5,k2,e2,q5⟩=>?_))
   subst e2
   cases r5
   exact Hh ⟨H5,I5,q5⟩
theorem ki:(sizeLine:Nat)<2^63:=by rw[sizeLine_eq];decide
theorem vals1{x:V}(r:cw [x] us):∃u,us=[u]/\RelV x u:=by
 cases r with
 | cons r1 r2=>cases r2;exact⟨_,rfl,r1⟩
theorem vals2{x y:V}(r:cw [x,y] us):∃u w',us=[u,w']/\RelV x u/\RelV y w':=by
 cases r with
 | cons r1 r2 =>
   cases r2 with
   | cons r3 r4=>cases r4;exact⟨_,_,rfl,r1,r3⟩
theorem oA(hc:X.calm=true):d_ X (.builtin "max") (fun xs H Q=>∃i j,xs=[.int i,.int j]/\Q (.int (if j>i then j else i)) H):=by
 intro pins s σ H xs us Q I r h
 obtain⟨i,j,rfl,q⟩:=h
 obtain⟨u,w',rfl,⟨t,rfl⟩,⟨t',rfl⟩⟩:=vals2 r
 refine max_two_ints (I.ok.hd hc) fun h' tk k=>⟨_,H,I.kept k,?_,q⟩
 by_cases hj:j>i
 · rw[if_pos hj,if_pos hj];exact⟨_,rfl⟩
 · rw[if_neg hj,if_neg hj];exact⟨_,rfl⟩
theorem oy(hc:X.calm=true):d_ X (.builtin "min") (fun xs H Q=>∃i j,xs=[.int i,.int j]/\Q (.int (if j<i then j else i)) H):=by
 intro pins s σ H xs us Q I r h
 obtain⟨i,j,rfl,q⟩:=h
 obtain⟨u,w',rfl,⟨t,rfl⟩,⟨t',rfl⟩⟩:=vals2 r
 refine min_two_ints (I.ok.hd hc) fun h' tk k=>⟨_,H,I.kept k,?_,q⟩
 by_cases hj:j<i
 · rw[if_pos hj,if_pos hj];exact⟨_,rfl⟩
 · rw[if_neg hj,if_neg hj];exact⟨_,rfl⟩
theorem oB:d_ X (.type "int") (fun xs H Q=>(∃i,xs=[.int i]/\Q (.int i) H)\/∃k,xs=[.bl k]/\Q (.int (if k then 1 else 0)) H):=by
 intro pins s σ H xs us Q I r h
 rcases h with⟨i,rfl,q⟩|⟨k,rfl,q⟩
 · obtain⟨u,rfl,t,rfl⟩:=vals1 r
   exact call_int_int ⟨.int i,H,I,⟨_,rfl⟩,q⟩
 · obtain⟨u,rfl,r1⟩:=vals1 r
   cases r1
   exact call_int_bool ⟨.int (if k then 1 else 0),H,I.tok _,⟨_,rfl⟩,q⟩
end
section
variable{prog:F0}{w:GD}{A:GN}{E:Fm->Ft->Prop}{s:Ft}{K:W.Frag}{x dx C f:Addr}{mA:Str->Option Fm}{name:Str}{v:Fm}
end
noncomputable def putF(f:Str)(v:V):List (Str×V)->List (Str×V)
 | []=>[(f,v)]
 | (g,x)::r=>if g=f then(g,v)::r else(g,x)::putF f v r
theorem vp.some_of{v:V}{o:Option Fm}(r:vp (some v) o):∃u,o=some u/\RelV v u:=by
 cases o with
 | none=>exact(show False from r).elim
 | some u=>exact⟨u,rfl,r⟩
section
variable{P:F0}{w:GD}{H H':Hp}{h h':Heap}{a C dx:Addr}{fs fs':List (Str×V)}
end
section
variable{X:Cx}{pins:List (Addr×Obj)}{σ:St}{H:Hp}{s:Ft}{a C dx:Addr}{fs:List (Str×V)}{f:Str}{v:V}{A:GN}{E:Fm->Ft->Prop}
end
section
variable{X:Cx}{o e value:Expr}{f:Str}{pos pos' tpos:Pos}{ta tv:TE}
end
section
variable{X:Cx}{pins:List (Addr×Obj)}{σ:St}{H:Hp}{s:Ft}{A:GN}{E:Fm->Ft->Prop}{Q:Fm->Ft->Prop}{c:Fm}{b:Bool}
end
structure Room (k:Nat) (A:GN):Prop where
 hd:A.handled=none
 dp:A.depth+3*k+5<recursionLimit
 un:A.units+16*k+200<Lk
 gd:A.guards=some []
theorem Room.mono{k:Nat}(r:Room k A)(h:j<=k):Room j A:=⟨r.hd,by have:=r.dp;omega,by have:=r.un;omega,r.gd⟩
theorem Room.deeper{k:Nat}(r:Room (k+1) A)(env:Env):Room k (A.deeper env) :=
 ⟨r.hd,by have:=r.dp;show A.depth+1+3*k+5<_;omega,by have:=r.un;show A.units+3+16*k+200<_;omega,r.gd⟩
theorem Room.depth{k:Nat}(r:Room k A):A.depth<recursionLimit:=by have:=r.dp;omega
theorem Room.units{k:Nat}(r:Room k A):A.units+64<Lk:=by have:=r.un;omega
noncomputable def BR:TA:=fun _ H Q=>Q [] H
noncomputable def zm(ta:TE)(tr:TA):TA:=fun σ H Q=>ta σ H fun x H1=>tr σ H1 fun xs H2=>Q (x::xs) H2
section
variable{X:Cx}{e:Expr}{es:List Expr}{te:TE}{t:TA}{pos:Pos}
theorem xE:PA X [] BR:=fun _ _ _ _ H Q I h=>Calls.spliced_nil ⟨[],H,I,.nil,h⟩
theorem nl(ha:PE X e te)(hr:PA X es t)(hs:FA (e::es) X.env=(false,eval e X.env)::FA es X.env:=by rfl):PA X (e::es) (zm te t):=by
 intro pos pins s σ H Q I h
 rw[hs]
 show FN _ _ (spliced ((false,eval e X.env)::Hf pos (FA es X.env))) _ _ s
 refine Calls.spliced_cons (C7 (ha pins s σ H _ I h) fun u s1 ⟨x,H1,I1,r1,q1⟩=>?_)
 exact C7 (hr pos pins s1 σ H1 _ I1 q1) fun us s2 ⟨xs,H2,I2,r2,q2⟩=>⟨x::xs,H2,I2,.cons r1 r2,q2⟩
noncomputable def BL(t:TA):TE:=fun σ H Q=>t σ H fun xs H1=>xs.length<=sizeLine/\∀p,H1 p=none->Q (.ref p) (upd H1 p (.tup xs))
noncomputable def BS(t:TA):TE:=fun σ H Q=>t σ H fun xs H1=>xs.length<=sizeLine/\∀p,H1 p=none->Q (.ref p) (upd H1 p (.lst xs))
theorem nc{x1}(h:PA X es t):PE X (.Tuple es x1 pos) (BL t):=by
 intro pins s σ H Q I hq
 refine wpAny_Tuple_spliced (C7 (h pos pins s σ H _ I hq) fun us s1 ⟨xs,H1,I1,r,z,q⟩=>⟨by rw[<- r.length];exact z,?_⟩)
 have hf:H1 s1.heap.objs.size=none:=I1.hok.fresh (FC _)
 refine⟨.ref s1.heap.objs.size,upd H1 s1.heap.objs.size (.tup xs),I1.laid (t':=s1.toks) (fun b u e=>Fh _ e) (FC _) ?_,rfl,q _ hf⟩
 exact⟨z,us,r,oJ.new _ _⟩
theorem xB(h:PA X es t):PE X (.List es pos) (BS t):=by
 intro pins s σ H Q I hq
 refine wpAny_List_spliced (C7 (h pos pins s σ H _ I hq) fun us s1 ⟨xs,H1,I1,r,z,q⟩=>⟨by rw[<- r.length];exact z,?_⟩)
 have hf:H1 s1.heap.objs.size=none:=I1.hok.fresh (FC _)
 refine⟨.ref s1.heap.objs.size,upd H1 s1.heap.objs.size (.lst xs),I1.laid (t':=s1.toks) (fun b u e=>Fh _ e) (FC _) ?_,rfl,q _ hf⟩
 exact⟨z,us,0,r,FF _ rfl⟩
end
abbrev Sp:=List V->Hp->VK->XK->Prop
abbrev E4:=List Env->Hp->Ft->XK->Fm->Ft->Prop
structure Env0 (P:F0) (w:GD) (K:W.Frag) (mg:Str->Option Fm) (base:Heap) (A:GN) (outer:List Env) (s:Ft) (H:Hp):Prop where
 frames:A.frames=some outer
 mod:Mod K mg base
 bs:∀b o,base.get? b=some o->s.heap.get? b=some o/\H b=none
 bsz:base.objs.size<=s.heap.objs.size
 funs:s.heap.FunFrames base outer
 frf:∀b∈frs outer,H b=none
 hok:E2 P w H s.heap
 bare:KU s.gens
noncomputable def CE(outer:List Env)(P:F0)(w:GD)(H:Hp)(s:Ft)(Q:VK)(u:Fm)(s':Ft):Prop :=
 ∃v H',s'.os=s.os/\KU s'.gens/\Un (frs outer) [] H H' s.heap s'.heap/\E2 P w H' s'.heap/\RelV v u/\Q v H'
noncomputable def CR(CX:E4)(outer:List Env)(P:F0)(w:GD)(H:Hp)(s:Ft)(Q:VK)(E:XK)(r:LP)(s':Ft):Prop :=
 match r with
 | .ok (.ret u)=>CE outer P w H s Q u s'
 | .ok _=>False
 | .error e=>CX outer H s E e s'
structure FnOk (P:F0) (w:GD) (K:W.Frag) (mg:Str->Option Fm) (base:Heap) (CX:E4) (k:Nat) (f:Addr) (fd:Il) (ps:List Str) (sp:Sp):Prop where
 len:∀vs H Q E,sp vs H Q E->vs.length=ps.length
 run:∀(A:GN)(outer:List Env)(s:Ft)(H:Hp)(args:Args)(us:List Fm)(vs:List V)(Q:VK)(E:XK),Room k A->Env0 P w K mg base A outer s H->LQ s fd args (ps.zip us)->cw vs us->sp vs H Q E ->
  HS (Gb P w) A (.call (.ref f) args) (CR CX outer P w H s Q E) s
section
variable{X:Cx}{pins:List (Addr×Obj)}{σ:St}{H:Hp}{s s':Ft}
theorem Inv.env0(I:Inv X pins σ H s):Env0 X.prog X.w X.K X.mg X.base X.A X.stack s H :=
 ⟨I.ok.frames,I.ok.mod,I.bs,Gq I.ok.bsz I.sz,I.stack,I.stkFree,I.hok,I.bare⟩
theorem Inv.after{Q:VK}(I:Inv X pins σ H s)(h:CE X.stack X.prog X.w H s Q u s'):EP X pins σ Q u s':=by
 obtain⟨v,H',os,bare,un,hok,r,q⟩:=h
 obtain⟨hh,g,d,t,os'⟩:=s'
 obtain rfl:os'=s.os:=os
 exact⟨v,H',I.call (h':=hh) (g':=g) (d':=d) (t':=t) (ch:=[]) un hok bare (fun b z=>absurd z (by simp)),r,q⟩
end
noncomputable def zp(sp:Sp)(dvs:List V)(E:XK)(t:TA):TE:=fun σ H Q=>t σ H fun vs H1=>sp (vs++dvs) H1 Q E
noncomputable def Binds(K:W.Frag)(fd:Il)(ps:List Str)(ds:List Fm):Prop :=
 ∀(s:Ft)(us:List Fm),K.In s.heap->(us++ds).length=ps.length->LQ s fd ⟨us,[]⟩ (ps.zip (us++ds))
theorem Binds.all{K:W.Frag}{ps:List Str}(h:∀us:List Fm,us.length=ps.length->bindArgs fd ⟨us,[]⟩=pure (ps.zip us)):Binds K fd ps []:=fun s us _ hl=>by
 rw[HM]at hl ⊢
 exact .of_eq (h us hl)
noncomputable def oI(CX:E4)(X:Cx)(E:XK):Prop:=∀(pins:List (Addr×Obj))(σ:St)(H:Hp)(s:Ft)(e:Fm)(s':Ft),Inv X pins σ H s->CX X.stack H s E e s'->X.xe e s'
section
variable{X:Cx}{CX:E4}{k:Nat}{f C:Addr}{fd:Il}{ps:List Str}{sp:Sp}{dvs:List V}{ds:List Fm}{E:XK}{x m:Str}{p pos apos:Pos}{e o:Expr}{es:List Expr}{ta:TE}{t:TA}
theorem wU{σ:St}{H:Hp}{Q:VK}{vs:List V}(F:FnOk X.prog X.w X.K X.mg X.base CX k f fd ps sp)(hr:Room k X.A)(hb:Binds X.K fd ps ds)(hd:cw dvs ds)(hx:oI CX X E)
 (I:Inv X pins σ H s)(r:cw vs us)(h:sp (vs++dvs) H Q E):FN (Gb X.prog X.w) X.A (call (.ref f) us) (EP X pins σ Q) X.xe s:=by
 have r2:cw (vs++dvs) (us++ds):=r.append hd
 have hl:(us++ds).length=ps.length:=by rw[<- r2.length];exact F.len _ _ _ _ h
 refine wpAny_call (JT (F.run X.A X.stack s H ⟨us,[]⟩ (us++ds) (vs++dvs) Q E hr I.env0 (hb s us I.kIn hl) r2 h) fun r s' hq=>?_)
 cases r with
 | error e=>exact hx pins σ H s e s' I hq
 | ok fl =>
   cases fl with
   | ret u=>exact I.after hq
   | next=>exact GC hq
   | brk=>exact GC hq
   | cont=>exact GC hq
theorem gY(F:FnOk X.prog X.w X.K X.mg X.base CX k f fd ps sp)(hr:Room k X.A)(hg:Gl X x)(hm:X.mg x=some (.ref f))(hk:W.keepIn X.K (.ref f)=true)(hb:Binds X.K fd ps ds)(hd:cw dvs ds)(hx:oI CX X E)
 (ha:PA X (e::es) t)(hdb:(x==("__debug__" : Str))=false:=by decide)(he:FA (e::es) X.env=(false,eval e X.env)::FA es X.env:=by rfl)(hpl:(Hf pos (FA es X.env)).any (·.1)=false:=by rfl) :
 PE X (.Call (.Name x p) (e::es) [] pos) (zp sp dvs E t):=by
 intro pins s σ H Q I h
 refine JU (nH I hg hm ?_ hdb)
 refine W.callWith_K (h₀:=X.base) I.ok.mod.kin hk (C7 (ha pos pins s σ H _ I h) fun us s1 ⟨vs,H1,I1,r,q⟩=>⟨I1.kIn,?_⟩) he hpl
 exact wU F hr hb hd hx I1 r q
end
section
variable{X:Cx}{CX:E4}{k:Nat}{f C:Addr}{fd:Il}{ps ks:List Str}{sp:Sp}{E:XK}{x m:Str}{p pos apos kpos:Pos}{e o:Expr}{es:List Expr}{kws:List Lu}{te ta:TE}{t tk:TA}{nm:Option Str}
variable{g:List Fm->List Fm->List Fm}{gV:List V->List V->List V}
end
structure FnScope (N P:List Str) (sc:Scope):Prop where
 kind:sc.kind = .function
 co:sc.isCoroutine=false
 gen:sc.isGenerator=false
 nd:N.Nodup
 pre:N.take P.length=P
 par:∀x∈P,sc.names.lookup x=some .local\/sc.names.lookup x=some .cell
 nofree:∀y∈sc.names,y.2 ≠ .free
theorem iO{kindOf:Str->Option IU}{x:Str}:∀{binds:List (Str×Fm)}{m:Str->Option Fm},(∀v,(x,v)∉binds)->bindL kindOf binds m x=m x
 | [],_,_=>rfl
 | (n,v)::r,m,h=>by
   unfold bindL
   rw[iO fun w hw=>h w (Fv _ hw)]
   split
   · have:x≠n:=by rintro rfl;exact h v FB
     simp[this]
   · rfl
theorem iQ{kindOf:Str->Option IU}{x:Str}:∀{binds:List (Str×Fm)}{m:Str->Option Fm},(∀v,(x,v)∉binds)->bindC kindOf binds m x=m x
 | [],_,_=>rfl
 | (n,v)::r,m,h=>by
   unfold bindC
   rw[iQ fun w hw=>h w (Fv _ hw)]
   split
   · rfl
   · have:x≠n:=by rintro rfl;exact h v FB
     simp[this]
theorem iP{kindOf:Str->Option IU}{x:Str}{v:Fm}:∀{P:List Str}{vs:List Fm}{i:Nat}{m:Str->Option Fm},P.Nodup->P[i]?=some x->vs[i]?=some v->kindOf x=some .local ->
 bindL kindOf (P.zip vs) m x=some v
 | [],_,_,_,_,h,_,_=>by simp at h
 | _::_,[],_,_,_,_,h,_=>by simp at h
 | p::P,w::vs,0,m,nd,h1,h2,hk=>by
   simp at h1 h2;subst h1;subst h2
   show bindL kindOf ((p,w)::P.zip vs) m p=_
   unfold bindL
   rw[iO fun v hv=>(Hy.mp nd).1 (HN hv).1,if_pos hk]
   simp
 | p::P,w::vs,i+1,m,nd,h1,h2,hk=>by
   show bindL kindOf ((p,w)::P.zip vs) m x=_
   unfold bindL
   exact iP (i:=i) (Hy.mp nd).2 (by simpa using h1) (by simpa using h2) hk
theorem iR{kindOf:Str->Option IU}{x:Str}{v:Fm}:∀{P:List Str}{vs:List Fm}{i:Nat}{m:Str->Option Fm},P.Nodup->P[i]?=some x->vs[i]?=some v->kindOf x≠some .local ->
 bindC kindOf (P.zip vs) m x=some v
 | [],_,_,_,_,h,_,_=>by simp at h
 | _::_,[],_,_,_,_,h,_=>by simp at h
 | p::P,w::vs,0,m,nd,h1,h2,hk=>by
   simp at h1 h2;subst h1;subst h2
   show bindC kindOf ((p,w)::P.zip vs) m p=_
   unfold bindC
   rw[iQ fun v hv=>(Hy.mp nd).1 (HN hv).1,if_neg hk]
   simp
 | p::P,w::vs,i+1,m,nd,h1,h2,hk=>by
   show bindC kindOf ((p,w)::P.zip vs) m x=_
   unfold bindC
   exact iR (i:=i) (Hy.mp nd).2 (by simpa using h1) (by simpa using h2) hk
noncomputable def start(N:List Str)(vs:List V):St:=vs.map some++FQ (N.length-vs.length) none
noncomputable def lC(CX:E4)(P:F0)(w:GD)(K:W.Frag)(mg:Str->Option Fm)(base:Heap)(N:List Str)(qual:Str)(scope:Scope)(f:Addr)(cd:Fm)(A:GN)(outer:List Env)(s:Ft)(H:Hp)(E:XK):Cx where
 prog:=P
 w:=w
 K:=K
 mg:=mg
 base:=base
 A:=A.deeper (J9 qual scope s.heap.objs.size f cd)
 N:=N
 s₀:=s
 H₀:=H
 env:=J9 qual scope s.heap.objs.size f cd
 outer:=outer
 stack:=J9 qual scope s.heap.objs.size f cd::outer
 ex:=[]
 calm:=true
 fn:=fun _=>true
 pn:=[]
 xe:=fun e s'=>FN (Gb P w) (A.deeper (J9 qual scope s.heap.objs.size f cd)) (leaving (J9 qual scope s.heap.objs.size f cd) e) (fun _ s''=>CX outer H s E e s'') (fun e' s''=>CX outer H s E e' s'') s'
theorem kJ{sc:Scope}{x:Str}(h:sc.names.lookup x=some .cell):∃c,(Hn n sc.names []).lookup x=some c:=by
 have q:=W.cellsFrom_some sc.names n [] (.inl h)
 exact Ic.mp q
theorem nM{CX:E4}{K:W.Frag}{mg:Str->Option Fm}{base:Heap}{N ps:List Str}{qual:Str}{cd:Fm}{outer:List Env}{s1:Ft}{H:Hp}{E:XK}{vs:List V}
 (S:FnScope N ps scope)(hd:A.handled=none)(e0:Env0 P w K mg base A outer s H)(hl:vs.length=ps.length)(r:cw vs us)
 (x:InCallC s s.heap.objs.size (bindL (J9 qual scope s.heap.objs.size f cd).kindOf (ps.zip us) fun _=>none) (Hn (s.heap.objs.size+1) scope.names []) (bindC (J9 qual scope s.heap.objs.size f cd).kindOf (ps.zip us) fun _=>none) s1) :
 Inv (lC CX P w K mg base N qual scope f cd A outer s H E) [] (start N vs) H s1:=by
 have hpl:ps.length<=N.length:=by have:=congrArg List.length S.pre;rw[GQ]at this;omega
 obtain⟨h1,tk,rfl,hk⟩:=x.done
 have noA:∀b:Addr,b∉(lC CX P w K mg base N qual scope f cd A outer s H E).ex:=fun b z=>absurd (show b∈([]:List Addr)from z) (by simp)
 refine⟨⟨e0.mod,S.kind,rfl,rfl,FC _,fun y z c h1 h2=>?_,fun y hy=>?_,fun y c _ h=>?_,fun _=>hd,GN.frames_deeper e0.frames,.inr ⟨rfl,rfl⟩,fun b z=>absurd z (noA b),e0.bs,e0.bsz,fun b _ _=>noA b,fun b z=>absurd z (noA b),e0.funs,e0.frf⟩,
  rfl,e0.bare,Un.kept hk,⟨_,x.toInCall.ns,fun i y v h1 h2 h3=>?_⟩,fun y c h=>⟨_,x.cell y c h⟩,e0.hok.fresh (FC _),fun y c h=>?_,fun p hp=>absurd (show p∈([]:List (Addr×Obj))from hp) (by simp),e0.hok.kept hk,?_⟩
 · exact name_of_addr x.apart (GU h1) (GU h2)
 · have hy:scope.names.lookup y=some .cell\/scope.names.lookup y=some .free:=hy
   rcases hy with hy|hy
   · exact kJ hy
   · exact absurd rfl (S.nofree _ (GU hy))
 · exact Lz (x.above y c (GU h))
 · have hi:i<vs.length:=by
     unfold start at h2
     by_cases hi:i<vs.length
     · exact hi
     · rw[HU (by simpa using hi)]at h2
       rw[IV]at h2
       split at h2<;>cases h2
   have ha:vs[i]?=some v:=by
    unfold start at h2
    rw[Ht (by simpa using hi),Gg]at h2
    cases e:vs[i]? with
    | none=>rw[e]at h2;cases h2
    | some a=>rw[e]at h2;cases h2;rfl
   obtain⟨u,hu,rv⟩:=r.get ha
   have hp:ps[i]?=some y:=by
    rw[<- S.pre,J_ (by omega)];exact h1
   have ndP:ps.Nodup:=by rw[<- S.pre];exact S.nd.sublist (List.take_sublist _ _)
   refine⟨u,rv,?_⟩
   rcases S.par y (KM hp)with k|k
   · exact .inl ⟨k,iP ndP hp hu k⟩
   · obtain⟨c,e⟩:=kJ (n:=s.heap.objs.size+1) k
     refine .inr ⟨.inl k,c,e,?_⟩
     have q:=x.cell y c e
     rw[iR ndP hp hu (by show scope.names.lookup y≠_;rw[k];decide)]at q
     exact q
 · exact e0.hok.fresh (Lz (x.above y c (GU h)))
 · unfold start
   show _=N.length
   rw[GK,Fq,List.length_replicate]
   omega
theorem Aa{CX:E4}{K:W.Frag}{mg:Str->Option Fm}{base:Heap}{k:Nat}{name qual:Str}{params:Arguments}{body:List Stmt}{dV kV doc pm cdv ct oc:Fm}{an od:Option Addr}
 {osl:Array (Option Fm)}{N ps:List Str}{sp:Sp}(lk:K.lookup f=some ⟨oc,od,.func (W.fnOf name qual params body scope dV kV doc pm an cdv ct),osl⟩)(hcd:W.codeIn K cdv qual=true)(S:FnScope N ps scope)
 (len:∀vs H Q E,sp vs H Q E->vs.length=ps.length)
 (hbody:∀(A:GN)(outer:List Env)(s:Ft)(H:Hp)(vs:List V)(Q:VK)(E:XK),Room k (A.deeper (J9 qual scope s.heap.objs.size f cdv))->sp vs H Q E ->
  ∃t,Ey (lC CX P w K mg base N qual scope f cdv A outer s H E) body t/\t {nx:=fun _ H'=>Q .non H',rt:=Q} (start N vs) H) :
 FnOk P w K mg base CX (k+1) f (W.fnOf name qual params body scope dV kV doc pm an cdv ct) ps sp:=by
 refine⟨len,fun A outer s H args us vs Q E hr e0 hb r hsp=>?_⟩
 have hl:=len _ _ _ _ hsp
 have KX:K.In s.heap:=e0.mod.kin.keeps fun b o e=>(e0.bs b o e).1
 have lim:s.heap.NoLimit:=e0.mod.nolimit.keeps fun b o e=>(e0.bs b o e).1
 have hkind:∀y∈ps.zip us,scope.names.lookup y.1=some .local\/(scope.names.lookup y.1=some .cell/\((Hn (s.heap.objs.size+1) scope.names []).lookup y.1).isSome=true):=fun⟨n,v⟩ hy=>by
  rcases S.par n (HN hy).1 with q|q
  · exact .inl q
  · exact .inr ⟨q,W.cellsFrom_some _ _ _ (.inl q)⟩
 refine codeAny_call_function hr.depth (KX _ _ lk) rfl S.co S.gen rfl (W.codeRec_of KX hcd) (hb _ _ _ _ ?_)
 refine wpAny_newFunctionEnv_cells S.kind hkind fun env he s1 x=>?_
 subst he
 refine⟨lim.keeps x.toInCall.keep,codeAny_func ?_⟩
 obtain⟨t,ht,hq⟩:=hbody A outer s H vs Q E (hr.deeper _) hsp
 have I:Inv (lC CX P w K mg base N qual scope f cdv A outer s H E) [] (start N vs) H s1:=nM S hr.hd e0 hl r x
 refine Gk (ht [] s1 (start N vs) H _ I hq) (fun fl s' hs=>?_) fun e s' hs=>hs
 have fin:∀{σ':St}{H':Hp}{v:V}{u:Fm},Inv (lC CX P w K mg base N qual scope f cdv A outer s H E) [] σ' H' s'->RelV v u->Q v H'->CE outer P w H s Q u s' :=
  fun{σ' H' v u} J rv q=>⟨v,H',J.os,J.bare,J.base,J.hok,rv,q⟩
 cases fl with
 | ret u =>
   obtain⟨v,σ',H',J,rv,q⟩:=hs
   exact fin J rv q
 | next =>
   obtain⟨σ',H',J,q⟩:=hs
   exact fin (v:=V.non) (u:=H_) J rfl q
 | brk =>
   obtain⟨_,_,_,q⟩:=hs
   exact GC q
 | cont =>
   obtain⟨_,_,_,q⟩:=hs
   exact GC q
section
variable{X:Cx}{x:Str}{p pos:Pos}{e:Expr}{es:List Expr}{t:TA}{id T:String}{r:List V->Hp->VK->Prop}
noncomputable def Df(r:List V->Hp->VK->Prop)(t:TA):TE:=fun σ H Q=>t σ H fun vs H1=>r vs H1 Q
theorem pG(hc:d_ X (.builtin id) r)(hg:Gl X x)(hm:X.mg x=none)(hv:Ih x=some (.builtin id))(ha:PA X (e::es) t)(hn:x ≠ "__name__" := by decide)(hdb:(x==("__debug__" : Str))=false:=by decide)
 (he:FA (e::es) X.env=(false,eval e X.env)::FA es X.env:=by rfl)(hpl:(Hf pos (FA es X.env)).any (·.1)=false:=by rfl):PE X (.Call (.Name x p) (e::es) [] pos) (Df r t):=by
 intro pins s σ H Q I h
 refine JU (dA I hg hm hv ?_ hn hdb)
 exact PyProof.Rows.callWith_builtin1 (C7 (ha pos pins s σ H _ I h) fun us s1 ⟨vs,H1,I1,r1,q1⟩=>hc pins s1 σ H1 vs us Q I1 r1 q1) he hpl
theorem nj(hc:d_ X (.type T) r)(hg:Gl X x)(hm:X.mg x=none)(hv:Ih x=some (.type T))(ha:PA X (e::es) t)(hn:x ≠ "__name__" := by decide)(hdb:(x==("__debug__" : Str))=false:=by decide)
 (he:FA (e::es) X.env=(false,eval e X.env)::FA es X.env:=by rfl)(hpl:(Hf pos (FA es X.env)).any (·.1)=false:=by rfl):PE X (.Call (.Name x p) (e::es) [] pos) (Df r t):=by
 intro pins s σ H Q I h
 refine JU (dA I hg hm hv ?_ hn hdb)
 exact Gz (C7 (ha pos pins s σ H _ I h) fun us s1 ⟨vs,H1,I1,r1,q1⟩=>hc pins s1 σ H1 vs us Q I1 r1 q1) he hpl
end
end L2
variable{H H' F F' F₀ H₀:L2.Hp}{v:L2.V}{X:L2.Cx}{σ:L2.St}{vs:List L2.V}{kvs:List (List L2.EL×L2.V)}
namespace HT
open PySem PyProof.Rows
section
open PySem.SeqAt
open PySem.AutoSeq1 (wpAny_loadPart')
open PySem.MeetsSeq PySem.MeetsSeq2 PySem.MeetsSeq3
end
section
variable{prog:F0}{w:GD}{A:GN}{E:Fm->Ft->Prop}{s:Ft}
theorem cat_tup{t:Addr}{vs ws:List Fm}(ht:Lg s.heap t vs.toArray)(hb:Lg s.heap b ws.toArray)(hv:vs≠[])
 (h1:ws=[]->Q (.ref t) s)(h2:ws≠[]->Q (.ref s.heap.objs.size) {s with heap:=s.heap.push {cls:=.type "tuple", data:=.seq (vs++ws).toArray}})
 (hsz:vs.length+ws.length<=sizeLine):FN (Gb prog w) A (Ir .Add (.ref t) (.ref b)) Q E s:=by
 obtain⟨⟨cls,dd,data,sl⟩,ho,hc,n,hd⟩:=id ht
 obtain⟨⟨cls2,dd2,data2,sl2⟩,ho2,hc2,n2,hd2⟩:=id hb
 simp only at hc hd hc2 hd2
 subst hc hd hc2 hd2
 have e:vs.toArray++ws.toArray=(vs++ws).toArray:=by simp
 by_cases hw:ws=[]
 · exact LA ⟨_,ho,rfl⟩ ⟨_,ho2,rfl⟩ Io IW Ho Hl (Hi _ _)
     (tuple_addW1 t b vs.toArray ws.toArray n n2 dd dd2 sl sl2 (by simpa using hv) (by simp[hw])) ⟨ho,ho2,h1 hw⟩
 · refine LA ⟨_,ho,rfl⟩ ⟨_,ho2,rfl⟩ Io IW Ho Hl (Hi _ _)
     (tuple_addW2 t b vs.toArray ws.toArray n n2 dd dd2 sl sl2 (by simpa using hv) (by simpa using hw) (by rw[FS,FS];exact hsz)) ⟨ho,ho2,?_⟩
   rw[e]
   exact h2 hw
noncomputable def sIx(n d:Nat):Option Int->Nat
 | none=>d
 | some v=>if v<0 then(v+(n:Int)).toNat else min v.toNat n
theorem sIx_none(n d:Nat):sIx n d none=d:=rfl
theorem sIx_nat(n d k:Nat):sIx n d (some (k:Int))=min k n:=by
 show(if(k:Int)<0 then((k:Int)+(n:Int)).toNat else min (k:Int).toNat n)=min k n
 rw[if_neg (by omega),Gy]
theorem wS(n d:Nat)(hd:d<=n)(o:Option Int):sIx n d o<=n:=by
 cases o with
 | none=>exact hd
 | some v =>
   show(if v<0 then(v+(n:Int)).toNat else min v.toNat n)<=n
   by_cases hv:v<0
   · rw[if_pos hv];omega
   · rw[if_neg hv];exact Nat.min_le_right _ _
theorem ol(v:Int)(n d:Nat):(if v<0 then max (v+(n:Int)) 0 else min v (n:Int))=((sIx n d (some v):Nat):Int):=by
 show(if v<0 then max (v+(n:Int)) 0 else min v (n:Int))=(((if v<0 then(v+(n:Int)).toNat else min v.toNat n):Nat):Int)
 by_cases hv:v<0
 · simp only[if_pos hv];omega
 · simp only[if_neg hv];omega
theorem lx(lo hi:Option Int)(n:Nat):II lo hi 1 (n:Int)=(((sIx n 0 lo:Nat):Int),((sIx n n hi:Nat):Int)):=by
 have h1:¬((1:Int)<0):=by omega
 unfold II
 simp only[h1,if_false]
 refine Prod.ext ?_ ?_
 · cases lo with
   | none=>rfl
   | some v=>exact ol v n 0
 · cases hi with
   | none=>rfl
   | some v=>exact ol v n n
theorem lh(i j:Nat):GX (i:Int) (j:Int) 1=j-i:=by
 unfold GX
 have h1:(1:Int)>0:=by omega
 simp only[h1,if_true,LB]
 split<;>omega
theorem slicePart_{v:Fm}{o:Option Int}{Q:Option Int->Ft->Prop}(p:Kv v o)(h:Q o s):FN (Gb prog w) A (Builtin.Slice.slicePartIndex v) Q E s:=by
 cases p with
 | none=>exact slicePart_none h
 | int i t=>exact slicePart_int h
theorem sliceApplied_gen{sl:Addr}{vl vu:Fm}{lo hi:Option Int}{Q:Int×Int×Nat->Ft->Prop}(hs:s.heap.IsSliceOf sl vl vu .none)(pl:Kv vl lo)(pu:Kv vu hi)
 (h:Q (((sIx n 0 lo:Nat):Int),1,sIx n n hi-sIx n 0 lo) s):FN (Gb prog w) A (HV (.ref sl) (pure (n:Int))) Q E s:=by
 obtain⟨os,hos,hcs,hds⟩:=id hs
 unfold HV J4
 refine Fb (Fb (F_ hos hds (x:=vl) rfl (Fb (F_ hos hds (x:=vu) rfl (Fb (F_ hos hds (x:=.none) rfl (Fj ?_)))))))
 refine Fb (slicePart_none ?_)
 show FN _ _ (if((1:Int)==0)=true then _ else _) _ _ s
 rw[if_neg (by decide)]
 refine Fb (slicePart_ pl (Fb (slicePart_ pu (Fb (Fj ?_)))))
 show FN _ _ (match II lo hi 1 (n:Int)with|(lo,hi)=>pure (lo,(1:Int),GX lo hi 1)) _ _ s
 rw[lx lo hi n]
 show FN _ _ (pure (((sIx n 0 lo:Nat):Int),(1:Int),GX ((sIx n 0 lo:Nat):Int) ((sIx n n hi:Nat):Int) 1)) _ _ s
 rw[lh]
 exact Fj h
theorem pz(xs:Array Fm)(i k:Nat):((FJ k).filterMap fun(m:Nat)=>xs[((i:Int)+(m:Int)*1).toNat]?).toArray=((xs.toList.drop i).take k).toArray:=by
 have e:(fun(m:Nat)=>xs[((i:Int)+(m:Int)*1).toNat]?)=fun m=>xs[i+m]?:=by
  funext m
  have:((i:Int)+(m:Int)*1).toNat=i+m:=by omega
  rw[this]
 rw[e]
 have:=pick_run xs i k
 rw[List.filterMap_map]at this
 have e2:((fun x=>xs[x]?) ∘ fun x=>i+x)=fun m=>xs[i+m]?:=rfl
 rw[e2]at this
 rw[this]
theorem getItem_tuple_cut{t sl:Addr}{items:Array Fm}{vl vu:Fm}{lo hi:Option Int}(ht:Lg s.heap t items)(hs:s.heap.IsSliceOf sl vl vu .none)(pl:Kv vl lo)(pu:Kv vu hi)
 (hw:¬(sIx items.size 0 lo=0/\sIx items.size items.size hi=items.size))
 (h:Q (.ref s.heap.objs.size) {s with heap:=s.heap.push {cls:=.type "tuple", data:=.seq ((items.toList.drop (sIx items.size 0 lo)).take (sIx items.size items.size hi-sIx items.size 0 lo)).toArray}})
 (hsz:items.size<=sizeLine):FN (Gb prog w) A (JG (.ref t) (.ref sl)) Q E s:=by
 have htake:sizeOk (.seq ((items.toList.drop (sIx items.size 0 lo)).take (sIx items.size items.size hi-sIx items.size 0 lo)).toArray):=by
  show((items.toList.drop (sIx items.size 0 lo)).take (sIx items.size items.size hi-sIx items.size 0 lo)).toArray.size<=sizeLine
  rw[FS,GQ,HX,IL]
  omega
 have hj:sIx items.size items.size hi<=items.size:=wS _ _ (FC _) hi
 obtain⟨os,hos,hcs,hds⟩:=id hs
 have hTs:s.TypeIs (.ref sl) "slice" := ⟨os,hos,hcs⟩
 unfold JG
 try with_reducible refine HH ?_
 first|refine Fb (Fj ?_)|skip
 refine Fb (IB ht.typeIs (by decide) ?_)
 refine Fb (Ge (name:=Str.ofString "__getitem__") ht.typeIs Ga
  (GF Ga ht.typeIs entry_tuple_getitem ?_ (JV _ _)))
 show FN _ _ (HW (.ref t) >>= _) _ _ s
 refine Fb (IZ ht ?_)
 refine Fb (JW hTs ?_)
 rw[if_pos (by decide)]
 refine Fb (sliceApplied_gen hs pl pu ?_)
 have hno:¬((((sIx items.size 0 lo:Nat):Int)==0&&(1:Int)==1&&(sIx items.size items.size hi-sIx items.size 0 lo)==items.size)=true):=by
  intro q
  rw[Jv,Jv]at q
  have q1:((sIx items.size 0 lo:Nat):Int)=0:=eq_of_beq q.1.1
  have q2:sIx items.size items.size hi-sIx items.size 0 lo=items.size:=eq_of_beq q.2
  exact hw ⟨by omega,by omega⟩
 show FN _ _ (if(((sIx items.size 0 lo:Nat):Int)==0&&(1:Int)==1&&(sIx items.size items.size hi-sIx items.size 0 lo)==items.size)=true then _ else _) _ _ s
 rw[if_neg hno,pz]
 first
  | exact Fb (m:=Gr _) (Go (Fj ⟨_,rfl,Fj h⟩) htake)
  | exact Fb (m:=Gr _) (Go (Fb (Fj (Fj ⟨_,rfl,Fj h⟩))) htake)
  | exact Fb (Fb (m:=Gr _) (Go (Fj (Fj ⟨_,rfl,Fj h⟩)) htake))
  | exact Fb (Fb (m:=Gr _) (Go (Fj ⟨_,rfl,Fj h⟩) htake))
end
end HT
namespace L2
abbrev TO:=St->Hp->(Option Int->Hp->Prop)->Prop
noncomputable def PO(X:Cx)(e:Option Expr)(t:TO):Prop :=
 ∀ (pins:List (Addr×Obj))(s:Ft)(σ:St)(H:Hp)(Q:Option Int->Hp->Prop),Inv X pins σ H s->t σ H Q ->
   FN (Gb X.prog X.w) X.A (evalPart e X.env) (fun u s'=>∃o H',Inv X pins σ H' s'/\Kv u o/\Q o H') X.xe s
noncomputable def tf:TO:=fun _ H Q=>Q none H
noncomputable def zd(t:TE):TO:=fun σ H Q=>t σ H fun x H1=>∃i,x = .int i/\Q (some i) H1
section
variable{X:Cx}{e:Expr}{te:TE}{lo hi:Option Expr}{tl th:TO}{pos p2:Pos}
theorem tV:PO X none tf:=by
 intro pins s σ H Q I h
 rw[Ll]
 exact Fj ⟨none,H,I,.none,h⟩
theorem m6(h:PE X e te):PO X (some e) (zd te):=by
 intro pins s σ H Q I hw
 rw[evalPart_some]
 refine C7 (h pins s σ H _ I hw) fun u s1 ⟨x,H1,I1,r1,q1⟩=>?_
 obtain⟨i,rfl,q⟩:=q1
 obtain⟨t,rfl⟩:=r1
 exact⟨some i,H1,I1,.int i t,q⟩
noncomputable def Es(X:Cx)(r:V->Option Int->Option Int->Hp->VK->Prop):Prop :=
 ∀ (pins:List (Addr×Obj))(s:Ft)(σ:St)(H:Hp)(x:V)(v vl vu:Fm)(lo hi:Option Int)(sl:Addr)(Q:VK),Inv X pins σ H s->RelV x v->s.heap.IsSliceOf sl vl vu .none->Kv vl lo->Kv vu hi->r x lo hi H Q ->
   ∃T id,Lv (.type T) "__getitem__" = pure (some (.builtin id))/\s.TypeIs v T/\FN (Gb X.prog X.w) X.A (JG v (.ref sl)) (EP X pins σ Q) X.xe s
noncomputable def Da(r:V->Option Int->Option Int->Hp->VK->Prop)(te:TE)(tl th:TO):TE:=fun σ H Q=>te σ H fun x H1=>tl σ H1 fun l H2=>th σ H2 fun u H3=>r x l u H3 Q
theorem jZ{r:V->Option Int->Option Int->Hp->VK->Prop}(hr:Es X r)(he:PE X e te)(hl:PO X lo tl)(hu:PO X hi th):PE X (.Subscript e (.Slice lo hi none p2) pos) (Da r te tl th):=by
 intro pins s σ H Q I h
 refine Lw (C7 (he pins s σ H _ I h) fun v s1 ⟨x,H1,I1,r1,q1⟩=>?_)
 refine wpAny_Slice (C7 (hl pins s1 σ H1 _ I1 q1) fun vl s2 ⟨l,H2,I2,pl,q2⟩=>C7 (hu pins s2 σ H2 _ I2 q2) fun vu s3 ⟨u,H3,I3,pu,q3⟩=>?_)
 rw[Ll]
 refine Fj ?_
 have I4:Inv X pins σ H3 {s3 with heap:=s3.heap.push {cls:=.type "slice", data:=.fields #[vl,vu,.none]}}:=I3.kept (t':=s3.toks) fun b ob q=>Fh _ q
 obtain⟨T,id,hT,ht,hg⟩:=hr pins {s3 with heap:=s3.heap.push {cls:=.type "slice", data:=.fields #[vl,vu,.none]}} σ H3 x v vl vu l u s3.heap.objs.size Q I4 r1 (Heap.IsSliceOf.new ..) pl pu q3
 show FN (Gb X.prog X.w) X.A (Lm e (.Slice lo hi none p2) v (.ref s3.heap.objs.size)) (EP X pins σ Q) X.xe {s3 with heap:=s3.heap.push {cls:=.type "slice", data:=.fields #[vl,vu,.none]}}
 exact tail_any (ops:=[.ref s3.heap.objs.size,v]) ht hT hg (by with_unfolding_all rfl)
noncomputable def qC(xs:List V)(lo hi:Option Int):List V:=(xs.drop (HT.sIx xs.length 0 lo)).take (HT.sIx xs.length xs.length hi-HT.sIx xs.length 0 lo)
theorem fQ(xs:List V)(lo hi:Option Int):(qC xs lo hi).length<=xs.length:=by
 unfold qC
 rw[GQ,HX]
 omega
noncomputable def Bn(K:W.Frag):V->Option Int->Option Int->Hp->VK->Prop:=fun x lo hi H Q=>∃a xs,x = .ref a/\Em K H a xs /\
 ¬(HT.sIx xs.length 0 lo=0/\HT.sIx xs.length xs.length hi=xs.length)/\∀p,H p=none->Q (.ref p) (upd H p (.tup (qC xs lo hi)))
theorem wM:Es X (Bn X.K):=by
 intro pins s σ H x v vl vu lo hi sl Q I rx hs pl pu h
 obtain⟨a,xs,rfl,hx,hw,q⟩:=h
 cases rx
 obtain⟨its,r,ht,hz⟩:=I.tuple hx
 have hlen:its.toArray.size=xs.length:=by rw[FS];exact r.length.symm
 refine⟨"tuple", _,Ga.lookup,ht.typeIs,?_⟩
 refine HT.getItem_tuple_cut ht hs pl pu (by rw[hlen];exact hw) ?_ (by rw[hlen];exact hz)
 rw[hlen]
 refine⟨.ref s.heap.objs.size,_,I.laid (t':=s.toks) (o:=.tup (qC xs lo hi)) (fun b ob q=>Fh _ q) (FC _) ?_,rfl,q _ (I.hok.fresh (FC _))⟩
 exact⟨Gq (fQ xs lo hi) hz,_,(r.drop (HT.sIx xs.length 0 lo)).take (HT.sIx xs.length xs.length hi-HT.sIx xs.length 0 lo),oJ.new _ _⟩
noncomputable def tM(K:W.Frag):R2:=fun x y H Q=>∃a b xs ys,x = .ref a/\y = .ref b/\Em K H a xs/\Em K H b ys/\xs≠[]/\xs.length+ys.length<=sizeLine /\
 (ys=[]->Q (.ref a) H)/\(ys≠[]->∀p,H p=none->Q (.ref p) (upd H p (.tup (xs++ys))))
theorem cw.nil_iff{xs:List V}(r:cw xs us):us=[]↔xs=[]:=by
 cases r with
 | nil=>simp
 | cons _ _=>simp
theorem uh:EH X (Ir .Add) (tM X.K):=by
 intro pins s σ H x y v u Q I rx ry h
 obtain⟨a,b,xs,ys,rfl,rfl,ha,hb,hx,hz,q1,q2⟩:=h
 cases rx
 cases ry
 obtain⟨its,r1,p1,_⟩:=I.tuple ha
 obtain⟨its2,r2,p2,_⟩:=I.tuple hb
 refine HT.cat_tup p1 p2 (fun z=>hx (r1.nil_iff.mp z)) (fun z=>⟨.ref a,H,I,rfl,q1 (r2.nil_iff.mp z)⟩) (fun z=>?_) (by rw[<- r1.length,<- r2.length];exact hz)
 refine⟨.ref s.heap.objs.size,_,I.laid (t':=s.toks) (o:=.tup (xs++ys)) (fun b ob q=>Fh _ q) (FC _) ?_,rfl,q2 (fun w=>z (r2.nil_iff.mpr w)) _ (I.hok.fresh (FC _))⟩
 exact⟨by rw[GK];exact hz,_,r1.append r2,oJ.new _ _⟩
end
noncomputable def ixN(n:Nat)(i:Int):Option Nat:=if 0<=i then(if i<n then some i.toNat else none)else if -(n:Int)<=i then some (i+n).toNat else none
noncomputable def atI{α:Type}(xs:List α)(i:Int):Option α:=(ixN xs.length i).bind fun j=>xs[j]?
theorem uB{i:Int}(h:ixN n i=some j):seqIndex? i n=some j/\j<n /\ -(n:Int)<=i/\i<n:=by
 unfold ixN at h
 by_cases h0:0<=i
 · rw[if_pos h0]at h
   by_cases h1:i<n
   · rw[if_pos h1]at h
     have e:i.toNat=j:=Gv h
     exact⟨by rw[seqIndex_of h0 h1,e],by omega,by omega,h1⟩
   · rw[if_neg h1]at h;cases h
 · rw[if_neg h0]at h
   by_cases h1 : -(n:Int)<=i
   · rw[if_pos h1]at h
     have e:(i+n).toNat=j:=Gv h
     exact⟨by rw[seqIndex_neg (by omega) h1,e],by omega,h1,by omega⟩
   · rw[if_neg h1]at h;cases h
theorem jE{xs:List α}{i:Int}{v:α}(h:atI xs i=some v):∃j,seqIndex? i xs.length=some j/\xs[j]?=some v/\j<xs.length /\ -(xs.length:Int)<=i/\i<xs.length:=by
 unfold atI at h
 cases e:ixN xs.length i with
 | none=>rw[e]at h;cases h
 | some j =>
   rw[e]at h
   obtain⟨h1,h2,h3,h4⟩:=uB e
   exact⟨j,h1,h,h2,h3,h4⟩
theorem bQ{xs:List α}{v:α}(h:xs[j]?=some v):atI xs (j:Int)=some v:=by
 have hj:j<xs.length:=(FK.mp h).1
 have e:ixN xs.length (j:Int)=some j:=by
  unfold ixN
  rw[if_pos (by omega),if_pos (by omega)];simp
 unfold atI;rw[e];exact h
noncomputable def fV(b:Expr):Prop:=∀o i,K0 b false o i=operate [o,i] (JG o i)
noncomputable def EQ(X:Cx)(r:R2):Prop :=
 ∀ (value slice:Expr)(pins:List (Addr×Obj))(s:Ft)(σ:St)(H:Hp)(x y:V)(v u:Fm)(Q:VK),Inv X pins σ H s->RelV x v->RelV y u->r x y H Q ->
   K0 slice false v u=operate [v,u] (JG v u)->FN (Gb X.prog X.w) X.A (Lm value slice v u) (EP X pins σ Q) X.xe s
noncomputable def EJ(X:Cx)(id:String)(r:V->List V->Hp->VK->Prop):Prop :=
 ∀ (pins:List (Addr×Obj))(s:Ft)(σ:St)(H:Hp)(x:V)(xs:List V)(v:Fm)(us:List Fm)(Q:VK),Inv X pins σ H s->RelV x v->cw xs us->r x xs H Q ->
   FN (Gb X.prog X.w) X.A (call (.builtin id) (v::us)) (EP X pins σ Q) X.xe s
section
variable{X:Cx}{a b:Expr}{ta tb:TE}{pos:Pos}
theorem EQ.or{r r':R2}(h:EQ X r)(h':EQ X r'):EQ X (fun x y H Q=>r x y H Q\/r' x y H Q):=by
 intro value slice pins s σ H x y v u Q I rx ry q hs
 rcases q with q|q
 · exact h value slice pins s σ H x y v u Q I rx ry q hs
 · exact h' value slice pins s σ H x y v u Q I rx ry q hs
theorem pB{r:R2}(hr:EQ X r)(ha:PE X a ta)(hb:PE X b tb)(hs:fV b):PE X (.Subscript a b pos) (Dc r ta tb):=by
 intro pins s σ H Q I h
 exact Lw (Ag ha hb I h fun v u s2 x y H2 I2 rx ry q=>hr a b pins s2 σ H2 x y v u Q I2 rx ry q (hs _ _))
noncomputable def Bq(K:W.Frag):R2:=fun x y H Q=>∃p xs i v,x = .ref p/\y = .int i/\Eo K H p xs/\atI xs i=some v/\Q v H
noncomputable def Bo(K:W.Frag):R2:=fun x y H Q=>∃p xs i v,x = .ref p/\y = .int i/\Em K H p xs/\atI xs i=some v/\Q v H
noncomputable def Bp:R2:=fun x y H Q=>∃z i c,x = .str z/\y = .int i/\z.length<=sizeLine/\atI z.cps.toList i=some c/\Q (.str ⟨#[c]⟩) H
theorem zQ:EQ X (Bq X.K):=by
 intro value slice pins s σ H x y v u Q I rx ry h hs
 obtain⟨p,xs,i,z,rfl,rfl,hq,he,q⟩:=h
 cases rx
 obtain⟨t,rfl⟩:=ry
 obtain⟨its,r,pl,hz⟩:=I.list hq
 obtain⟨j,h1,h2,h3,h4,h5⟩:=jE he
 obtain⟨w,ew,rw'⟩:=r.get h2
 have hl:=r.length
 have hn:=ki
 have fin:EP X pins σ Q w s:=⟨z,H,I,rw',q⟩
 by_cases h0:0<=i
 · have hj:i.toNat=j:=by
     rw[seqIndex_of h0 h5]at h1
     exact Gv h1
   exact item_listR pl.isList h0 (by omega) (by rw[hj];simpa using ew) fin hs
 · have hj:(i+(its.toArray.size:Int)).toNat=j:=by
     rw[seqIndex_neg (by omega) h4]at h1
     rw[FS,<- hl]
     exact Gv h1
   exact Kr (x:=w) pl.isList.typeIs slot_list_getitem.lookup
    (wpAny_getItem_list_neg (Q:=fun r s'=>r=w/\EP X pins σ Q r s') pl.isList (by omega) (by rw[FS]<;>omega) (by omega) (by rw[hj];simpa using ew) ⟨rfl,fin⟩) hs
theorem Bt:EQ X (Bo X.K):=by
 intro value slice pins s σ H x y v u Q I rx ry h hs
 obtain⟨p,xs,i,z,rfl,rfl,hq,he,q⟩:=h
 cases rx
 obtain⟨t,rfl⟩:=ry
 obtain⟨its,r,pl,hz⟩:=I.tuple hq
 obtain⟨j,h1,h2,h3,h4,h5⟩:=jE he
 obtain⟨w,ew,rw'⟩:=r.get h2
 have hl:=r.length
 have hn:=ki
 have fin:EP X pins σ Q w s:=⟨z,H,I,rw',q⟩
 exact Kr (x:=w) pl.typeIs slot_tuple_getitem.lookup
  (getItem_tuple (j:=j) (Q:=fun r s'=>r=w/\EP X pins σ Q r s') pl (by omega) (by omega) (by rw[FS,<- hl];exact h1) (by simpa using ew) ⟨rfl,fin⟩) hs
theorem xU:EQ X Bp:=by
 intro value slice pins s σ H x y v u Q I rx ry h hs
 obtain⟨z,i,c,rfl,rfl,hz,he,q⟩:=h
 obtain⟨t,rfl⟩:=rx
 obtain⟨t',rfl⟩:=ry
 obtain⟨j,h1,h2,h3,h4,h5⟩:=jE he
 have hl:z.cps.toList.length=z.length:=by simp[Str.length]
 rw[hl]at h1 h4 h5
 have hn:=ki
 exact tail_any (typeIs_str s z t) slot_str_getitem.lookup (getItem_str (c:=c) (by
  have e1:decide (i < -(2^63:Int))=false:=decide_eq_false (by omega)
  have e2:decide (i ≥ 2^63)=false:=decide_eq_false (by omega)
  rw[e1,e2,Bool.or_false]) (by rw[h1];simpa using h2) ⟨.str ⟨#[c]⟩,H,I.tok _,⟨_,rfl⟩,q⟩) hs
noncomputable def Du(K:W.Frag):R2:=fun x y H Q=>Bq K x y H Q\/Bo K x y H Q\/Bp x y H Q
theorem kr:EQ X (Du X.K):=zQ.or (Bt.or xU)
theorem ik(lo hi:Option Int)(n:Nat):(Jk lo hi none n).1=((HT.sIx n 0 lo:Nat):Int)/\(Jk lo hi none n).2.1=((HT.sIx n n hi:Nat):Int)/\(Jk lo hi none n).2.2=1:=by
 refine⟨?_,?_,rfl⟩
 · cases lo with
   | none=>simp[Jk,HT.sIx]
   | some i =>
     simp only[Jk,HT.sIx,Option.getD_none,show(1:Int)>0 by decide,if_true]
     by_cases h:i<0
     · simp only[h,if_true]<;>omega
     · simp only[h,if_false]<;>omega
 · cases hi with
   | none=>simp[Jk,HT.sIx]
   | some i =>
     simp only[Jk,HT.sIx,Option.getD_none,show(1:Int)>0 by decide,if_true]
     by_cases h:i<0
     · simp only[h,if_true]<;>omega
     · simp only[h,if_false]<;>omega
theorem gK(its:List Fm)(lo hi:Option Int):slicePick its.toArray lo hi none=((its.drop (HT.sIx its.length 0 lo)).take (HT.sIx its.length its.length hi-HT.sIx its.length 0 lo)).toArray:=by
 obtain⟨h1,h2,h3⟩:=ik lo hi its.toArray.size
 unfold slicePick
 rw[h1,h2,h3]
 simp only[sliceRange_one,pick_run,FS]<;>rfl
noncomputable def B0(K:W.Frag):V->Option Int->Option Int->Hp->VK->Prop:=fun x lo hi H Q=>∃a xs,x = .ref a/\Eo K H a xs/\∀p,H p=none->Q (.ref p) (upd H p (.lst (qC xs lo hi)))
theorem tD:Es X (B0 X.K):=by
 intro pins s σ H x v vl vu lo hi sl Q I rx hs pl pu h
 obtain⟨a,xs,rfl,hx,q⟩:=h
 cases rx
 obtain⟨its,r,ht,hz⟩:=I.list hx
 have hlen:=r.length
 refine⟨"list", _,slot_list_getitem.lookup,ht.isList.typeIs,?_⟩
 refine wpAny_getItem_list_slice ht.isList hs pl pu .none (by simp) ?_ (by rw[FS]<;>omega)
 rw[gK,<- hlen]
 refine⟨.ref s.heap.objs.size,_,I.laid (t':=s.toks) (o:=.lst (qC xs lo hi)) (fun b ob q=>Fh _ q) (FC _) ?_,rfl,q _ (I.hok.fresh (FC _))⟩
 exact⟨Gq (fQ xs lo hi) hz,_,0,(r.drop (HT.sIx xs.length 0 lo)).take (HT.sIx xs.length xs.length hi-HT.sIx xs.length 0 lo),FF _ rfl⟩
theorem eS:d_ X (.builtin "len") (fun xs H Q=>∃p ys,xs=[.ref p]/\(Eo X.K H p ys\/Em X.K H p ys)/\Q (.int ys.length) H):=by
 intro pins s σ H xs us Q I r h
 obtain⟨p,ys,rfl,hq,q⟩:=h
 obtain⟨u,rfl,rx⟩:=vals1 r
 cases rx
 have hn:=ki
 rcases hq with hq|hq
 · obtain⟨its,r',pl,hz⟩:=I.list hq
   have hlen:=r'.length
   exact Calls.call_len_list pl.isList (by simp only[FS]<;>omega) ⟨.int ys.length,H,I.tok _,⟨s.toks+1,by rw[FS,hlen]⟩,q⟩
 · obtain⟨its,r',pl,hz⟩:=I.tuple hq
   have hlen:=r'.length
   exact len_tuple pl (by simp only[FS]<;>omega) ⟨.int ys.length,H,I.tok _,⟨s.toks+1,by rw[FS,hlen]⟩,q⟩
theorem hU:d_ X (.type "tuple") (fun xs H Q=>∃p ys,xs=[.ref p]/\((Eo X.K H p ys/\∀l,H l=none->Q (.ref l) (upd H l (.tup ys)))\/(Em X.K H p ys/\Q (.ref p) H))):=by
 intro pins s σ H xs us Q I r h
 obtain⟨p,ys,rfl,h⟩:=h
 obtain⟨u,rfl,rx⟩:=vals1 r
 cases rx
 rcases h with⟨hq,q⟩|⟨hq,q⟩
 · obtain⟨its,r',pl,hz⟩:=I.list hq
   have hlen:=r'.length
   refine call_tuple_list pl.isList (fun h' kp=>?_) (by simp only[FS]<;>omega)
   have I1:Inv X pins σ H {s with heap:=h' }:=I.kept (t':=s.toks) kp
   have I2:Inv X pins σ (upd H h'.objs.size (.tup ys)) {s with heap:=h'.push {cls:=.type "tuple", data:=.seq its.toArray}} :=
    I1.laid (t':=s.toks) (fun b o e=>Fh _ e) (FC _) (show da X.prog X.w _ _ _ (.tup ys)from⟨hz,its,r',oJ.new _ _⟩)
   exact⟨.ref h'.objs.size,_,I2,rfl,q _ (I1.hok.fresh (FC _))⟩
 · obtain⟨its,r',pl,hz⟩:=I.tuple hq
   exact call_tuple_same pl ⟨.ref p,H,I,rfl,q⟩
noncomputable def C0(K:W.Frag)(T:String)(x:V)(H:Hp):Prop:=match x with
 | .str _=>T = "str"
 | .int _=>T = "int"
 | .ref p=>(T = "list" /\ ∃xs,Eo K H p xs)\/(T = "tuple" /\ ∃xs,Em K H p xs) \/
     (T = "dict" /\ ((∃kvs,H p=some (.dK kvs))\/∃kvs,H p=some (.dT kvs)))\/(T = "set" /\ ∃S n,H p=some (.set S n))
 | _=>False
theorem wn{T:String}{x:V}{v:Fm}(I:Inv X pins σ H s)(r:RelV x v)(ty:C0 X.K T x H) :
 s.TypeIs v T/\∀a,v = .ref a->∃ob,s.heap.get? a=some ob/\ob.dict=none:=by
 cases x with
 | str z =>
   obtain⟨t,rfl⟩:=r
   cases(show T = "str" from ty)
   exact⟨typeIs_str s z t,fun _ e=>nomatch e⟩
 | int i =>
   obtain⟨t,rfl⟩:=r
   cases(show T = "int" from ty)
   exact⟨typeIs_int s i t,fun _ e=>nomatch e⟩
 | ref p =>
   cases r
   rcases ty with⟨rfl,xs,hq⟩|⟨rfl,xs,hq⟩|⟨rfl,hk⟩|⟨rfl,S,n,hk⟩
   · obtain⟨its,_,pl,_⟩:=I.list hq
     refine⟨pl.isList.typeIs,fun a e=>?_⟩
     cases e
     obtain⟨o,n,e,c,hd,_⟩:=pl
     exact⟨o,e,hd⟩
   · obtain⟨o,e1,e2,e3⟩:=I.tupleD hq
     refine⟨⟨o,e1,e2⟩,fun a e=>?_⟩
     cases e
     exact⟨o,e1,e3⟩
   · have z:∃o,s.heap.get? p=some o/\o.ExactDict:=by
       rcases hk with⟨kvs,hk⟩|⟨kvs,hk⟩
       · obtain⟨_,_,_,_,o,_,_,e,ex,_⟩:=I.hok p _ hk
         exact⟨o,e,ex⟩
       · obtain⟨_,_,_,_,o,_,_,e,ex,_⟩:=I.hok p _ hk
         exact⟨o,e,ex⟩
     obtain⟨o,e,ex⟩:=z
     refine⟨⟨o,e,ex.1⟩,fun a e2=>?_⟩
     cases e2
     exact⟨o,e,ex.2.1⟩
   · obtain⟨o,_,_,_,e,ex,_⟩:=I.hok p _ hk
     refine⟨⟨o,e,ex.1⟩,fun a e2=>?_⟩
     cases e2
     exact⟨o,e,ex.2.1⟩
 | _=>exact GC ty
noncomputable def Dg(K:W.Frag)(T:String)(r:V->List V->Hp->VK->Prop)(to:TE)(t:TA):TE:=fun σ H Q=>to σ H fun x H1=>C0 K T x H1/\t σ H1 fun xs H2=>r x xs H2 Q
variable{o e:Expr}{es:List Expr}{to:TE}{t:TA}{name:Str}{apos cpos:Pos}{T id:String}{r:V->List V->Hp->VK->Prop}
theorem zE(pa:PlainAttrs T)(slot:Slot T name id)(hty:typeOf (.builtin id)=pure (.type "method_descriptor"))(hm:EJ X id r)(ho:PE X o to)(ha:PA X (e::es) t)
 (hbase:Ln o name X.env (eval o X.env)=eval o X.env:=by rfl)
 (hfew:((Hf cpos (FA (e::es) X.env)).all (fun x=>!x.1)&&(backToKw cpos (LR [] X.env)).all (fun x=>x.1.isSome)
  && decide ((e::es).length+([]:List Lu).length+(if([]:List Lu).isEmpty then 0 else 1)<30))=true:=by rfl)
 (hline:(apos.endLine==cpos.line)=true:=by rfl)(hs:FA (e::es) X.env=(false,eval e X.env)::FA es X.env:=by rfl)(hplain:(Hf cpos (FA es X.env)).any (·.1)=false:=by rfl) :
 PE X (.Call (.Attribute o name apos) (e::es) [] cpos) (Dg X.K T r to t):=by
 intro pins s σ H Q I h
 refine wpAny_Call_method_late hbase hfew hline rfl (C7 (ho pins s σ H _ I h) fun v s1 ⟨x,H1,I1,r1,ty,q1⟩=>?_)
 obtain⟨h1,h2⟩:=wn I1 r1 ty
 refine⟨T,id,pa,slot,hty,h1,h2,?_⟩
 have hA:=ha cpos pins s1 σ H1 _ I1 q1
 rw[hs]at hA ⊢
 refine Calls.callWith_builtin (by show(false||(Hf cpos (FA es X.env)).any (·.1))=false;rw[hplain]<;>rfl) (Calls.evalArgs_plain ?_)
 exact C7 hA fun us s2 ⟨vs,H2,I2,r2,q2⟩=>hm pins s2 σ H2 x vs v us Q I2 r1 r2 q2
end
noncomputable def EK(X:Cx)(id:String)(r:V->List V->Hp->VK->Prop):Prop :=
 ∀ (pins:List (Addr×Obj))(s:Ft)(σ:St)(H:Hp)(x:V)(xs:List V)(v:Fm)(us:List Fm)(Q:VK),Inv X pins σ H s->RelV x v->cw xs us->r x xs H Q ->
   FN (Gb X.prog X.w) X.A (call (.builtin id) (v::us)) (EP X pins σ Q) X.xe s
theorem cw.one:∀{x:V}{us:List Fm},cw [x] us->∃u,us=[u]/\RelV x u
 | _,_,.cons r .nil=>⟨_,rfl,r⟩
theorem cw.reverse{xs:List V}(h:cw xs us):cw xs.reverse us.reverse:=by
 induction h with
 | nil=>exact .nil
 | cons r t ih=>rw[Jl,Jl];exact cw.append ih (.cons r .nil)
theorem cw.rep{xs:List V}{us:List Fm}(h:cw xs us):∀k:Nat,cw (FQ k xs).flatten (FQ k us).flatten
 | 0=>.nil
 | k+1=>by
   rw[GV,GV,HK,HK]
   exact cw.append h (cw.rep h k)
theorem foldl_rep(its:List Fm):∀(k:Nat)(acc:List Fm),
 Ka (fun x1 x2=>x1++x2) acc.toArray (FQ k its.toArray)=(acc++(FQ k its).flatten).toArray
 | 0,acc=>by simp
 | k+1,acc=>by
   have e:acc.toArray++its.toArray=(acc++its).toArray:=by simp
   have e2:(acc++its)++(FQ k its).flatten=acc++(FQ (k+1) its).flatten:=by
    rw[GV,HK,Kb]
   rw[<- e2,<- foldl_rep its k (acc++its),<- e,GV,JH]
section
variable{X:Cx}{pins:List (Addr×Obj)}{σ:St}{H:Hp}{s:Ft}{l b:Addr}{xs ys zs:List V}
theorem Inv.lset{its its':List Fm}{f:Array Fm->Array Fm}(I:Inv X pins σ H s)(hH:H l=some (.lst xs))
 (e:s.heap.get? l=some {cls:=.type "list", data:=.seq its.toArray n})(hf:f its.toArray=its'.toArray)(hv:cw ys its')(hz:ys.length<=sizeLine) :
 Inv X pins σ (upd H l (.lst ys)) {s with heap:=s.heap.update l (Obj.mapSeq f),toks:=t' }:=by
 have q:=PySem.IsL.update e f
 rw[hf]at q
 refine I.write (x:=l) (e:=l) (by rw[hH];exact trivial) (.inl rfl) (fun b' u hb hu=>(Heap.get?_update_other s.heap (Obj.mapSeq f) (Kf hb)).trans hu) ⟨_,q⟩ ?_
 exact⟨hz,its',_,hv,q⟩
theorem Inv.lstM(I:Inv X pins σ H s)(hH:H l=some (.lst xs)):xs.length<=sizeLine/\∃(its:List Fm)(n:Nat),cw xs its/\xs.length=its.length/\s.heap.get? l=some {cls:=.type "list", data:=.seq its.toArray n}:=by
 obtain⟨z,its,n,r,e⟩:=I.hok l _ hH
 exact⟨z,its,n,r,r.length,e⟩
end
section
variable{X:Cx}
noncomputable def mU:V->List V->Hp->VK->Prop:=fun x vs H Q=>∃l xs y,x = .ref l/\vs=[y]/\H l=some (.lst xs)/\xs.length<sizeLine/\Q .non (upd H l (.lst (xs++[y])))
theorem fH:EK X "list.append" mU:=by
 intro pins s σ H x vs v us Q I rx rv h
 obtain⟨l,xs,y,rfl,rfl,hH,hz,q⟩:=h
 cases rx
 obtain⟨u,rfl,ru⟩:=rv.one
 obtain⟨z,its,n,r,hl,e⟩:=I.lstM hH
 refine KI F.slot_list_append ⟨_,e,rfl⟩ F.entry_list_append (F.args_list_append_2 _ _) (PySem.list_append l its.toArray n u (by rw[FS];omega)) ⟨e,?_⟩
 refine⟨.non,_,I.lset (its':=its++[u]) hH e (by simp) (r.append (.cons ru .nil)) ?_,rfl,q⟩
 rw[GK,List.length_singleton]
 omega
theorem ux(xs:List α)(k:Nat):(FQ k xs).flatten.length=k*xs.length:=by
 induction k with
 | zero=>simp
 | succ k ih=>rw[GV,HK,GK,ih,LC,Nat.add_comm]
end
section
variable{prog:F0}{w:GD}{A:GN}{E:Fm->Ft->Prop}{s:Ft}
end
section
variable{X:Cx}
end
section
variable{κ:Type}[DecidableEq κ]
noncomputable def eU(kvs:List (κ×V))(k:κ):Option V:=(kvs.find? fun kv=>decide (kv.1=k)).map (·.2)
noncomputable def dv(kvs:List (κ×V))(k:κ)(v:V):List (κ×V) :=
 if(kvs.any fun kv=>decide (kv.1=k))=true then kvs.map (fun kv=>if kv.1=k then(kv.1,v)else kv)else kvs++[(k,v)]
theorem dk{p:κ×V}{r:List (κ×V)}{k:κ}(e:p.1=k):eU (p::r) k=some p.2:=by simp[eU,GL,e]
theorem gF{p:κ×V}{r:List (κ×V)}{k:κ}(e:¬p.1=k):eU (p::r) k=eU r k:=by simp[eU,GL,e]
theorem jO(k:κ):∀kvs:List (κ×V),(kvs.any fun kv=>decide (kv.1=k))=(eU kvs k).isSome
 | []=>rfl
 | p::r=>by
   rw[JB]
   by_cases e:p.1=k
   · simp only[dk e,decide_eq_true e,Bool.true_or,JX]
   · rw[gF e,decide_eq_false e,Bool.false_or];exact jO k r
theorem cQ(kvs:List (κ×V))(k:κ)(v:V):(dv kvs k v).length<=kvs.length+1:=by
 unfold dv
 split
 · rw[Fq];omega
 · rw[GK,Hm,Kw];omega
theorem vp.isSome_eq{o:Option V}{u:Option Fm}(r:vp o u):o.isSome=u.isSome:=by
 cases o with
 | none=>cases u with
   | none=>rfl
   | some _=>exact(show False from r).elim
 | some _=>cases u with
   | none=>exact(show False from r).elim
   | some _=>rfl
theorem KV.val{kvs:List (κ×V)}{vs:List (κ×Fm)}(r:KV kvs vs)(k:κ):vp (eU kvs k) (Lx vs k):=by
 unfold KV at r
 induction r with
 | nil=>exact Iq
 | @cons p q ps qs h t ih =>
   obtain⟨h1,h2⟩:=h
   by_cases e:p.1=k
   · have e':q.1=k:=h1.symm.trans e
     have b:Lx (q::qs) k=some q.2:=by simp[Lx,GL,e']
     rw[dk e,b];exact h2
   · have e':¬q.1=k:=fun z=>e (h1.trans z)
     have b:Lx (q::qs) k=Lx qs k:=by simp[Lx,GL,e']
     rw[gF e,b];exact ih
theorem KV.any{kvs:List (κ×V)}{vs:List (κ×Fm)}(r:KV kvs vs)(k:κ):(kvs.any fun kv=>decide (kv.1=k))=vs.any fun kv=>decide (kv.1=k):=by
 unfold KV at r
 induction r with
 | nil=>rfl
 | cons h t ih=>rw[JB,JB,ih,h.1]
theorem KV.repl{kvs:List (κ×V)}{vs:List (κ×Fm)}(r:KV kvs vs)(k:κ){y:V}(ry:RelV y u) :
 KV (kvs.map fun kv=>if kv.1=k then(kv.1,y)else kv) (vs.map fun kv=>if kv.1=k then(kv.1,u)else kv):=by
 unfold KV at r ⊢
 induction r with
 | nil=>exact .nil
 | @cons p q ps qs h t ih =>
   rw[FV,FV]
   refine .cons ?_ ih
   obtain⟨h1,h2⟩:=h
   by_cases e:p.1=k
   · rw[if_pos e,if_pos (h1.symm.trans e)];exact⟨h1,ry⟩
   · rw[if_neg e,if_neg (fun z=>e (h1.trans z))];exact⟨h1,h2⟩
theorem KV.put{kvs:List (κ×V)}{vs:List (κ×Fm)}(r:KV kvs vs)(k:κ){y:V}(ry:RelV y u):KV (dv kvs k y) (stored vs k u):=by
 unfold dv stored
 rw[r.any k]
 by_cases e:(vs.any fun kv=>decide (kv.1=k))=true
 · rw[if_pos e,if_pos e];exact r.repl k ry
 · rw[if_neg e,if_neg e];exact G6.snoc r ⟨rfl,ry⟩
theorem KV.length{kvs:List (κ×V)}{vs:List (κ×Fm)}(r:KV kvs vs):kvs.length=vs.length:=G7 r
end
theorem lr{k:EL}(r:RelV (kV k) u):(bB P w).is k u=true:=by
 cases k with
 | inl i=>obtain⟨t,e⟩:=(show ∃t,u=JD i t from r);subst e;exact ju P w i t
 | inr x=>obtain⟨t,e⟩:=(show ∃t,u=Ld x t from r);subst e;exact jt P w x t
theorem iD{P:F0}{w:GD}:∀{ks:List EL}{us:List Fm},cw (ks.map kV) us->ItemsAre (bB P w) ks us
 | [],_,r=>by rw[Kx]at r;cases r;exact .nil
 | k::ks,_,r=>by
   rw[FV]at r
   cases r with
   | cons h t=>exact .cons (lr h) (iD t)
abbrev KT(H:Hp):List (List EL×V)->List (List EL×Addr×Fm)->Prop:=G6 fun p q=>p.1=q.1/\H q.2.1=some (.tup (p.1.map kV))/\RelV p.2 q.2.2
theorem KT.val{xs:List (List EL×Addr×Fm)}(r:KT H kvs xs)(k:List EL):vp (eU kvs k) ((LZ xs k).map (·.2)):=by
 induction r with
 | nil=>exact Iq
 | @cons p q ps qs h t ih =>
   obtain⟨h1,_,h2⟩:=h
   by_cases e:p.1=k
   · have e':q.1=k:=h1.symm.trans e
     have b:LZ (q::qs) k=some q.2:=by simp[LZ,GL,e']
     rw[dk e,b];exact h2
   · have e':¬q.1=k:=fun z=>e (h1.trans z)
     have b:LZ (q::qs) k=LZ qs k:=by simp[LZ,GL,e']
     rw[gF e,b];exact ih
theorem KT.repl{xs:List (List EL×Addr×Fm)}(r:KT H kvs xs)(k:List EL){y:V}(ry:RelV y u) :
 KT H (kvs.map fun kv=>if kv.1=k then(kv.1,y)else kv) (xs.map (putAt k u)):=by
 induction r with
 | nil=>exact .nil
 | @cons p q ps qs h t ih =>
   rw[FV,FV]
   refine .cons ?_ ih
   obtain⟨h1,h2,h3⟩:=h
   unfold putAt
   by_cases e:p.1=k
   · rw[if_pos e,if_pos (h1.symm.trans e)];exact⟨h1,h2,ry⟩
   · rw[if_neg e,if_neg (fun z=>e (h1.trans z))];exact⟨h1,h2,h3⟩
theorem KT.put{xs:List (List EL×Addr×Fm)}(r:KT H kvs xs)(k:List EL){y:V}(hb:H b=some (.tup (k.map kV)))(ry:RelV y u) :
 KT H (dv kvs k y) (storedH xs k b u):=by
 have e:(kvs.any fun kv=>decide (kv.1=k))=(LZ xs k).isSome:=by
  rw[jO,(r.val k).isSome_eq,Option.isSome_map]
 unfold dv storedH
 rw[e]
 by_cases q:(LZ xs k).isSome=true
 · rw[if_pos q,if_pos q];exact r.repl k ry
 · rw[if_neg q,if_neg q];exact G6.snoc r ⟨rfl,hb,ry⟩
theorem KT.keeps{xs:List (List EL×Addr×Fm)}(r:KT H kvs xs)(ht:∀b ys,H b=some (.tup ys)->H' b=some (.tup ys)):KT H' kvs xs :=
 G6.mapP r fun _ _ z=>⟨z.1,ht _ _ z.2.1,z.2.2⟩
section
variable{P:F0}{w:GD}{H:Hp}{h:Heap}{a:Addr}
theorem wY{u:HO}(ok:E2 P w H h)(e:Rd H a u):da P w H h a u:=e.ok ok
theorem qA{kvs:List (EL×V)}(ok:E2 P w H h)(e:Rd H a (.dK kvs)):kvs.length<=sizeLine/\(a==IA)=false/\∃vs,KV kvs vs/\h.DictOf (bB P w) a vs :=
 show da P w H h a (.dK kvs)from wY ok e
theorem uW{kvs:List (EL×V)}(ok:E2 P w H h)(e:H a=some (.dK kvs)):kvs.length<=sizeLine/\(a==IA)=false/\∃vs,KV kvs vs/\h.DictOf (bB P w) a vs:=qA ok (.inl e)
theorem ko{ks:List EL}(ok:E2 P w H h)(e:H a=some (.tup (ks.map kV))):(Lh (bB P w)).is h ks a:=by
 obtain⟨_,its,r,o,h1,h2,⟨n,h3⟩,_⟩:=(show da P w H h a (.tup (ks.map kV))from ok a _ e)
 exact⟨o,its.toArray,n,h1,h2,h3,by simpa using iD r⟩
theorem qz(ok:E2 P w H h)(e:Rd H a (.dT kvs)):kvs.length<=sizeLine/\(a==IA)=false /\
 ∃xs,KT H kvs xs/\h.DictOfH (Lh (bB P w)) a xs:=by
 obtain⟨z,y,xs,r,o,es,ep,h1,h2,h3,h4,h5⟩:=(show da P w H h a (.dT kvs)from wY ok e)
 refine⟨z,y,xs,r,o,es,ep,h1,h2,h3,h4,fun x hx=>?_,h5⟩
 have all:∀{l:List (List EL×V)}{m:List (List EL×Addr×Fm)},KT H l m->∀x∈m,(Lh (bB P w)).is h x.1 x.2.1:=by
  intro l m q
  induction q with
  | nil=>intro x hx;exact nomatch hx
  | @cons p q ps qs hq t ih =>
    intro x hx
    rcases GT.mp hx with e|hx
    · subst e
      exact ko ok (by rw[<- hq.1];exact hq.2.1)
    · exact ih x hx
 exact all r x hx
theorem Ac(ok:E2 P w H h)(e:H a=some (.dT kvs)):kvs.length<=sizeLine/\(a==IA)=false /\
 ∃xs,KT H kvs xs/\h.DictOfH (Lh (bB P w)) a xs:=qz ok (.inl e)
end
noncomputable def vt(H:Hp)(a:Addr)(y:V)(r:Option V):Prop :=
 (∃kvs k,Rd H a (.dK kvs)/\y=kV k/\r=eU kvs k)\/∃kvs k b,Rd H a (.dT kvs)/\y = .ref b/\H b=some (.tup (k.map kV))/\r=eU kvs k
noncomputable def Ao(H:Hp)(a:Addr)(y v:V)(H':Hp):Prop :=
 (∃kvs k,H a=some (.dK kvs)/\y=kV k/\kvs.length<sizeLine/\H'=upd H a (.dK (dv kvs k v))) \/
 ∃kvs k b,H a=some (.dT kvs)/\y = .ref b/\H b=some (.tup (k.map kV))/\kvs.length<sizeLine/\H'=upd H a (.dT (dv kvs k v))
theorem vt.k{H:Hp}{a:Addr}{kvs:List (EL×V)}{k:EL}(e:H a=some (.dK kvs)):vt H a (kV k) (eU kvs k):=.inl ⟨kvs,k,.inl e,rfl,rfl⟩
theorem Ao.k{H:Hp}{a:Addr}{kvs:List (EL×V)}{k:EL}{v:V}(e:H a=some (.dK kvs))(hl:kvs.length<sizeLine):Ao H a (kV k) v (upd H a (.dK (dv kvs k v))):=.inl ⟨kvs,k,e,rfl,hl,rfl⟩
section
variable{X:Cx}{pins:List (Addr×Obj)}{σ:St}{H:Hp}{s:Ft}{a:Addr}{y v:V}{u r:Fm}{o:Option V}{A:GN}{E:Fm->Ft->Prop}
theorem Inv.big(I:Inv X pins σ H s):IA<s.heap.objs.size:=by
 have h:GE<s.heap.objs.size:=(I.mod.glob.keeps I.bk).lt
 exact Nat.lt_trans (by decide) h
theorem nZ(hu:A.units+1<Lk)(I:Inv X pins σ H s)(g:vt H a y (some v))(ry:RelV y u)(h:∀w' s',Inv X pins σ H s'->RelV v w'->Q w' s') :
 FN (Gb X.prog X.w) A (JG (.ref a) u) Q E s:=by
 rcases g with⟨kvs,k,e,ey,l⟩|⟨kvs,k,b,e,ey,eb,l⟩
 · subst ey
   obtain⟨z,hd,vs,rel,dd⟩:=qA I.hok e
   obtain⟨w',hw,rw'⟩:=vp.some_of (v:=v) (o:=Lx vs k) (by rw[l];exact rel.val k)
   exact wpAny_getItem_of (lr ry) dd.mapOf hw (h w' _ (I.tok _) rw')
 · subst ey
   cases(show u=HC b from ry)
   obtain⟨z,hd,xs,rel,dd⟩:=qz I.hok e
   obtain⟨w',hw,rw'⟩:=vp.some_of (v:=v) (o:=(LZ xs k).map (·.2)) (by rw[l];exact rel.val k)
   obtain⟨p,hp,hp2⟩:=Jf.mp hw
   refine wpAny_getItem_heap (JY hu) (ko I.hok eb) dd hp ?_
   rw[hp2]
   exact h w' _ (I.tok _) rw'
theorem Ca(hu:A.units+1<Lk)(I:Inv X pins σ H s)(g:vt H a y o)(ry:RelV y u)(h:∀s',Inv X pins σ H s'->Q (.bool o.isSome) s') :
 FN (Gb X.prog X.w) A (G1 .In u (.ref a)) Q E s:=by
 rcases g with⟨kvs,k,e,ey,l⟩|⟨kvs,k,b,e,ey,eb,l⟩
 · subst ey
   obtain⟨z,hd,vs,rel,dd⟩:=qA I.hok e
   refine wpAny_in_of (lr ry) hd dd.mapOf ?_
   rw[<- (rel.val k).isSome_eq,<- l]
   exact h _ (I.tok _)
 · subst ey
   cases(show u=HC b from ry)
   obtain⟨z,hd,xs,rel,dd⟩:=qz I.hok e
   refine wpAny_in_heap (JY hu) (ko I.hok eb) hd dd ?_
   have q:=(rel.val k).isSome_eq
   rw[Option.isSome_map]at q
   rw[<- q,<- l]
   exact h _ (I.tok _)
theorem fO{ob:HO}(I:Inv X pins σ H s)(mu:EI (H a))(hs:Hu a s.heap h')(he:∃q,h'.get? a=some q)(new:da X.prog X.w (upd H a ob) h' a ob) :
 Inv X pins σ (upd H a ob) {s with heap:=h',toks:=t' } :=
 I.write (x:=a) (e:=a) mu (.inl rfl) (fun b q hb z=>(hs.2 b hb).trans z) he new
theorem dk_new{kvs:List (EL×V)}{vs:List (EL×Fm)}(z:kvs.length<=sizeLine)(hd:(a==IA)=false)(rel:KV kvs vs)(dd:h'.DictOf (bB P w) a vs) :
 da P w H' h' a (.dK kvs):=⟨z,hd,vs,rel,dd⟩
theorem nY{Q:Unit->Ft->Prop}(hu:A.units+1<Lk)(I:Inv X pins σ H s)(g:Ao H a y v H')(ry:RelV y u)(rv:RelV v r)(h:∀s',Inv X pins σ H' s'->Q () s') :
 FN (Gb X.prog X.w) A (setItem (.ref a) u r) Q E s:=by
 rcases g with⟨kvs,k,e,ey,l,eH⟩|⟨kvs,k,b,e,ey,eb,l,eH⟩
 · subst ey eH
   obtain⟨z,hd,vs,rel,dd⟩:=uW I.hok e
   have hz:vs.length<=sizeLine:=by rw[<- rel.length];exact z
   have hl:(dv kvs k v).length<=sizeLine:=by have:=cQ kvs k v;omega
   refine wpAny_setItem_pairs (hsz:=hz) (lr ry) dd fun h' dd' hs=>h _ ?_
   have he:∃q,h'.get? a=some q:=let ⟨q,_,_,hq,_⟩:=dd';⟨q,hq⟩
   exact fO I (by rw[e];exact Iq) hs he (dk_new hl hd (rel.put k rv) dd')
 · subst ey eH
   cases(show u=HC b from ry)
   obtain⟨z,hd,xs,rel,dd⟩:=Ac I.hok e
   have hz:xs.length<=sizeLine:=by rw[<- G7 rel];exact z
   have hl:(dv kvs k v).length<=sizeLine:=by have:=cQ kvs k v;omega
   refine wpAny_setItem_heap (hsz:=hz) (JY hu) (ko I.hok eb) dd fun h' dd' hs=>h _ ?_
   obtain⟨q,es,ep,hq,h2,h3,h4,_,h5⟩:=dd'
   refine fO I (by rw[e];exact Iq) hs ⟨q,hq⟩ ⟨hl,hd,_,(rel.put k eb rv).keeps fun c ys ec=>?_,q,es,ep,hq,h2,h3,h4,h5⟩
   rw[ak (zI ec e (fun z=>nomatch z))]
   exact ec
end
section
variable{X:Cx}{pins:List (Addr×Obj)}{σ:St}{H:Hp}{s:Ft}{a:Addr}{kvs:List (EL×V)}{k:EL}{u:Fm}{A:GN}{E:Fm->Ft->Prop}
end
noncomputable def sd(i:Expr):Prop:=∀ov iv,K0 i false ov iv=operate [ov,iv] (JG ov iv)
theorem tm{prog:F0}{env:Env}{value slice:Expr}{T id:String}
 (hl:Lv (.type T) "__getitem__" = pure (some (.builtin id)))(hs:sd slice)
 (h:FN (Gb prog w) A (eval value env) (fun o s₁=>FN (Gb prog w) A (eval slice env) (fun i s₂=>s₂.TypeIs o T/\FN (Gb prog w) A (JG o i) Q E s₂) E s₁) E s) :
 FN (Gb prog w) A (eval (.Subscript value slice pos) env) Q E s:=by
 refine Lw (Gk h (fun o s₁ h₁=>Gk h₁ (fun i s₂ h₂=>?_) fun _ _ x=>x) fun _ _ x=>x)
 obtain⟨hT,h₂⟩:=h₂
 unfold Lm
 refine Fb ?_
 rw[getitemInPython_of_ne hT.not_modules]
 refine Fb (wpAny_specialOf hT hl ?_)
 have fin:FN (Gb prog w) A (K0 slice false o i) (fun r s₃=>FN (Gb prog w) A (letTemporaryGo value o r >>= fun _=>pure r) Q E s₃) E s₂:=by
  rw[hs o i]
  exact wpAny_operating (Gk h₂ (fun r s₃ h₃=>Fb (wpAny_letTemporaryGo (Fj h₃))) fun _ _ x=>x)
 first
  | exact Fj (Fb fin)
  | exact Fb (Fj (Fb fin))
  | exact Fb fin
theorem jB{y:V}{o:Option V}(I:Inv X pins σ H s)(g:vt H a y o):s.TypeIs (.ref a) "dict" := by
 rcases g with⟨kvs,k,e,_,_⟩|⟨kvs,k,b,e,_,_,_⟩
 · obtain⟨_,_,vs,_,dd⟩:=qA I.hok e
   exact dd.typeIs
 · obtain⟨_,_,xs,_,dd⟩:=qz I.hok e
   exact dd.typeIs
noncomputable def wC(td ty:TE):TE:=fun σ H Q=>td σ H fun x H1=>ty σ H1 fun y H2=>∃a v,x = .ref a/\vt H2 a y (some v)/\Q v H2
noncomputable def BW(ty td:TE):TE:=fun σ H Q=>ty σ H fun y H1=>td σ H1 fun x H2=>∃a o,x = .ref a/\vt H2 a y o/\Q (.bl o.isSome) H2
noncomputable def zx(td ty tv:TE):TS:=fun D σ H=>tv σ H fun v H1=>td σ H1 fun x H2=>ty σ H2 fun y H3=>∃a H4,x = .ref a/\Ao H3 a y v H4/\D.nx σ H4
section
variable{X:Cx}{o i e value:Expr}{pos pos' tpos:Pos}{td ty tv:TE}
theorem fG(hu:X.A.units+1<Lk)(ho:PE X o td)(hi:PE X i ty)(hs:sd i):PE X (.Subscript o i pos) (wC td ty):=by
 intro pins s σ H Q I h
 refine tm PySem.F.slot_dict_getitem.lookup hs (C7 (ho pins s σ H _ I h) fun u s1 ⟨x,H1,I1,rx,q1⟩=>C7 (hi pins s1 σ H1 _ I1 q1) fun iv s2 ⟨y,H2,I2,ry,a,v,ex,g,q2⟩=>?_)
 subst ex
 obtain rfl:u=HC a:=rx
 exact⟨jB I2 g,nZ hu I2 g ry fun w' s3 I3 rw'=>⟨v,H2,I3,rw',q2⟩⟩
theorem xD(hu:X.A.units+1<Lk)(hi:PE X i ty)(ho:PE X o td):PC X .In i o (BW ty td):=by
 intro pins s σ H Q I h
 refine C7 (hi pins s σ H _ I h) fun iv s1 ⟨y,H1,I1,ry,q1⟩=>C7 (ho pins s1 σ H1 _ I1 q1) fun u s2 ⟨x,H2,I2,rx,a,ov,ex,g,q2⟩=>?_
 subst ex
 obtain rfl:u=HC a:=rx
 exact Ca hu I2 g ry fun s3 I3=>⟨.bl ov.isSome,H2,I3,rfl,q2⟩
theorem jp(hu:X.A.units+1<Lk)(ho:PE X o td)(hi:PE X i ty)(hv:PE X value tv)(hs:HL value (some (.Subscript o i pos')) pos.line X.env=pure false) :
 PS X (.Assign [.Subscript o i pos'] value pos) (zx td ty tv):=by
 intro pins s σ H D I h
 refine wpAny_Assign_Subscript (C7 (hv pins s σ H _ I h) fun r s1 ⟨v,H1,I1,rv,q1⟩=>C7 (ho pins s1 σ H1 _ I1 q1) fun u s2 ⟨x,H2,I2,rx,q2⟩=>C7 (hi pins s2 σ H2 _ I2 q2) fun iv s3 ⟨y,H3,I3,ry,a,H4,ex,g,q3⟩=>?_) hs
 subst ex
 obtain rfl:u=HC a:=rx
 exact nY hu I3 g ry rv fun s4 I4=>⟨σ,H4,I4,q3⟩
end
theorem ff(h:Heap)(hb:IA<h.objs.size):da P w H (h.push {cls:=.type "dict", data:=.dict #[]}) h.objs.size (.dK []) :=
 ⟨GW _,beq_eq_false_iff_ne.mpr (Kf (Gj hb)),[],.nil,Heap.DictOf.new h⟩
noncomputable def wB:TE:=fun _ H Q=>∀p,H p=none->Q (.ref p) (upd H p (.dK []))
section
variable{X:Cx}{pos:Pos}
theorem pD:PE X (.Dict [] [] pos) wB:=fun pins s σ H Q I h =>
 wpAny_Dict_empty ⟨.ref s.heap.objs.size,_,I.laid (a:=s.heap.objs.size) (o:=.dK []) (t':=s.toks) (fun _ _ q=>Fh _ q) (FC _) (ff s.heap I.big),rfl,h _ (I.hok.fresh (FC _))⟩
end
noncomputable def mC:List (TE×TE)->St->Hp->(List (V×V)->Hp->Prop)->Prop
 | [],_,H,Q=>Q [] H
 | (tk,tv)::r,σ,H,Q=>tk σ H fun x H1=>tv σ H1 fun y H2=>mC r σ H2 fun ps H3=>Q ((x,y)::ps) H3
abbrev VV:List (V×V)->List (Fm×Fm)->Prop:=G6 fun p q=>RelV p.1 q.1/\RelV p.2 q.2
noncomputable def EA(X:Cx)(pos:Pos)(keys:List (Option Expr))(values:List Expr)(trs:List (TE×TE)):Prop :=
 ∀ (pins:List (Addr×Obj))(s:Ft)(σ:St)(H:Hp)(Q:List (V×V)->Hp->Prop),Inv X pins σ H s->mC trs σ H Q ->
   FN (Gb X.prog X.w) X.A (evalPairs (pairTrees keys values X.env pos)) (fun vs s'=>∃ps H',Inv X pins σ H' s'/\VV ps vs/\Q ps H') X.xe s
theorem mY:EA X pos [] [] []:=fun pins s σ H Q I h=>pairTrees_nil_walk ⟨[],H,I,.nil,h⟩
theorem cK{k v:Expr}{ks:List (Option Expr)}{vs:List Expr}{tk tv:TE}{trs:List (TE×TE)}(hk:PE X k tk)(hv:PE X v tv)(hr:EA X pos ks vs trs) :
 EA X pos (some k::ks) (v::vs) ((tk,tv)::trs):=fun pins s σ H Q I h =>
 pairTrees_cons_walk (C7 (hk pins s σ H _ I h) fun u s1 ⟨x,H1,I1,rx,q1⟩=>C7 (hv pins s1 σ H1 _ I1 q1) fun w2 s2 ⟨y,H2,I2,ry,q2⟩ =>
  C7 (hr pins s2 σ H2 _ I2 q2) fun ws s3 ⟨ps,H3,I3,rel,q3⟩=>⟨(x,y)::ps,H3,I3,.cons ⟨rx,ry⟩ rel,q3⟩)
noncomputable def dU(kvs more:List (EL×V)):List (EL×V):=more.foldl (fun acc kv=>dv acc kv.1 kv.2) kvs
theorem KV.merge:∀{more:List (EL×V)}{rs:List (EL×Fm)}{kvs:List (EL×V)}{vs:List (EL×Fm)},KV more rs->KV kvs vs->KV (dU kvs more) (merged vs rs):=by
 intro more rs kvs vs r
 unfold KV at r
 induction r generalizing kvs vs with
 | nil=>intro q;exact q
 | @cons p q ps qs h t ih =>
   intro r0
   have e:KV (dv kvs p.1 p.2) (stored vs q.1 q.2):=by
    have:=r0.put p.1 h.2
    rw[<- h.1];exact this
   exact ih e
theorem dW:∀(more kvs:List (EL×V)),(dU kvs more).length<=kvs.length+more.length
 | [],kvs=>by show kvs.length<=kvs.length+0;omega
 | p::r,kvs=>by
   have h1:=dW r (dv kvs p.1 p.2)
   have h2:=cQ kvs p.1 p.2
   show(dU (dv kvs p.1 p.2) r).length<=_
   rw[Hm];omega
theorem gv{P:F0}{w:GD}:∀{kvs:List (EL×V)}{ws:List (Fm×Fm)},VV (kvs.map fun kv=>(kV kv.1,kv.2)) ws->∃rs,Carries (bB P w) ws rs/\KV kvs rs
 | [],_,r=>by rw[Kx]at r;cases r;exact⟨[],Iq,.nil⟩
 | p::kvs,_,r=>by
   rw[FV]at r
   cases r with
   | @cons a b as bs h t =>
     obtain⟨rs,c,q⟩:=gv (P:=P) (w:=w) t
     obtain⟨b1,b2⟩:=b
     exact⟨(p.1,b2)::rs,⟨lr h.1,rfl,c⟩,.cons ⟨rfl,h.2⟩ q⟩
noncomputable def zk(trs:List (TE×TE)):TE:=fun σ H Q=>∀p,H p=none->mC trs σ (upd H p (.dK [])) fun ps H2=>H2 p=some (.dK [])/\∃kvs:List (EL×V),ps=kvs.map (fun kv=>(kV kv.1,kv.2))/\kvs.length<=15/\Q (.ref p) (upd H2 p (.dK (dU [] kvs)))
theorem nh{keys:List (Option Expr)}{values:List Expr}{trs:List (TE×TE)}(h:EA X pos keys values trs)(hall:keys.all (·.isSome)=true)(hl:keys.length=values.length)(h0:keys≠[])
 (h15:keys.length<=15):PE X (.Dict keys values pos) (zk trs):=by
 intro pins s σ H Q I q
 have hn:=I.hok.fresh (FC s.heap.objs.size)
 have I1:=I.laid (a:=s.heap.objs.size) (o:=.dK []) (h':=s.heap.push {cls:=.type "dict", data:=.dict #[]}) (t':=s.toks) (fun _ _ q=>Fh _ q) (FC _) (ff s.heap I.big)
 refine wpAny_Dict_walk (knd:=bB X.prog X.w) hall hl h0 h15 (C7 (h pins _ σ _ _ I1 (q _ hn)) fun ws s2 ⟨ps,H2,I2,rel,e,kvs,ep,lk,q2⟩=>?_)
 subst ep
 obtain⟨rs,c,rk⟩:=gv (P:=X.prog) (w:=X.w) rel
 obtain⟨z,hd,vs0,r0,dd⟩:=uW I2.hok e
 cases r0
 refine⟨rs,c,dd,fun h' dd' hs=>⟨.ref s.heap.objs.size,_,?_,rfl,q2⟩⟩
 have hz:(dU [] kvs).length<=sizeLine:=by
  have h1:=dW kvs []
  rw[Kw]at h1
  rw[sizeLine_eq];omega
 have he:∃q,h'.get? s.heap.objs.size=some q:=let ⟨q,_,_,hq,_⟩:=dd';⟨q,hq⟩
 exact fO I2 (by rw[e];exact Iq) hs he (dk_new hz hd (rk.merge .nil) dd')
section
variable{X:Cx}{pins:List (Addr×Obj)}{σ:St}{H:Hp}{s:Ft}{a:Addr}{y d:V}{u r:Fm}{o:Option V}{A:GN}{E:Fm->Ft->Prop}
end
section
variable{X:Cx}{o e f:Expr}{apos cpos:Pos}{td ty tx:TE}
end
section
variable{X:Cx}{pins:List (Addr×Obj)}{σ:St}{H:Hp}{s:Ft}{a:Addr}{kvs:List (EL×V)}{A:GN}{E:Fm->Ft->Prop}
end
section
variable{X:Cx}{pins:List (Addr×Obj)}{σ:St}{H:Hp}{s:Ft}{a:Addr}{y:V}{u:Fm}{A:GN}{E:Fm->Ft->Prop}
end
end L2
namespace Att
open PySem PySem.W PySem.Calls PyProof.Rows
theorem fK{P:LW}:∀(ns:List Int)(vs:List Fm),WellAll P h vs (ns.map WData.int)->K1 vs ns:=by
 intro ns
 induction ns with
 | nil =>
   intro vs w
   rw[Kx]at w
   cases w
   exact .nil
 | cons n ns ih =>
   intro vs w
   rw[FV]at w
   cases w with
   | cons a b =>
     cases a
     exact .cons _ _ (ih _ b)
theorem mH{l:LX}(hn:l.most=some n){P:LW}{args:List WData}{vals:List Fm}
 (hpre:l.row.toRowW.claim.pre args=true)(hwl:WellAll P h vals args) :
 ∃a vs ns,vals=[HC a]/\args=[WData.list (ns.map WData.int)]/\h.get? a=some {cls:=.type "list", data:=.seq vs.toArray}/\K1 vs ns/\ns.length<=n:=by
 have hsh:WShape.hasAll [] args [.list .int]=true:=(pre_splitW hpre).1
 have hc:l.pre.holds [] {args:=args}=true:=(pre_splitW hpre).2
 obtain⟨d,r,rfl,h1,h2⟩:=hasAllW_cons hsh
 obtain rfl:=hasAllW_nil h2
 obtain⟨xs,rfl,h3⟩:=hasW_list h1
 obtain⟨ns,rfl⟩:=items_int h3
 have hlen:ns.length<=n:=by
  unfold LX.pre at hc
  have h4:(WTm.not (.lt (.lit (.int (n:Int))) (.len (.arg 0)))).holds [] {args:=[.list (ns.map .int)]}=true:=by
   have h4:=(holds_andW hc).1
   rw[hn]at h4
   exact h4
  have h5:=condW_of h4 (w_not (w_lt w_lit (w_len_list (w_arg rfl))))
  rw[Fq]at h5
  refine Nat.le_of_not_lt fun q=>?_
  have q':(n:Int)<((ns.length:Nat):Int):=by omega
  first
   | (rw[decide_eq_true q']at h5;exact absurd h5 (by decide))
   | (simp at h5;omega)
 cases hwl with
 | cons w1 w2 =>
   cases w2
   cases w1 with
   | list ho hall=>exact⟨_,_,ns,rfl,rfl,ho,fK ns _ hall,hlen⟩
theorem mZ(l:LX)(args:List WData):l.row.toRowW.claim.post args (.bool true) args=true :=
 postW_of (r:=l.row.toRowW) (X:=(true==true))
  (show WShape.has [] (.bool true) .bool=true by first|rfl|decide|simp[WShape.has,WShape.arms,WShape.armsAll])
  (show(WTm.eq .res (.lit (.bool true))).value [] {args:=args,res:=some (.bool true),after:=args}=some (.bool (true==true))from w_eq_bool (w_res rfl) w_lit) rfl
theorem attach_call{l:LX}{q:F0}{loose:List Str}{XP:(Str->Option Fm)->Heap->Prop}{YP:GD->Heap->Prop}{d:DefRec}
 (hn:l.most=some n)(hdf:d.params.defaults=[])
 (call:∀(w:GD)(s₀ s₁:Ft)(mg mb:Str->Option Fm)(fa:Addr)(o:Obj)(pm cd doc:Fm)(a:Addr)(vs:List Fm)(ns:List Int),
  Ground q loose [] XP w s₀ mg mb s₁.heap->YP w s₁.heap ->
  s₁.heap.get? fa=some o->o.data = .func (docDef d.name d.params d.body d.scope pm cd doc)->s₁.heap.CodeRec cd d.name->mg d.name=some (.ref fa) ->
  s₁.heap.get? a=some {cls:=.type "list", data:=.seq vs.toArray}->K1 vs ns->ns.length<=n->s₁.gens = #[] ->
  HS (Gb l.prog w) Ly (.call (.ref fa) ⟨[.ref a],[]⟩) (fun r s'=>r = .ok (.ret (.bool true))/\OldK s₁.heap s'.heap/\s'.os=s₁.os/\KU s'.gens) s₁) :
 WalkO q loose XP YP l.row.toRowW d [] (fun f vs=>PySem.call f vs):=by
 intro w s₀ s₁ mg mb G Y fa o pm cd doc dV kV ho hd hcd hD hmg hg args vals as hpre hlay hrd hwl hlo
 obtain rfl:dV = .none:=Dflts.none hD hdf
 obtain rfl:kV = .none:=Dflts.noKw hD
 obtain⟨a,vs,ns,rfl,rfl,hobj,hints,hlen⟩:=mH hn hpre hwl
 refine enter_call (JT (call w s₀ s₁ mg mb fa o pm cd doc a vs ns G Y ho (fd_plain hd) hcd hmg hobj hints hlen hg) fun r s' hq=>?_)
 obtain⟨rfl,h2,h3,h4⟩:=hq
 exact⟨.inl ⟨.bool true,.bool true,[],rfl,fun _=>rfl,.bool true,mZ l _,fun _=>⟨List.Pairwise.nil,fun _ hm=>(nomatch hm)⟩⟩,h2,h3,h4⟩
section
variable{prog:F0}{w:GD}{A:GN}{E:Fm->Ft->Prop}{s:Ft}{K:Frag}
end
end Att
namespace L2
theorem ic:∀{vs:List Fm}{ns:List Int},K1 vs ns->cw (ns.map V.int) vs
 | _,_,.nil=>.nil
 | _,_,.cons n t h=>.cons ⟨t,rfl⟩ (ic h)
noncomputable def Ai(H:Hp):Prop:=∀b,H b=none\/∃o xs,H b=some (.frz o (.lst xs))
theorem pS{K:W.Frag}{mg mb:Str->Option Fm}{CX:E4}{k:Nat}{fa:Addr}{x:Str}{sp:Sp}{s₁:Ft}{vs:List Fm}
 (KX:K.In s₁.heap)(hns:s₁.heap.Ns GE mg)(hb:s₁.heap.Ns builtinsNs mb)(hbb:∀x:Str,x ≠ "__name__" -> mb x=Ih x)(hlim:s₁.heap.NoLimit)(hg:s₁.gens = #[])
 (ha:s₁.heap.get? a=some {cls:=.type "list", data:=.seq vs.toArray})(hi:K1 vs ns)(hl:ns.length<=sizeLine)(hr:Room k Ly)
 (F:∀base:Heap,K.In base->base.Ns GE mg->FnOk P w K mg base CX k fa fd [x] sp)(hbind:∀(s:Ft)(u:Fm),LQ s fd ⟨[u],[]⟩ [(x,u)])
 (hsp:∀H:Hp,Ai H->Eo K H a (ns.map V.int)->sp [.ref a] H (fun v _=>v = .bl true) fun _ _ _=>False)
 (hCX:∀H e s',CX [] H s₁ (fun _ _ _=>False) e s'->False) :
 HS (Gb P w) Ly (.call (.ref fa) ⟨[.ref a],[]⟩) (fun r s'=>r = .ok (.ret (.bool true))/\OldK s₁.heap s'.heap/\s'.os=s₁.os/\KU s'.gens) s₁:=by
 have rv:=ic hi
 have lenV:=hi.length
 have core:∀H:Hp,Ai H->Eo K H a (ns.map V.int)->E2 P w H s₁.heap->(∀b,H b≠none->b=a)->(H a≠none->K.lookup a=none) ->
  HS (Gb P w) Ly (.call (.ref fa) ⟨[.ref a],[]⟩) (fun r s'=>r = .ok (.ret (.bool true))/\OldK s₁.heap s'.heap/\s'.os=s₁.os/\KU s'.gens) s₁:=by
  intro H hO hS hok hA hK
  have base_of:∀{b:Addr}{o:Obj},s₁.heap.get? b=some o->H b=none->(qi s₁.heap H).get? b=some o:=fun e n=>qh e n
  have noA:∀{b:Addr}{o:Obj}{es:Array LJ}{ep:Nat},s₁.heap.get? b=some o->o.data = .dict es ep->H b=none:=fun{b o es ep} e d=>by
   cases q:H b with
   | none=>rfl
   | some u =>
     have e':b=a:=hA b (by rw[q];simp)
     subst e'
     rw[ha]at e;cases e
     have d':Data.seq vs.toArray _=Data.dict es ep:=d
     cases d'
  have nsK:∀{b:Addr}{m:Str->Option Fm},s₁.heap.Ns b m->(qi s₁.heap H).Ns b m:=fun{b m} ⟨o,es,ep,e,d,r⟩=>⟨o,es,ep,base_of e (noA e d),d,r⟩
  have hKb:K.In (qi s₁.heap H):=fun b o e=>base_of (KX b o e) (by
   cases q:H b with
   | none=>rfl
   | some u =>
     have e':b=a:=hA b (by rw[q];simp)
     subst e'
     rw[hK (by rw[q];simp)]at e;cases e)
  have hM:Mod K mg (qi s₁.heap H):=⟨hKb,nsK hns,⟨mb,nsK hb,hbb⟩,let ⟨mc,h1,h2⟩:=hlim;⟨mc,nsK h1,h2⟩⟩
  have e0:Env0 P w K mg (qi s₁.heap H) Ly [] s₁ H:=⟨rfl,hM,fun b o e=>ul e,Nat.le_of_eq (nO _ _),trivial,fun b hb=>absurd (show b∈([]:List Addr)from hb) (by simp),hok,.of_eq hg⟩
  refine JT ((F _ hKb (nsK hns)).run Ly [] s₁ H ⟨[.ref a],[]⟩ [.ref a] [.ref a] _ _ hr e0 (hbind s₁ (.ref a)) (.cons rfl .nil) (hsp H hO hS)) fun r s' h=>?_
  cases r with
  | error e=>exact(hCX H e s' h).elim
  | ok fl =>
    cases fl with
    | next=>exact GC h
    | brk=>exact GC h
    | cont=>exact GC h
    | ret u =>
      obtain⟨v,H',os,bare,un,hok',r',q⟩:=h
      have q':v = .bl true:=q
      subst q'
      obtain rfl:u=JC true:=r'
      refine⟨rfl,OldK.of_keep fun b o e=>?_,os,bare⟩
      cases q:H b with
      | none=>exact un.keep b o e q (by intro z;exact absurd (show b∈([]:List Addr)from z) (by simp)) (by simp)
      | some u =>
        rcases hO b with z|⟨ob,xs,z⟩
        · rw[q]at z;cases z
        · have z2:=un.frzs b ob _ z
          obtain⟨e1,_⟩:=hok b _ z
          obtain⟨e2,_⟩:=hok' b _ z2
          rw[e]at e1;cases e1
          exact e2
 cases hk:K.lookup a with
 | some o =>
   have e:=KX a o hk
   rw[ha]at e
   cases e
   refine core (fun _=>none) (fun _=>.inl rfl) (.inr ⟨_,vs.toArray,_,hk,rfl,rfl,rfl,by rw[FS,lenV];exact hl,by simpa using rv⟩) (fun b u z=>by have z':(none:Option HO)=some u:=z;cases z') (fun b z=>absurd rfl z) fun z=>absurd rfl z
 | none =>
   refine core (fun b=>if b=a then some (.frz {cls:=.type "list", data:=.seq vs.toArray} (.lst (ns.map V.int)))else none) (fun b=>?_) (.inl (.inr ⟨{cls:=.type "list", data:=.seq vs.toArray},if_pos rfl⟩)) (fun b u z=>?_) (fun b z=>?_) fun _=>hk
   · by_cases hb:b=a
     · exact .inr ⟨_,_,if_pos hb⟩
     · exact .inl (if_neg hb)
   · by_cases hb:b=a
     · have z':=(if_pos hb).symm.trans z
       cases z'
       subst hb
       exact⟨ha,by rw[Fq];exact hl,vs,_,rv,ha⟩
     · have z':=(if_neg hb).symm.trans z
       cases z'
   · by_cases hb:b=a
     · exact hb
     · exact absurd (if_neg hb) z
theorem walk_of{l:W.OpenLaw}{k:Nat}{q:F0}{loose:List Str}{XP:(Str->Option Fm)->Heap->Prop}{YP:GD->Heap->Prop}{d:DefRec}{K:LW->W.Frag}{CX:GD->E4}{sp:GD->Sp}{x:Str}
 (hn:l.most=some n)(hn2:n<=sizeLine)(hdf:d.params.defaults=[])(hr:Room k Ly)
 (hY:∀(w:GD)(h:Heap),YP w h->(K w.params).In h)
 (F:∀(w:GD)(mg:Str->Option Fm)(fa:Addr)(h:Heap),(K w.params).In h->h.Ns GE mg->mg d.name=some (.ref fa) ->
  ∃ fd:Il,(∀(s:Ft)(u:Fm),LQ s fd ⟨[u],[]⟩ [(x,u)]) /\
    ∀base:Heap,(K w.params).In base->base.Ns GE mg->FnOk l.prog w (K w.params) mg base (CX w) k fa fd [x] (sp w))
 (hsp:∀(w:GD)(H:Hp)(a:Addr)(ns:List Int),ns.length<=n->Ai H->Eo (K w.params) H a (ns.map V.int)->sp w [.ref a] H (fun v _=>v = .bl true) fun _ _ _=>False)
 (hCX:∀(w:GD)(H:Hp)(s:Ft)(e:Fm)(s':Ft),CX w [] H s (fun _ _ _=>False) e s'->False) :
 W.WalkO q loose XP YP l.row.toRowW d [] (fun f vs=>PySem.call f vs):=by
 refine Att.attach_call hn hdf fun w s₀ s₁ mg mb fa o pm cd doc a vs ns G Y ho hd hcd hmg hobj hints hlen hg=>?_
 have KX:=hY w _ Y
 obtain⟨fd,hb,hF⟩:=F w mg fa _ KX G.T.g hmg
 exact pS KX G.T.g G.T.b G.T.builtins G.T.nolimit hg hobj hints (Gq hlen hn2) hr hF hb (fun H hO hS=>hsp w H a ns hlen hO hS) fun H e s'=>hCX w H s₁ e s'
abbrev E5:E4:=fun _ _ _ _ _ _=>False
abbrev E0:XK:=fun _ _ _=>False
theorem pH:oI E5 X E0:=fun _ _ _ _ _ _ _ h=>h.elim
structure Fun (K:W.Frag) (x qual:Str) (st:Stmt) (f:Addr) (fd:Il):Prop where
 ex:∃(oc:Fm)(od:Option Addr)(kV doc pm:Fm)(an:Option Addr)(cdv ct:Fm)(osl:Array (Option Fm)),
  fd=W.fnOf x qual (defArgs st) (defBody st) (defScope st) .none kV doc pm an cdv ct/\K.lookup f=some ⟨oc,od,.func fd,osl⟩/\W.codeIn K cdv qual=true
 kp:W.keepIn K (.ref f)=true
section
variable{P:F0}{w:GD}{K:W.Frag}{mg:Str->Option Fm}{base:Heap}
theorem Fun.ok{x qual:Str}{st:Stmt}{N ps:List Str}{k:Nat}{sp:Sp}(F:Fun K x qual st f fd)(S:FnScope N ps (defScope st))(len:∀vs H Q E,sp vs H Q E->vs.length=ps.length)
 (hbody:∀(cdv:Fm)(A:GN)(outer:List Env)(s:Ft)(H:Hp)(vs:List V)(Q:VK)(E:XK),Room k (A.deeper (J9 qual (defScope st) s.heap.objs.size f cdv))->sp vs H Q E ->
  ∃t,Ey (lC E5 P w K mg base N qual (defScope st) f cdv A outer s H E).nox (defBody st) t/\t {nx:=fun _ H'=>Q .non H',rt:=Q} (start N vs) H):FnOk P w K mg base E5 (k+1) f fd ps sp:=by
 obtain⟨oc,od,kV,doc,pm,an,cdv,ct,osl,rfl,lk,hcd⟩:=F.ex
 refine Aa lk hcd S len fun A outer s H vs Q E hr hsp=>?_
 obtain⟨t,h,q⟩:=hbody cdv A outer s H vs Q E hr hsp
 exact⟨t,h.nox,q⟩
theorem Fun.binds{x qual:Str}{st:Stmt}{ps:List Str}(F:Fun K x qual st f fd)
 (h:∀(kV doc pm:Fm)(an:Option Addr)(cdv ct:Fm)(us:List Fm),us.length=ps.length->bindArgs (W.fnOf x qual (defArgs st) (defBody st) (defScope st) .none kV doc pm an cdv ct) ⟨us,[]⟩=pure (ps.zip us)):Binds K fd ps []:=by
 obtain⟨oc,od,kV,doc,pm,an,cdv,ct,osl,rfl,lk,hcd⟩:=F.ex
 exact .all (h kV doc pm an cdv ct)
theorem nS{x qual:Str}{st:Stmt}{oc:Fm}{od an:Option Addr}{osl:Array (Option Fm)}{kV doc pm cdv ct:Fm}(l:K.lookup f=some ⟨oc,od,.func (W.fnOf x qual (defArgs st) (defBody st) (defScope st) .none kV doc pm an cdv ct),osl⟩)
 (c:W.codeIn K cdv qual=true)(k:W.keepIn K (.ref f)=true):Fun K x qual st f (W.fnOf x qual (defArgs st) (defBody st) (defScope st) .none kV doc pm an cdv ct):=⟨⟨oc,od,kV,doc,pm,an,cdv,ct,osl,rfl,l,c⟩,k⟩
end
theorem ls{k:Nat}(hr:Room k A):A.units+1<Lk:=Nat.lt_of_le_of_lt (Nat.add_le_add_left (by decide:1<=64) _) hr.units
theorem ij(h:n<=1000):n<sizeLine:=Nat.lt_of_le_of_lt h (by decide)
section
variable{X:Cx}
theorem pv(i:Nat){x:Str}(hN:X.N[i]?=some x:=by rfl)(hv:Eb X.env.scope x:=by first|exact HJ rfl|exact G_ (HJ rfl)|exact G_ (G_ rfl))(hd:(x==("__debug__" : Str))=false:=by decide)
 (hcd:(x==("__classdict__" : Str))=false:=by decide):PE X (.Name x pos) (zb i):=dw hN hv hd hcd
end
noncomputable def bC(H H':Hp):Prop:=∀b o,H b=some o->H' b=some o
theorem bC.refl(H:Hp):bC H H:=fun _ _ h=>h
theorem bC.trans{H1 H2:Hp}(a:bC H H1)(b:bC H1 H2):bC H H2:=fun c o h=>b c o (a c o h)
theorem bC.free(e:bC H H'){l:Addr}(h:H' l=Option.none):H l=Option.none:=by
 cases q:H l with
 | none=>rfl
 | some o =>
   rw[e l o q]at h
   cases h
section
variable{X:Cx}
end
section
variable{κ:Type}[DecidableEq κ]
end
end L2
namespace L2.VL
structure RlT where
 a:Option Addr
 b:Nat
abbrev RlT.no:RlT:=⟨none,0⟩
abbrev RlT.at'(r:Addr)(b:Nat):RlT:=⟨some r,b⟩
noncomputable def BM:Nat:=2^50000
noncomputable def RO(b:Nat)(_:Hp)(o:HO):Prop:=∃(c l t:Int),o = .dK [(H0 "cell", .int c),(H0 "left", .int l),(H0 "turn", .int t)]/\0<=l/\0<=t/\t+b<2^59990
theorem RO.mono{b:Nat}{o:HO}(s:bC F F')(h:RO b F o):RO b F' o:=h
theorem RO.pay{b b':Nat}{o:HO}(s:b'<=b)(h:RO b F o):RO b' F o:=by
 obtain⟨c,l,t,e,h1,h2,h3⟩:=h
 exact⟨c,l,t,e,h1,h2,by omega⟩
mutual
inductive Rep (K:W.Frag) (F:Hp):V->Fd->Prop
 | non:Rep K F .non .none
 | bl (b:Bool):Rep K F (.bl b) (.bool b)
 | int (i:Int):Rep K F (.int i) (.int i)
 | str (x:Str):Rep K F (.str x) (.str x)
 | tup {a:Addr} {vs:List V} {ds:List Fd}:Em K F a vs->Reps K F vs ds->Rep K F (.ref a) (.tuple ds)
 | lst {a:Addr} {vs:List V} {ds:List Fd}:F a=some (.lst vs)->Reps K F vs ds->Rep K F (.ref a) (.list ds)
inductive Reps (K:W.Frag) (F:Hp):List V->List Fd->Prop
 | nil:Reps K F [] []
 | cons {v:V} {d:Fd} {vs:List V} {ds:List Fd}:Rep K F v d->Reps K F vs ds->Reps K F (v::vs) (d::ds)
end
theorem dt{K:W.Frag}{xs:List V}(e:bC H H')(h:Em K H a xs):Em K H' a xs:=by
 rcases h with(h|⟨o,h⟩)|h
 · exact .inl (.inl (e _ _ h))
 · exact .inl (.inr ⟨o,e _ _ h⟩)
 · exact .inr h
theorem jk{K:W.Frag}{xs:List V}(e:bC H H')(h:Eo K H a xs):Eo K H' a xs:=by
 rcases h with(h|⟨o,h⟩)|h
 · exact .inl (.inl (e _ _ h))
 · exact .inl (.inr ⟨o,e _ _ h⟩)
 · exact .inr h
mutual
theorem Rep.mono{K:W.Frag}{F F':Hp}(s:bC F F'):∀{v:V}{d:Fd},Rep K F v d->Rep K F' v d
 | _,_,.non=>.non
 | _,_,.bl b=>.bl b
 | _,_,.int i=>.int i
 | _,_,.str x=>.str x
 | _,_,.tup h r=>.tup (dt s h) (Reps.mono s r)
 | _,_,.lst h r=>.lst (s _ _ h) (Reps.mono s r)
theorem Reps.mono{K:W.Frag}{F F':Hp}(s:bC F F'):∀{vs:List V}{ds:List Fd},Reps K F vs ds->Reps K F' vs ds
 | _,_,.nil=>.nil
 | _,_,.cons h r=>.cons (Rep.mono s h) (Reps.mono s r)
end
theorem Reps.length{K:W.Frag}{F:Hp}:∀{vs:List V}{ds:List Fd},Reps K F vs ds->vs.length=ds.length
 | _,_,.nil=>rfl
 | _,_,.cons _ r=>by simp[Reps.length r]
theorem Reps.get{K:W.Frag}{F:Hp}:∀{vs:List V}{ds:List Fd}{i:Nat}{d:Fd},Reps K F vs ds->ds[i]?=some d->∃v,vs[i]?=some v/\Rep K F v d
 | _,_,_,_,.nil,e=>by simp at e
 | _,_,0,_,.cons h _,e=>by simp at e;subst e;exact⟨_,rfl,h⟩
 | _,_,i+1,d,.cons _ r,e=>by
   obtain⟨v,h1,h2⟩:=Reps.get (i:=i) (d:=d) r (by simpa using e)
   exact⟨v,by simpa using h1,h2⟩
theorem Reps.append{K:W.Frag}{F:Hp}:∀{vs us:List V}{ds es:List Fd},Reps K F vs ds->Reps K F us es->Reps K F (vs++us) (ds++es)
 | _,_,_,_,.nil,s=>s
 | _,_,_,_,.cons h r,s=>.cons h (Reps.append r s)
theorem Reps.snoc{K:W.Frag}{ds:List Fd}(r:Reps K F vs ds)(h:Rep K F v d):Reps K F (vs++[v]) (ds++[d]):=r.append (.cons h .nil)
theorem Reps.take{K:W.Frag}{F:Hp}:∀{vs:List V}{ds:List Fd}(n:Nat),Reps K F vs ds->Reps K F (vs.take n) (ds.take n)
 | _,_,0,_=>.nil
 | _,_,_+1,.nil=>.nil
 | _,_,n+1,.cons h r=>.cons h (Reps.take n r)
theorem Reps.drop{K:W.Frag}{F:Hp}:∀{vs:List V}{ds:List Fd}(n:Nat),Reps K F vs ds->Reps K F (vs.drop n) (ds.drop n)
 | _,_,0,r=>r
 | _,_,_+1,.nil=>.nil
 | _,_,n+1,.cons _ r=>Reps.drop n r
theorem Reps.nil_iff{K:W.Frag}(h:Reps K F vs []):vs=[]:=by cases h;rfl
mutual
theorem Rep.reads{X:Cx}{pins:List (Addr×Obj)}{σ:St}{H F:Hp}{s:Ft}(I:Inv X pins σ H s)(sub:bC F H):∀{v:V}{d:Fd},Rep X.K F v d->∀u,RelV v u->∃as,Reads s.heap u d as
 | _,_,.non,u,r=>by cases(show u=H_ from r);exact⟨_,.none⟩
 | _,_,.bl b,u,r=>by cases(show u=JC b from r);exact⟨_,.bool b⟩
 | _,_,.int i,u,r=>by obtain⟨t,q⟩:=(show ∃t,u=JD i t from r);cases q;exact⟨_,.int i t⟩
 | _,_,.str x,u,r=>by obtain⟨t,q⟩:=(show ∃t,u=Ld x t from r);cases q;exact⟨_,.str x t⟩
 | _,_,.tup (a:=a) h q,u,r=>by
   cases(show u=HC a from r)
   obtain⟨its,rv,⟨o,h1,h2,n,h3⟩,hz⟩:=I.tuple (dt sub h)
   obtain⟨as,ra⟩:=Reps.reads I sub q its rv
   exact⟨_,.tuple h1 h2 h3 (by simpa using ra)⟩
 | _,_,.lst (a:=a) h q,u,r=>by
   cases(show u=HC a from r)
   obtain⟨its,rv,p,hz⟩:=I.list (.inl (.inl (sub _ _ h)))
   obtain⟨o,h1,h2,n,h3⟩:=p.isList
   obtain⟨as,ra⟩:=Reps.reads I sub q its rv
   exact⟨_,.list h1 h2 h3 (by simpa using ra)⟩
theorem Reps.reads{X:Cx}{pins:List (Addr×Obj)}{σ:St}{H F:Hp}{s:Ft}(I:Inv X pins σ H s)(sub:bC F H):∀{vs:List V}{ds:List Fd},Reps X.K F vs ds->∀us,cw vs us->∃as,ReadsAll s.heap us ds as
 | _,_,.nil,us,r=>by cases r;exact⟨_,.nil⟩
 | _,_,.cons h q,us,r=>by
   cases r with
   | cons r1 r2 =>
     obtain⟨as,a1⟩:=Rep.reads I sub h _ r1
     obtain⟨bs,a2⟩:=Reps.reads I sub q _ r2
     exact⟨_,.cons a1 a2⟩
end
structure ReelOk (b:Nat) (F H:Hp) (r:Addr):Prop where
 ex:∃o,H r=some o/\RO b F o
noncomputable def Eu(rl:RlT)(F H:Hp):Prop:=∀r,rl.a=some r->F r=none/\ReelOk rl.b F H r
theorem Eu.live{rl:RlT}(h:Eu rl F H){r:Addr}(e:rl.a=some r):∃o,H r=some o:=by
 obtain⟨_,⟨o,q,_⟩⟩:=h r e
 exact⟨_,q⟩
structure Grow (rl:RlT) (F H F' H':Hp):Prop where
 same:∀b o,H b=some o->rl.a≠some b->H' b=some o
 fs:bC F F'
 sub:bC F' H'
 old:∀b o,H b=some o->F' b=F b
 reel:Eu rl F' H'
theorem Grow.refl{rl:RlT}{F H:Hp}(s:bC F H)(r:Eu rl F H):Grow rl F H F H:=⟨fun _ _ e _=>e,.refl F,s,fun _ _ _=>rfl,r⟩
theorem Grow.live{rl:RlT}{F H F' H':Hp}(g:Grow rl F H F' H'){b:Addr}{o:HO}(e:H b=some o):∃o',H' b=some o':=by
 by_cases h:rl.a=some b
 · exact g.reel.live h
 · exact⟨o,g.same b o e h⟩
theorem Grow.trans{rl:RlT}{F H F1 H1 F2 H2:Hp}(a:Grow rl F H F1 H1)(b:Grow rl F1 H1 F2 H2):Grow rl F H F2 H2 :=
 ⟨fun c o e n=>b.same c o (a.same c o e n) n,a.fs.trans b.fs,b.sub,fun c o e=>by obtain⟨o',e'⟩:=a.live e;rw[b.old c o' e',a.old c o e],b.reel⟩
theorem Grow.freeB{rl:RlT}(g:Grow rl F H F' H')(e:H' b=none):H b=none:=by
 cases q:H b with
 | none=>rfl
 | some o=>obtain⟨o',e'⟩:=g.live q;rw[e]at e';cases e'
theorem Grow.laid{rl:RlT}{o:HO}(s:bC F H)(r:Eu rl F H)(n:H a=none):Grow rl F H F (upd H a o):=by
 have ne:∀b u,H b=some u->b≠a:=fun b u e=>aK e n
 refine⟨fun b u e _=>by rw[ak (ne b u e)];exact e,.refl F,fun b u e=>by rw[ak (ne b u (s b u e))];exact s b u e,fun _ _ _=>rfl,fun q e=>?_⟩
 obtain⟨z,⟨u,h1,h2⟩⟩:=r q e
 exact⟨z,⟨u,by rw[ak (ne _ _ h1)];exact h1,h2⟩⟩
theorem Grow.data{rl:RlT}{o:HO}(s:bC F H)(r:Eu rl F H)(n:H a=none):Grow rl F H (upd F a o) (upd H a o):=by
 have ne:∀b u,H b=some u->b≠a:=fun b u e=>aK e n
 have neF:∀b u,F b=some u->b≠a:=fun b u e=>ne b u (s b u e)
 refine⟨fun b u e _=>by rw[ak (ne b u e)];exact e,fun b u e=>by rw[ak (neF b u e)];exact e,fun b u e=>?_,fun b u e=>by rw[ak (ne b u e)],fun q e=>?_⟩
 · by_cases hb:b=a
   · subst hb;rw[au]at e ⊢;exact e
   · rw[ak hb]at e ⊢;exact s b u e
 · obtain⟨z,⟨u,h1,h2⟩⟩:=r q e
   exact⟨by rw[ak (ne _ _ h1)];exact z,⟨u,by rw[ak (ne _ _ h1)];exact h1,RO.mono (fun b u e=>by rw[ak (neF b u e)];exact e) h2⟩⟩
theorem Grow.freeze{rl:RlT}{F1 H1:Hp}{o:HO}(g:Grow rl F H F1 H1)(n:H a=none)(e:H1 a=some o)(f:F1 a=none)(hr:rl.a≠some a):Grow rl F H (upd F1 a o) H1:=by
 have neF:∀b u,F1 b=some u->b≠a:=fun b u q z=>by subst z;rw[f]at q;cases q
 refine⟨g.same,fun b u q=>by rw[ak (neF b u (g.fs b u q))];exact g.fs b u q,fun b u q=>?_,fun b u q=>by rw[ak (aK q n)];exact g.old b u q,fun q z=>?_⟩
 · by_cases hb:b=a
   · subst hb;rw[au]at q;rw[e];exact q
   · rw[ak hb]at q;exact g.sub b u q
 · obtain⟨z1,⟨u,h1,h2⟩⟩:=g.reel q z
   exact⟨by rw[ak (fun y=>hr (by rw[<- y];exact z))];exact z1,⟨u,h1,RO.mono (fun b u e=>by rw[ak (neF b u e)];exact e) h2⟩⟩
inductive W where
 | d (x:Fd)
 | ml (xs:List Fd)
 | pk (xs:List Fd)
 | reel
 | vv (v:V)
 | md (kvs:List (List EL×Fd))
 | mk (kvs:List (EL×Fd))
 | nt (ds:List Fd)
 | lk
 | sc (ns:List Int)
 | fd (kvs:List (EL×Fd))
 | fw (kvs:List (EL×Fd))
 | ft (kvs:List (List EL×Fd))
 | xc (x:Str) (fs:List (Str×Fd))
 | dp (kvs:List (EL×Fd)) (x:Fd)
noncomputable def W.dat:W->Option Fd
 | .d x=>some x
 | .ml xs=>some (.list xs)
 | .pk xs=>some (.list xs)
 | .nt ds=>some (.tuple ds)
 | _=>none
noncomputable def W.peek:W->W
 | .ml xs=>.pk xs
 | .md _=>.lk
 | .mk _=>.lk
 | w=>w
noncomputable def W.own:W->Bool
 | .ml _=>true
 | .md _=>true
 | .mk _=>true
 | _=>false
abbrev KD(K:W.Frag)(F:Hp):List (List EL×V)->List (List EL×Fd)->Prop:=G6 fun p q=>p.1=q.1/\Rep K F p.2 q.2
abbrev EN(K:W.Frag)(F:Hp):List (EL×V)->List (EL×Fd)->Prop:=G6 fun p q=>p.1=q.1/\Rep K F p.2 q.2
abbrev EM(K:W.Frag)(F:Hp):List (Str×V)->List (Str×Fd)->Prop:=G6 fun p q=>p.1=q.1/\Rep K F p.2 q.2
noncomputable def An(e C dx:Addr):Heap->Prop:=fun h=>∃oe vs,h.get? e=some oe/\oe.cls = .ref C/\oe.dict=some dx/\oe.data = .fields vs
noncomputable def r_(K:W.Frag)(rl:RlT)(F H:Hp)(v:V)(kvs:List (List EL×Fd)):Prop:=∃a us,v = .ref a/\F a=none/\rl.a≠some a/\H a=some (.dT us)/\KD K F us kvs
noncomputable def lD(K:W.Frag)(rl:RlT)(F H:Hp)(v:V)(kvs:List (EL×Fd)):Prop:=∃a us,v = .ref a/\F a=none/\rl.a≠some a/\H a=some (.dK us)/\EN K F us kvs
noncomputable def hW(K:W.Frag)(rl:RlT)(F H:Hp)(v:V)(xs:List Fd):Prop:=∃a vs,v = .ref a/\F a=none/\rl.a≠some a/\H a=some (.lst vs)/\Reps K F vs xs
noncomputable def cZ(K:W.Frag)(rl:RlT)(F H:Hp)(v:V):W->Prop
 | .d x=>Rep K F v x
 | .ml xs=>hW K rl F H v xs
 | .pk xs=>hW K rl F H v xs
 | .reel=>∃r,rl.a=some r/\v = .ref r
 | .vv u=>v=u
 | .md kvs=>r_ K rl F H v kvs
 | .mk kvs=>lD K rl F H v kvs
 | .nt ds=>∃a vs,v = .ref a/\F a=some (.tup vs)/\Reps K F vs ds
 | .lk=>True
 | .sc ns=>∃a,v = .ref a/\Eo K F a (ns.map V.int)
 | .fd kvs=>∃a us,v = .ref a/\F a=some (.dK us)/\EN K F us kvs
 | .fw kvs=>∃a us o,v = .ref a/\F a=some (.frz o (.dK us))/\EN K F us kvs
 | .ft kvs=>∃a us o,v = .ref a/\F a=some (.frz o (.dT us))/\KD K F us kvs
 | .xc x fs=>∃e dx us C,v = .ref e/\W.nsIn K GE x=some (some (.ref C))/\F e=some (.ext (An e C dx))/\F dx=some (.xd us)/\EM K F us fs
 | .dp kvs x=>∃a b us u o,v = .ref a/\F a=some (.tup [.ref b,u])/\F b=some (.frz o (.dK us))/\EN K F us kvs/\Rep K F u x
theorem r_.grow{K:W.Frag}{rl:RlT}{kvs:List (List EL×Fd)}(g:Grow rl F H F' H')(r:r_ K rl F H v kvs):r_ K rl F' H' v kvs:=by
 obtain⟨a,us,rfl,h1,h2,h3,h4⟩:=r
 exact⟨a,us,rfl,by rw[g.old a _ h3];exact h1,h2,g.same a _ h3 h2,G6.mapP h4 fun _ _ z=>⟨z.1,z.2.mono g.fs⟩⟩
theorem lD.grow{K:W.Frag}{rl:RlT}{kvs:List (EL×Fd)}(g:Grow rl F H F' H')(r:lD K rl F H v kvs):lD K rl F' H' v kvs:=by
 obtain⟨a,us,rfl,h1,h2,h3,h4⟩:=r
 exact⟨a,us,rfl,by rw[g.old a _ h3];exact h1,h2,g.same a _ h3 h2,G6.mapP h4 fun _ _ z=>⟨z.1,z.2.mono g.fs⟩⟩
theorem hW.grow{K:W.Frag}{rl:RlT}(g:Grow rl F H F' H')(r:hW K rl F H v xs):hW K rl F' H' v xs:=by
 obtain⟨a,vs,rfl,h1,h2,h3,h4⟩:=r
 exact⟨a,vs,rfl,by rw[g.old a _ h3];exact h1,h2,g.same a _ h3 h2,h4.mono g.fs⟩
theorem cZ.grow{K:W.Frag}{rl:RlT}{F H F' H':Hp}{v:V}{w:W}(g:Grow rl F H F' H')(r:cZ K rl F H v w):cZ K rl F' H' v w:=by
 cases w with
 | d x=>exact Rep.mono g.fs r
 | ml xs=>exact hW.grow g r
 | pk xs=>exact hW.grow g r
 | reel=>exact r
 | vv u=>exact r
 | md kvs=>exact r_.grow g r
 | mk kvs=>exact lD.grow g r
 | nt ds=>obtain⟨a,vs,e,h,q⟩:=r;exact⟨a,vs,e,g.fs _ _ h,q.mono g.fs⟩
 | lk=>trivial
 | sc ns=>obtain⟨a,e,h⟩:=r;exact⟨a,e,jk g.fs h⟩
 | fd kvs=>obtain⟨a,us,e,h,q⟩:=r;exact⟨a,us,e,g.fs _ _ h,G6.mapP q fun _ _ z=>⟨z.1,z.2.mono g.fs⟩⟩
 | fw kvs=>obtain⟨a,us,o,e,h,q⟩:=r;exact⟨a,us,o,e,g.fs _ _ h,G6.mapP q fun _ _ z=>⟨z.1,z.2.mono g.fs⟩⟩
 | ft kvs=>obtain⟨a,us,o,e,h,q⟩:=r;exact⟨a,us,o,e,g.fs _ _ h,G6.mapP q fun _ _ z=>⟨z.1,z.2.mono g.fs⟩⟩
 | xc _ _=>obtain⟨a,dx,us,C,e,n,h1,h2,q⟩:=r;exact⟨a,dx,us,C,e,n,g.fs _ _ h1,g.fs _ _ h2,G6.mapP q fun _ _ z=>⟨z.1,z.2.mono g.fs⟩⟩
 | dp _ _=>obtain⟨a,b,us,u,o,e,h1,h2,q,z⟩:=r;exact⟨a,b,us,u,o,e,g.fs _ _ h1,g.fs _ _ h2,G6.mapP q fun _ _ z=>⟨z.1,z.2.mono g.fs⟩,z.mono g.fs⟩
theorem cZ.peek{K:W.Frag}{rl:RlT}{w:W}(r:cZ K rl F H v w):cZ K rl F H v w.peek:=by cases w<;>first|exact r|trivial
theorem hW.rep{K:W.Frag}{rl:RlT}(s:bC F H)(r:hW K rl F H v xs):Rep K H v (.list xs):=by
 obtain⟨a,vs,rfl,h1,h2,h3,h4⟩:=r
 exact .lst h3 (h4.mono s)
theorem cZ.dat{K:W.Frag}{rl:RlT}{w:W}{x:Fd}(s:bC F H)(r:cZ K rl F H v w)(e:w.dat=some x):Rep K H v x:=by
 cases w with
 | d y=>cases e;exact Rep.mono s r
 | ml xs=>cases e;exact hW.rep s r
 | pk xs=>cases e;exact hW.rep s r
 | reel=>cases e
 | vv u=>cases e
 | md kvs=>cases e
 | mk kvs=>cases e
 | nt ds=>cases e;obtain⟨a,vs,rfl,h,q⟩:=r;exact .tup (.inl (.inl (s _ _ h))) (q.mono s)
 | lk=>cases e
 | sc _=>cases e
 | fd _=>cases e
 | fw _=>cases e
 | ft _=>cases e
 | xc _ _=>cases e
 | dp _ _=>cases e
theorem cZ.items{K:W.Frag}{rl:RlT}{w:W}(s:bC F H)(r:cZ K rl F H v w)(e:w.dat=some (.list xs)):∃a vs,v = .ref a/\Eo K H a vs/\Reps K F vs xs:=by
 have own:hW K rl F H v xs->∃a vs,v = .ref a/\Eo K H a vs/\Reps K F vs xs:=fun⟨a,vs,e1,_,_,e2,e3⟩=>⟨a,vs,e1,.inl (.inl e2),e3⟩
 cases w with
 | d y =>
   cases e
   cases(show Rep K F v (.list xs)from r)with
   | lst h q=>exact⟨_,_,rfl,.inl (.inl (s _ _ h)),q⟩
 | ml ys=>cases e;exact own r
 | pk ys=>cases e;exact own r
 | reel=>cases e
 | vv u=>cases e
 | md kvs=>cases e
 | mk kvs=>cases e
 | nt ds=>cases e
 | lk=>cases e
 | sc _=>cases e
 | fd _=>cases e
 | fw _=>cases e
 | ft _=>cases e
 | xc _ _=>cases e
 | dp _ _=>cases e
theorem cZ.itemsT{K:W.Frag}{rl:RlT}{w:W}(s:bC F H)(r:cZ K rl F H v w)(e:w.dat=some (.tuple xs)):∃a vs,v = .ref a/\Em K H a vs/\Reps K F vs xs:=by
 cases w with
 | d y =>
   cases e
   cases(show Rep K F v (.tuple xs)from r)with
   | tup h q=>exact⟨_,_,rfl,dt s h,q⟩
 | ml ys=>cases e
 | pk ys=>cases e
 | reel=>cases e
 | vv u=>cases e
 | md kvs=>cases e
 | mk kvs=>cases e
 | nt ds=>cases e;obtain⟨a,vs,rfl,h,q⟩:=r;exact⟨a,vs,rfl,.inl (.inl (s _ _ h)),q⟩
 | lk=>cases e
 | sc _=>cases e
 | fd _=>cases e
 | fw _=>cases e
 | ft _=>cases e
 | xc _ _=>cases e
 | dp _ _=>cases e
noncomputable def dH(H:Hp)(v:V):W->Prop
 | .ml _=>∀a,v = .ref a->H a=none
 | .md _=>∀a,v = .ref a->H a=none
 | .mk _=>∀a,v = .ref a->H a=none
 | _=>True
theorem cZ.live{K:W.Frag}{rl:RlT}{w:W}(r:cZ K rl F H v w)(h:w.own=true):∃a o,v = .ref a/\H a=some o:=by
 cases w with
 | ml xs=>obtain⟨a,vs,e,_,_,hh,_⟩:=r;exact⟨a,_,e,hh⟩
 | md xs=>obtain⟨a,vs,e,_,_,hh,_⟩:=r;exact⟨a,_,e,hh⟩
 | mk xs=>obtain⟨a,vs,e,_,_,hh,_⟩:=r;exact⟨a,_,e,hh⟩
 | _=>cases h
theorem dH.none{w:W}(n:dH H v w)(h:w.own=true)(e:v = .ref a):H a=none:=by
 cases w with
 | ml xs=>exact n a e
 | md xs=>exact n a e
 | mk xs=>exact n a e
 | _=>cases h
abbrev En:=List (Option W)
structure VR (K:W.Frag) (rl:RlT) (F₀ H₀ F H:Hp) (σ:St) (ρ:En):Prop where
 g:Grow rl F₀ H₀ F H
 sl:∀(i:Nat) w,ρ[i]?=some (some w)->∃v,σ[i]?=some (some v)/\cZ K rl F H v w/\dH H₀ v w
 ap:∀(i j:Nat)(x y:W) v,i≠j->ρ[i]?=some (some x)->ρ[j]?=some (some y)->x.own=true->y.own=true->σ[i]?=some (some v)->σ[j]?=some (some v)->False
 np:∀(i:Nat) xs,ρ[i]?≠some (some (W.pk xs))
 len:ρ.length=σ.length
section
variable{K:W.Frag}{rl:RlT}{F₀ H₀ F H F' H':Hp}{σ:St}{ρ:En}
theorem VR.sub(r:VR K rl F₀ H₀ F H σ ρ):bC F H:=r.g.sub
theorem VR.reel(r:VR K rl F₀ H₀ F H σ ρ):Eu rl F H:=r.g.reel
theorem VR.grow(r:VR K rl F₀ H₀ F H σ ρ)(g:Grow rl F H F' H'):VR K rl F₀ H₀ F' H' σ ρ :=
 ⟨r.g.trans g,fun i w e=>let ⟨v,e1,e2,e3⟩:=r.sl i w e;⟨v,e1,e2.grow g,e3⟩,r.ap,r.np,r.len⟩
theorem VR.set(r:VR K rl F₀ H₀ F H σ ρ){H1 F1:Hp}(g:Grow rl F H F1 H1){w:W}(rw':cZ K rl F1 H1 v w)(hn:dH H v w)(hp:∀xs,w ≠ .pk xs)(i:Nat):VR K rl F₀ H₀ F1 H1 (σ.set i (some v)) (ρ.set i (some w)):=by
 have r1:=r.grow g
 refine⟨r1.g,fun j w' e=>?_,fun j k xs ys u hjk e1 e2 w1 w2 s1 s2=>?_,fun j xs z=>?_,by simp[r.len]⟩
 · by_cases hj:i=j
   · subst hj
     have hi:i<ρ.length:=by
      rw[GG]at e
      by_cases hi:i<ρ.length
      · exact hi
      · simp[hi]at e
     rw[FT hi]at e
     cases e
     refine⟨v,by rw[FT (by rw[<- r.len];exact hi)],rw',?_⟩
     cases w with
     | ml xs=>exact fun a ea=>r.g.freeB (hn a ea)
     | d x=>trivial
     | pk xs=>trivial
     | reel=>trivial
     | vv u=>trivial
     | md xs=>exact fun a ea=>r.g.freeB (hn a ea)
     | mk xs=>exact fun a ea=>r.g.freeB (hn a ea)
     | nt ds=>trivial
     | lk=>trivial
     | sc _=>trivial
     | fd _=>trivial
     | fw _=>trivial
     | ft _=>trivial
     | xc _ _=>trivial
     | dp _ _=>trivial
   · rw[FP hj]at e
     obtain⟨u,h1,h2,h3⟩:=r1.sl j w' e
     exact⟨u,by rw[FP hj];exact h1,h2,h3⟩
 · have key:∀(k:Nat)(x y:W),ρ[k]?=some (some y)->some (some w)=some (some x)->x.own=true->y.own=true->σ[k]?=some (some v)->False:=fun k x y d2 e1 o1 o2 s2=>by
     cases e1
     obtain⟨u',h1,h2,h3⟩:=r.sl k _ d2
     rw[s2]at h1
     cases h1
     obtain⟨a,o,ea,hh⟩:=h2.live o2
     rw[hn.none o1 ea]at hh
     cases hh
   by_cases hj:i=j
   · subst hj
     have hk:i≠k:=hjk
     have hi:i<ρ.length:=by
      rw[GG]at e1
      by_cases hi:i<ρ.length
      · exact hi
      · simp[hi]at e1
     rw[FT hi]at e1
     rw[FP hk]at e2 s2
     rw[FT (by rw[<- r.len];exact hi)]at s1
     cases s1
     exact key k xs ys e2 e1 w1 w2 s2
   · by_cases hk:i=k
     · subst hk
       have hi:i<ρ.length:=by
        rw[GG]at e2
        by_cases hi:i<ρ.length
        · exact hi
        · simp[hi]at e2
       rw[FT hi]at e2
       rw[FP hj]at e1 s1
       rw[FT (by rw[<- r.len];exact hi)]at s2
       cases s2
       exact key j ys xs e1 e2 w2 w1 s1
     · rw[FP hj]at e1 s1
       rw[FP hk]at e2 s2
       exact r.ap j k xs ys u hjk e1 e2 w1 w2 s1 s2
 · rw[GG]at z
   split at z
   · split at z
     · exact hp xs (Gv (Gv z))
     · cases z
   · exact r.np j xs z
theorem VR.freeze(r:VR K rl F₀ H₀ F H σ ρ){i:Nat}{xs:List Fd}(e:ρ[i]?=some (some (.ml xs))):∃F1,VR K rl F₀ H₀ F1 H σ (ρ.set i (some (.d (.list xs)))):=by
 obtain⟨v,h1,h2,h3⟩:=r.sl i _ e
 obtain⟨a,vs,rfl,f,hr,hh,q⟩:=(show hW K rl F H v xs from h2)
 have hi:i<ρ.length:=(FK.mp e).1
 have neF:∀b u,F b=some u->b≠a:=fun b u q z=>by subst z;rw[f]at q;cases q
 have fsm:bC F (upd F a (.lst vs)):=fun b u z=>by rw[ak (neF b u z)];exact z
 refine⟨upd F a (.lst vs),r.g.freeze (h3 a rfl) hh f hr,fun j w e1=>?_,fun j k ys zs u hjk e1 e2 w1 w2 s1 s2=>?_,fun j ys z=>?_,by simp[r.len]⟩
 · by_cases hj:i=j
   · subst hj
     rw[FT hi]at e1
     cases e1
     exact⟨.ref a,h1,.lst au (q.mono fsm),trivial⟩
   · rw[FP hj]at e1
     obtain⟨u,g1,g2,g3⟩:=r.sl j w e1
     refine⟨u,g1,?_,g3⟩
     have own:∀ys,(∀zs,w = .ml zs->ys=zs)->hW K rl F H u ys->(∃b,u = .ref b/\b≠a)->hW K rl (upd F a (.lst vs)) H u ys:=fun ys _ ⟨b,us,eb,f1,f2,f3,f4⟩ ⟨b',eb',ne⟩=>by
      rw[eb]at eb'
      cases eb'
      exact⟨b,us,eb,by rw[ak ne];exact f1,f2,f3,f4.mono fsm⟩
     cases w with
     | d x=>exact Rep.mono fsm g2
     | reel=>exact g2
     | vv u=>exact g2
     | ml ys =>
       obtain⟨b,us,eb,f1,f2,f3,f4⟩:=(show hW K rl F H u ys from g2)
       have ne:b≠a:=fun z=>r.ap i j _ _ (.ref a) hj e e1 rfl rfl h1 (by rw[g1,eb,z])
       exact⟨b,us,eb,by rw[ak ne];exact f1,f2,f3,f4.mono fsm⟩
     | pk ys=>exact absurd e1 (r.np j ys)
     | md ys =>
       obtain⟨b,us,eb,f1,f2,f3,f4⟩:=(show r_ K rl F H u ys from g2)
       have ne:b≠a:=fun z=>r.ap i j _ _ (.ref a) hj e e1 rfl rfl h1 (by rw[g1,eb,z])
       exact⟨b,us,eb,by rw[ak ne];exact f1,f2,f3,G6.mapP f4 fun _ _ z=>⟨z.1,z.2.mono fsm⟩⟩
     | mk ys =>
       obtain⟨b,us,eb,f1,f2,f3,f4⟩:=(show lD K rl F H u ys from g2)
       have ne:b≠a:=fun z=>r.ap i j _ _ (.ref a) hj e e1 rfl rfl h1 (by rw[g1,eb,z])
       exact⟨b,us,eb,by rw[ak ne];exact f1,f2,f3,G6.mapP f4 fun _ _ z=>⟨z.1,z.2.mono fsm⟩⟩
     | nt ds=>obtain⟨b,us,eb,f1,f2⟩:=g2;exact⟨b,us,eb,fsm _ _ f1,f2.mono fsm⟩
     | lk=>trivial
     | sc ns=>obtain⟨b,eb,f1⟩:=g2;exact⟨b,eb,jk fsm f1⟩
     | fd kvs=>obtain⟨b,us,eb,f1,f2⟩:=g2;exact⟨b,us,eb,fsm _ _ f1,G6.mapP f2 fun _ _ z=>⟨z.1,z.2.mono fsm⟩⟩
     | fw kvs=>obtain⟨b,us,o,eb,f1,f2⟩:=g2;exact⟨b,us,o,eb,fsm _ _ f1,G6.mapP f2 fun _ _ z=>⟨z.1,z.2.mono fsm⟩⟩
     | ft kvs=>obtain⟨b,us,o,eb,f1,f2⟩:=g2;exact⟨b,us,o,eb,fsm _ _ f1,G6.mapP f2 fun _ _ z=>⟨z.1,z.2.mono fsm⟩⟩
     | xc _ _=>obtain⟨b,dx,us,C,eb,n,f1,f3,f2⟩:=g2;exact⟨b,dx,us,C,eb,n,fsm _ _ f1,fsm _ _ f3,G6.mapP f2 fun _ _ z=>⟨z.1,z.2.mono fsm⟩⟩
     | dp _ _=>obtain⟨c,b,us,u,o,eb,f1,f3,f2,z⟩:=g2;exact⟨c,b,us,u,o,eb,fsm _ _ f1,fsm _ _ f3,G6.mapP f2 fun _ _ z=>⟨z.1,z.2.mono fsm⟩,z.mono fsm⟩
 · have nd:∀(j:Nat)(y:W),(ρ.set i (some (W.d (.list xs))))[j]?=some (some y)->y.own=true->ρ[j]?=some (some y):=fun j y z o=>by
     by_cases hj:i=j
     · subst hj
       rw[FT hi]at z
       cases z
       cases o
     · rw[FP hj]at z
       exact z
   exact r.ap j k ys zs u hjk (nd j ys e1 w1) (nd k zs e2 w2) w1 w2 s1 s2
 · rw[GG]at z
   split at z
   · first|cases z|(split at z<;>cases z)
   · exact r.np j ys z
end
abbrev TV:=En->(W->Prop)->Prop
abbrev TB:=En->(Bool->Prop)->Prop
abbrev Eg:=En->(List W->Prop)->Prop
abbrev d9(K:W.Frag)(rl:RlT)(F H:Hp):List V->List W->Prop:=G6 (cZ K rl F H)
noncomputable def PV(X:Cx)(rl:RlT)(e:Expr)(f:TV):Prop:=∃t,PE X e t/\∀{F₀ H₀ F H:Hp}{σ:St}{ρ:En},VR X.K rl F₀ H₀ F H σ ρ->∀(Qd:W->Prop)(Q:VK),f ρ Qd ->
 (∀v w F' H',Grow rl F H F' H'->cZ X.K rl F' H' v w->dH H v w->Qd w->Q v H')->t σ H Q
noncomputable def PB(X:Cx)(rl:RlT)(e:Expr)(f:TB):Prop:=∃t,PT X e t/\∀{F₀ H₀ F H:Hp}{σ:St}{ρ:En},VR X.K rl F₀ H₀ F H σ ρ->∀(Qd:Bool->Prop)(Q:Bool->Hp->Prop),f ρ Qd ->
 (∀b F' H',Grow rl F H F' H'->Qd b->Q b H')->t σ H Q
noncomputable def Ev(X:Cx)(rl:RlT)(es:List Expr)(f:Eg):Prop:=∃t,PA X es t/\∀{F₀ H₀ F H:Hp}{σ:St}{ρ:En},VR X.K rl F₀ H₀ F H σ ρ->∀(Qd:List W->Prop)(Q:List V->Hp->Prop),f ρ Qd ->
 (∀vs ws F' H',Grow rl F H F' H'->d9 X.K rl F' H' vs ws->Qd ws->Q vs H')->t σ H Q
noncomputable def W.fz:W->W
 | .ml xs=>.d (.list xs)
 | .nt ds=>.d (.tuple ds)
 | w=>w
theorem cZ.fz{K:W.Frag}{rl:RlT}{F1 H1:Hp}{w:W}(g:Grow rl F H F1 H1)(r:cZ K rl F1 H1 v w)(n:dH H v w):∃F2,Grow rl F H F2 H1/\bC F1 F2/\cZ K rl F2 H1 v w.fz:=by
 cases w with
 | d x=>exact⟨F1,g,.refl _,r⟩
 | pk xs=>exact⟨F1,g,.refl _,r⟩
 | reel=>exact⟨F1,g,.refl _,r⟩
 | vv u=>exact⟨F1,g,.refl _,r⟩
 | md u=>exact⟨F1,g,.refl _,r⟩
 | mk u=>exact⟨F1,g,.refl _,r⟩
 | lk=>exact⟨F1,g,.refl _,r⟩
 | sc _=>exact⟨F1,g,.refl _,r⟩
 | fd _=>exact⟨F1,g,.refl _,r⟩
 | fw _=>exact⟨F1,g,.refl _,r⟩
 | ft _=>exact⟨F1,g,.refl _,r⟩
 | xc _ _=>exact⟨F1,g,.refl _,r⟩
 | dp _ _=>exact⟨F1,g,.refl _,r⟩
 | nt ds=>obtain⟨a,vs,rfl,h,q⟩:=r;exact⟨F1,g,.refl _,.tup (.inl (.inl h)) q⟩
 | ml xs =>
   obtain⟨a,vs,rfl,f,hr,hh,q⟩:=(show hW K rl F1 H1 v xs from r)
   have neF:∀b u,F1 b=some u->b≠a:=fun b u q z=>by subst z;rw[f]at q;cases q
   have fsm:bC F1 (upd F1 a (.lst vs)):=fun b u z=>by rw[ak (neF b u z)];exact z
   exact⟨upd F1 a (.lst vs),g.freeze (n a rfl) hh f hr,fsm,.lst au (q.mono fsm)⟩
section
variable{X:Cx}{rl:RlT}{a b e:Expr}{es:List Expr}{fa fb fc:TV}{fs:Eg}{pos p:Pos}
noncomputable def vC(x:Fd):TV:=fun _ Q=>Q (.d x)
theorem dR{x:Fd}(h:PE X e (tC v))(r:∀F,Rep X.K F v x):PV X rl e (vC x) :=
 ⟨_,h,fun R Qd Q q k=>k v (.d x) _ _ (Grow.refl R.sub R.reel) (r _) trivial q⟩
theorem ah{i:Int}{j pos}:PV X rl (.Constant (.int i) j pos) (vC (.int i)):=dR dz fun _=>.int i
theorem c_{i:Bool}{j pos}:PV X rl (.Constant (.bool i) j pos) (vC (.bool i)):=dR zF fun _=>.bl i
theorem eN{j pos}:PV X rl (.Constant .none j pos) (vC .none):=dR xA fun _=>.non
theorem fF{x:Str}{j pos}:PV X rl (.Constant (.str x) j pos) (vC (.str x)):=dR dS fun _=>.str x
theorem gW{x:Str}{n:String}{pos:Pos}(hm:X.mg x=none)(hv:Ih x=some (.type n))(hg:Gl X x:=by rfl)(hn:x ≠ "__name__" := by decide)(hd:(x==("__debug__" : Str))=false:=by decide) :
 PV X rl (.Name x pos) (fun _ Q=>Q (.vv (.ty n))) :=
 ⟨_,ua (v:=.ty n) hg hm hv rfl hn hd,fun R Qd Q q k=>k (.ty n) (.vv (.ty n)) _ _ (Grow.refl R.sub R.reel) rfl trivial q⟩
theorem tP{x:Str}{pos:Pos}(hm:X.mg x=some u)(r:RelV v u)(h:∀F,Rep X.K F v d)(hg:Gl X x:=by rfl)(hd:(x==("__debug__" : Str))=false:=by decide):PV X rl (.Name x pos) (vC d) :=
 dR (t9 hg hm r hd) h
noncomputable def v4(i:Nat):TV:=fun ρ Q=>∃w,ρ[i]?=some (some w)/\Q w.peek
theorem vn(i:Nat){x:Str}{pos:Pos}(hN:X.N[i]?=some x:=by rfl)(hv:Eb X.env.scope x:=by first|exact HJ rfl|exact G_ (HJ rfl)|exact G_ (G_ rfl))(hd:(x==("__debug__" : Str))=false:=by decide)
 (hcd:(x==("__classdict__" : Str))=false:=by decide):PV X rl (.Name x pos) (v4 i) :=
 ⟨_,dw hN hv hd hcd,fun R Qd Q ⟨w,e,q⟩ k=>by
  obtain⟨v,e1,r,_⟩:=R.sl i w e
  refine⟨v,e1,k v w.peek _ _ (Grow.refl R.sub R.reel) r.peek ?_ q⟩
  cases w<;>trivial⟩
noncomputable def yi:Eg:=fun _ Q=>Q []
noncomputable def oV(f:TV)(fs:Eg):Eg:=fun ρ Q=>f ρ fun w=>fs ρ fun ws=>Q (w.fz::ws)
theorem ab:Ev X rl [] yi:=⟨_,xE,fun R Qd Q q k=>k [] [] _ _ (Grow.refl R.sub R.reel) .nil q⟩
theorem aa(h1:PV X rl e fa)(h2:Ev X rl es fs)(hs:FA (e::es) X.env=(false,eval e X.env)::FA es X.env:=by rfl):Ev X rl (e::es) (oV fa fs):=by
 obtain⟨t,p1,k1⟩:=h1
 obtain⟨ts,p2,k2⟩:=h2
 refine⟨_,nl p1 p2 hs,fun R Qd Q q k=>?_⟩
 refine k1 R _ _ q fun v w F1 H1 g1 r1 n1 q1=>?_
 obtain⟨F2,g2,s2,r2⟩:=cZ.fz g1 r1 n1
 refine k2 (R.grow g2) _ _ q1 fun vs ws F3 H3 g3 r3 q3=>?_
 exact k (v::vs) (w.fz::ws) F3 H3 (g2.trans g3) (.cons (r2.grow g3) r3) q3
noncomputable def Ec(X:Cx)(rl:RlT)(r:R2)(g:W->W->(W->Prop)->Prop):Prop:=∀{F H:Hp}{x y:V}{wx wy:W}(Qd:W->Prop)(Q:VK),bC F H->Eu rl F H->cZ X.K rl F H x wx->cZ X.K rl F H y wy->g wx wy Qd ->
 (∀v w F' H',Grow rl F H F' H'->cZ X.K rl F' H' v w->dH H v w->Qd w->Q v H')->r x y H Q
noncomputable def CU(g:W->W->(W->Prop)->Prop)(fa fb:TV):TV:=fun ρ Q=>fa ρ fun x=>fb ρ fun y=>g x y Q
theorem hZ{r:R2}{g:W->W->(W->Prop)->Prop}(vo:Ec X rl r g)(ha:PV X rl a fa)(hb:PV X rl b fb){e:Expr}(hp:∀ta tb,PE X a ta->PE X b tb->PE X e (Dc r ta tb)):PV X rl e (CU g fa fb):=by
 obtain⟨ta,p1,k1⟩:=ha
 obtain⟨tb,p2,k2⟩:=hb
 refine⟨_,hp ta tb p1 p2,fun R Qd Q q k=>?_⟩
 refine k1 R _ _ q fun v w F1 H1 g1 r1 n1 q1=>?_
 refine k2 (R.grow g1) _ _ q1 fun v2 w2 F2 H2 g2 r2 n2 q2=>?_
 exact vo Qd Q g2.sub g2.reel (r1.grow g2) r2 q2 fun v3 w3 F3 H3 g3 r3 n3 q3=>k v3 w3 F3 H3 ((g1.trans g2).trans g3) r3 (by
  cases w3 with
  | ml xs=>exact fun a ea=>g1.freeB (g2.freeB (n3 a ea))
  | md xs=>exact fun a ea=>g1.freeB (g2.freeB (n3 a ea))
  | mk xs=>exact fun a ea=>g1.freeB (g2.freeB (n3 a ea))
  | nt _=>trivial
  | lk=>trivial
  | sc _=>trivial
  | fd _=>trivial
  | fw _=>trivial
  | ft _=>trivial
  | xc _ _=>trivial
  | dp _ _=>trivial
  | d _=>trivial
  | pk _=>trivial
  | reel=>trivial
  | vv _=>trivial) q3
theorem iB{op:Lj}{r:R2}{g:W->W->(W->Prop)->Prop}(ho:EH X (Ir op) r)(vo:Ec X rl r g)(ha:PV X rl a fa)(hb:PV X rl b fb):PV X rl (.BinOp a op b pos) (CU g fa fb) :=
 hZ vo ha hb fun _ _ p1 p2=>xv ho p1 p2
noncomputable def gI(C:Int->Int->Prop)(g:Int->Int->Fd):W->W->(W->Prop)->Prop:=fun x y Q=>∃i j,x = .d (.int i)/\y = .d (.int j)/\C i j/\Q (.d (g i j))
theorem aB{K:W.Frag}{i:Int}(h:Rep K F v (.int i)):v = .int i:=by cases h;rfl
theorem gC{C:Int->Int->Prop}{g:Int->Int->V}{gd:Int->Int->Fd}(h:∀K F i j,Rep K F (g i j) (gd i j)):Ec X rl (rI C g) (gI C gd):=fun{F H x y wx wy} Qd Q s ra r1 r2 q k=>by
 obtain⟨i,j,rfl,rfl,c,q⟩:=q
 exact⟨i,j,aB r1,aB r2,c,k _ (.d _) _ _ (Grow.refl s ra) (h _ _ i j) trivial q⟩
noncomputable def DZ(g:Int->Int->Fd):W->W->(W->Prop)->Prop:=fun x y Q=>∃i j,x = .d (.int i)/\y = .d (.int j)/\Q (.d (g i j))
theorem cF{g:Int->Int->V}{gd:Int->Int->Fd}(h:∀K F i j,Rep K F (g i j) (gd i j)):Ec X rl (Dw g) (DZ gd):=fun{F H x y wx wy} Qd Q s ra r1 r2 q k=>by
 obtain⟨i,j,rfl,rfl,q⟩:=q
 exact⟨i,j,aB r1,aB r2,k _ (.d _) _ _ (Grow.refl s ra) (h _ _ i j) trivial q⟩
theorem v_add(ha:PV X rl a fa)(hb:PV X rl b fb):PV X rl (.BinOp a .Add b pos) (CU (DZ fun i j=>.int (i+j)) fa fb):=iB rM (cF fun _ _ _ _=>.int _) ha hb
theorem v_sub(ha:PV X rl a fa)(hb:PV X rl b fb):PV X rl (.BinOp a .Sub b pos) (CU (DZ fun i j=>.int (i-j)) fa fb):=iB xG (cF fun _ _ _ _=>.int _) ha hb
noncomputable def E8(i:Int):Prop:=i.natAbs<2^60000
theorem E8.bits{i:Int}(h:E8 i):Builtin.Int.intBits i<=60000:=KQ.mpr h
noncomputable def cA(i j:Int):Prop:=i.natAbs<2^64\/j.natAbs<2^64\/(E8 i/\E8 j)
theorem cA.lt{i j:Int}(h:i.natAbs<2^64):cA i j:=.inl h
theorem cA.rt{i j:Int}(h:j.natAbs<2^64):cA i j:=.inr (.inl h)
theorem cA.bb{i j:Int}(h:E8 i)(h':E8 j):cA i j:=.inr (.inr ⟨h,h'⟩)
theorem cA.ok{i j:Int}(h:cA i j):IntMulOk i j:=by
 rcases h with h|h|h
 · exact .of_left (KQ.mpr h)
 · exact .of_right (KQ.mpr h)
 · exact IntMulOk.of_le h.1.bits h.2.bits (by decide)
theorem ue:EH X (Ir .Mult) (rI cA fun i j=>.int (i*j)):=DA fun _ _ _ _ _ _ _ hc q=>mul_int q hc.ok
theorem v_mul(ha:PV X rl a fa)(hb:PV X rl b fb):PV X rl (.BinOp a .Mult b pos) (CU (gI cA fun i j=>.int (i*j)) fa fb):=iB ue (gC fun _ _ _ _=>.int _) ha hb
noncomputable def iV(_ j:Int):Prop:=j≠0/\j.natAbs<2^9000
theorem pJ:EH X (Ir .FloorDiv) (rI iV fun i j=>.int (i.fdiv j)):=DA fun _ j _ _ _ _ _ hc q=>floordiv_int hc.1 q (.inl (PyProof.noPylong_of_log2 ((Nat.log2_lt (by have:=hc.1;omega)).mpr hc.2)))
theorem v_div(ha:PV X rl a fa)(hb:PV X rl b fb):PV X rl (.BinOp a .FloorDiv b pos) (CU (gI iV fun i j=>.int (i.fdiv j)) fa fb):=iB pJ (gC fun _ _ _ _=>.int _) ha hb
theorem v_mod(ha:PV X rl a fa)(hb:PV X rl b fb):PV X rl (.BinOp a .Mod b pos) (CU (gI (fun _ j=>j≠0) fun i j=>.int (i.fmod j)) fa fb):=iB uf (gC fun _ _ _ _=>.int _) ha hb
theorem v_pow(ha:PV X rl a fa)(hb:PV X rl b fb):PV X rl (.BinOp a .Pow b pos) (CU (gI BB fun i j=>.int (i^j.toNat)) fa fb):=iB xH (gC fun _ _ _ _=>.int _) ha hb
noncomputable def yT(fa:TV):TV:=fun ρ Q=>fa ρ fun x=>∃i,x = .d (.int i)/\Q (.d (.int (-i)))
theorem yL(ha:PV X rl a fa):PV X rl (.UnaryOp .USub a pos) (yT fa):=by
 obtain⟨ta,p1,k1⟩:=ha
 refine⟨_,xu qW p1,fun R Qd Q q k=>k1 R _ _ q fun v w F1 H1 g1 r1 n1 ⟨i,ew,q1⟩=>?_⟩
 subst ew
 exact⟨i,aB r1,k _ (.d _) F1 H1 g1 (.int _) trivial q1⟩
theorem kQ{r:R2}{g:W->W->(W->Prop)->Prop}(ho:EH X (G1 op) r)(vo:Ec X rl r g)(hm:HF op b=false)(ha:PV X rl a fa)(hb:PV X rl b fb):PV X rl (.Compare a [op] [b] pos) (CU g fa fb) :=
 hZ vo ha hb fun _ _ p1 p2=>t_ ho p1 p2 hm
noncomputable def kS(f:TV):TB:=fun ρ Q=>f ρ fun w=>∃k,w = .d (.bool k)/\Q k
theorem dQ{K:W.Frag}{i:Bool}(h:Rep K F v (.bool i)):v = .bl i:=by cases h;rfl
theorem aO{r:R2}{g:W->W->(W->Prop)->Prop}(ho:EH X (G1 op) r)(vo:Ec X rl r g)(hm:HF op b=false)(ha:PV X rl a fa)(hb:PV X rl b fb):PB X rl (.Compare a [op] [b] pos) (kS (CU g fa fb)):=by
 obtain⟨ta,p1,k1⟩:=ha
 obtain⟨tb,p2,k2⟩:=hb
 refine⟨_,tR ho p1 p2 hm,fun R Qd Q q k=>?_⟩
 refine k1 R _ _ q fun v w F1 H1 g1 r1 n1 q1=>?_
 refine k2 (R.grow g1) _ _ q1 fun v2 w2 F2 H2 g2 r2 n2 q2=>?_
 refine vo _ _ g2.sub g2.reel (r1.grow g2) r2 q2 fun v3 w3 F3 H3 g3 r3 n3 ⟨kb,ew,q3⟩=>?_
 subst ew
 exact⟨kb,dQ r3,k kb F3 H3 ((g1.trans g2).trans g3) q3⟩
theorem de(ha:PV X rl e fa)(he:∀whole,isTrue e X.env whole=(do let v <- whole;Ls e.pos;holding [v] (truthy v)):=by intro _;rfl):PB X rl e (kS fa):=by
 obtain⟨ta,p1,k1⟩:=ha
 refine⟨_,xg p1 he,fun R Qd Q q k=>k1 R _ _ q fun v w F1 H1 g1 r1 n1 ⟨kb,ew,q1⟩=>?_⟩
 subst ew
 exact⟨kb,dQ r1,k kb F1 H1 g1 q1⟩
abbrev yA(p:Int->Int->Bool):=DZ fun i j=>.bool (p i j)
theorem vI:Ec X rl (Dw fun i j=>.bl (decide (i<j))) (yA fun i j=>decide (i<j)):=cF fun _ _ _ _=>.bl _
theorem yI:Ec X rl (Dw fun i j=>.bl (decide (i<=j))) (yA fun i j=>decide (i<=j)):=cF fun _ _ _ _=>.bl _
theorem lO:Ec X rl (Dw fun i j=>.bl (decide (j<i))) (yA fun i j=>decide (j<i)):=cF fun _ _ _ _=>.bl _
theorem yJ:Ec X rl (Dw fun i j=>.bl (decide (j<=i))) (yA fun i j=>decide (j<=i)):=cF fun _ _ _ _=>.bl _
noncomputable def zy(K:W.Frag)(neg:Bool):R2:=fun x y H Q=>∃dx dy,Rep K H x dx/\Rep K H y dy/\G3 dx=true/\G3 dy=true/\Q (.bl (if neg then !IC dx dy else IC dx dy)) H
theorem eQ(hu:X.A.units+64<Lk):EH X (G1 .Eq) (zy X.K false):=by
 intro pins s σ H x y v u Q I rx ry ⟨dx,dy,h1,h2,s1,s2,q⟩
 obtain⟨as,a1⟩:=Rep.reads I (.refl H) h1 v rx
 obtain⟨bs,a2⟩:=Rep.reads I (.refl H) h2 u ry
 exact SeqAt.compareEq_shaped a1 a2 s1 s2 hu ⟨.bl _,H,I,rfl,q⟩
theorem eP(hu:X.A.units+64<Lk):EH X (G1 .NotEq) (zy X.K true):=by
 intro pins s σ H x y v u Q I rx ry ⟨dx,dy,h1,h2,s1,s2,q⟩
 obtain⟨as,a1⟩:=Rep.reads I (.refl H) h1 v rx
 obtain⟨bs,a2⟩:=Rep.reads I (.refl H) h2 u ry
 exact SeqAt.compareNe_shaped a1 a2 s1 s2 hu ⟨.bl _,H,I,rfl,q⟩
noncomputable def zZ(neg:Bool):W->W->(W->Prop)->Prop:=fun x y Q=>∃dx dy,x.dat=some dx/\y.dat=some dy/\G3 dx=true/\G3 dy=true/\Q (.d (.bool (if neg then !IC dx dy else IC dx dy)))
theorem ce{neg:Bool}:Ec X rl (zy X.K neg) (zZ neg):=fun{F H x y wx wy} Qd Q s ra r1 r2 q k=>by
 obtain⟨dx,dy,e1,e2,s1,s2,q⟩:=q
 exact⟨dx,dy,r1.dat s e1,r2.dat s e2,s1,s2,k _ (.d _) _ _ (Grow.refl s ra) (.bl _) trivial q⟩
noncomputable def yZ(f g:TB):TB:=fun ρ Q=>f ρ fun b=>if b=true then g ρ Q else Q false
noncomputable def CT(f g:TB):TB:=fun ρ Q=>f ρ fun b=>if b=true then Q true else g ρ Q
noncomputable def Bk(f:TB):TB:=fun ρ Q=>f ρ fun b=>Q (!b)
noncomputable def EG(X:Cx)(rl:RlT)(e:Expr)(f:TB):Prop:=∃t,PW X e t/\∀{F₀ H₀ F H:Hp}{σ:St}{ρ:En},VR X.K rl F₀ H₀ F H σ ρ->∀(Qd:Bool->Prop)(Q:Bool->Hp->Prop),f ρ Qd ->
 (∀b F' H',Grow rl F H F' H'->Qd b->Q b H')->t σ H Q
variable{f g:TB}{rest:List Expr}
theorem EG.pb(h:EG X rl e f):PB X rl e f:=let ⟨t,p,k⟩:=h;⟨t,p.pt,k⟩
theorem lS(ha:PB X rl a f):EG X rl (.BoolOp .And [a] pos) f:=let ⟨t,p,k⟩:=ha;⟨t,tO p,k⟩
theorem dM(ha:PB X rl a f):EG X rl (.BoolOp .Or [a] pos) f:=let ⟨t,p,k⟩:=ha;⟨t,xa p,k⟩
theorem qN(ha:PB X rl a f)(hb:EG X rl (.BoolOp .And (b::rest) pos) g):EG X rl (.BoolOp .And (a::b::rest) pos) (yZ f g):=by
 obtain⟨t,p,k⟩:=ha
 obtain⟨t2,p2,k2⟩:=hb
 refine⟨_,xb p p2,fun R Qd Q q h=>k R _ _ q fun c F1 H1 g1 q1=>?_⟩
 cases c with
 | true=>exact k2 (R.grow g1) _ _ q1 fun c F2 H2 g2 q2=>h c F2 H2 (g1.trans g2) q2
 | false=>exact h false F1 H1 g1 q1
theorem fu(ha:PB X rl a f)(hb:EG X rl (.BoolOp .Or (b::rest) pos) g):EG X rl (.BoolOp .Or (a::b::rest) pos) (CT f g):=by
 obtain⟨t,p,k⟩:=ha
 obtain⟨t2,p2,k2⟩:=hb
 refine⟨_,zA p p2,fun R Qd Q q h=>k R _ _ q fun c F1 H1 g1 q1=>?_⟩
 cases c with
 | true=>exact h true F1 H1 g1 q1
 | false=>exact k2 (R.grow g1) _ _ q1 fun c F2 H2 g2 q2=>h c F2 H2 (g1.trans g2) q2
theorem cW(ha:PB X rl a f):PB X rl (.UnaryOp .Not a pos) (Bk f):=by
 obtain⟨t,p,k⟩:=ha
 exact⟨_,xj p,fun R Qd Q q h=>k R _ _ q fun c F1 H1 g1 q1=>h (!c) F1 H1 g1 q1⟩
noncomputable def sU(fa fb:TV):TV:=fun ρ Q=>fa ρ fun w=>∃c,w = .d (.bool c)/\if c=true then fb ρ Q else Q (.d (.bool false))
noncomputable def sR(fa:TV):TV:=fun ρ Q=>fa ρ fun w=>∃c,w = .d (.bool c)/\Q (.d (.bool (!c)))
theorem dH.back{rl:RlT}{w:W}(g:Grow rl F H F' H')(n:dH H' v w):dH H v w:=by
 cases w with
 | ml xs=>exact fun a ea=>g.freeB (n a ea)
 | md xs=>exact fun a ea=>g.freeB (n a ea)
 | mk xs=>exact fun a ea=>g.freeB (n a ea)
 | nt _=>trivial
 | lk=>trivial
 | sc _=>trivial
 | fd _=>trivial
 | fw _=>trivial
 | ft _=>trivial
 | xc _ _=>trivial
 | dp _ _=>trivial
 | d _=>trivial
 | pk _=>trivial
 | reel=>trivial
 | vv _=>trivial
theorem kP{op}(ha:PV X rl a fa):PV X rl (.BoolOp op [a] pos) fa:=let ⟨t,p,k⟩:=ha;⟨t,xx p,k⟩
theorem v_and(ha:PV X rl a fa)(hb:PV X rl (.BoolOp .And (b::rest) pos) fb):PV X rl (.BoolOp .And (a::b::rest) pos) (sU fa fb):=by
 obtain⟨t,p,k⟩:=ha
 obtain⟨t2,p2,k2⟩:=hb
 refine⟨_,xC p p2,fun R Qd Q q h=>k R _ _ q fun v w F1 H1 g1 r1 n1 ⟨c,ew,q1⟩=>?_⟩
 subst ew
 refine⟨c,dQ r1,?_⟩
 cases c with
 | true=>exact k2 (R.grow g1) _ _ q1 fun v w F2 H2 g2 r2 n2 q2=>h v w F2 H2 (g1.trans g2) r2 (n2.back g1) q2
 | false=>exact h _ (.d _) F1 H1 g1 (.bl false) trivial q1
theorem v_not(ha:PV X rl a fa):PV X rl (.UnaryOp .Not a pos) (sR fa):=by
 obtain⟨t,p,k⟩:=ha
 refine⟨_,xy p,fun R Qd Q q h=>k R _ _ q fun v w F1 H1 g1 r1 n1 ⟨c,ew,q1⟩=>?_⟩
 subst ew
 exact⟨c,dQ r1,h _ (.d _) F1 H1 g1 (.bl _) trivial q1⟩
noncomputable def CW(t:TB)(fa fb:TV):TV:=fun ρ Q=>t ρ fun c=>if c=true then fa ρ Q else fb ρ Q
theorem i7{c:Expr}(hc:PB X rl c f)(ha:PV X rl a fa)(hb:PV X rl b fb):PV X rl (.IfExp c a b pos) (CW f fa fb):=by
 obtain⟨t,p,k⟩:=hc
 obtain⟨t1,p1,k1⟩:=ha
 obtain⟨t2,p2,k2⟩:=hb
 refine⟨_,pC p p1 p2,fun R Qd Q q h=>k R _ _ q fun c F1 H1 g1 q1=>?_⟩
 cases c with
 | true=>exact k1 (R.grow g1) _ _ q1 fun v w F2 H2 g2 r2 n2 q2=>h v w F2 H2 (g1.trans g2) r2 (n2.back g1) q2
 | false=>exact k2 (R.grow g1) _ _ q1 fun v w F2 H2 g2 r2 n2 q2=>h v w F2 H2 (g1.trans g2) r2 (n2.back g1) q2
noncomputable def jC:List W->Option (List Fd)
 | []=>some []
 | .d x::r=>(jC r).map (x :: ·)
 | _::_=>none
theorem dn{K:W.Frag}{F H:Hp}:∀{vs:List V}{ws:List W}{ds:List Fd},d9 K rl F H vs ws->jC ws=some ds->Reps K F vs ds
 | _,_,_,.nil,e=>by cases e;exact .nil
 | _,.d x::ws,ds,.cons r rs,e=>by
   have e:(jC ws).map (x :: ·)=some ds:=e
   cases q:jC ws with
   | none=>rw[q]at e;cases e
   | some es=>rw[q]at e;cases e;exact .cons r (dn rs q)
 | _,.ml x::ws,ds,.cons r rs,e=>by cases(show none=some ds from e)
 | _,.pk x::ws,ds,.cons r rs,e=>by cases(show none=some ds from e)
 | _,.reel::ws,ds,.cons r rs,e=>by cases(show none=some ds from e)
 | _,.vv u::ws,ds,.cons r rs,e=>by cases(show none=some ds from e)
 | _,.md u::ws,ds,.cons r rs,e=>by cases(show none=some ds from e)
 | _,.nt u::ws,ds,.cons r rs,e=>by cases(show none=some ds from e)
 | _,.lk::ws,ds,.cons r rs,e=>by cases(show none=some ds from e)
 | _,.sc _::ws,ds,.cons r rs,e=>by cases(show none=some ds from e)
 | _,.fd _::ws,ds,.cons r rs,e=>by cases(show none=some ds from e)
 | _,.xc _ _::ws,ds,.cons r rs,e=>by cases(show none=some ds from e)
 | _,.mk _::ws,ds,.cons r rs,e=>by cases(show none=some ds from e)
 | _,.fw _::ws,ds,.cons r rs,e=>by cases(show none=some ds from e)
 | _,.ft _::ws,ds,.cons r rs,e=>by cases(show none=some ds from e)
 | _,.dp _ _::ws,ds,.cons r rs,e=>by cases(show none=some ds from e)
noncomputable def v7(fs:Eg):TV:=fun ρ Q=>fs ρ fun ws=>∃ds,jC ws=some ds/\ds.length<=sizeLine/\Q (.d (.tuple ds))
noncomputable def yU(fs:Eg):TV:=fun ρ Q=>fs ρ fun ws=>∃ds,jC ws=some ds/\ds.length<=sizeLine/\Q (.ml ds)
theorem gG{x1}(h:Ev X rl es fs):PV X rl (.Tuple es x1 pos) (v7 fs):=by
 obtain⟨t,p,k⟩:=h
 refine⟨_,nc p,fun R Qd Q q h=>k R _ _ q fun vs ws F1 H1 g1 r1 ⟨ds,e1,z,q1⟩=>?_⟩
 have rs:=dn r1 e1
 refine⟨by rw[rs.length];exact z,fun p hp=>?_⟩
 have g2:=g1.trans (Grow.data (a:=p) (o:=.tup vs) g1.sub g1.reel hp)
 exact h _ (.d (.tuple ds)) _ _ g2 (.tup (.inl (.inl au)) (rs.mono (Grow.data (o:=.tup vs) g1.sub g1.reel hp).fs)) trivial q1
theorem j9{K:W.Frag}{p:Addr}{ds:List Fd}(s:bC F H)(ra:Eu rl F H)(hp:H p=none)(rs:Reps K F vs ds):hW K rl F (upd H p (.lst vs)) (.ref p) ds:=by
 refine⟨p,vs,rfl,s.free hp,fun e=>?_,au,rs⟩
 obtain⟨o,q⟩:=ra.live e
 rw[hp]at q
 cases q
theorem lW(h:Ev X rl es fs):PV X rl (.List es pos) (yU fs):=by
 obtain⟨t,p,k⟩:=h
 refine⟨_,xB p,fun R Qd Q q h=>k R _ _ q fun vs ws F1 H1 g1 r1 ⟨ds,e1,z,q1⟩=>?_⟩
 have rs:=dn r1 e1
 refine⟨by rw[rs.length];exact z,fun p hp=>?_⟩
 exact h _ (.ml ds) _ _ (g1.trans (Grow.laid (a:=p) (o:=.lst vs) g1.sub g1.reel hp)) (j9 g1.sub g1.reel hp rs) (fun a ea=>by cases ea;exact g1.freeB hp) q1
noncomputable def itemAt:Fd->Int->Option Fd
 | .list xs,i=>atI xs i
 | .tuple xs,i=>atI xs i
 | _,_=>none
theorem Reps.atI{K:W.Frag}{F:Hp}{vs:List V}{ds:List Fd}{i:Int}{d:Fd}(r:Reps K F vs ds)(e:L2.atI ds i=some d):∃v,L2.atI vs i=some v/\Rep K F v d:=by
 unfold L2.atI at e ⊢
 rw[r.length]
 cases q:ixN ds.length i with
 | none=>rw[q]at e;cases e
 | some j =>
   rw[q]at e
   exact r.get e
noncomputable def DX:W->W->(W->Prop)->Prop:=fun x y Q=>∃dx i z,x.dat=some dx/\y = .d (.int i)/\itemAt dx i=some z/\Q (.d z)
theorem vL:Ec X rl (Du X.K) DX:=fun{F H x y wx wy} Qd Q s ra r1 r2 q k=>by
 obtain⟨dx,i,z,e1,rfl,e3,q⟩:=q
 have ey:=aB r2
 subst ey
 cases dx with
 | list xs =>
   obtain⟨a,vs,rfl,sq,rs⟩:=r1.items s e1
   obtain⟨v,e4,rz⟩:=Reps.atI rs e3
   exact .inl ⟨a,vs,i,v,rfl,rfl,sq,e4,k _ (.d _) _ _ (Grow.refl s ra) rz trivial q⟩
 | tuple xs =>
   obtain⟨a,vs,rfl,sq,rs⟩:=r1.itemsT s e1
   obtain⟨v,e4,rz⟩:=Reps.atI rs e3
   exact .inr (.inl ⟨a,vs,i,v,rfl,rfl,sq,e4,k _ (.d _) _ _ (Grow.refl s ra) rz trivial q⟩)
 | none=>cases e3
 | bool b=>cases e3
 | int b=>cases e3
 | str b=>cases e3
 | dict b=>cases e3
theorem eX(ha:PV X rl a fa)(hb:PV X rl b fb)(hs:fV b:=by exact fun _ _=>rfl):PV X rl (.Subscript a b pos) (CU DX fa fb):=hZ vL ha hb fun _ _ p1 p2=>pB kr p1 p2 hs
noncomputable def eK(X:Cx)(rl:RlT)(r:List V->Hp->VK->Prop)(g:List W->(W->Prop)->Prop):Prop:=∀{F H:Hp}{vs:List V}{ws:List W}(Qd:W->Prop)(Q:VK),bC F H->Eu rl F H->d9 X.K rl F H vs ws->g ws Qd ->
 (∀v w F' H',Grow rl F H F' H'->cZ X.K rl F' H' v w->dH H v w->Qd w->Q v H')->r vs H Q
noncomputable def dB(g:List W->(W->Prop)->Prop)(fs:Eg):TV:=fun ρ Q=>fs ρ fun ws=>g ws Q
theorem jN{r:List V->Hp->VK->Prop}{g:List W->(W->Prop)->Prop}{t:TA->TE}(vc:eK X rl r g)(ha:Ev X rl es fs){e:Expr}(hp:∀ta,PA X es ta->PE X e (Df r ta)):PV X rl e (dB g fs):=by
 obtain⟨ta,p1,k1⟩:=ha
 refine⟨_,hp ta p1,fun R Qd Q q k=>k1 R _ _ q fun vs ws F1 H1 g1 r1 q1=>?_⟩
 exact vc Qd Q g1.sub g1.reel r1 q1 fun v w F2 H2 g2 r2 n2 q2=>k v w F2 H2 (g1.trans g2) r2 (n2.back g1) q2
theorem cI{id:String}{x:Str}{r:List V->Hp->VK->Prop}{g:List W->(W->Prop)->Prop}(hc:d_ X (.builtin id) r)(vc:eK X rl r g)(hm:X.mg x=none)(hv:Ih x=some (.builtin id))(ha:Ev X rl (e::es) fs)(hg:Gl X x:=by rfl)(hn:x ≠ "__name__" := by decide)(hdb:(x==("__debug__" : Str))=false:=by decide)
 (he:FA (e::es) X.env=(false,eval e X.env)::FA es X.env:=by rfl)(hpl:(Hf pos (FA es X.env)).any (·.1)=false:=by rfl):PV X rl (.Call (.Name x p) (e::es) [] pos) (dB g fs) :=
 jN (t:=fun _=>tC .non) vc ha fun _ p1=>pG hc hg hm hv p1 hn hdb he hpl
theorem jT{T:String}{x:Str}{r:List V->Hp->VK->Prop}{g:List W->(W->Prop)->Prop}(hc:d_ X (.type T) r)(vc:eK X rl r g)(hm:X.mg x=none)(hv:Ih x=some (.type T))(ha:Ev X rl (e::es) fs)(hg:Gl X x:=by rfl)(hn:x ≠ "__name__" := by decide)(hdb:(x==("__debug__" : Str))=false:=by decide)
 (he:FA (e::es) X.env=(false,eval e X.env)::FA es X.env:=by rfl)(hpl:(Hf pos (FA es X.env)).any (·.1)=false:=by rfl):PV X rl (.Call (.Name x p) (e::es) [] pos) (dB g fs) :=
 jN (t:=fun _=>tC .non) vc ha fun _ p1=>nj hc hg hm hv p1 hn hdb he hpl
theorem mR{K:W.Frag}{w:W}(r:d9 K rl F H vs [w]):∃v,vs=[v]/\cZ K rl F H v w:=by
 cases r with
 | cons r1 r2=>cases r2;exact⟨_,rfl,r1⟩
theorem vg{K:W.Frag}{w w':W}(r:d9 K rl F H vs [w,w']):∃v u,vs=[v,u]/\cZ K rl F H v w/\cZ K rl F H u w':=by
 cases r with
 | cons r1 r2 =>
   cases r2 with
   | cons r3 r4=>cases r4;exact⟨_,_,rfl,r1,r3⟩
noncomputable def Bv:List W->(W->Prop)->Prop:=fun ws Q=>∃i,ws=[.d (.int i)]/\Q (.d (.int (if i<0 then -i else i)))
noncomputable def uy:Fd->Option Nat
 | .list xs=>some xs.length
 | .tuple xs=>some xs.length
 | _=>none
noncomputable def yt:List W->(W->Prop)->Prop:=fun ws Q=>∃w d n,ws=[w]/\w.dat=some d/\uy d=some n/\Q (.d (.int n))
theorem vQ:eK X rl (fun xs H Q=>∃p ys,xs=[.ref p]/\(Eo X.K H p ys\/Em X.K H p ys)/\Q (.int ys.length) H) yt:=fun{F H vs ws} Qd Q s ra r ⟨w,d,n,ew,e1,e2,q⟩ k=>by
 subst ew
 obtain⟨v,rfl,r1⟩:=mR r
 cases d with
 | list xs =>
   obtain⟨a,vs,rfl,sq,rs⟩:=r1.items s e1
   cases e2
   exact⟨a,vs,rfl,.inl sq,k _ (.d _) _ _ (Grow.refl s ra) (by rw[rs.length];exact .int _) trivial q⟩
 | tuple xs =>
   obtain⟨a,vs,rfl,sq,rs⟩:=r1.itemsT s e1
   cases e2
   exact⟨a,vs,rfl,.inr sq,k _ (.d _) _ _ (Grow.refl s ra) (by rw[rs.length];exact .int _) trivial q⟩
 | none=>cases e2
 | bool b=>cases e2
 | int b=>cases e2
 | str b=>cases e2
 | dict b=>cases e2
end
structure VEnds where
 nx:En->Prop
 rt:W->Prop
 bk:En->Prop:=fun _=>False
 ct:En->Prop:=fun _=>False
structure EndsOk (K:W.Frag) (rl:RlT) (F₀ H₀ Fs:Hp) (Dv:VEnds) (D:Ends):Prop where
 nx:∀F H σ ρ,bC Fs F->VR K rl F₀ H₀ F H σ ρ->Dv.nx ρ->D.nx σ H
 rt:∀v w F H,Grow rl F₀ H₀ F H->cZ K rl F H v w->dH H₀ v w->Dv.rt w->D.rt v H
 bk:∀F H σ ρ,bC Fs F->VR K rl F₀ H₀ F H σ ρ->Dv.bk ρ->D.bk σ H
 ct:∀F H σ ρ,bC Fs F->VR K rl F₀ H₀ F H σ ρ->Dv.ct ρ->D.ct σ H
theorem EndsOk.on{K:W.Frag}{rl:RlT}{Fs:Hp}{Dv:VEnds}{D:Ends}(ok:EndsOk K rl F₀ H₀ Fs Dv D)(s:bC Fs F):EndsOk K rl F₀ H₀ F Dv D :=
 ⟨fun F1 H σ ρ s1=>ok.nx F1 H σ ρ (s.trans s1),ok.rt,fun F1 H σ ρ s1=>ok.bk F1 H σ ρ (s.trans s1),fun F1 H σ ρ s1=>ok.ct F1 H σ ρ (s.trans s1)⟩
abbrev Eh:=VEnds->En->Prop
noncomputable def Ez(X:Cx)(rl:RlT)(st:Stmt)(t:Eh):Prop:=∃T,PS X st T/\∀{F₀ H₀ F H:Hp}{σ:St}{ρ:En},VR X.K rl F₀ H₀ F H σ ρ->∀Dv D,EndsOk X.K rl F₀ H₀ F Dv D->t Dv ρ->T D σ H
noncomputable def ly(X:Cx)(rl:RlT)(st:List Stmt)(t:Eh):Prop:=∃T,Ey X st T/\∀{F₀ H₀ F H:Hp}{σ:St}{ρ:En},VR X.K rl F₀ H₀ F H σ ρ->∀Dv D,EndsOk X.K rl F₀ H₀ F Dv D->t Dv ρ->T D σ H
section
variable{X:Cx}{rl:RlT}{st:Stmt}{rest body:List Stmt}{t u:Eh}{a b c e:Expr}{es:List Expr}{fa fb:TV}{fs:Eg}{f:TB}{pos p:Pos}
noncomputable def v_:Eh:=fun D ρ=>D.nx ρ
noncomputable def ve(t u:Eh):Eh:=fun D ρ=>t {D with nx:=u D} ρ
theorem a_:ly X rl [] v_:=⟨_,tS,fun R Dv D ok q=>ok.nx _ _ _ _ (.refl _) R q⟩
theorem ai(h:Ez X rl st t):ly X rl [st] t:=let ⟨T,p,k⟩:=h;⟨T,jn p,k⟩
theorem aj(h:Ez X rl st t)(h2:ly X rl rest u):ly X rl (st::rest) (ve t u):=by
 obtain⟨T,p,k⟩:=h
 obtain⟨T2,p2,k2⟩:=h2
 exact⟨_,cJ p p2,fun R Dv D ok q=>k R {Dv with nx:=u Dv} {D with nx:=T2 D} ⟨fun F H σ ρ s' R' q'=>k2 R' Dv D (ok.on s') q',ok.rt,ok.bk,ok.ct⟩ q⟩
noncomputable def we(fa:TV):Eh:=fun D ρ=>fa ρ fun _=>D.nx ρ
theorem lK(h:PV X rl e fa)(hs:HL e none pos.line X.env=pure false:=by rfl):Ez X rl (.Expr e pos) (we fa):=by
 obtain⟨t,p,k⟩:=h
 exact⟨_,mW p hs,fun R Dv D ok q=>k R _ _ q fun v w F1 H1 g1 r1 n1 q1=>ok.nx _ _ _ _ g1.fs (R.grow g1) q1⟩
noncomputable def yS(fa:TV):Eh:=fun D ρ=>fa ρ D.rt
theorem av(h:PV X rl e fa):Ez X rl (.Return (some e) pos) (yS fa):=by
 obtain⟨t,p,k⟩:=h
 exact⟨_,mV p,fun R Dv D ok q=>k R _ _ q fun v w F1 H1 g1 r1 n1 q1=>ok.rt v w F1 H1 (R.g.trans g1) r1 (n1.back R.g) q1⟩
noncomputable def yV(f:TB)(t u:Eh):Eh:=fun D ρ=>f ρ fun b=>if b=true then t D ρ else u D ρ
theorem bL{A B:List Stmt}(hc:PB X rl c f)(ha:ly X rl A t)(hb:ly X rl B u):Ez X rl (.If c A B pos) (yV f t u):=by
 obtain⟨t0,p0,k0⟩:=hc
 obtain⟨t1,p1,k1⟩:=ha
 obtain⟨t2,p2,k2⟩:=hb
 refine⟨_,zD p0 p1 p2,fun R Dv D ok q=>k0 R _ _ q fun b F1 H1 g1 q1=>?_⟩
 cases b with
 | true=>exact k1 (R.grow g1) Dv D (ok.on g1.fs) q1
 | false=>exact k2 (R.grow g1) Dv D (ok.on g1.fs) q1
theorem dJ:Ez X rl st (fun _ _=>False):=⟨_,pj,fun _ _ _ _ q=>q.elim⟩
noncomputable def W.isPk:W->Bool
 | .pk _=>true
 | _=>false
noncomputable def yR(i:Nat)(fa:TV):Eh:=fun D ρ=>fa ρ fun w=>w.isPk=false/\D.nx (ρ.set i (some w))
theorem jK(i:Nat){x:Str}(hN:X.N.Nodup)(he:PV X rl e fa)(hi:X.N[i]?=some x:=by rfl)(hx:Loc X.env.scope x:=by first|exact HJ rfl|exact G_ rfl)
 (hs:HL e (some (.Name x pos')) pos.line X.env=pure false:=by rfl)(hf:X.fn x=true\/X.env.scope.names.lookup x=some .local:=by first|exact .inl rfl|exact .inr rfl) :
 Ez X rl (.Assign [.Name x pos'] e pos) (yR i fa):=by
 obtain⟨t,p,k⟩:=he
 refine⟨_,iC hN hi hx p hs hf,fun R Dv D ok q=>k R _ _ q fun v w F1 H1 g1 r1 n1 ⟨hp,q1⟩=>?_⟩
 exact ok.nx _ _ _ _ g1.fs (R.set g1 r1 n1 (fun xs z=>by subst z;cases hp) i) q1
noncomputable def lE(ρ:En):Prop:=∀(i:Nat)(w:W),ρ[i]?=some (some w)->w.own=false
theorem lE.set{ρ:En}(h:lE ρ)(i:Nat)(x:Fd):lE (ρ.set i (some (.d x))):=fun j w z=>by
 rw[GG]at z
 split at z
 · split at z
   · cases z;rfl
   · cases z
 · exact h j w z
abbrev Ek:=Fd->En->(En->Prop)->Prop
abbrev oM:=List Fd->En->(En->Prop)->Prop
noncomputable def EF(X:Cx)(rl:RlT)(tg:Expr)(g:Ek):Prop:=∃G,PG X tg G/\∀{F₀ H₀ F H:Hp}{σ:St}{ρ:En},VR X.K rl F₀ H₀ F H σ ρ->∀(v:V)(x:Fd)(Qd:En->Prop)(Q:St->Hp->Prop),Rep X.K F v x->g x ρ Qd ->
 (∀F' H' σ' ρ',Grow rl F H F' H'->(lE ρ->lE ρ')->VR X.K rl F₀ H₀ F' H' σ' ρ'->Qd ρ'->Q σ' H')->G v σ H Q
noncomputable def yE(X:Cx)(rl:RlT)(tgs:List Expr)(g:oM):Prop:=∃G,EE X tgs G/\∀{F₀ H₀ F H:Hp}{σ:St}{ρ:En},VR X.K rl F₀ H₀ F H σ ρ->∀(vs:List V)(xs:List Fd)(Qd:En->Prop)(Q:St->Hp->Prop),Reps X.K F vs xs->g xs ρ Qd ->
 (∀F' H' σ' ρ',Grow rl F H F' H'->(lE ρ->lE ρ')->VR X.K rl F₀ H₀ F' H' σ' ρ'->Qd ρ'->Q σ' H')->G vs σ H Q
noncomputable def qj(i:Nat):Ek:=fun x ρ Q=>Q (ρ.set i (some (.d x)))
theorem aq(i:Nat){x:Str}(hN:X.N.Nodup)(hi:X.N[i]?=some x:=by rfl)(hx:Loc X.env.scope x:=by first|exact HJ rfl|exact G_ rfl)(hf:X.fn x=true\/X.env.scope.names.lookup x=some .local:=by first|exact .inl rfl|exact .inr rfl):EF X rl (.Name x pos) (qj i) :=
 ⟨_,jq hN hi hx hf,fun R v x Qd Q r q k=>k _ _ _ _ (Grow.refl R.sub R.reel) (fun n=>n.set i x) (R.set (w:=.d x) (Grow.refl R.sub R.reel) r trivial (fun _ z=>by cases z) i) q⟩
noncomputable def zX:oM:=fun xs ρ Q=>xs=[]/\Q ρ
noncomputable def ql(g:Ek)(gs:oM):oM:=fun xs ρ Q=>∃y r,xs=y::r/\g y ρ fun ρ'=>gs r ρ' Q
theorem cj:yE X rl [] zX:=⟨_,na,fun R vs xs Qd Q r ⟨e,q⟩ k=>by subst e;exact⟨r.nil_iff,k _ _ _ _ (Grow.refl R.sub R.reel) (fun n=>n) R q⟩⟩
theorem aI{g:Ek}{gs:oM}(h1:EF X rl e g)(h2:yE X rl es gs)(hs:(G8 (e::es) X.env).map (·.2)=Jg e X.env::(G8 es X.env).map (·.2):=by rfl):yE X rl (e::es) (ql g gs):=by
 obtain⟨G,p,k⟩:=h1
 obtain⟨G2,p2,k2⟩:=h2
 refine⟨_,gX p p2 hs,fun R vs xs Qd Q r ⟨y,ys,ex,q⟩ h=>?_⟩
 subst ex
 cases r with
 | cons r1 r2 =>
   refine⟨_,_,rfl,k R _ y _ _ r1 q fun F1 H1 σ1 ρ1 s1 n1 R1 q1=>?_⟩
   exact k2 R1 _ ys _ _ (r2.mono s1.fs) q1 fun F2 H2 σ2 ρ2 s2 n2 R2 q2=>h F2 H2 σ2 ρ2 (s1.trans s2) (fun n=>n2 (n1 n)) R2 q2
noncomputable def zW(n:Nat)(gs:oM):Ek:=fun x ρ Q=>∃xs,x = .tuple xs/\xs.length=n/\gs xs ρ Q
theorem db{kk:Nat}{gs:oM}(hc:X.calm=true)(h:yE X rl es gs)(hn:(G8 es X.env).length=n:=by rfl)(hst:(G8 es X.env).findIdx? (·.1)=none:=by rfl):EF X rl (.Tuple es kk pos) (zW n gs):=by
 obtain⟨G,p,k⟩:=h
 refine⟨_,rE hc p hn hst,fun R v x Qd Q r ⟨xs,ex,hl,q⟩ h=>?_⟩
 subst ex
 cases r with
 | tup sq rs=>exact⟨_,_,rfl,dt R.sub sq,by rw[rs.length];exact hl,k R _ xs _ _ rs q h⟩
noncomputable def ym(fa:TV)(g:Ek):Eh:=fun D ρ=>fa ρ fun w=>∃x,w = .d x/\g x ρ D.nx
theorem vH{g:Ek}(he:PV X rl e fa)(hg:EF X rl tg g)(hs:IS [tg] e pos.line X.env=pure false:=by rfl)(hw:IT [tg] e X.env=pure none:=by rfl)
 (h1:(G8 [tg] X.env).map (·.2)=[Jg tg X.env]:=by rfl):Ez X rl (.Assign [tg] e pos) (ym fa g):=by
 obtain⟨t,p,k⟩:=he
 obtain⟨G,p2,k2⟩:=hg
 refine⟨_,mX p p2 hs hw h1,fun R Dv D ok q=>k R _ _ q fun v w F1 H1 g1 r1 n1 ⟨x,ew,q1⟩=>?_⟩
 subst ew
 exact k2 (R.grow g1) v x _ _ r1 q1 fun F2 H2 σ2 ρ2 s2 n2 R2 q2=>ok.nx _ _ _ _ (g1.fs.trans s2.fs) R2 q2
noncomputable def Bj(i j:Nat)(fs:Eg):Eh:=fun D ρ=>fs ρ fun ws=>∃x y,jC ws=some [x,y]/\D.nx ((ρ.set i (some (.d x))).set j (some (.d y)))
theorem lI(i j:Nat){x y:Str}{py pt:Pos}{kt k2 pt2}(hc:X.calm=true)(hN:X.N.Nodup)(ha:Ev X rl [a,b] fs)
 (hw:IT [.Tuple [.Name x px,.Name y py] kt pt] (.Tuple [a,b] k2 pt2) X.env=pure (some [x,y]):=by rfl)(hi:X.N[i]?=some x:=by rfl)(hj:X.N[j]?=some y:=by rfl)(hij:i≠j:=by decide)
 (hx:X.env.scope.names.lookup x=some .local:=by rfl)(hy:X.env.scope.names.lookup y=some .local:=by rfl)
 (hs:IS [.Tuple [.Name x px,.Name y py] kt pt] (.Tuple [a,b] k2 pt2) pos.line X.env=pure false:=by rfl) :
 Ez X rl (.Assign [.Tuple [.Name x px,.Name y py] kt pt] (.Tuple [a,b] k2 pt2) pos) (Bj i j fs):=by
 obtain⟨t,p,k⟩:=ha
 refine⟨_,xn hc hN hi hj hij hx hy p hw hs,fun R Dv D ok q=>k R _ _ q fun vs ws F1 H1 g1 r1 ⟨x,y,e1,q1⟩=>?_⟩
 have rs:=dn r1 e1
 cases rs with
 | cons rx rs =>
   cases rs with
   | cons ry rs =>
     cases rs
     have R1:=(R.grow g1).set (w:=.d x) (Grow.refl g1.sub g1.reel) rx trivial (fun _ z=>by cases z) i
     exact⟨_,_,rfl,ok.nx _ _ _ _ g1.fs (R1.set (w:=.d y) (Grow.refl g1.sub g1.reel) ry trivial (fun _ z=>by cases z) j) q1⟩
structure VIt (K:W.Frag) (rl:RlT) (F:Hp) (J:It) (xs:List Fd):Prop where
 go:∀i H x,xs[i]?=some x->bC F H->J.go i H
 stop:∀i H,xs.length<=i->bC F H->J.stop i H
 yld:∀{r:RlT} i H v H' x F2,xs[i]?=some x->bC F F2->bC F2 H->Eu r F2 H->J.yld i H v H'->∃F3,Grow r F2 H F3 H'/\Rep K F3 v x
theorem VIt.of{K:W.Frag}{rl:RlT}{J:It}(go:∀i H x,xs[i]?=some x->bC F H->J.go i H)(stop:∀i H,xs.length<=i->bC F H->J.stop i H)
 (yld:∀i H v H' x,xs[i]?=some x->bC F H->J.yld i H v H'->H'=H/\Rep K F v x):VIt K rl F J xs :=
 ⟨go,stop,fun i H v H' x F2 e s s2 ra y=>by
  obtain⟨e1,r⟩:=yld i H v H' x e (s.trans s2) y
  subst e1
  exact⟨F2,Grow.refl s2 ra,r.mono s⟩⟩
noncomputable def EC(X:Cx)(rl:RlT)(tg iter:Expr)(fi:En->(List Fd->Prop)->Prop):Prop:=∃wi,PI X tg iter wi/\∀{F₀ H₀ F H:Hp}{σ:St}{ρ:En},VR X.K rl F₀ H₀ F H σ ρ->∀(Qd:List Fd->Prop)(R:It->Hp->Prop),fi ρ Qd ->
 (∀J xs F' H',Grow rl F H F' H'->VIt X.K rl F' J xs->Qd xs->R J H')->wi σ H R
end
section
variable{X:Cx}{rl:RlT}{st:Stmt}{rest body:List Stmt}{t u:Eh}{a b c e:Expr}{es:List Expr}{fa fb:TV}{fs:Eg}{f:TB}{pos p:Pos}{tg:Expr}
noncomputable def yW(i:Nat)(t:Eh):Eh:=fun D ρ=>∃xs,ρ[i]?=some (some (.ml xs))/\t D (ρ.set i (some (.d (.list xs))))
theorem qw{K:W.Frag}{ρ:En}(r:VR K rl F₀ H₀ F H σ ρ)(e:ρ[i]?=some (some (.ml xs))):∃F1,bC F F1/\VR K rl F₀ H₀ F1 H σ (ρ.set i (some (.d (.list xs)))):=by
 obtain⟨v,h1,h2,h3⟩:=r.sl i _ e
 obtain⟨a,vs,ev,f,hr,hh,q⟩:=(show hW K rl F H v xs from h2)
 obtain⟨F1,R1⟩:=r.freeze e
 obtain⟨v',k1,k2,k3⟩:=R1.sl i _ (FT (FK.mp e).1)
 have neF:∀b u,F b=some u->b≠a:=fun b u q z=>by subst z;rw[f]at q;cases q
 have fsm:bC F (upd F a (.lst vs)):=fun b u z=>by rw[ak (neF b u z)];exact z
 have hi:i<ρ.length:=(FK.mp e).1
 refine⟨upd F a (.lst vs),fsm,r.g.freeze (h3 a ev) hh f hr,fun j w e1=>?_,R1.ap,R1.np,R1.len⟩
 by_cases hj:i=j
 · subst hj
   rw[FT hi]at e1
   cases e1
   exact⟨v,h1,by rw[ev];exact .lst au (q.mono fsm),trivial⟩
 · rw[FP hj]at e1
   obtain⟨u,g1,g2,g3⟩:=r.sl j w e1
   refine⟨u,g1,?_,g3⟩
   cases w with
   | d x=>exact Rep.mono fsm g2
   | reel=>exact g2
   | vv u=>exact g2
   | ml ys =>
     obtain⟨b,us,eb,f1,f2,f3,f4⟩:=(show hW K rl F H u ys from g2)
     have ne:b≠a:=fun z=>r.ap i j _ _ v hj e e1 rfl rfl h1 (by rw[g1,eb,z,ev])
     exact⟨b,us,eb,by rw[ak ne];exact f1,f2,f3,f4.mono fsm⟩
   | pk ys=>exact absurd e1 (r.np j ys)
   | md ys =>
     obtain⟨b,us,eb,f1,f2,f3,f4⟩:=(show r_ K rl F H u ys from g2)
     have ne:b≠a:=fun z=>r.ap i j _ _ v hj e e1 rfl rfl h1 (by rw[g1,eb,z,ev])
     exact⟨b,us,eb,by rw[ak ne];exact f1,f2,f3,G6.mapP f4 fun _ _ z=>⟨z.1,z.2.mono fsm⟩⟩
   | mk ys =>
     obtain⟨b,us,eb,f1,f2,f3,f4⟩:=(show lD K rl F H u ys from g2)
     have ne:b≠a:=fun z=>r.ap i j _ _ v hj e e1 rfl rfl h1 (by rw[g1,eb,z,ev])
     exact⟨b,us,eb,by rw[ak ne];exact f1,f2,f3,G6.mapP f4 fun _ _ z=>⟨z.1,z.2.mono fsm⟩⟩
   | nt ds=>obtain⟨b,us,eb,f1,f2⟩:=g2;exact⟨b,us,eb,fsm _ _ f1,f2.mono fsm⟩
   | lk=>trivial
   | sc ns=>obtain⟨b,eb,f1⟩:=g2;exact⟨b,eb,jk fsm f1⟩
   | fd kvs=>obtain⟨b,us,eb,f1,f2⟩:=g2;exact⟨b,us,eb,fsm _ _ f1,G6.mapP f2 fun _ _ z=>⟨z.1,z.2.mono fsm⟩⟩
   | fw kvs=>obtain⟨b,us,o,eb,f1,f2⟩:=g2;exact⟨b,us,o,eb,fsm _ _ f1,G6.mapP f2 fun _ _ z=>⟨z.1,z.2.mono fsm⟩⟩
   | ft kvs=>obtain⟨b,us,o,eb,f1,f2⟩:=g2;exact⟨b,us,o,eb,fsm _ _ f1,G6.mapP f2 fun _ _ z=>⟨z.1,z.2.mono fsm⟩⟩
   | xc _ _=>obtain⟨b,dx,us,C,eb,n,f1,f3,f2⟩:=g2;exact⟨b,dx,us,C,eb,n,fsm _ _ f1,fsm _ _ f3,G6.mapP f2 fun _ _ z=>⟨z.1,z.2.mono fsm⟩⟩
   | dp _ _=>obtain⟨c,b,us,u,o,eb,f1,f3,f2,z⟩:=g2;exact⟨c,b,us,u,o,eb,fsm _ _ f1,fsm _ _ f3,G6.mapP f2 fun _ _ z=>⟨z.1,z.2.mono fsm⟩,z.mono fsm⟩
theorem qL(i:Nat)(h:Ez X rl st t):Ez X rl st (yW i t):=by
 obtain⟨T,p,k⟩:=h
 refine⟨T,p,fun R Dv D ok ⟨xs,e,q⟩=>?_⟩
 obtain⟨F1,s1,R1⟩:=qw R e
 exact k R1 Dv D (ok.on s1) q
noncomputable def iL(fa:TV):En->(List Fd->Prop)->Prop:=fun ρ Q=>fa ρ fun w=>∃xs,w.fz = .d (.list xs)/\Q xs
noncomputable def iT(fa:TV):En->(List Fd->Prop)->Prop:=fun ρ Q=>fa ρ fun w=>∃xs,w.fz = .d (.tuple xs)/\Q xs
theorem i3{l:Expr}(hl:PV X rl l fa):EC X rl tg l (iL fa):=by
 obtain⟨t,p,k⟩:=hl
 refine⟨_,tW p,fun R Qd Q q h=>k R _ _ q fun v w F1 H1 g1 r1 n1 ⟨xs,ew,q1⟩=>?_⟩
 obtain⟨F2,g2,s2,r2⟩:=cZ.fz g1 r1 n1
 rw[ew]at r2
 cases(show Rep X.K F2 v (.list xs)from r2)with
 | @lst a vs _ sq rs =>
   have sqH:∀H,bC F2 H->Eo X.K H a vs:=fun H s=>.inl (.inl (s _ _ sq))
   refine⟨a,rfl,⟨vs,sqH H1 g2.sub⟩,h _ xs F2 H1 g2 (.of (fun i H x e s=>?_) (fun i H hl s=>⟨vs,sqH H s,by rw[rs.length];exact hl⟩) (fun i H v H' x e s y=>?_)) q1⟩
   · obtain⟨v,ev,_⟩:=rs.get e
     exact⟨vs,v,sqH H s,ev⟩
   · obtain⟨e',hy⟩:=y
     obtain⟨v',ev,rv⟩:=rs.get e
     have:=hy vs (sqH H s)
     rw[ev]at this
     cases this
     exact⟨e',rv⟩
theorem cV{l:Expr}(hl:PV X rl l fa):EC X rl tg l (iT fa):=by
 obtain⟨t,p,k⟩:=hl
 refine⟨_,xq p,fun R Qd Q q h=>k R _ _ q fun v w F1 H1 g1 r1 n1 ⟨xs,ew,q1⟩=>?_⟩
 obtain⟨F2,g2,s2,r2⟩:=cZ.fz g1 r1 n1
 rw[ew]at r2
 cases(show Rep X.K F2 v (.tuple xs)from r2)with
 | @tup a vs _ sq rs =>
   have sqH:∀H,bC F2 H->Em X.K H a vs:=fun H s=>dt s sq
   refine⟨a,rfl,⟨vs,sqH H1 g2.sub⟩,h _ xs F2 H1 g2 (.of (fun i H x e s=>?_) (fun i H hl s=>⟨vs,sqH H s,by rw[rs.length];exact hl⟩) (fun i H v H' x e s y=>?_)) q1⟩
   · obtain⟨v,ev,_⟩:=rs.get e
     exact⟨vs,v,sqH H s,ev⟩
   · obtain⟨e',hy⟩:=y
     obtain⟨v',ev,rv⟩:=rs.get e
     have:=hy vs (sqH H s)
     rw[ev]at this
     cases this
     exact⟨e',rv⟩
noncomputable def bu(lo:Int)(n:Nat):List Fd:=(FJ n).map fun(i:Nat)=>.int (lo+i)
theorem gi{lo:Int}{x:Fd}(h:(bu lo n)[i]?=some x):i<n/\x = .int (lo+i):=by
 unfold bu at h
 rw[Gg]at h
 by_cases hi:i<n
 · rw[Fp (by simpa using hi)]at h
   simp at h
   exact⟨hi,h.symm⟩
 · rw[Jt (by simpa using hi)]at h
   cases h
theorem ar{lo:Int}:(bu lo n).length=n:=by simp[bu]
theorem ia{K:W.Frag}(lo:Int)(n:Nat):VIt K rl F (EU lo n) (bu lo n) :=
 .of (fun i H x e s=>(gi e).1) (fun i H hl s=>by rw[ar]at hl;exact hl) (fun i H v H' x e s y=>by
  obtain⟨e1,e2⟩:=y
  subst e2
  rw[(gi e).2]
  exact⟨e1,.int _⟩)
noncomputable def DS(fs:Eg):En->(List Fd->Prop)->Prop:=fun ρ Q=>fs ρ fun ws=>∃j:Int,ws=[.d (.int j)]/\(-(2^62)<=j/\j<2^62)/\Q (bu 0 j.toNat)
noncomputable def DR(fs:Eg):En->(List Fd->Prop)->Prop:=fun ρ Q=>fs ρ fun ws=>∃i j:Int,ws=[.d (.int i),.d (.int j)]/\(-(2^62)<=i/\i<2^62 /\ -(2^62)<=j/\j<2^62)/\Q (bu i (j-i).toNat)
theorem aS(hm:X.mg "range" = none)(ha:Ev X rl [a] fs)(hg:Gl X "range" := by rfl)(hs:FA [a] X.env=[(false,eval a X.env)]:=by rfl):EC X rl tg (.Call (.Name "range" p) [a] [] pos) (DS fs):=by
 obtain⟨t,p1,k⟩:=ha
 refine⟨_,m_ hg hm p1 hs,fun R Qd Q q h=>k R _ _ q fun vs ws F1 H1 g1 r1 ⟨j,ew,b,q1⟩=>?_⟩
 subst ew
 obtain⟨v,rfl,rv⟩:=mR r1
 have e:=aB rv
 subst e
 exact⟨j,rfl,b.1,b.2,h _ _ F1 H1 g1 (ia 0 _) q1⟩
theorem fq(hm:X.mg "range" = none)(ha:Ev X rl [a,b] fs)(hg:Gl X "range" := by rfl)(hs:FA [a,b] X.env=[(false,eval a X.env),(false,eval b X.env)]:=by rfl)(hs2:FA [b] X.env=[(false,eval b X.env)]:=by rfl):EC X rl tg (.Call (.Name "range" p) [a,b] [] pos) (DR fs):=by
 obtain⟨t,p1,k⟩:=ha
 refine⟨_,m9 hg hm p1 hs hs2,fun R Qd Q q h=>k R _ _ q fun vs ws F1 H1 g1 r1 ⟨i,j,ew,b,q1⟩=>?_⟩
 subst ew
 obtain⟨v,u,rfl,rv,ru⟩:=vg r1
 have e:=aB rv
 have e':=aB ru
 subst e e'
 exact⟨i,j,rfl,b,h _ _ F1 H1 g1 (ia i _) q1⟩
theorem VR.own{K:W.Frag}{F₀ H₀ F H:Hp}{σ:St}{ρ:En}(r:VR K rl F₀ H₀ F H σ ρ){i:Nat}{xs ys:List Fd}{a:Addr}{us:List V}(e:ρ[i]?=some (some (.ml xs)))(es:σ[i]?=some (some (.ref a)))(rs:Reps K F us ys) :
 VR K rl F₀ H₀ F (upd H a (.lst us)) σ (ρ.set i (some (.ml ys))):=by
 obtain⟨v,h1,h2,h3⟩:=r.sl i _ e
 rw[es]at h1
 cases h1
 obtain⟨a',vs,ev,f,hr,hh,q⟩:=(show hW K rl F H (.ref a) xs from h2)
 cases ev
 have n0:H₀ a=none:=h3 a rfl
 have hi:i<ρ.length:=(FK.mp e).1
 have neF:∀b u,F b=some u->b≠a:=fun b u q z=>by subst z;rw[f]at q;cases q
 have g:Grow rl F₀ H₀ F (upd H a (.lst us)):=by
  refine⟨fun b o q1 n=>by rw[ak (aK q1 n0)];exact r.g.same b o q1 n,r.g.fs,fun b o q1=>by rw[ak (neF b o q1)];exact r.sub b o q1,r.g.old,fun y z=>?_⟩
  obtain⟨z1,⟨u,h1,h2⟩⟩:=r.reel y z
  exact⟨z1,⟨u,by rw[ak (fun q=>hr (by rw[<- q];exact z))];exact h1,h2⟩⟩
 refine⟨g,fun j w e1=>?_,fun j k ys' zs u hjk e1 e2 w1 w2 s1 s2=>?_,fun j ys' z=>?_,by simp[r.len]⟩
 · by_cases hj:i=j
   · subst hj
     rw[FT hi]at e1
     cases e1
     exact⟨_,es,⟨a,us,rfl,f,hr,au,rs⟩,h3⟩
   · rw[FP hj]at e1
     obtain⟨u,g1,g2,g3⟩:=r.sl j w e1
     refine⟨u,g1,?_,g3⟩
     cases w with
     | d x=>exact g2
     | reel=>exact g2
     | vv u=>exact g2
     | ml zs =>
       obtain⟨b,us',eb,f1,f2,f3,f4⟩:=(show hW K rl F H u zs from g2)
       have ne:b≠a:=fun z=>r.ap i j _ _ (.ref a) hj e e1 rfl rfl es (by rw[g1,eb,z])
       exact⟨b,us',eb,f1,f2,by rw[ak ne];exact f3,f4⟩
     | pk zs=>exact absurd e1 (r.np j zs)
     | md zs =>
       obtain⟨b,us',eb,f1,f2,f3,f4⟩:=(show r_ K rl F H u zs from g2)
       have ne:b≠a:=fun z=>r.ap i j _ _ (.ref a) hj e e1 rfl rfl es (by rw[g1,eb,z])
       exact⟨b,us',eb,f1,f2,by rw[ak ne];exact f3,f4⟩
     | mk zs =>
       obtain⟨b,us',eb,f1,f2,f3,f4⟩:=(show lD K rl F H u zs from g2)
       have ne:b≠a:=fun z=>r.ap i j _ _ (.ref a) hj e e1 rfl rfl es (by rw[g1,eb,z])
       exact⟨b,us',eb,f1,f2,by rw[ak ne];exact f3,f4⟩
     | nt ds=>exact g2
     | lk=>trivial
     | sc _=>exact g2
     | fd _=>exact g2
     | fw _=>exact g2
     | ft _=>exact g2
     | xc _ _=>exact g2
     | dp _ _=>exact g2
 · have nd:∀(j:Nat)(z:W),(ρ.set i (some (W.ml ys)))[j]?=some (some z)->z.own=true->∃z',ρ[j]?=some (some z')/\z'.own=true:=fun j zs z o=>by
     by_cases hj:i=j
     · subst hj
       exact⟨_,e,rfl⟩
     · rw[FP hj]at z
       exact⟨zs,z,o⟩
   obtain⟨_,d1,o1⟩:=nd j _ e1 w1
   obtain⟨_,d2,o2⟩:=nd k _ e2 w2
   exact r.ap j k _ _ u hjk d1 d2 o1 o2 s1 s2
 · rw[GG]at z
   split at z
   · first|cases z|(split at z<;>cases z)
   · exact r.np j ys' z
noncomputable def BA(K:W.Frag)(rl:RlT)(r:V->List V->Hp->VK->Prop)(g:List Fd->List W->(List Fd->Prop)->Prop):Prop :=
 ∀ {F H:Hp}{a:Addr}{vs args:List V}{xs:List Fd}{ws:List W}(Qn:List Fd->Prop)(Q:VK),bC F H->H a=some (.lst vs)->Reps K F vs xs->d9 K rl F H args ws->g xs ws Qn ->
   (∀us ys,Reps K F us ys->Qn ys->Q .non (upd H a (.lst us)))->r (.ref a) args H Q
noncomputable def yj(i:Nat)(g:List Fd->List W->(List Fd->Prop)->Prop)(fs:Eg):Eh:=fun D ρ=>∃xs,ρ[i]?=some (some (.ml xs))/\fs ρ fun ws=>g xs ws fun ys=>D.nx (ρ.set i (some (.ml ys)))
theorem vF(i:Nat){x:Str}{nm:Str}{id:String}{r:V->List V->Hp->VK->Prop}{g:List Fd->List W->(List Fd->Prop)->Prop}{apos cpos:Pos}(slot:Slot "list" nm id)(hty:typeOf (.builtin id)=pure (.type "method_descriptor"))(hm:EJ X id r)(vm:BA X.K rl r g)(ha:Ev X rl (e::es) fs)
 (hN:X.N[i]?=some x:=by rfl)(hv:Eb X.env.scope x:=by first|exact HJ rfl|exact G_ (HJ rfl)|exact G_ (G_ rfl))
 (hd:(x==("__debug__" : Str))=false:=by decide)(hcd:(x==("__classdict__" : Str))=false:=by decide)
 (hbase:Ln (.Name x px) nm X.env (eval (.Name x px) X.env)=eval (.Name x px) X.env:=by rfl)
 (hfew:((Hf cpos (FA (e::es) X.env)).all (fun x=>!x.1)&&(backToKw cpos (LR [] X.env)).all (fun x=>x.1.isSome)
  && decide ((e::es).length+([]:List Lu).length+(if([]:List Lu).isEmpty then 0 else 1)<30))=true:=by rfl)
 (hline:(apos.endLine==cpos.line)=true:=by rfl)(hs:FA (e::es) X.env=(false,eval e X.env)::FA es X.env:=by rfl)(hplain:(Hf cpos (FA es X.env)).any (·.1)=false:=by rfl)
 (hsw:HL (.Call (.Attribute (.Name x px) nm apos) (e::es) [] cpos) none pos.line X.env=pure false:=by rfl) :
 Ez X rl (.Expr (.Call (.Attribute (.Name x px) nm apos) (e::es) [] cpos) pos) (yj i g fs):=by
 obtain⟨t,p1,k⟩:=ha
 refine⟨_,mW (zE PySem.F.plainAttrs_list slot hty hm (dw hN hv hd hcd) p1 hbase hfew hline hs hplain) hsw,fun{F₀ H₀ F H σ ρ} R Dv D ok ⟨xs,e1,q⟩=>?_⟩
 obtain⟨v,h1,h2,h3⟩:=R.sl i _ e1
 obtain⟨a,vs,rfl,f,hr,hh,rs⟩:=(show hW X.K rl F H v xs from h2)
 refine⟨.ref a,h1,.inl ⟨rfl,vs,.inl (.inl hh)⟩,k R _ _ q fun args ws F1 H1 g1 r1 q1=>?_⟩
 refine vm _ _ g1.sub (g1.same a _ hh hr) (rs.mono g1.fs) r1 q1 fun us ys r2 q2=>?_
 exact ok.nx _ _ _ _ g1.fs ((R.grow g1).own e1 h1 r2) q2
noncomputable def yB:List Fd->List W->(List Fd->Prop)->Prop:=fun xs ws Q=>∃x,jC ws=some [x]/\xs.length<sizeLine/\Q (xs++[x])
theorem vM{K:W.Frag}:BA K rl mU yB:=fun{F H a vs args xs ws} Qn Q s ha rs ra ⟨x,e,z,q⟩ k=>by
 have r2:=dn ra e
 cases r2 with
 | cons rx r3 =>
   cases r3
   exact⟨a,vs,_,rfl,rfl,ha,by rw[rs.length];exact z,k _ _ (rs.snoc rx) q⟩
theorem lL(i:Nat){x:Str}{apos cpos:Pos}(ha:Ev X rl [e] fs)(hN:X.N[i]?=some x:=by rfl)(hv:Eb X.env.scope x:=by first|exact HJ rfl|exact G_ (HJ rfl)|exact G_ (G_ rfl))
 (hd:(x==("__debug__" : Str))=false:=by decide)(hcd:(x==("__classdict__" : Str))=false:=by decide)
 (hbase:Ln (.Name x px) "append" X.env (eval (.Name x px) X.env)=eval (.Name x px) X.env:=by rfl)
 (hfew:((Hf cpos (FA [e] X.env)).all (fun x=>!x.1)&&(backToKw cpos (LR [] X.env)).all (fun x=>x.1.isSome)
  && decide (([e]).length+([]:List Lu).length+(if([]:List Lu).isEmpty then 0 else 1)<30))=true:=by rfl)
 (hline:(apos.endLine==cpos.line)=true:=by rfl)(hs:FA [e] X.env=(false,eval e X.env)::FA [] X.env:=by rfl)(hplain:(Hf cpos (FA [] X.env)).any (·.1)=false:=by rfl)
 (hsw:HL (.Call (.Attribute (.Name x px) "append" apos) [e] [] cpos) none pos.line X.env=pure false:=by rfl) :
 Ez X rl (.Expr (.Call (.Attribute (.Name x px) "append" apos) [e] [] cpos) pos) (yj i yB fs) :=
 vF i PySem.F.slot_list_append PySem.F.type_list_append fH vM ha hN hv hd hcd hbase hfew hline hs hplain hsw
noncomputable def dG:W->Bool
 | .ml _=>false
 | .md _=>false
 | .mk _=>false
 | .pk _=>false
 | _=>true
noncomputable def CL(K:W.Frag)(rl:RlT)(P:List W->(Fd->Prop)->Prop):Sp:=fun vs H Q _=>∃F ws,bC F H/\Eu rl F H/\d9 K rl F H vs ws/\ws.all dG=true/\P ws fun d=>∀v F' H',Grow rl F H F' H'->Rep K F' v d->Q v H'
noncomputable def cY(N:List Str)(ws:List W):En:=ws.map some++FQ (N.length-ws.length) none
theorem iA{K:W.Frag}{F H:Hp}:∀{vs:List V}{ws:List W}{i:Nat}{w:W},d9 K rl F H vs ws->ws[i]?=some w->∃v,vs[i]?=some v/\cZ K rl F H v w
 | _,_,_,_,.nil,e=>by simp at e
 | _,_,0,_,.cons h _,e=>by simp at e;subst e;exact⟨_,rfl,h⟩
 | _,_,i+1,w,.cons _ r,e=>by
   obtain⟨v,h1,h2⟩:=iA (i:=i) (w:=w) r (by simpa using e)
   exact⟨v,by simpa using h1,h2⟩
theorem ii{N:List Str}{ws:List W}{w:W}(h:(cY N ws)[i]?=some (some w)):ws[i]?=some w:=by
 unfold cY at h
 by_cases hi:i<ws.length
 · rw[Ht (by simpa using hi),Gg]at h
   cases q:ws[i]? with
   | none=>rw[q]at h;cases h
   | some x=>rw[q]at h;cases h;rfl
 · rw[HU (by simpa using hi),IV]at h
   split at h<;>cases h
theorem dL{K:W.Frag}{N:List Str}{ws:List W}(s:bC F H)(ra:Eu rl F H)(r:d9 K rl F H vs ws)(ok:ws.all dG=true):VR K rl F H F H (start N vs) (cY N ws):=by
 have hl:vs.length=ws.length:=G7 r
 have no:∀(i:Nat) w,(cY N ws)[i]?=some (some w)->dG w=true:=fun i w e=>(GH.mp ok) w (KM (ii e))
 refine⟨Grow.refl s ra,fun i w e=>?_,fun i j xs ys v _ e1 _ o _ _ _=>(by have:=no i _ e1;cases xs<;>first|exact Bool.noConfusion o|exact Bool.noConfusion this),fun i xs e=>(by have:=no i _ e;cases this),?_⟩
 · obtain⟨v,h1,h2⟩:=iA r (ii e)
   refine⟨v,?_,h2,?_⟩
   · unfold start
     rw[Ht (by simpa using(FK.mp h1).1),Gg,h1]
     rfl
   · have:=no i w e
     cases w with
     | ml xs=>cases this
     | md xs=>cases this
     | mk xs=>cases this
     | nt _=>trivial
     | lk=>trivial
     | sc _=>trivial
     | fd _=>trivial
     | fw _=>trivial
     | ft _=>trivial
     | xc _ _=>trivial
     | dp _ _=>trivial
     | d _=>trivial
     | pk _=>trivial
     | reel=>trivial
     | vv _=>trivial
 · unfold cY start
   simp[hl]
noncomputable def kW(Q:Fd->Prop):VEnds:=⟨fun _=>Q .none,fun w=>∃d,w.fz = .d d/\Q d,fun _=>False,fun _=>False⟩
theorem CM{K:W.Frag}{mg:Str->Option Fm}{base:Heap}{x qual:Str}{st:Stmt}{fa:Addr}{N ps:List Str}{k:Nat}{Pd:List W->(Fd->Prop)->Prop}{t:Eh}
 (Fn:Fun K x qual st fa fd)(S:FnScope N ps (defScope st))(len:∀ws Q,Pd ws Q->ws.length=ps.length)
 (hbody:∀(cdv:Fm)(A:GN)(outer:List Env)(s:Ft)(H:Hp)(E:XK),Room k (A.deeper (J9 qual (defScope st) s.heap.objs.size fa cdv)) ->
  ly (lC E5 P w K mg base N qual (defScope st) fa cdv A outer s H E).nox rl (defBody st) t)
 (hread:∀ws Q,Pd ws Q->t (kW Q) (cY N ws)):FnOk P w K mg base E5 (k+1) fa fd ps (CL K rl Pd):=by
 refine Fn.ok S (fun vs H Q E ⟨F,ws,_,_,r,_,q⟩=>(G7 r).trans (len ws _ q)) fun cdv A outer s H vs Q E hr h=>?_
 obtain⟨F,ws,sm,ra,r,ok,q⟩:=h
 obtain⟨T,p,kk⟩:=hbody cdv A outer s H E hr
 refine⟨T,p,kk (dL sm ra r ok) (kW _) _ ⟨?_,?_,fun _ _ _ _ _ _ z=>GC z,fun _ _ _ _ _ _ z=>GC z⟩ (hread ws _ q)⟩
 · intro F1 H1 σ1 ρ1 _ R1 q1
   exact q1 .non F1 H1 R1.g .non
 · rintro v w1 F1 H1 g1 r1 n1 ⟨d,ed,q1⟩
   obtain⟨F2,g2,s2,r2⟩:=cZ.fz g1 r1 n1
   rw[ed]at r2
   exact q1 v F2 H1 g2 r2
structure Dfn (P:F0) (w:GD) (K:W.Frag) (mg:Str->Option Fm) (base:Heap) (rl:RlT) (x:Str) (ps:List Str) (k:Nat) (Pd:List W->(Fd->Prop)->Prop):Prop where
 mono:∀ws Q Q',(∀d,Q d->Q' d)->Pd ws Q->Pd ws Q'
 ex:∃f fd,mg x=some (.ref f)/\W.keepIn K (.ref f)=true/\Binds K fd ps []/\FnOk P w K mg base E5 k f fd ps (CL K rl Pd)
noncomputable def yN(Pd:List W->(Fd->Prop)->Prop)(fs:Eg):TV:=fun ρ Q=>fs ρ fun ws=>ws.all dG=true/\Pd ws fun d=>Q (.d d)
theorem aw{x:Str}{ps:List Str}{k:Nat}{Pd:List W->(Fd->Prop)->Prop}(D:Dfn X.prog X.w X.K X.mg X.base rl x ps k Pd)(hr:Room k X.A)(ha:Ev X rl (e::es) fs)(hg:Gl X x:=by rfl)
 (hdb:(x==("__debug__" : Str))=false:=by decide)(he:FA (e::es) X.env=(false,eval e X.env)::FA es X.env:=by rfl)(hpl:(Hf pos (FA es X.env)).any (·.1)=false:=by rfl) :
 PV X rl (.Call (.Name x p) (e::es) [] pos) (yN Pd fs):=by
 obtain⟨f,fd,hm,hk,hb,F⟩:=D.ex
 obtain⟨t,p1,kk⟩:=ha
 refine⟨_,gY F hr hg hm hk hb .nil pH p1 hdb he hpl,fun R Qd Q q h=>kk R _ _ q fun vs ws F1 H1 g1 r1 ⟨ok,q1⟩=>?_⟩
 refine⟨F1,ws,g1.sub,g1.reel,by rw[HM];exact r1,ok,?_⟩
 exact D.mono ws _ _ (fun d qd v F2 H2 g2 r2=>h v (.d d) F2 H2 (g1.trans g2) r2 trivial qd) q1
end
end L2.VL
variable{rl:L2.VL.RlT}{ρ:L2.VL.En}
namespace L2
theorem eJ{env:Env}:∀(names:List (Str×IU))(acc:List (Str×Addr)),(∀x∈names,x.2 = .free->∃c,env.cells.lookup x.1=some c)->(∀x c,acc.lookup x=some c->env.cells.lookup x=some c) ->
 ∃ cl,(forIn names acc (fun(x:Str×IU)(cs:List (Str×Addr))=>if(x.2==GM)=true then do let c <- cellOf env x.1;pure (Iz ((x.1,c)::cs))else pure (Iz cs)):Sem (List (Str×Addr)))=pure cl /\
   (∀x c,cl.lookup x=some c->env.cells.lookup x=some c)/\(∀x,(acc.lookup x).isSome=true->(cl.lookup x).isSome=true)/\∀x,(x,GM)∈names->(cl.lookup x).isSome=true
 | [],acc,_,h2=>⟨acc,rfl,h2,fun _ z=>z,fun _ z=>nomatch z⟩
 | (n,k)::r,acc,h1,h2=>by
   by_cases hk:k = .free
   · subst hk
     obtain⟨c,hc⟩:=h1 (n,.free) FB rfl
     have h2':∀x c',((n,c)::acc).lookup x=some c'->env.cells.lookup x=some c':=fun x c' z=>by
      rw[GJ]at z
      cases e:x==n with
      | true =>
        rw[e]at z
        have e':x=n:=by simpa using e
        cases z
        rw[e']
        exact hc
      | false =>
        rw[e]at z
        exact h2 x c' z
     obtain⟨cl,e,g1,g2,g3⟩:=eJ r ((n,c)::acc) (fun x hx=>h1 x (Fv _ hx)) h2'
     refine⟨cl,?_,g1,fun x z=>g2 x ?_,fun x z=>?_⟩
     · rw[Hz]
       simp only[beq_self_eq_true,if_true]
       have e0:cellOf env n=pure c:=by unfold cellOf;rw[hc]
       rw[e0,pure_bind,pure_bind]
       exact e
     · rw[GJ]
       split
       · rfl
       · exact z
     · rcases GT.mp z with z|z
       · cases z
         refine g2 _ ?_
         rw[GJ]
         simp
       · exact g3 x z
   · obtain⟨cl,e,g1,g2,g3⟩:=eJ r acc (fun x hx=>h1 x (Fv _ hx)) h2
     refine⟨cl,?_,g1,g2,fun x z=>?_⟩
     · rw[Hz]
       have hb:(k==GM)=false:=by simpa using hk
       simp only[hb,Iu,if_false]
       rw[pure_bind]
       exact e
     · rcases GT.mp z with z|z
       · cases z;exact absurd rfl hk
       · exact g3 x z
theorem cS{env:Env}(h:∀x∈scope.names,x.2 = .free->∃c,env.cells.lookup x.1=some c) :
 ∃cl,closureFor scope env=pure cl/\(∀x c,cl.lookup x=some c->env.cells.lookup x=some c)/\∀x,(x,GM)∈scope.names->(cl.lookup x).isSome=true:=by
 obtain⟨cl,e,g1,_,g3⟩:=eJ scope.names [] h (fun _ _ z=>by cases z)
 refine⟨cl,?_,g1,g3⟩
 unfold closureFor
 first
  | exact e
  | (simp only[bind_pure];exact e)
theorem iz{env:Env}{x:Str}(h:(LY scope env).names.lookup x=some .cell\/(LY scope env).names.lookup x=some .free):(x,GM)∈scope.names\/(x,HI)∈scope.names:=by
 have key:∀names:List (Str×IU),∀k,(k = .cell\/k = .free) ->
  (names.map fun(n,k)=>if(k==GM&&env.scope.kind == .function&&env.kindOf n==some .cell)then(n,HI)else(n,k)).lookup x=some k->(x,GM)∈names\/(x,HI)∈names:=by
  intro names
  induction names with
  | nil=>intro k _ z;cases z
  | cons y r ih =>
    intro k hk z
    obtain⟨n,kn⟩:=y
    have step:((x,GM)∈r\/(x,HI)∈r)->((x,GM)∈(n,kn)::r\/(x,HI)∈(n,kn)::r):=fun z=>z.imp (Fv _) (Fv _)
    rw[FV]at z
    dsimp only at z
    by_cases hc:(kn==GM&&env.scope.kind == .function&&env.kindOf n==some .cell)=true
    · rw[if_pos hc,GJ]at z
      have hf:kn = .free:=by
       have:=(FE.mp (FE.mp hc).1).1
       simpa using this
      cases e:x==n with
      | true =>
        have e':x=n:=by simpa using e
        rw[e',<- hf]
        exact .inl FB
      | false =>
        rw[e]at z
        exact step (ih k hk z)
    · rw[if_neg hc,GJ]at z
      cases e:x==n with
      | true =>
        rw[e]at z
        have e':x=n:=by simpa using e
        cases z
        rcases hk with hk|hk
        · rw[e',hk];exact .inr FB
        · rw[e',hk];exact .inl FB
      | false =>
        rw[e]at z
        exact step (ih k hk z)
 rcases h with h|h
 · exact key scope.names .cell (.inl rfl) h
 · exact key scope.names .free (.inr rfl) h
theorem bq:∀(names:List (Str×IU))(n:Nat)(acc:List (Str×Addr)),Hn n names acc=Hn n names []++acc
 | [],_,_=>rfl
 | (x,k)::r,n,acc=>by
   unfold Hn
   split
   · rw[bq r (n+1) ((x,n)::acc),bq r (n+1) [(x,n)],Kb]
     rfl
   · exact bq r n acc
theorem cT{x:Str}{c:Addr}:∀{names:List (Str×IU)}{n:Nat},(x,c)∈Hn n names []->(x,HI)∈names
 | (y,k)::r,n,h=>by
   unfold Hn at h
   split at h
   · rename_i hk
     rw[bq]at h
     rcases IR.mp h with h|h
     · exact Fv _ (cT h)
     · simp at h
       have:k = .cell:=by simpa using hk
       rw[h.1,this]
       exact FB
   · exact Fv _ (cT h)
theorem eI{a b:List (Str×Addr)}{x:Str}:(a++b).lookup x=(a.lookup x).or (b.lookup x):=by
 induction a with
 | nil=>simp
 | cons y a ih =>
   obtain⟨n,c⟩:=y
   rw[List.cons_append,GJ,GJ]
   cases x==n<;>simp[ih]
theorem js{M:Model}{globals:Addr}{cl:List (Str×Addr)}{qual:Str}{o:Env}{Q:Env->Ft->Prop}
 (hQ:Q {scope,locals:=s.heap.objs.size,globals,cells:=Hn (s.heap.objs.size+1) scope.names cl,qual,func:=none,code:=o.code,frame:=o.frame,builtins:=o.builtins} {s with heap:=LS (s.heap.push {cls:=.type "dict", data:=.dict #[]}) scope.names}) :
 FN M A (Jr scope globals cl [] qual none .none (some o)) Q E s:=by
 simp only[Jr,JX,if_true]
 refine Fb (wpAny_alloc ?_)
 refine Fb (wpAny_layCells _ (fun name kind cells=>by cases hkc:kind==HI<;>simp[hkc]) _ _ _ _ ?_)
 rw[show({s with heap:=s.heap.push {cls:=.type "dict", data:=.dict #[]}}:Ft).heap.objs.size=s.heap.objs.size+1 from Gs ..]
 exact Fb (Fj (Fj hQ))
noncomputable def aV(X:Cx)(N':List Str)(scope:Scope)(cl:List (Str×Addr))(fp:List Addr)(pn:List (Addr×Obj))(s:Ft)(H:Hp):Cx :=
 {X with N:=N',s₀:=s,H₀:=H,env:={compEnvC scope cl s.heap.objs.size X.env with cells:=Hn (s.heap.objs.size+1) scope.names cl},outer:=X.stack,ex:=fp,fn:=fun x=>scope.names.lookup x==some .cell,pn:=pn,xe:=fun _ _=>False}
abbrev dC(ifs:List Expr)(env:Env):Sem Bool:=forIn ifs true fun c r=>if r=true then do let ok <- isTrue c env (eval c env);pure (Iz ok)else pure (Iz r)
noncomputable def Ex(X:Cx)(ifs:List Expr)(t:TT):Prop :=
 ∀(pins:List (Addr×Obj))(s:Ft)(σ:St)(H:Hp)(Q:Bool->Hp->Prop),Inv X pins σ H s->t σ H Q->FN (Gb X.prog X.w) X.A (dC ifs X.env) (TP X pins σ Q) X.xe s
theorem tQ:Ex X [] (fun _ H Q=>Q true H):=fun _ _ _ H _ I h=>wpAny_tests_nil ⟨H,I,h⟩
theorem oh{prog:F0}{R:LP->Ft->Prop}{elt target:Expr}{it acc:Fm}{env:Env}(I:Nat->Ft->Prop)
 (turn:∀n s,I n s->FN (Gb prog w) A (J8 it) (fun r s₁=>(r=none/\R (.ok .next) s₁)\/∃v,r=some v /\
  FN (Gb prog w) A (Hw target it v) (fun _ s₂=>FN (Gb prog w) A (Jg target env v) (fun _ s₃=>FN (Gb prog w) A (dC ifs env) (fun ok s₄ =>
   if ok=true then FN (Gb prog w) A (eval elt env) (fun x s₅=>FN (Gb prog w) A (call (.builtin "list.append") [acc,x]) (fun _ s₆=>∃m,m<n/\I m s₆) (fun _ _=>False) s₅) (fun _ _=>False) s₄
   else ∃m,m<n/\I m s₄) (fun _ _=>False) s₃) (fun _ _=>False) s₂) (fun _ _=>False) s₁) (fun _ _=>False) s)
 (n:Nat)(h:I n s):HS (Gb prog w) A (.compLoop (.ListComp elt [⟨target,iter,ifs,0⟩] scope pos) 0 it acc env) R s:=by
 refine Ky rfl I (fun n s hI=>?_) n h
 show FN _ A ((Lo (.ListComp elt [⟨target,iter,ifs,0⟩] scope pos) 0 it acc env).onRaise (fun x=>do Lp x env;JI x)) _ _ s
 refine K3 ?_
 rw[compTurn_list]
 refine Fb (HG (Fb (Gk (turn n s hI) (fun r s₁ h₁=>?_) fun _ _ h'=>h'.elim)))
 rcases h₁ with⟨rfl,h₁⟩|⟨v,rfl,h₁⟩
 · exact Fj h₁
 · refine Fb (Gk h₁ (fun _ s₂ h₂=>Fb (Gk h₂ (fun _ s₃ h₃=>Fb (Gk h₃ (fun ok s₄ h₄=>?_) fun _ _ z=>z.elim)) fun _ _ z=>z.elim)) fun _ _ z=>z.elim)
   cases ok with
   | false=>exact Fj ⟨rfl,h₄⟩
   | true=>exact Fb (Fb (Gk h₄ (fun x s₅ h₅=>Fb (Gk h₅ (fun _ s₆ h₆=>Fj (Fj ⟨rfl,h₆⟩)) fun _ _ z=>z.elim)) fun _ _ z=>z.elim))
noncomputable def lB(fr:List (Option Nat))(σ:St):St:=fr.map fun o=>o.bind fun j=>(σ[j]?).join
noncomputable def qx(fr:List (Option Nat))(N' N:List Str)(sc scX:Scope):Bool :=
 decide (fr.length=N'.length)&&(FJ fr.length).all fun i=>match fr[i]? with
  | some (some j)=>match N'[i]? with
    | some x=>decide (N[j]?=some x)&&decide (sc.names.lookup x=some .free)&&(decide (scX.names.lookup x=some .cell)||decide (scX.names.lookup x=some .free))
    | none=>false
  | _=>true
noncomputable def rA(sc scX:Scope):Bool :=
 decide (sc.kind = .function)&&sc.names.all fun y=>(decide (y.2 ≠ .cell)||decide (sc.names.lookup y.1=some .cell))&&(decide (y.2 ≠ .local)||decide (sc.names.lookup y.1=some .local)) &&
  (decide (y.2 ≠ .free)||(decide (scX.names.lookup y.1=some .cell)||decide (scX.names.lookup y.1=some .free)))
theorem qx.get{fr:List (Option Nat)}{N' N:List Str}{sc scX:Scope}(h:qx fr N' N sc scX=true):fr.length=N'.length/\∀(i j:Nat),fr[i]?=some (some j)->∃x,N'[i]?=some x/\N[j]?=some x/\sc.names.lookup x=some .free/\(scX.names.lookup x=some .cell\/scX.names.lookup x=some .free):=by
 unfold qx at h
 obtain⟨h1,h2⟩:=FE.mp h
 refine⟨of_decide_eq_true h1,fun i j e=>?_⟩
 have hi:i<fr.length:=(FK.mp e).1
 have q:=GH.mp h2 i (GR.mpr hi)
 rw[e]at q
 dsimp only at q
 cases en:N'[i]? with
 | none=>rw[en]at q;cases q
 | some x =>
   rw[en]at q
   dsimp only at q
   obtain⟨q1,q2⟩:=FE.mp q
   obtain⟨q3,q4⟩:=FE.mp q1
   exact⟨x,rfl,of_decide_eq_true q3,of_decide_eq_true q4,(Gc.mp q2).imp of_decide_eq_true of_decide_eq_true⟩
theorem lp{x:Str}{k:IU}:∀{names:List (Str×IU)},names.lookup x=some k->(x,k)∈names:=fun h=>GU h
structure CompA where
 cl:List (Str×Addr)
 fp:List Addr
 pn:List (Addr×Obj)
 s:Ft
 H:Hp
abbrev blk(X:Cx)(N':List Str)(scope:Scope)(y:CompA):Cx:=aV X N' scope y.cl y.fp y.pn y.s y.H
noncomputable def wD(wi:TI)(fr:List (Option Nat))(g:CompA->TG)(tt:CompA->TT)(te:CompA->TE):TE:=fun σ H Q=>wi σ H fun J H1=>∀D,H1 D=none->∃Wv:Nat->Nat->List V->St->Hp->Prop,(∃m,Wv 0 m [] (lB fr σ) (upd H1 D (.lst []))) /\
 ∀ (z:CompA) i m acc σc H,Wv i m acc σc H->(J.stop i H/\Q (.ref D) H)\/(J.go i H/\∀x H',J.yld i H x H'->g z x σc H' fun σ2 H2=>tt z σ2 H2 fun b H3 =>
   if b=true then te z σ2 H3 fun y H4=>H4 D=some (.lst acc)/\acc.length<sizeLine/\∃m',m'<m/\Wv (i+1) m' (acc++[y]) σ2 (upd H4 D (.lst (acc++[y])))else ∃m',m'<m/\Wv (i+1) m' acc σ2 H3)
theorem eM{env:Env}:∀{names:List (Str×IU)}{x:Str},names.lookup x=some .free ->
 (names.map fun(n,k)=>if(k==GM&&env.scope.kind == .function&&env.kindOf n==some .cell)then(n,HI)else(n,k)).lookup x=some .cell \/
 (names.map fun(n,k)=>if(k==GM&&env.scope.kind == .function&&env.kindOf n==some .cell)then(n,HI)else(n,k)).lookup x=some .free
 | [],_,h=>by simp at h
 | (n,k)::r,x,h=>by
   have ih:=@eM env r x
   rw[FV]
   dsimp only
   cases hx:x==n with
   | true =>
     simp only[GJ,hx]at h
     cases h
     by_cases hc:((GM==GM)&&env.scope.kind == .function&&env.kindOf n==some .cell)=true
     · rw[if_pos hc];simp[GJ,hx]
     · rw[if_neg hc];simp[GJ,hx]
   | false =>
     simp only[GJ,hx]at h
     by_cases hc:(k==GM&&env.scope.kind == .function&&env.kindOf n==some .cell)=true
     · rw[if_pos hc];simp only[GJ,hx];exact ih h
     · rw[if_neg hc];simp only[GJ,hx];exact ih h
theorem dF{ex:Expr}{H3:Hp}{s3:Ft}{D:Addr}{J:It}{Q:VK}
 {cl:List (Str×Addr)}(N':List Str)(fr:List (Option Nat))(hc:X.calm=true)(hkind:scope.kind = .function)(hcell:∀y∈scope.names,y.2 = .cell->scope.names.lookup y.1=some .cell)
 (hfree:∀y∈scope.names,y.2 = .free->X.env.kindOf y.1=some .cell\/X.env.kindOf y.1=some .free)(frl:fr.length=N'.length)
 (frg:∀(i j:Nat),fr[i]?=some (some j)->∃x,N'[i]?=some x/\X.N[j]?=some x/\scope.names.lookup x=some .free/\(X.env.scope.names.lookup x=some .cell\/X.env.scope.names.lookup x=some .free))
 (cl1:∀x c,cl.lookup x=some c->X.env.cells.lookup x=some c)(cl2:∀x,(x,GM)∈scope.names->(cl.lookup x).isSome=true)
 (I3:Inv X pins σ H3 s3)(T:Turn X.prog X.w X.K tg J fp it tn)(tn3:tn 0 s3.heap)(fpD:∀b∈fp,H3 b=none)(fp3:∀b∈fp,b<s3.heap.objs.size)
 (fpk:∀b∈fp,b≠X.env.locals/\b∉X.fs/\(b∈X.ex\/X.s₀.heap.objs.size<=b)/\(∀x c,X.env.cells.lookup x=some c->c≠b)/\∀p∈X.pn++pins,p.1≠b)
 (loop:∀s',Inv (aV X N' scope cl fp (X.pn++pins) s3 H3) [] (lB fr σ) H3 s'->tn 0 s'.heap->(∀{H':Hp},(∀b∈fp,H' b=none)->∀b∈fp,iU (aV X N' scope cl fp (X.pn++pins) s3 H3) [] H' b) ->
  HS (Gb X.prog X.w) X.A (.compStart ex 0 (.ref it) (.ref D) (aV X N' scope cl fp (X.pn++pins) s3 H3).env) (fun r s5=>r = .ok .next/\∃σ5 H4,Inv (aV X N' scope cl fp (X.pn++pins) s3 H3) [] σ5 H4 s5/\Q (.ref D) H4) s')
 (fin:∀s5 H4 m,s5.heap.Ns s3.heap.objs.size m->(∀h',Hu s3.heap.objs.size s5.heap h'->Inv X pins σ H4 {s5 with heap:=h' })->iU X pins H4 s3.heap.objs.size->Q (.ref D) H4->Rp s3.heap.objs.size (.ok .next) s5) :
 FN (Gb X.prog X.w) X.A (Jr scope X.env.globals cl [] X.env.qual none .none (some X.env)) (fun cenv s₄ =>
  HS (Gb X.prog X.w) X.A (.compStart ex 0 (.ref it) (.ref D) {cenv with scope:=LY scope X.env})
   (Rp cenv.locals) s₄) X.xe s3:=by
 refine js ?_
 have ok:=cellsFrom_ok scope.names (s3.heap.push {cls:=.type "dict", data:=.dict #[]}) (s3.heap.objs.size+1) [] ⟨fun _ _ hm=>(nomatch hm),List.Pairwise.nil⟩ (by rw[Gs];exact FC _)
 rw[Gs]at ok
 have kp:∀b o,s3.heap.get? b=some o->(LS (s3.heap.push {cls:=.type "dict", data:=.dict #[]}) scope.names).get? b=some o:=fun b o e=>pushCells_keeps _ _ b o (Fh _ e)
 have hns₁:(LS (s3.heap.push {cls:=.type "dict", data:=.dict #[]}) scope.names).Ns s3.heap.objs.size (fun _=>none):=(Heap.Ns.new s3.heap (.type "dict")).keeps (pushCells_keeps _ _)
 generalize LS (s3.heap.push {cls:=.type "dict", data:=.dict #[]}) scope.names=h₁ at ok kp hns₁ ⊢
 have cs:∀x c,(Hn (s3.heap.objs.size+1) scope.names cl).lookup x=some c->(Hn (s3.heap.objs.size+1) scope.names []).lookup x=some c\/cl.lookup x=some c:=fun x c e=>by
  rw[bq,eI]at e
  cases q:(Hn (s3.heap.objs.size+1) scope.names []).lookup x with
  | none=>rw[q]at e;exact .inr (by simpa using e)
  | some c'=>rw[q]at e;exact .inl (by simpa using e)
 have own:∀x c,(Hn (s3.heap.objs.size+1) scope.names []).lookup x=some c->h₁.IsCell c none/\s3.heap.objs.size+1<=c:=fun x c e=>ok.empty x c (GU e)
 have clt:∀x c,cl.lookup x=some c->c<s3.heap.objs.size:=fun x c e=>by
  obtain⟨v,o,ho,_⟩:=I3.cell x c (cl1 x c e)
  exact Fz ho
 have frn:∀x,scope.names.lookup x=some .free->(Hn (s3.heap.objs.size+1) scope.names []).lookup x=none:=fun x e=>by
  cases q:(Hn (s3.heap.objs.size+1) scope.names []).lookup x with
  | none=>rfl
  | some c =>
    have:=hcell (x,.cell) (cT (GU q)) rfl
    rw[e]at this
    cases this
 have notC:∀b o,s3.heap.get? b=some o->b≠s3.heap.objs.size:=fun b o e=>Gj (Fz e)
 have fpstk:∀b∈fp,b∉frs X.stack:=fun b hb z=>(GT.mp (I3.stkSub b z)).elim (fpk b hb).1 (fpk b hb).2.1
 have cellK:∀c v,s3.heap.IsCell c v->h₁.IsCell c v:=fun c v ⟨o,ho,hd⟩=>⟨o,kp c o ho,hd⟩
 have IY:Inv (aV X N' scope cl fp (X.pn++pins) s3 H3) [] (lB fr σ) H3 {s3 with heap:=h₁}:=by
  refine⟨⟨I3.ok.mod,hkind,I3.ok.glob,I3.ok.blt,FC _,fun x y c e1 e2=>?_,fun x hx=>?_,fun x c _ e=>?_,I3.ok.hd,I3.ok.frames,.inl rfl,
   fun b hb=>⟨Gj (fp3 b hb),fun x c e=>?_⟩,I3.bs,Gq I3.ok.bsz I3.sz,fun b o e hb=>?_,fun b hb=>fpstk b hb,I3.stack,I3.stkFree⟩,
   rfl,I3.bare,Un.kept kp,⟨_,hns₁,fun i x v e1 e2 e3=>?_⟩,fun x c e=>?_,I3.hok.fresh (FC _),fun x c e=>?_,fun p hp=>?_,I3.hok.kept kp,?_⟩
  · rcases cs x c e1 with q1|q1<;>rcases cs y c e2 with q2|q2
    · exact name_of_addr ok.apart (GU q1) (GU q2)
    · exact absurd (FU (clt y c q2) (ID (own x c q1).2)) (G0 _)
    · exact absurd (FU (clt x c q1) (ID (own y c q2).2)) (G0 _)
    · exact I3.ok.inj x y c (cl1 x c q1) (cl1 y c q2)
  · refine Ic.mp ?_
    show((Hn (s3.heap.objs.size+1) scope.names cl).lookup x).isSome=true
    rcases iz hx with q|q
    · exact W.cellsFrom_some _ _ _ (.inr (cl2 x q))
    · exact W.cellsFrom_some _ _ _ (.inl (hcell _ q rfl))
  · rename_i hfn
    rcases cs x c e with q|q
    · have:=(own x c q).2
      show s3.heap.objs.size<=c
      omega
    · have hfn:(scope.names.lookup x==some HI)=true:=hfn
      have hl:scope.names.lookup x=some .cell:=by simpa using hfn
      obtain⟨c',ec'⟩:=Ic.mp (W.cellsFrom_some scope.names (s3.heap.objs.size+1) [] (.inl hl))
      have e':(Hn (s3.heap.objs.size+1) scope.names cl).lookup x=some c:=e
      rw[bq,eI,ec']at e'
      simp at e'
      subst e'
      exact ID (own x c' ec').2
  · rcases cs x c e with q|q
    · exact fun z=>absurd (FU (fp3 b hb) (ID (by rw[<- z];exact(own x c q).2))) (G0 _)
    · exact(fpk b hb).2.2.2.1 x c (cl1 x c q)
  · rcases(fpk b hb).2.2.1 with z|z
    · exact I3.ok.noex b o e z
    · exact absurd (FU (Fz e) (Gq I3.ok.bsz z)) (G0 _)
  · have e2':(fr[i]?).map (fun o=>o.bind fun j=>(σ[j]?).join)=some (some v):=by unfold lB at e2;rw[Gg]at e2;exact e2
    cases ef:fr[i]? with
    | none=>rw[ef]at e2';cases e2'
    | some o =>
      cases o with
      | none=>rw[ef]at e2';cases e2'
      | some j =>
        rw[ef]at e2'
        have e3':(σ[j]?).join=some v:=Gv e2'
        have e4:σ[j]?=some (some v):=by
         cases q:σ[j]? with
         | none=>rw[q]at e3';cases e3'
         | some z=>rw[q]at e3';cases e3';rfl
        obtain⟨x',n1,n2,n3,n4⟩:=frg i j ef
        have ex:x'=x:=Gv (n1.symm.trans e1)
        subst ex
        obtain⟨m,hn,hl⟩:=I3.loc
        obtain⟨u,ru,lk⟩:=hl j x' v n2 e4 (n4.elim (fun z=>.inr (.inl z)) fun z=>.inr (.inr z))
        refine⟨u,ru,?_⟩
        rcases lk with⟨kl,_⟩|⟨_,c,ec,hcl⟩
        · exact absurd (show X.env.scope.names.lookup x'=some .local from kl) (by rcases n4 with z|z<;>rw[z]<;>decide)
        · obtain⟨c',ec'⟩:=Ic.mp (cl2 x' (lp n3))
          have:=cl1 x' c' ec'
          rw[ec]at this
          cases this
          refine .inr ⟨eM n3,c,?_,cellK _ _ hcl⟩
          show(Hn (s3.heap.objs.size+1) scope.names cl).lookup x'=some c
          rw[bq,eI,frn x' n3]
          simpa using ec'
  · rcases cs x c e with q|q
    · exact⟨_,(own x c q).1⟩
    · obtain⟨v,z⟩:=I3.cell x c (cl1 x c q)
      exact⟨v,cellK _ _ z⟩
  · rcases cs x c e with q|q
    · exact I3.hok.fresh (by have:=(own x c q).2;omega)
    · exact I3.freeC x c (cl1 x c q)
  · rw[HM]at hp
    obtain⟨e,n,ne,nf,d⟩:=I3.pin p hp
    exact⟨kp _ _ e,n,notC _ _ e,fun z=>(GT.mp (I3.stkSub p.1 z)).elim ne nf,d⟩
  · unfold lB
    rw[Fq]
    exact frl
 have stat:∀{H':Hp},(∀b∈fp,H' b=none)->∀b∈fp,iU (aV X N' scope cl fp (X.pn++pins) s3 H3) [] H' b:=fun hn b hb =>
  ⟨hn b hb,Gj (fp3 b hb),fpstk b hb,.inl hb,fun x c e=>(by
   rcases cs x c e with q|q
   · exact fun z=>absurd (FU (fp3 b hb) (ID (by rw[<- z];exact(own x c q).2))) (G0 _)
   · exact(fpk b hb).2.2.2.1 x c (cl1 x c q)),fun p hp=>by rw[HM]at hp;exact(fpk b hb).2.2.2.2 p hp⟩
 refine JT (loop _ IY (T.keep _ _ _ tn3 fun b _ o e=>kp b o e) stat) fun r s5 ⟨hr,σ5,H4,I5,qn⟩=>?_
 subst hr
 obtain⟨m,hn,_⟩:=I5.loc
 refine fin s5 H4 m hn (fun h' hs'=>?_) (I3.fpOk (FC _) I5.free) qn
 have k':∀b o,b≠s3.heap.objs.size->s5.heap.get? b=some o->h'.get? b=some o:=fun b o nb e=>hs'.extBut b o nb e
 have u5:Un (frs X.stack) fp H3 H4 s3.heap s5.heap:=I5.base
 have un:Un (frs X.stack) fp H3 H4 s3.heap h' :=
  ⟨fun b o e n hb hx=>k' b o (notC b o e) (u5.keep b o e n hb hx),fun b o e n hb hx=>by obtain⟨sl,q⟩:=u5.slot b o e n hb hx;exact⟨sl,k' b _ (notC b o e) q⟩,u5.free,
   fun b o e hx=>by obtain⟨o',q⟩:=u5.there b o e hx;exact⟨o',k' b _ (notC b o e) q⟩,u5.tups,u5.frzs,u5.tbls⟩
 have nC:H4 s3.heap.objs.size=none:=I5.free
 have hok':E2 X.prog X.w H4 h':=fun b u e=>(I5.hok b u e).stay (fun c v hcv q=>k' c v (by
  rintro rfl
  rcases hcv with z|z
  · rw[<- z]at e;rw[nC]at e;cases e
  · rw[nC]at z;cases z) q) (fun _ q=>q) fun _ _ q=>q
 obtain⟨hh,g5,d5,t5,os5⟩:=s5
 have os':os5=s3.os:=I5.os
 subst os'
 have I':=Inv.call (s:=s3) (h':=h') (g':=g5) (d':=d5) (t':=t5) (ch:=fp) I3 un hok' I5.bare (fun b hb=>⟨(fpk b hb).2.2.1,(fpk b hb).1,(fpk b hb).2.2.2.1,(fpk b hb).2.2.2.2⟩)
 exact I'
theorem lv{elt:Expr}{g:TG}{tt:TT}{te:TE}{H3:Hp}{s3:Ft}{D:Addr}{J:It}{Q:VK}
 {cl:List (Str×Addr)}(N':List Str)(fr:List (Option Nat))(hc:X.calm=true)(hkind:scope.kind = .function)(hcell:∀y∈scope.names,y.2 = .cell->scope.names.lookup y.1=some .cell)
 (hfree:∀y∈scope.names,y.2 = .free->X.env.kindOf y.1=some .cell\/X.env.kindOf y.1=some .free)(frl:fr.length=N'.length)
 (frg:∀(i j:Nat),fr[i]?=some (some j)->∃x,N'[i]?=some x/\X.N[j]?=some x/\scope.names.lookup x=some .free/\(X.env.scope.names.lookup x=some .cell\/X.env.scope.names.lookup x=some .free))
 (cl1:∀x c,cl.lookup x=some c->X.env.cells.lookup x=some c)(cl2:∀x,(x,GM)∈scope.names->(cl.lookup x).isSome=true)
 (I3:Inv X pins σ H3 s3)(T:Turn X.prog X.w X.K tg J fp it tn)(tn3:tn 0 s3.heap)(fpD:∀b∈fp,H3 b=none)(fp3:∀b∈fp,b<s3.heap.objs.size)
 (fpk:∀b∈fp,b≠X.env.locals/\b∉X.fs/\(b∈X.ex\/X.s₀.heap.objs.size<=b)/\(∀x c,X.env.cells.lookup x=some c->c≠b)/\∀p∈X.pn++pins,p.1≠b)
 (hg:PG (aV X N' scope cl fp (X.pn++pins) s3 H3) tg g)(ht:Ex (aV X N' scope cl fp (X.pn++pins) s3 H3) ifs tt)(he:PE (aV X N' scope cl fp (X.pn++pins) s3 H3) elt te)
 {Wv:Nat->Nat->List V->St->Hp->Prop}{m0:Nat}(w0:Wv 0 m0 [] (lB fr σ) H3)
 (turn:∀i m acc σc H,Wv i m acc σc H->(J.stop i H/\Q (.ref D) H)\/(J.go i H/\∀x H',J.yld i H x H'->g x σc H' fun σ2 H2=>tt σ2 H2 fun b H3 =>
  if b=true then te σ2 H3 fun y H4=>H4 D=some (.lst acc)/\acc.length<sizeLine/\∃m',m'<m/\Wv (i+1) m' (acc++[y]) σ2 (upd H4 D (.lst (acc++[y])))else ∃m',m'<m/\Wv (i+1) m' acc σ2 H3))
 (fin:∀s5 H4 m,s5.heap.Ns s3.heap.objs.size m->(∀h',Hu s3.heap.objs.size s5.heap h'->Inv X pins σ H4 {s5 with heap:=h' })->iU X pins H4 s3.heap.objs.size->Q (.ref D) H4->Rp s3.heap.objs.size (.ok .next) s5) :
 FN (Gb X.prog X.w) X.A (Jr scope X.env.globals cl [] X.env.qual none .none (some X.env)) (fun cenv s₄ =>
  HS (Gb X.prog X.w) X.A (.compStart (.ListComp elt [⟨tg,iter,ifs,0⟩] scope pos) 0 (.ref it) (.ref D) {cenv with scope:=LY scope X.env})
   (Rp cenv.locals) s₄) X.xe s3:=by
 refine dF N' fr hc hkind hcell hfree frl frg cl1 cl2 I3 T tn3 fpD fp3 fpk (fun s' IY tY stat=>?_) fin
 have loop:HS (Gb X.prog X.w) X.A (.compLoop (.ListComp elt [⟨tg,iter,ifs,0⟩] scope pos) 0 (.ref it) (.ref D) (aV X N' scope cl fp (X.pn++pins) s3 H3).env)
  (fun r s5=>r = .ok .next/\∃σ5 H4,Inv (aV X N' scope cl fp (X.pn++pins) s3 H3) [] σ5 H4 s5/\Q (.ref D) H4) s':=by
  refine oh (fun n s'=>∃i acc σ' H',Inv (aV X N' scope cl fp (X.pn++pins) s3 H3) [] σ' H' s'/\tn i s'.heap/\(∀b∈fp,H' b=none)/\Wv i n acc σ' H') ?_ m0
   ⟨0,[],_,_,IY,tY,fpD,w0⟩
  rintro n s4 ⟨i,acc,σ4,H4,I4,st4,fr4,w4⟩
  rcases turn i n acc σ4 H4 w4 with⟨stop,qn⟩|⟨go,step⟩
  · exact C7 (T.done (aV X N' scope cl fp (X.pn++pins) s3 H3) rfl rfl rfl hc i [] s4 σ4 H4 (fun _ _=>False) I4 (stat fr4) st4 stop) fun r s5 ⟨hr,I5⟩=>.inl ⟨hr,rfl,σ4,H4,I5,qn⟩
  · refine C7 (T.item (aV X N' scope cl fp (X.pn++pins) s3 H3) rfl rfl rfl hc i [] s4 σ4 H4 (fun _ _=>False) I4 (stat fr4) st4 go) fun r s5 ⟨u,hr,h5⟩=>.inr ⟨u,hr,?_⟩
    refine C7 h5 fun _ s6 ⟨x,H6,I6,r6,y6,st6,fr6⟩=>?_
    have I6':=I6.pinned (stat fr6) (T.obj _ _ st6)
    have again:∀{σ7:St}{H7:Hp}{s7:Ft},Inv (aV X N' scope cl fp (X.pn++pins) s3 H3) ([]++eO fp s6.heap) σ7 H7 s7->∀{acc':List V}{m':Nat},m'<n->Wv (i+1) m' acc' σ7 H7 ->
     ∃m,m<n/\∃i acc σ' H',Inv (aV X N' scope cl fp (X.pn++pins) s3 H3) [] σ' H' s7/\tn i s7.heap/\(∀b∈fp,H' b=none)/\Wv i m acc σ' H':=fun{σ7 H7 s7} I7 {acc' m'} hm w7=>by
     refine⟨m',hm,i+1,acc',σ7,H7,I7.unpinned,T.keep _ _ _ st6 fun b hb o e=>(I7.pin (b,o) (FO _ (FO _ (br hb e)))).1,fun b hb=>?_,w7⟩
     obtain⟨o,e,d⟩:=T.obj _ _ st6 b hb
     exact(I7.pin (b,o) (FO _ (FO _ (br hb e)))).2.1
    refine C7 (hg _ s6 σ4 H6 x u _ I6' r6 (step x H6 y6)) fun _ s7 ⟨σ7,H7,I7,q7⟩=>?_
    refine C7 (ht _ s7 σ7 H7 _ I7 q7) fun ok s8 ⟨H8,I8,q8⟩=>?_
    cases ok with
    | false =>
      rw[if_neg Gi]at q8 ⊢
      obtain⟨m',hm,w8⟩:=q8
      exact again I8 hm w8
    | true =>
      rw[if_pos rfl]at q8 ⊢
      refine C7 (he _ s8 σ7 H8 _ I8 q8) fun y s9 ⟨yv,H9,I9,r9,eD,hl,m',hm,w9⟩=>?_
      exact C7 (fH (X:=aV X N' scope cl fp (X.pn++pins) s3 H3) _ s9 σ7 H9 (.ref D) [yv] (.ref D) [y] (fun _ H'=>H'=upd H9 D (.lst (acc++[yv]))) I9 rfl (.cons r9 .nil) ⟨D,acc,yv,rfl,rfl,eD,hl,rfl⟩)
       fun _ s10 ⟨_,H10,I10,_,e10⟩=>by subst e10;exact again I10 hm w9
 exact Ks loop (T.self X.A 0 _ _ _ tY loop)
section
variable{X:Cx}{elt tg iter:Expr}{ifs:List Expr}{scope:Scope}{pos:Pos}{wi:TI}{g:CompA->TG}{tt:CompA->TT}{te:CompA->TE}
theorem pA(N':List Str)(fr:List (Option Nat))(hc:X.calm=true)(hi:PI X tg iter wi)(hfr:qx fr N' X.N scope X.env.scope=true)(hsc:rA scope X.env.scope=true)
 (hg:∀y,PG (blk X N' scope y) tg (g y))(ht:∀y,Ex (blk X N' scope y) ifs (tt y))(he:∀y,PE (blk X N' scope y) elt (te y))
 (hs:∀x,Gx iter X.env x=pure x:=by intro _;rfl):PE X (.ListComp elt [⟨tg,iter,ifs,0⟩] scope pos) (wD wi fr g tt te):=by
 intro pins s σ H Q I h
 obtain⟨sk,sn⟩:=FE.mp hsc
 have hkind:scope.kind = .function:=of_decide_eq_true sk
 have hall:=GH.mp sn
 have hcell:∀y∈scope.names,y.2 = .cell->scope.names.lookup y.1=some .cell:=fun y hy hl=>by
  rcases Gc.mp (FE.mp (FE.mp (hall y hy)).1).1 with z|z
  · exact absurd hl (of_decide_eq_true z)
  · exact of_decide_eq_true z
 have hnames:∀y∈scope.names,y.2 = .local->scope.names.lookup y.1=some .local:=fun y hy hl=>by
  rcases Gc.mp (FE.mp (FE.mp (hall y hy)).1).2 with z|z
  · exact absurd hl (of_decide_eq_true z)
  · exact of_decide_eq_true z
 have hfree:∀y∈scope.names,y.2 = .free->X.env.kindOf y.1=some .cell\/X.env.kindOf y.1=some .free:=fun y hy hl=>by
  rcases Gc.mp (FE.mp (hall y hy)).2 with z|z
  · exact absurd hl (of_decide_eq_true z)
  · exact(Gc.mp z).imp of_decide_eq_true of_decide_eq_true
 obtain⟨frl,frg⟩:=qx.get hfr
 obtain⟨cl,hclos,cl1,cl2⟩:=cS (env:=X.env) (scope:=scope) fun y hy hl=>I.ok.has y.1 (hfree y hy hl)
 rw[eval_ListComp]
 refine Ie (use:=none) rfl hs hclos hkind hnames (C7 (hi pins s σ H _ I h) fun v s1 h1=>C7 h1 fun itv s2 h2=>?_)
 obtain⟨it,fp,tn,J,H2,e,I2,T,st2,f2,q2⟩:=h2
 subst e
 refine Go ?_
 have hD:H2 s2.heap.objs.size=none:=I2.hok.fresh (FC _)
 have I3:Inv X pins σ (upd H2 s2.heap.objs.size (.lst [])) {s2 with heap:=s2.heap.push {cls:=.type "list", data:=.seq ([]:List Fm).toArray}} :=
  I2.laid (t':=s2.toks) (fun b u e=>Fh _ e) (FC _) ⟨by show 0<=sizeLine;exact GW _,[],0,.nil,FF _ rfl⟩
 obtain⟨Wv,⟨m0,w0⟩,turn⟩:=q2 _ hD
 have tn3:tn 0 (s2.heap.push {cls:=.type "list", data:=.seq ([]:List Fm).toArray}):=T.keep _ _ _ st2 fun b _ o e=>Fh _ e
 have fpD:∀b∈fp,(upd H2 s2.heap.objs.size (.lst [])) b=none:=fun b hb=>by
  obtain⟨o,e,_⟩:=T.obj _ _ st2 b hb
  rw[ak (Gj (Fz e))]
  exact(f2 b hb).1
 have fp3:∀b∈fp,b<(s2.heap.push {cls:=.type "list", data:=.seq ([]:List Fm).toArray}).objs.size:=fun b hb=>by
  obtain⟨o,e,_⟩:=T.obj _ _ tn3 b hb
  exact Fz e
 exact lv N' fr hc hkind hcell hfree frl frg cl1 cl2 I3 T tn3 fpD fp3 (fun b hb=>(f2 b hb).2) (hg ⟨cl,fp,X.pn++pins,_,_⟩) (ht ⟨cl,fp,X.pn++pins,_,_⟩) (he ⟨cl,fp,X.pn++pins,_,_⟩) w0 (turn ⟨cl,fp,X.pn++pins,_,_⟩)
  (Rp:=compPost (Gb X.prog X.w) X.A X.xe none (EP X pins σ Q) (.ref s2.heap.objs.size)) fun s5 H4 m hn k _ qn=>⟨m,hn,fun h' hs'=>⟨.ref _,H4,k h' hs',rfl,qn⟩⟩
end
end L2
namespace L2.VL
noncomputable def W.cap:W->Option W
 | .d x=>some (.d x)
 | .reel=>some .reel
 | .vv u=>some (.vv u)
 | .sc ns=>some (.sc ns)
 | .fd kvs=>some (.fd kvs)
 | .fw kvs=>some (.fw kvs)
 | .ft kvs=>some (.ft kvs)
 | .xc x fs=>some (.xc x fs)
 | .dp kvs x=>some (.dp kvs x)
 | _=>none
noncomputable def eg(fr:List (Option Nat))(ρ:En):En:=fr.map fun o=>o.bind fun j=>((ρ[j]?).join).bind W.cap
noncomputable def qK(X:Cx)(rl:RlT)(ifs:List Expr)(f:TB):Prop:=∃t,Ex X ifs t/\∀{F₀ H₀ F H:Hp}{σ:St}{ρ:En},VR X.K rl F₀ H₀ F H σ ρ->∀(Qd:Bool->Prop)(Q:Bool->Hp->Prop),f ρ Qd ->
 (∀b F' H',Grow rl F H F' H'->Qd b->Q b H')->t σ H Q
theorem aU:qK X rl [] (fun _ Q=>Q true):=⟨_,tQ,fun R Qd Q q k=>k true _ _ (Grow.refl R.sub R.reel) q⟩
theorem eZ{fr:List (Option Nat)}{w:W}(h:(eg fr ρ)[i]?=some (some w)):∃j w',fr[i]?=some (some j)/\ρ[j]?=some (some w')/\w'.cap=some w:=by
 unfold eg at h
 rw[Gg]at h
 cases ef:fr[i]? with
 | none=>rw[ef]at h;cases h
 | some o =>
   cases o with
   | none=>rw[ef]at h;cases h
   | some j =>
     rw[ef]at h
     have h':((ρ[j]?).join).bind W.cap=some w:=Gv h
     cases q:ρ[j]? with
     | none=>rw[q]at h';cases h'
     | some o =>
       cases o with
       | none=>rw[q]at h';cases h'
       | some w'=>rw[q]at h';exact⟨j,w',rfl,q,h'⟩
theorem kK{w' w:W}(h:w'.cap=some w):w=w'/\w.own=false/\∀xs,w ≠ .pk xs:=by
 cases w'<;>cases h<;>exact⟨rfl,rfl,(fun _ z=>by cases z)⟩
theorem gB{K:W.Frag}{fr:List (Option Nat)}(R:VR K rl F₀ H₀ F H σ ρ)(g:Grow rl F H F H'):VR K rl F H F H' (lB fr σ) (eg fr ρ):=by
 refine⟨g,fun i w e=>?_,fun i j xs ys v _ e1 _ o1 _ _ _=>?_,fun i xs e=>?_,by simp[lB,eg]⟩
 · obtain⟨j,w',e1,e2,e3⟩:=eZ e
   obtain⟨rfl,n1,n2⟩:=kK e3
   obtain⟨v,s1,r1,_⟩:=R.sl j w e2
   refine⟨v,?_,r1.grow g,?_⟩
   · unfold lB
     rw[Gg,e1]
     show some ((σ[j]?).join)=_
     rw[s1]
     rfl
   · cases w with
     | ml xs=>cases n1
     | md xs=>cases n1
     | mk xs=>cases n1
     | nt _=>trivial
     | lk=>trivial
     | sc _=>trivial
     | fd _=>trivial
     | fw _=>trivial
     | ft _=>trivial
     | xc _ _=>trivial
     | dp _ _=>trivial
     | d _=>trivial
     | pk _=>trivial
     | reel=>trivial
     | vv _=>trivial
 · obtain⟨_,_,_,_,e3⟩:=eZ e1
   rw[(kK e3).2.1]at o1
   cases o1
 · obtain⟨_,_,_,_,e3⟩:=eZ e
   exact absurd rfl ((kK e3).2.2 xs)
theorem eG{fr:List (Option Nat)}:lE (eg fr ρ):=fun i xs e=>by
 obtain⟨_,_,_,_,e3⟩:=eZ e
 exact(kK e3).2.1
theorem VR.other{K:W.Frag}(R:VR K rl F₀ H₀ F H σ ρ)(n:lE ρ){D:Addr}{o:HO}(h0:H₀ D=none)(f:F D=none)(hr:rl.a≠some D):VR K rl F₀ H₀ F (upd H D o) σ ρ:=by
 have neF:∀b u,F b=some u->b≠D:=fun b u q z=>by subst z;rw[f]at q;cases q
 have g:Grow rl F₀ H₀ F (upd H D o):=by
  refine⟨fun b o q1 n=>by rw[ak (aK q1 h0)];exact R.g.same b o q1 n,R.g.fs,fun b o q1=>by rw[ak (neF b o q1)];exact R.sub b o q1,R.g.old,fun y z=>?_⟩
  obtain⟨z1,⟨u,h1,h2⟩⟩:=R.reel y z
  exact⟨z1,⟨u,by rw[ak (fun q=>hr (by rw[<- q];exact z))];exact h1,h2⟩⟩
 refine⟨g,fun i w e=>?_,R.ap,R.np,R.len⟩
 obtain⟨v,h1,h2,h3⟩:=R.sl i w e
 refine⟨v,h1,?_,h3⟩
 cases w with
 | d x=>exact h2
 | reel=>exact h2
 | vv u=>exact h2
 | ml xs=>cases n i _ e
 | md xs=>cases n i _ e
 | mk xs=>cases n i _ e
 | nt ds=>exact h2
 | lk=>trivial
 | sc _=>exact h2
 | fd _=>exact h2
 | fw _=>exact h2
 | ft _=>exact h2
 | xc _ _=>exact h2
 | dp _ _=>exact h2
 | pk xs=>exact absurd e (R.np i xs)
section
variable{X:Cx}{rl:RlT}{elt tg iter:Expr}{ifs:List Expr}{scope:Scope}{pos:Pos}{fi:En->(List Fd->Prop)->Prop}{g:Ek}{ft:TB}{fe:TV}
end
mutual
def vq:Fd->Prop
 | .none=>True
 | .bool _=>True
 | .int i=>i.natAbs<2^1900
 | .str x=>Fd.strOk x=true
 | .list xs=>fW xs
 | .tuple xs=>fW xs
 | .dict _=>False
def fW:List Fd->Prop
 | []=>True
 | x::xs=>vq x/\fW xs
end
theorem lq{k:Nat}(h:n<2^k)(hk:0<k):n.log2<k:=by
 by_cases h0:n=0
 · subst h0;simpa using hk
 · exact(Nat.log2_lt h0).mpr h
mutual
theorem vq.facts:∀d:Fd,vq d->d.showable=true/\d.canLay0=true/\d.hasDict=false/\d.leavesShort 1921=true
 | .none,_=>⟨rfl,rfl,rfl,rfl⟩
 | .bool _,_=>⟨rfl,rfl,rfl,rfl⟩
 | .int i,h=>by
   have hl:i.natAbs.log2<1920:=lq (FU (show i.natAbs<2^1900 from h) (GP (by decide) (by decide))) (by decide)
   refine⟨by simp[JJ,hl],rfl,rfl,?_⟩
   simp only[I0,decide_eq_true_eq]
   exact int_text_len_1921 hl
 | .str x,h=>by
   refine⟨rfl,(show GS (.str x)=true by simp only[GS];exact h),rfl,?_⟩
   have h:x.cps.all (· < 0x110000)=true:=h
   simp only[I0]
   rw[GH]
   intro c hc
   have:=(Array.all_eq_true_iff_forall_mem.mp h) c (by simpa using hc)
   simp at this ⊢
   omega
 | .list xs,h=>by
   obtain⟨a,b,c,d⟩:=fW.facts xs h
   exact⟨by simpa[JJ]using a,by simpa[GS]using b,by simpa[Fd.hasDict]using c,by simpa[I0]using d⟩
 | .tuple xs,h=>by
   obtain⟨a,b,c,d⟩:=fW.facts xs h
   exact⟨by simpa[JJ]using a,by simpa[GS]using b,by simpa[Fd.hasDict]using c,by simpa[I0]using d⟩
 | .dict _,h=>GC h
theorem fW.facts:∀xs:List Fd,fW xs->Fd.showableAll xs=true/\Ig xs=true/\Fd.hasDictAll xs=false/\Kz 1921 xs=true
 | [],_=>⟨rfl,rfl,rfl,rfl⟩
 | x::xs,h=>by
   obtain⟨a,b,c,d⟩:=vq.facts x h.1
   obtain⟨a',b',c',d'⟩:=fW.facts xs h.2
   exact⟨by simp[Fd.showableAll,a,a'],by simp[Ig,b,b'],by simp[Fd.hasDictAll,c,c'],by simp[Kz,d,d']⟩
end
noncomputable def Et(d:Fd):Prop:=vq d/\d.depth<=60/\d.bulk<=8000
theorem Et.len(h:Et d):d.shown.length<=sizeLine:=by
 have q:=Fd.shown_le_bulk 1921 (by decide) d (vq.facts d h.1).2.2.2
 have:=h.2.2
 have e:sizeLine=16777216:=by decide
 omega
section
variable{X:Cx}{rl:RlT}{a b e:Expr}{es:List Expr}{fa fb fc:TV}{fs:Eg}{pos p:Pos}
noncomputable def wZ(K:W.Frag):List V->Hp->VK->Prop:=fun xs H Q=>∃x d,xs=[x]/\Rep K H x d/\Et d/\Q (.str d.shown) H
theorem ox(hgd:X.A.guards=some [])(hu:X.A.units+64<Lk):d_ X (.builtin "repr") (wZ X.K):=by
 intro pins s σ H xs us Q I r ⟨x,d,ex,rx,sh,q⟩
 subst ex
 obtain⟨u,rfl,ru⟩:=vals1 r
 have fin:∀tk h' , (∀b o,s.heap.get? b=some o->h'.get? b=some o)->∀t,EP X pins σ Q (.str d.shown t) {s with heap:=h',toks:=tk}:=fun tk h' k t=>⟨.str d.shown,H,I.kept k,⟨t,rfl⟩,q⟩
 obtain⟨as,rd⟩:=Rep.reads I (.refl H) rx u ru
 have hs:=(vq.facts d sh.1)
 cases rx with
 | non=>cases(show u=H_ from ru);exact P.repr_of_none (fin _ _ (fun _ _ e=>e) _)
 | bl b=>cases(show u=JC b from ru);exact P.repr_of_bool (fin _ _ (fun _ _ e=>e) _)
 | int i =>
   obtain⟨t,e⟩:=(show ∃t,u=JD i t from ru)
   cases e
   exact P.repr_of_int (by simpa[JJ]using hs.1) (fin _ _ (fun _ _ e=>e) _)
 | str x =>
   obtain⟨t,e⟩:=(show ∃t,u=Ld x t from ru)
   cases e
   exact P.repr_of_str (fin _ _ (fun _ _ e=>e) _) sh.len
 | tup sq rs =>
   cases(show u=HC _ from ru)
   exact repr_of_reads' rd hs.1 (Fd.noDict_hsm hs.2.2.1) hgd (by have:=sh.2.1;omega) (fun _ _ e=>e) (fun h' t tk hk=>fin tk h' hk t) sh.len
 | lst sq rs =>
   cases(show u=HC _ from ru)
   exact repr_of_reads' rd hs.1 (Fd.noDict_hsm hs.2.2.1) hgd (by have:=sh.2.1;omega) (fun _ _ e=>e) (fun h' t tk hk=>fin tk h' hk t) sh.len
noncomputable def qo:List W->(W->Prop)->Prop:=fun ws Q=>∃w d,ws=[w]/\w.dat=some d/\Et d/\Q (.d (.str d.shown))
theorem sG:eK X rl (wZ X.K) qo:=fun{F H vs ws} Qd Q s ra r ⟨w,d,ew,e1,sh,q⟩ k=>by
 subst ew
 obtain⟨v,rfl,r1⟩:=mR r
 exact⟨v,d,rfl,r1.dat s e1,sh,k _ (.d _) _ _ (Grow.refl s ra) (.str _) trivial q⟩
theorem jQ(hr:Room 0 X.A)(hm:X.mg "repr" = none)(ha:Ev X rl [e] fs)(hg:Gl X "repr" := by rfl)(he:FA [e] X.env=(false,eval e X.env)::FA [] X.env:=by rfl)(hpl:(Hf pos (FA [] X.env)).any (·.1)=false:=by rfl) :
 PV X rl (.Call (.Name "repr" p) [e] [] pos) (dB qo fs):=cI (ox hr.gd hr.units) sG hm (by first|rfl|exact boot_repr) ha hg (by decide) (by decide) he hpl
noncomputable def C2:Fd->String
 | .none => "NoneType"
 | .bool _ => "bool"
 | .int _ => "int"
 | .str _ => "str"
 | .list _ => "list"
 | .tuple _ => "tuple"
 | .dict _ => "dict"
noncomputable def fX(d:Fd)(T:String):Bool:=C2 d==T||(C2 d == "bool" && T == "int")
noncomputable def qZ(T:String):Bool:=["int", "bool", "str", "list", "tuple"].contains T
theorem kit_ok{K:W.Frag}{T:String}(hd:∀kvs,d ≠ .dict kvs)(h:qZ T=true):W.kitOne K (.type (C2 d)) (.type T)=some (fX d T):=by
 have h:T = "int" \/ T = "bool" \/ T = "str" \/ T = "list" \/ T = "tuple" := by simpa[qZ]using h
 cases d with
 | dict kvs=>exact absurd rfl (hd kvs)
 | none=>rcases h with rfl|rfl|rfl|rfl|rfl<;>rfl
 | bool b=>rcases h with rfl|rfl|rfl|rfl|rfl<;>rfl
 | int b=>rcases h with rfl|rfl|rfl|rfl|rfl<;>rfl
 | str b=>rcases h with rfl|rfl|rfl|rfl|rfl<;>rfl
 | list b=>rcases h with rfl|rfl|rfl|rfl|rfl<;>rfl
 | tuple b=>rcases h with rfl|rfl|rfl|rfl|rfl<;>rfl
noncomputable def Br(K:W.Frag):List V->Hp->VK->Prop:=fun xs H Q=>∃x d T,xs=[x,.ty T]/\Rep K H x d/\qZ T=true/\Q (.bl (fX d T)) H
theorem qD:d_ X (.builtin "isinstance") (Br X.K):=by
 intro pins s σ H xs us Q I r ⟨x,d,T,ex,rx,ok,q⟩
 subst ex
 obtain⟨u,u2,rfl,ru,ru2⟩:=vals2 r
 cases(show u2=Lr T from ru2)
 have fin:∀tk,EP X pins σ Q (.bool (fX d T)) {s with toks:=tk}:=fun tk=>⟨.bl _,H,I.tok tk,rfl,q⟩
 obtain⟨as,rd⟩:=Rep.reads I (.refl H) rx u ru
 cases rd with
 | none=>exact W.kia_one W.kitx_none I.kIn Iq (kit_ok (d:=Fd.none) (fun _ z=>by cases z) ok) (fun z=>nomatch z) fin
 | bool b=>exact W.kia_one W.kitx_bool I.kIn Iq (kit_ok (d:=Hq b) (fun _ z=>by cases z) ok) (fun z=>nomatch z) fin
 | int i t=>exact W.kia_one W.kitx_int I.kIn Iq (kit_ok (d:=FW i) (fun _ z=>by cases z) ok) (fun z=>nomatch z) fin
 | str y t=>exact W.kia_one W.kitx_str I.kIn Iq (kit_ok (d:=Jm y) (fun _ z=>by cases z) ok) (fun z=>nomatch z) fin
 | list h1 h2 h3 h4=>exact W.kia_one W.kitx_list I.kIn ⟨_,h1,h2⟩ (kit_ok (d:=JK _) (fun _ z=>by cases z) ok) (fun z=>nomatch z) fin
 | tuple h1 h2 h3 h4=>exact W.kia_one W.kitx_tuple I.kIn ⟨_,h1,h2⟩ (kit_ok (d:=FY _) (fun _ z=>by cases z) ok) (fun z=>nomatch z) fin
 | dict h1 h2 h3 h4 h5=>cases rx
noncomputable def yx:List W->(W->Prop)->Prop:=fun ws Q=>∃w d T,ws=[w,.vv (.ty T)]/\w.dat=some d/\qZ T=true/\Q (.d (.bool (fX d T)))
theorem vR:eK X rl (Br X.K) yx:=fun{F H vs ws} Qd Q s ra r ⟨w,d,T,ew,e1,ok,q⟩ k=>by
 subst ew
 obtain⟨v,u,rfl,r1,r2⟩:=vg r
 cases(show u=V.ty T from r2)
 exact⟨v,d,T,rfl,r1.dat s e1,ok,k _ (.d _) _ _ (Grow.refl s ra) (.bl _) trivial q⟩
theorem gH(hm:X.mg "isinstance" = none)(ha:Ev X rl [a,b] fs)(hg:Gl X "isinstance" := by rfl)(he:FA [a,b] X.env=(false,eval a X.env)::FA [b] X.env:=by rfl)(hpl:(Hf pos (FA [b] X.env)).any (·.1)=false:=by rfl) :
 PV X rl (.Call (.Name "isinstance" p) [a,b] [] pos) (dB yx fs):=cI qD vR hm (by first|rfl|exact boot_isinstance) ha hg (by decide) (by decide) he hpl
theorem cy(hm:X.mg "len" = none)(ha:Ev X rl [a] fs)(hg:Gl X "len" := by rfl)(he:FA [a] X.env=(false,eval a X.env)::FA [] X.env:=by rfl)(hpl:(Hf pos (FA [] X.env)).any (·.1)=false:=by rfl) :
 PV X rl (.Call (.Name "len" p) [a] [] pos) (dB yt fs):=cI eS vQ hm boot_len ha hg (by decide) (by decide) he hpl
end
structure FnIn (K:W.Frag) (mg:Str->Option Fm) (x:Str) (st:Stmt) (ps:List Str):Prop where
 ex:∃f fd,mg x=some (.ref f)/\Fun K x x st f fd/\Binds K fd ps []
structure Bz (mg:Str->Option Fm):Prop where
 int_:mg "int" = none
 bool_:mg "bool" = none
 str_:mg "str" = none
 list_:mg "list" = none
 tuple_:mg "tuple" = none
 dict_:mg "dict" = none
 isinstance_:mg "isinstance" = none
 len_:mg "len" = none
 abs_:mg "abs" = none
 repr_:mg "repr" = none
 range_:mg "range" = none
 all_:mg "all" = none
 any_:mg "any" = none
 sum_:mg "sum" = none
 min_:mg "min" = none
 max_:mg "max" = none
 sorted_:mg "sorted" = none
 zip_:mg "zip" = none
 enumerate_:mg "enumerate" = none
 reversed_:mg "reversed" = none
 divmod_:mg "divmod" = none
 set_:mg "set" = none
section
variable{P:F0}{w:GD}{K:W.Frag}{mg:Str->Option Fm}{base:Heap}{rl:RlT}{x:Str}{st:Stmt}{N ps:List Str}{k:Nat}{Pd:List W->(Fd->Prop)->Prop}{t:Eh}
theorem Dfn.of(Fn:FnIn K mg x st ps)(S:FnScope N ps (defScope st))(mono:∀ws Q Q',(∀d,Q d->Q' d)->Pd ws Q->Pd ws Q')(len:∀ws Q,Pd ws Q->ws.length=ps.length)
 (hbody:∀{f:Addr}(cdv:Fm)(A:GN)(outer:List Env)(s:Ft)(H:Hp)(E:XK),Room k (A.deeper (J9 x (defScope st) s.heap.objs.size f cdv)) ->
  ly (lC E5 P w K mg base N x (defScope st) f cdv A outer s H E).nox rl (defBody st) t)
 (hread:∀ws Q,Pd ws Q->t (kW Q) (cY N ws)):Dfn P w K mg base rl x ps (k+1) Pd:=by
 obtain⟨f,fd,hm,F,hb⟩:=Fn.ex
 exact⟨mono,f,fd,hm,F.kp,hb,CM F S len hbody hread⟩
end
section
variable{X:Cx}{rl:RlT}{e:Expr}{es:List Expr}{fa fb fc:TV}{fs:Eg}{pos p:Pos}
end
theorem fz_d(x:Fd):(W.d x).fz = .d x:=rfl
theorem fz_ml(x:List Fd):(W.ml x).fz = .d (.list x):=rfl
theorem fz_pk(x:List Fd):(W.pk x).fz = .pk x:=rfl
theorem fz_reel:W.reel.fz = .reel:=rfl
theorem fz_vv(x:V):(W.vv x).fz = .vv x:=rfl
theorem pk_d(x:Fd):L2.VL.W.peek (.d x) = .d x:=rfl
theorem pk_ml(x:List Fd):L2.VL.W.peek (.ml x) = .pk x:=rfl
theorem pk_reel:L2.VL.W.peek .reel = .reel:=rfl
theorem pk_vv(x:V):L2.VL.W.peek (.vv x) = .vv x:=rfl
theorem dat_d(x:Fd):(W.d x).dat=some x:=rfl
theorem dat_ml(x:List Fd):(W.ml x).dat=some (.list x):=rfl
theorem dat_pk(x:List Fd):(W.pk x).dat=some (.list x):=rfl
theorem isPk_d(x:Fd):(W.d x).isPk=false:=rfl
theorem isPk_ml(x:List Fd):(W.ml x).isPk=false:=rfl
theorem isPk_reel:W.reel.isPk=false:=rfl
theorem dats_nil:jC []=some []:=rfl
theorem dats_d(x:Fd)(r:List W):jC (.d x::r)=(jC r).map (x :: ·):=rfl
theorem arg_d(x:Fd):dG (.d x)=true:=rfl
theorem arg_reel:dG .reel=true:=rfl
theorem item_l(xs:List Fd)(i:Int):L2.VL.itemAt (.list xs) i=L2.atI xs i:=rfl
theorem item_t(xs:List Fd)(i:Int):L2.VL.itemAt (.tuple xs) i=L2.atI xs i:=rfl
theorem len_l(xs:List Fd):uy (.list xs)=some xs.length:=rfl
theorem len_t(xs:List Fd):uy (.tuple xs)=some xs.length:=rfl
theorem at0{α:Type}(x:α)(r:List α):L2.atI (x::r) 0=some x:=by simp[L2.atI,L2.ixN]
theorem at1{α:Type}(x y:α)(r:List α):L2.atI (x::y::r) 1=some y:=by
 have:(1:Int)<((x::y::r).length:Int):=by simp;omega
 simp only[L2.atI,L2.ixN]
 rw[if_pos (by decide),if_pos this]
 rfl
theorem eqv_ii(a b:Int):IC (.int a) (.int b)=(a==b):=by simp[IC]
theorem shaped_i(a:Int):G3 (.int a)=true:=rfl
theorem shaped_b(a:Bool):G3 (.bool a)=true:=rfl
noncomputable def bX(d:Fd):Bool:=fX d "int" && !fX d "bool"
theorem rN:bX d=true↔∃i,d = .int i:=by
 cases d<;>simp[bX,fX,C2]
theorem iV.of{i j:Int}(h:j≠0)(b:j.natAbs<2^64):iV i j:=⟨h,FU b (GP (by decide) (by decide))⟩
theorem fS:∀ns:List Int,Ig (ns.map FW)=true
 | []=>rfl
 | n::ns=>by simp[Ig,GS,fS ns]
theorem gu:∀ns:List Int,HA (ns.map FW)=0
 | []=>rfl
 | n::ns=>by simp[HA,HY,gu ns]
structure Lf (d:Fd):Prop where
 nice:vq d
 dep:d.depth<=2
 wt:d.bulk<=2000
theorem Lf.int{i:Int}(h:i.natAbs<2^1000):Lf (.int i) :=
 ⟨Nat.lt_trans h (KN (by decide) (by decide)),by simp[HY],by simp[Fd.bulk]⟩
theorem yc{xs:List α}{k:Int}(h0:0<=k)(h1:k<(xs.length:Int)):∃z,L2.atI xs k=some z/\z∈xs:=by
 obtain⟨n,rfl⟩:=I_ h0
 have hn:n<xs.length:=by omega
 exact⟨xs[n],bQ (Fp hn),Gm hn⟩
theorem fE{K:W.Frag}{i:Str}(h:Rep K F v (.str i)):v = .str i:=by cases h;rfl
noncomputable def yz(neg:Bool):W->W->(W->Prop)->Prop:=fun x y Q=>∃a b:Str,x = .d (.str a)/\y = .d (.str b)/\Q (.d (.bool (if neg then !decide (a=b)else decide (a=b))))
theorem jL:Ec X rl Dx (yz false):=fun{F H x y wx wy} Qd Q s ra r1 r2 q k=>by
 obtain⟨a,b,rfl,rfl,q⟩:=q
 have e1:=fE r1
 have e2:=fE r2
 subst e1 e2
 have e:decide (V.str a=V.str b)=decide (a=b):=by
  by_cases h:a=b
  · subst h;simp
  · rw[decide_eq_false h,decide_eq_false fun z=>h (by injection z)]
 exact⟨rfl,by rw[e];exact k _ (.d _) _ _ (Grow.refl s ra) (.bl _) trivial q⟩
theorem lN:Ec X rl Dt (yz true):=fun{F H x y wx wy} Qd Q s ra r1 r2 q k=>by
 obtain⟨a,b,rfl,rfl,q⟩:=q
 have e1:=fE r1
 have e2:=fE r2
 subst e1 e2
 have e:decide (V.str a=V.str b)=decide (a=b):=by
  by_cases h:a=b
  · subst h;simp
  · rw[decide_eq_false h,decide_eq_false fun z=>h (by injection z)]
 exact⟨rfl,by rw[e];exact k _ (.d _) _ _ (Grow.refl s ra) (.bl _) trivial q⟩
section
variable{P:F0}{w:GD}{K:W.Frag}{mg:Str->Option Fm}{base:Heap}{rl:RlT}{x:Str}{st:Stmt}{N ps:List Str}{k:Nat}{Pd:List W->(List Fd->Prop)->Prop}{t:Eh}
end
section
variable{X:Cx}{rl:RlT}{e:Expr}{es:List Expr}{fs:Eg}{pos p:Pos}
theorem tT(X:Cx)(rest:List Stmt):Ey X rest (fun D σ H=>∀pins s,Inv X pins σ H s->FN (Gb X.prog X.w) X.A (execs rest X.env) (SP X pins D) X.xe s):=fun pins s σ H D I h=>h pins s I
end
section
variable{X:Cx}{rl:RlT}{a b c e:Expr}{es:List Expr}{fa fb fc:TV}{fs:Eg}{pos p:Pos}
noncomputable def eB:Fd->Option (List Fd)
 | .list xs=>some xs
 | .tuple xs=>some xs
 | _=>none
theorem seq_l(xs:List Fd):eB (.list xs)=some xs:=rfl
theorem seq_t(xs:List Fd):eB (.tuple xs)=some xs:=rfl
theorem eB.of{o:Option Fd}(h:o=some d)(e:eB d=some xs):o=some (.list xs)\/o=some (.tuple xs):=by
 cases d<;>cases e
 · exact .inl h
 · exact .inr h
noncomputable def qm:List W->(W->Prop)->Prop:=fun ws Q=>∃w d xs,ws=[w]/\w.dat=some d/\eB d=some xs/\Q (.d (.tuple xs))
theorem vO:eK X rl (fun xs H Q=>∃p ys,xs=[.ref p]/\((Eo X.K H p ys/\∀l,H l=none->Q (.ref l) (upd H l (.tup ys)))\/(Em X.K H p ys/\Q (.ref p) H))) qm:=fun{F H vs ws} Qd Q s ra r ⟨w,d,xs,ew,ed1,ed2,q⟩ k=>by
 have ed:=eB.of ed1 ed2
 subst ew
 obtain⟨v,rfl,r1⟩:=mR r
 rcases ed with ed|ed
 · obtain⟨a,us,rfl,sq,rs⟩:=r1.items s ed
   refine⟨a,us,rfl,.inl ⟨sq,fun l hl=>?_⟩⟩
   have g:=Grow.data (a:=l) (o:=.tup us) s ra hl
   exact k _ (.d (.tuple xs)) _ _ g (.tup (.inl (.inl au)) (rs.mono g.fs)) trivial q
 · cases w with
   | d y =>
     cases ed
     cases(show Rep X.K F v (.tuple xs)from r1)with
     | tup sq rs=>exact⟨_,_,rfl,.inr ⟨dt s sq,k _ (.d (.tuple xs)) _ _ (Grow.refl s ra) (.tup sq rs) trivial q⟩⟩
   | ml ys=>cases ed
   | pk ys=>cases ed
   | reel=>cases ed
   | vv u=>cases ed
   | md u=>cases ed
   | mk u=>cases ed
   | lk=>cases ed
   | sc _=>cases ed
   | fd _=>cases ed
   | fw _=>cases ed
   | ft _=>cases ed
   | xc _ _=>cases ed
   | dp _ _=>cases ed
   | nt ds =>
     cases ed
     obtain⟨b,us,rfl,h,q'⟩:=r1
     exact⟨_,_,rfl,.inr ⟨.inl (.inl (s _ _ h)),k _ (.d (.tuple xs)) _ _ (Grow.refl s ra) (.tup (.inl (.inl h)) q') trivial q⟩⟩
theorem ba(hm:X.mg "tuple" = none)(ha:Ev X rl [a] fs)(hg:Gl X "tuple" := by rfl)(he:FA [a] X.env=(false,eval a X.env)::FA [] X.env:=by rfl)(hpl:(Hf pos (FA [] X.env)).any (·.1)=false:=by rfl) :
 PV X rl (.Call (.Name "tuple" p) [a] [] pos) (dB qm fs):=jT hU vO hm (by rfl) ha hg (by decide) (by decide) he hpl
end
section
variable{X:Cx}{rl:RlT}
end
section
variable{X:Cx}{rl:RlT}{a b c e:Expr}{es:List Expr}{fa fb fc:TV}{fs:Eg}{pos p p2:Pos}
noncomputable def DY(f:Int->Int->Fd):List W->(W->Prop)->Prop:=fun ws Q=>∃i j,ws=[.d (.int i),.d (.int j)]/\Q (.d (f i j))
theorem vS{f:Int->Int->V}{g:Int->Int->Fd}(h:∀K F i j,Rep K F (f i j) (g i j)):eK X rl (fun xs H Q=>∃i j,xs=[.int i,.int j]/\Q (f i j) H) (DY g):=fun{F H vs ws} Qd Q s ra r ⟨i,j,ew,q⟩ k=>by
 subst ew
 obtain⟨v,u,rfl,r1,r2⟩:=vg r
 have e1:=aB r1
 have e2:=aB r2
 subst e1 e2
 exact⟨i,j,rfl,k _ (.d _) _ _ (Grow.refl s ra) (h _ _ i j) trivial q⟩
theorem vY(hm:X.mg "max" = none)(ha:Ev X rl [a,b] fs)(hc:X.calm=true:=by rfl)(hg:Gl X "max" := by rfl)(he:FA [a,b] X.env=(false,eval a X.env)::FA [b] X.env:=by rfl)(hpl:(Hf pos (FA [b] X.env)).any (·.1)=false:=by rfl) :
 PV X rl (.Call (.Name "max" p) [a,b] [] pos) (dB (DY fun i j=>.int (max i j)) fs) :=
 cI (oA hc) (vS (f:=fun i j=>.int (if j>i then j else i)) fun _ _ i j=>(show(if j>i then j else i)=max i j by split<;>omega) ▸ .int _) hm (by rfl) ha hg (by decide) (by decide) he hpl
theorem qP(hm:X.mg "min" = none)(ha:Ev X rl [a,b] fs)(hc:X.calm=true:=by rfl)(hg:Gl X "min" := by rfl)(he:FA [a,b] X.env=(false,eval a X.env)::FA [b] X.env:=by rfl)(hpl:(Hf pos (FA [b] X.env)).any (·.1)=false:=by rfl) :
 PV X rl (.Call (.Name "min" p) [a,b] [] pos) (dB (DY fun i j=>.int (min i j)) fs) :=
 cI (oy hc) (vS (f:=fun i j=>.int (if j<i then j else i)) fun _ _ i j=>(show(if j<i then j else i)=min i j by split<;>omega) ▸ .int _) hm (by rfl) ha hg (by decide) (by decide) he hpl
noncomputable def qu:List W->(W->Prop)->Prop:=fun ws Q=>(∃i,ws=[.d (.int i)]/\Q (.d (.int i)))\/∃k:Bool,ws=[.d (.bool k)]/\Q (.d (.int (if k then 1 else 0)))
theorem sJ:eK X rl (fun xs H Q=>(∃i,xs=[.int i]/\Q (.int i) H)\/∃k,xs=[.bl k]/\Q (.int (if k then 1 else 0)) H) qu:=fun{F H vs ws} Qd Q s ra r h k=>by
 rcases h with⟨i,ew,q⟩|⟨i,ew,q⟩
 · subst ew
   obtain⟨v,rfl,r1⟩:=mR r
   have e1:=aB r1
   subst e1
   exact .inl ⟨i,rfl,k _ (.d _) _ _ (Grow.refl s ra) (.int _) trivial q⟩
 · subst ew
   obtain⟨v,rfl,r1⟩:=mR r
   have e1:=dQ r1
   subst e1
   exact .inr ⟨i,rfl,k _ (.d _) _ _ (Grow.refl s ra) (.int _) trivial q⟩
theorem qQ(hm:X.mg "int" = none)(ha:Ev X rl [a] fs)(hg:Gl X "int" := by rfl)(he:FA [a] X.env=(false,eval a X.env)::FA [] X.env:=by rfl)(hpl:(Hf pos (FA [] X.env)).any (·.1)=false:=by rfl) :
 PV X rl (.Call (.Name "int" p) [a] [] pos) (dB qu fs):=jT oB sJ hm (by rfl) ha hg (by decide) (by decide) he hpl
noncomputable def DO(C:Int->Int->Prop)(f:Int->Int->Int):Ej:=fun x y H Q=>∃i j,x = .int i/\y = .int j/\C i j/\Q (.int (f i j)) H
theorem uE:EB X .Mult (DO cA fun i j=>i*j):=by
 intro pins s σ H x y v u Q I r1 r2 h
 obtain⟨i,j,e1,e2,hc,q⟩:=h
 subst e1;subst e2
 obtain⟨t,rfl⟩:=r1
 obtain⟨t',rfl⟩:=r2
 exact imul_int ⟨.int _,H,I.tok _,⟨_,rfl⟩,q⟩ hc.ok
noncomputable def yY(i:Nat)(C:Int->Int->Prop)(f:Int->Int->Int)(fa:TV):Eh:=fun D ρ=>∃n,ρ[i]?=some (some (.d (.int n)))/\fa ρ fun w=>∃m,w = .d (.int m)/\C n m/\D.nx (ρ.set i (some (.d (.int (f n m)))))
theorem vG(i:Nat){x:Str}{op:Lj}{C:Int->Int->Prop}{f:Int->Int->Int}(hN:X.N.Nodup)(ho:EB X op (DO C f))(he:PV X rl e fa)(hi:X.N[i]?=some x:=by rfl)(hx:Loc X.env.scope x:=by first|exact HJ rfl|exact G_ rfl)
 (hf:X.fn x=true\/X.env.scope.names.lookup x=some .local:=by first|exact .inl rfl|exact .inr rfl):Ez X rl (.AugAssign (.Name x pos') op e pos) (yY i C f fa):=by
 obtain⟨t,p,k⟩:=he
 refine⟨_,rC hN hi hx p ho hf,fun R Dv D ok ⟨n,e1,q⟩=>?_⟩
 obtain⟨v,s1,r1,_⟩:=R.sl i _ e1
 have ev:=aB r1
 subst ev
 refine⟨_,s1,k R _ _ q fun v w F1 H1 g1 r1 n1 ⟨m,ew,hc,q1⟩=>?_⟩
 subst ew
 have ev:=aB r1
 subst ev
 exact⟨n,m,rfl,rfl,hc,ok.nx _ _ _ _ g1.fs (R.set g1 (v:=.int (f n m)) (w:=.d (.int (f n m))) (.int _) trivial (fun _ z=>by cases z) i) q1⟩
noncomputable def cutD(xs:List Fd)(lo hi:Option Int):List Fd:=(xs.drop (HT.sIx xs.length 0 lo)).take (HT.sIx xs.length xs.length hi-HT.sIx xs.length 0 lo)
theorem Reps.cut{K:W.Frag}{ds:List Fd}(r:Reps K F vs ds)(lo hi:Option Int):Reps K F (qC vs lo hi) (cutD ds lo hi):=by
 unfold qC cutD
 rw[r.length]
 exact(r.drop _).take _
abbrev Ei:=En->(Option Int->Prop)->Prop
noncomputable def Ew(X:Cx)(rl:RlT)(o:Option Expr)(f:Ei):Prop:=∃t,PO X o t/\∀{F₀ H₀ F H:Hp}{σ:St}{ρ:En},VR X.K rl F₀ H₀ F H σ ρ->∀(Qd:Option Int->Prop)(Q:Option Int->Hp->Prop),f ρ Qd ->
 (∀o F' H',Grow rl F H F' H'->Qd o->Q o H')->t σ H Q
noncomputable def DB:Ei:=fun _ Q=>Q none
noncomputable def DC(fa:TV):Ei:=fun ρ Q=>fa ρ fun w=>∃i,w = .d (.int i)/\Q (some i)
theorem cH:Ew X rl none DB:=⟨_,tV,fun R Qd Q q k=>k _ _ _ (Grow.refl R.sub R.reel) q⟩
theorem cG(h:PV X rl e fa):Ew X rl (some e) (DC fa):=by
 obtain⟨t,p,k⟩:=h
 refine⟨_,m6 p,fun R Qd Q q h=>k R _ _ q fun v w F1 H1 g1 r1 n1 ⟨i,ew,q1⟩=>?_⟩
 subst ew
 exact⟨i,aB r1,h _ F1 H1 g1 q1⟩
noncomputable def Bi(fa:TV)(fl fh:Ei):TV:=fun ρ Q=>fa ρ fun w=>fl ρ fun l=>fh ρ fun h=>∃xs,w.dat=some (.list xs)/\Q (.ml (cutD xs l h))
noncomputable def mi(p p':Int->Int->Bool)(fa fb fc:TV):TV:=fun ρ Q=>fa ρ fun x=>fb ρ fun y=>∃i j,x = .d (.int i)/\y = .d (.int j) /\
 if p i j=true then fc ρ fun z=>∃k,z = .d (.int k)/\Q (.d (.bool (p' j k)))else Q (.d (.bool false))
theorem sO{op':KY}{p p':Int->Int->Bool}(ho:EH X (G1 op) (Dw fun i j=>.bl (p i j)))(ho':EH X (G1 op') (Dw fun i j=>.bl (p' i j)))(ha:PV X rl a fa)(hb:PV X rl b fb)(hc:PV X rl c fc)
 (hm:LO [op,op'] [b,c]=false:=by with_unfolding_all rfl):PV X rl (.Compare a [op,op'] [b,c] pos) (mi p p' fa fb fc):=by
 obtain⟨t,p1,k1⟩:=ha
 obtain⟨t2,p2,k2⟩:=hb
 obtain⟨t3,p3,k3⟩:=hc
 refine⟨_,pF ho ho' p1 p2 p3 hm,fun R Qd Q q h=>k1 R _ _ q fun v w F1 H1 g1 r1 n1 q1=>k2 (R.grow g1) _ _ q1 fun v2 w2 F2 H2 g2 r2 n2 q2=>?_⟩
 obtain⟨i,j,rfl,rfl,q2⟩:=q2
 have e1:=aB r1
 have e2:=aB r2
 subst e1 e2
 refine⟨i,j,rfl,rfl,p i j,rfl,?_⟩
 cases hp:p i j with
 | false =>
   rw[hp]at q2
   rw[if_neg (by decide)]at q2 ⊢
   exact h _ (.d _) F2 H2 (g1.trans g2) (.bl _) trivial q2
 | true =>
   rw[hp]at q2
   rw[if_pos rfl]at q2 ⊢
   refine k3 ((R.grow g1).grow g2) _ _ q2 fun v3 w3 F3 H3 g3 r3 n3 ⟨k,ek,q3⟩=>?_
   subst ek
   have e3:=aB r3
   subst e3
   exact⟨j,k,rfl,rfl,h _ (.d _) F3 H3 ((g1.trans g2).trans g3) (.bl _) trivial q3⟩
theorem oR{op':KY}{p p':Int->Int->Bool}(ho:EH X (G1 op) (Dw fun i j=>.bl (p i j)))(ho':EH X (G1 op') (Dw fun i j=>.bl (p' i j)))(ha:PV X rl a fa)(hb:PV X rl b fb)(hc:PV X rl c fc)
 (hm:LO [op,op'] [b,c]=false:=by with_unfolding_all rfl):PB X rl (.Compare a [op,op'] [b,c] pos) (kS (mi p p' fa fb fc)):=by
 obtain⟨t,p1,k1⟩:=ha
 obtain⟨t2,p2,k2⟩:=hb
 obtain⟨t3,p3,k3⟩:=hc
 refine⟨_,pg ho ho' p1 p2 p3 hm,fun R Qd Q q h=>k1 R _ _ q fun v w F1 H1 g1 r1 n1 q1=>k2 (R.grow g1) _ _ q1 fun v2 w2 F2 H2 g2 r2 n2 q2=>?_⟩
 obtain⟨i,j,rfl,rfl,q2⟩:=q2
 have e1:=aB r1
 have e2:=aB r2
 subst e1 e2
 refine⟨i,j,rfl,rfl,p i j,rfl,?_⟩
 cases hp:p i j with
 | false =>
   rw[hp]at q2
   rw[if_neg (by decide)]at q2 ⊢
   obtain⟨k,ek,q2⟩:=q2
   cases ek
   exact⟨false,rfl,h false F2 H2 (g1.trans g2) q2⟩
 | true =>
   rw[hp]at q2
   rw[if_pos rfl]at q2 ⊢
   refine k3 ((R.grow g1).grow g2) _ _ q2 fun v3 w3 F3 H3 g3 r3 n3 ⟨k,ek,q3⟩=>?_
   subst ek
   have e3:=aB r3
   subst e3
   obtain⟨kk,ekk,q3⟩:=q3
   cases ekk
   exact⟨j,k,rfl,rfl,p' j k,rfl,h _ F3 H3 ((g1.trans g2).trans g3) q3⟩
structure GlD (K:W.Frag) (mg:Str->Option Fm) (x:Str) (d:Fd):Prop where
 ex:∃v u,mg x=some u/\RelV v u/\∀F,Rep K F v d
theorem qR{x:Str}(G:GlD X.K X.mg x d)(hg:Gl X x:=by rfl)(hd:(x==("__debug__" : Str))=false:=by decide):PV X rl (.Name x pos) (vC d):=by
 obtain⟨v,u,h1,h2,h3⟩:=G.ex
 exact tP h1 h2 h3 hg hd
structure GlK (K:W.Frag) (x:Str) (d:Fd):Prop where
 ex:∃v u,W.nsIn K GE x=some (some u)/\RelV v u/\∀F,Rep K F v d
theorem GlK.of{K:W.Frag}{x:Str}{mg:Str->Option Fm}(k:GlK K x d)(Y:K.In h)(G:h.Ns GE mg):GlD K mg x d:=by
 obtain⟨v,u,h1,h2,h3⟩:=k.ex
 exact⟨v,u,W.mg_of Y G h1,h2,h3⟩
end
end L2.VL
namespace L2
section
variable{X:Cx}{a b:Expr}{ta:TA}{p q pos pos2:Pos}
end
end L2
namespace L2.VL
section
variable{X:Cx}{rl:RlT}{a b c e:Expr}{es:List Expr}{fa fb fc:TV}{fs:Eg}{pos pos2 p q:Pos}
end
structure Sm (dp bk:Nat) (d:Fd):Prop where
 nice:vq d
 dep:d.depth<=dp
 blk:d.bulk<=bk
theorem gm:∀{xs:List Fd},(∀d∈xs,vq d)->fW xs
 | [],_=>trivial
 | x::xs,h=>⟨h x FB,gm fun d hd=>h d (Fv _ hd)⟩
theorem fN{k:Nat}:∀{xs:List Fd},(∀d∈xs,d.depth<=k)->HA xs<=k+1
 | [],_=>by simp[HA]
 | x::xs,h=>by
   have h1:=h x FB
   have h2:=fN (k:=k) (xs:=xs) fun d hd=>h d (Fv _ hd)
   simp only[HA]
   omega
theorem gw{k:Nat}:∀{xs:List Fd},(∀d∈xs,d.bulk<=k)->J5 xs<=(k+1)*xs.length
 | [],_=>by simp[J5]
 | x::xs,h=>by
   have h1:=h x FB
   have h2:=gw (k:=k) (xs:=xs) fun d hd=>h d (Fv _ hd)
   simp only[J5,Hm,Nat.mul_succ]
   omega
theorem Sm.seq{dp bk:Nat}(h:∀d∈xs,Sm dp bk d)(hl:xs.length<=n):Sm (dp+2) ((bk+1)*n) (.tuple xs)/\Sm (dp+2) ((bk+1)*n) (.list xs):=by
 have a:=gm fun d hd=>(h d hd).nice
 have b:=fN fun d hd=>(h d hd).dep
 have c:J5 xs<=(bk+1)*n:=Gq (gw fun d hd=>(h d hd).blk) (K4 _ hl)
 refine⟨⟨a,?_,c⟩,⟨a,?_,c⟩⟩<;>simp only[HY]<;>omega
theorem Sm.shw{dp bk:Nat}(h:Sm dp bk d)(h1:dp<=60)(h2:bk<=8000):Et d:=⟨h.nice,by have:=h.dep;omega,by have:=h.blk;omega⟩
theorem Sm.int{i:Int}(h:i.natAbs<2^1000):Sm 0 0 (.int i):=⟨(Lf.int h).nice,by simp[HY],by simp[Fd.bulk]⟩
end L2.VL
namespace L2
section
variable{X:Cx}{tg e:Expr}{ta te:TE}{p p2 pos:Pos}
end
end L2
namespace L2.VL
section
variable{X:Cx}{rl:RlT}{a b c e tg:Expr}{es:List Expr}{fa fb fc:TV}{fs:Eg}{pos pos2 p p2 q:Pos}
theorem Reps.rev{K:W.Frag}{F:Hp}:∀{vs:List V}{ds:List Fd},Reps K F vs ds->Reps K F vs.reverse ds.reverse
 | _,_,.nil=>.nil
 | _,_,.cons h r=>by rw[Jl,Jl];exact(Reps.rev r).snoc h
end
end L2.VL
namespace L2
section
variable{X:Cx}
theorem u4{bs:List Bool}{its:List Fm}(r:cw (bs.map V.bl) its){v:Fm}(e:its[i]?=some v):v = .bool (bs.getD i false):=by
 have hl:=r.length
 rw[Fq]at hl
 have hi:i<bs.length:=by have:=(FK.mp e).1;omega
 have hb:(bs.map V.bl)[i]?=some (.bl bs[i]):=by simp[hi]
 obtain⟨u,hu,ru⟩:=r.get hb
 rw[e]at hu
 cases hu
 have:bs.getD i false=bs[i]:=by simp[LU,hi]
 rw[this]
 exact ru
theorem mT{bs:List Bool}:(FJ bs.length).all (fun i=>bs.getD i false)=bs.all id:=by
 have:bs=(FJ bs.length).map fun i=>bs.getD i false:=by
  apply Ip
  · simp
  · intro i h1 h2
    simp[LU,h1]
 conv=>rhs;rw[this,JZ]
 rfl
theorem qE(hc:X.calm=true):d_ X (.builtin "all") (fun xs H Q=>∃(p:Addr)(bs:List Bool),xs=[.ref p]/\Eo X.K H p (bs.map V.bl)/\Q (.bl (bs.all id)) H):=by
 intro pins s σ H xs us Q I r ⟨p,bs,ex,hq,q⟩
 subst ex
 obtain⟨u,rfl,ru⟩:=vals1 r
 cases ru
 obtain⟨its,rv,pl,hz⟩:=I.list hq
 have hl:=rv.length
 rw[Fq]at hl
 refine call_all_walk (Jj pl.isList ?_)
 have ne:p≠s.heap.objs.size:=by obtain⟨o,ho,_⟩:=pl.isList;exact Gj (Fz ho)
 refine⟨s.heap.objs.size,_,_,_,_,_,fun i=>bs.getD i false,rfl,Walks.list (A:=X.A.in1) (I.ok.hd hc) s.heap.objs.size p ne its.toArray,⟨⟨_,FF _ rfl,rfl,rfl⟩,pl.isList.push _⟩,fun i v s' Q' E' hP hQ=>?_,fun h' tk k=>?_⟩
 · rw[u4 rv (show its[i]?=some v by simpa using hP)]
   exact Hh hQ
 · have e:(FJ its.toArray.size).all (fun i=>bs.getD i false)=bs.all id:=by rw[FS,<- hl];exact mT
   rw[e]
   exact⟨.bl _,H,I.kept (t':=tk) fun b o eb=>k b o (by simp;exact Gj (Fz eb)) (Fh _ eb),rfl,q⟩
end
end L2
namespace L2.VL
section
variable{X:Cx}{rl:RlT}{a b c e:Expr}{es:List Expr}{fa fb fc:TV}{fs:Eg}{pos p p2:Pos}
theorem mN{K:W.Frag}{F:Hp}:∀{vs:List V}{bs:List Bool},Reps K F vs (bs.map .bool)->vs=bs.map V.bl
 | _,[],h=>h.nil_iff
 | _,b::bs,.cons h r=>by rw[dQ h,mN r];rfl
noncomputable def yC(f:List Bool->Bool):List W->(W->Prop)->Prop:=fun ws Q=>∃(w:W)(bs:List Bool),ws=[w]/\w.dat=some (.list (bs.map .bool))/\Q (.d (.bool (f bs)))
theorem vT{f:List Bool->Bool}:eK X rl (fun xs H Q=>∃(p:Addr)(bs:List Bool),xs=[.ref p]/\Eo X.K H p (bs.map V.bl)/\Q (.bl (f bs)) H) (yC f):=fun{F H vs ws} Qd Q s ra r ⟨w,bs,ew,ed,q⟩ k=>by
 subst ew
 obtain⟨v,rfl,r1⟩:=mR r
 obtain⟨a,us,rfl,sq,rs⟩:=r1.items s ed
 have e:=mN rs
 subst e
 exact⟨a,bs,rfl,sq,k _ (.d _) _ _ (Grow.refl s ra) (.bl _) trivial q⟩
theorem v_all(hm:X.mg "all" = none)(ha:Ev X rl [a] fs)(hc:X.calm=true:=by rfl)(hg:Gl X "all" := by rfl)(he:FA [a] X.env=(false,eval a X.env)::FA [] X.env:=by rfl)(hpl:(Hf pos (FA [] X.env)).any (·.1)=false:=by rfl) :
 PV X rl (.Call (.Name "all" p) [a] [] pos) (dB (yC fun bs=>bs.all id) fs):=cI (qE hc) vT hm (by rfl) ha hg (by decide) (by decide) he hpl
end
end L2.VL
namespace L2.TM
theorem xJ:fillsNumberSlot (.type "tuple") "mul" = pure false :=
 PySem.fillsNumberSlot_seq (id := "tuple.__mul__") (r:=some (.builtin "tuple.__rmul__")) F.slot_tuple_mul.lookup (by decide +kernel) F.slot_tuple_rmul.lookup (by decide +kernel)
theorem BZ:seqRepeat? (.type "tuple")=pure (some (.builtin "tuple.__mul__")):=by
 unfold seqRepeat?
 have s1:=PySem.seqSlot_of (T := "tuple") (name := "__mul__") (id := "tuple.__mul__") F.slot_tuple_mul.lookup (by decide +kernel)
 have s2:=PySem.seqSlot_of (T := "tuple") (name := "__rmul__") (id := "tuple.__rmul__") F.slot_tuple_rmul.lookup (by decide +kernel)
 rw[s1,s2]
 rfl
theorem o8(its:Array Fm):∀n:Nat,(Ka (fun x y=>x++y) #[] (FQ n its)).size=its.size*n:=by
 have key:∀(n:Nat)(acc:Array Fm),(Ka (fun x y=>x++y) acc (FQ n its)).size=acc.size+its.size*n:=by
  intro n
  induction n with
  | zero=>intro acc;simp
  | succ n ih=>intro acc;rw[GV,JH,ih,Array.size_append,Nat.mul_succ];omega
 intro n
 have:=key n #[]
 simpa using this
noncomputable def TupAt(h:Heap)(l:Addr)(its:Array Fm):Prop:=∃(dc:Option Addr)(sl:Array (Option Fm))(n:Nat),h.get? l=some ⟨.type "tuple", dc,.seq its n,sl⟩
section
variable{prog:F0}{w:GD}{A:GN}{E:Fm->Ft->Prop}{s:Ft}{k:Int}{t:Tok}{l:Addr}{its:Array Fm}
theorem tupAt(h:Lg s.heap l its):TupAt s.heap l its:=by
 obtain⟨⟨c,dc,d,sl⟩,ho,hc,n,hd⟩:=h
 cases hc
 cases hd
 exact⟨dc,sl,n,ho⟩
theorem B_(h:TupAt s.heap l its)(q:Q .notImplemented s):FN (Gb prog w) A (call (.builtin "int.__rmul__") [.int k t,.ref l]) Q E s:=by
 obtain⟨dc,sl,n,ho⟩:=h
 refine KI F.slot_int_rmul (typeIs_int s k t) F.entry_int_rmul (F.args_int_rmul_2 _ _) (S:=fun _ R s=>s.heap.get? l=some ⟨.type "tuple", dc,.seq its n,sl⟩/\R (.ok (.ret Fm.notImplemented)) s) ?_ ⟨ho,q⟩
 exact .of_wp fun prog w A R s h=>by
  obtain⟨hp,g,d,tk,os⟩:=s
  obtain⟨ho,h⟩:=h
  wp_walk
  exact⟨_,rfl,h⟩
theorem rep_body(hk:2<=k)(hk':k<2^62)(he:its.isEmpty=false)(hz:its.size*k.toNat<=sizeLine)(h:TupAt s.heap l its)
 (q:Q (.ref s.heap.objs.size) {s with heap:=s.heap.push {cls:=.type "tuple", data:=.seq ((FQ k.toNat its).foldl (· ++ ·) #[])}}):FN (Gb prog w) A (call (.builtin "tuple.__mul__") [.ref l,.int k t]) Q E s:=by
 obtain⟨dc,sl,n,ho⟩:=h
 refine KI F.slot_tuple_mul ⟨_,ho,rfl⟩ F.entry_tuple_mul (F.args_tuple_mul_2 _ _)
  (S:=fun _ R s=>s.heap.get? l=some ⟨.type "tuple", dc,.seq its n,sl⟩/\R (.ok (.ret (.ref s.heap.objs.size))) {s with heap:=s.heap.push {cls:=.type "tuple", data:=.seq ((FQ k.toNat its).foldl (· ++ ·) #[])}}) ?_ ⟨ho,q⟩
 have h1:¬(decide (k < -(2^63))||decide (k ≥ 2^63))=true:=by simp;omega
 have h2:¬(its.isEmpty||k==1)=true:=by rw[he];simp;omega
 have h3:¬(decide (k<=0)||its.isEmpty)=true:=by rw[he];simp;omega
 have sz:=FG
 have hk0:k=(k.toNat:Int):=by omega
 have h4:¬((its.size:Int)*k>(2^63-1) / 8):=by
  rw[hk0]
  have:((its.size*k.toNat:Nat):Int)<=sizeLine:=by exact_mod_cast hz
  rw[Int.natCast_mul]at this
  omega
 have h5:¬Builtin.Tuple.tupleTooMany ((its.size:Int)*k)=true:=by
  intro z
  have z:=of_decide_eq_true z
  rw[hk0]at z
  have:((its.size*k.toNat:Nat):Int)<=sizeLine:=by exact_mod_cast hz
  rw[Int.natCast_mul]at this
  omega
 refine .of_wp fun prog w A R s h=>?_
 obtain⟨ho,h⟩:=h
 have tp:Lg s.heap l its:=⟨_,ho,rfl,n,rfl⟩
 unfold Builtin.«tuple.__mul__»
 show FN _ _ (do let z <- asIndex (.int k t);_) _ _ s
 refine Fb (K5 (a:=k) (by first|rfl|kernel_rfl) ?_)
 rw[if_neg h1]
 refine Fb (IZ tp ?_)
 rw[if_neg h2,if_neg h3]
 first|rw[if_neg h4]|skip
 first|rw[if_neg h5]|skip
 show FN _ _ (do let z <- Gr (Ka (fun x y=>x++y) #[] (FQ k.toNat its));ret z) _ _ s
 refine Fb (m:=Gr _) (Go (Fj ⟨_,rfl,h⟩) ?_)
 show(Ka (fun x y=>x++y) #[] (FQ k.toNat its)).size<=sizeLine
 rw[o8]
 exact hz
theorem rep_one(h:TupAt s.heap l its)(q:Q (.ref l) s):FN (Gb prog w) A (call (.builtin "tuple.__mul__") [.ref l,.int 1 t]) Q E s:=by
 obtain⟨dc,sl,n,ho⟩:=h
 refine KI F.slot_tuple_mul ⟨_,ho,rfl⟩ F.entry_tuple_mul (F.args_tuple_mul_2 _ _) (S:=fun _ R s=>s.heap.get? l=some ⟨.type "tuple", dc,.seq its n,sl⟩/\R (.ok (.ret (.ref l))) s) ?_ ⟨ho,q⟩
 refine .of_wp fun prog w A R s h=>?_
 obtain⟨ho,h⟩:=h
 have tp:Lg s.heap l its:=⟨_,ho,rfl,n,rfl⟩
 unfold Builtin.«tuple.__mul__»
 show FN _ _ (do let z <- asIndex (.int 1 t);_) _ _ s
 refine Fb (K5 (a:=(1:Int)) (by first|rfl|kernel_rfl) ?_)
 rw[if_neg (by decide)]
 refine Fb (IZ tp ?_)
 rw[if_pos (by simp)]
 show FN _ _ (do let z <- IG (.ref l);_) _ _ s
 refine Fb ?_
 unfold IG
 refine Fb (JW (T := "tuple") ⟨_,ho,rfl⟩ (Fj ?_))
 rw[if_pos (by decide)]
 exact Fb (Ia (Fb (Fj (Fj ⟨_,rfl,h⟩))))
theorem mul_tup(tp:Lg s.heap l its)(q:FN (Gb prog w) A (call (.builtin "tuple.__mul__") [.ref l,.int k t]) Q E s):FN (Gb prog w) A (Ir .Mult (.ref l) (.int k t)) Q E s :=
 wpAny_binaryOp_repeat_ref (T := "tuple") (U := "int") (by decide) tp.typeIs (fun s'=>typeIs_int s' k t) xJ F.fills_int_mul F.slot_int_rmul BZ F.slot_int_index.lookup (B_ (tupAt tp) ⟨rfl,tp.typeIs,q⟩)
end
end L2.TM
namespace L2
section
variable{X:Cx}
noncomputable def w6(K:W.Frag):R2:=fun x y H Q=>∃a k xs,x = .ref a/\y = .int k/\Em K H a xs/\xs≠[]/\1<=k/\k<2^62/\xs.length*k.toNat<=sizeLine/\(k=1->Q (.ref a) H)/\(2<=k->∀p,H p=none->Q (.ref p) (upd H p (.tup (FQ k.toNat xs).flatten)))
theorem uc:EH X (Ir .Mult) (w6 X.K):=by
 intro pins s σ H x y v u Q I rx ry h
 obtain⟨a,k,xs,rfl,rfl,ha,hne,h1,h2,hz,q1,q2⟩:=h
 cases rx
 obtain⟨t,rfl⟩:=ry
 obtain⟨its,r,p,_⟩:=I.tuple ha
 have hl:=r.length
 refine TM.mul_tup p ?_
 by_cases hk:k=1
 · subst hk
   exact TM.rep_one (TM.tupAt p) ⟨.ref a,H,I,rfl,q1 rfl⟩
 · have he:its.toArray.isEmpty=false:=by
     cases its with
     | nil=>simp at hl;exact absurd hl hne
     | cons _ _=>rfl
   refine TM.rep_body (by omega) h2 he (by rw[FS,<- hl];exact hz) (TM.tupAt p) ?_
   have e:Ka (fun x y=>x++y) #[] (FQ k.toNat its.toArray)=(FQ k.toNat its).flatten.toArray:=by
    have:=foldl_rep its k.toNat []
    rw[KA]at this
    exact this
   rw[e]
   refine⟨.ref s.heap.objs.size,_,I.laid (t':=s.toks) (o:=.tup (FQ k.toNat xs).flatten) (fun b ob q=>Fh _ q) (FC _) ?_,rfl,q2 (by omega) _ (I.hok.fresh (FC _))⟩
   exact⟨by rw[ux,Nat.mul_comm];exact hz,_,r.rep k.toNat,oJ.new _ _⟩
end
end L2
namespace L2.VL
section
variable{X:Cx}{rl:RlT}{a b c e:Expr}{es:List Expr}{fa fb fc:TV}{fs:Eg}{pos p p2:Pos}
theorem Reps.repl{K:W.Frag}{F:Hp}{vs:List V}{ds:List Fd}(r:Reps K F vs ds):∀n:Nat,Reps K F (FQ n vs).flatten (FQ n ds).flatten
 | 0=>.nil
 | n+1=>by rw[GV,GV,HK,HK];exact r.append (Reps.repl r n)
noncomputable def qp:W->W->(W->Prop)->Prop:=fun x y Q=>∃xs k,x = .d (.tuple xs)/\y = .d (.int k)/\xs≠[]/\1<=k/\k<2^62/\xs.length*k.toNat<=sizeLine/\Q (.d (.tuple (FQ k.toNat xs).flatten))
theorem sC:Ec X rl (w6 X.K) qp:=fun{F H x y wx wy} Qd Q s ra r1 r2 q k=>by
 obtain⟨xs,n,rfl,rfl,hne,h1,h2,hz,q⟩:=q
 have ey:=aB r2
 subst ey
 cases(show Rep X.K F x (.tuple xs)from r1)with
 | @tup a vs _ sq rs =>
   refine⟨a,n,vs,rfl,rfl,dt s sq,fun z=>hne ?_,h1,h2,by rw[rs.length];exact hz,fun e=>?_,fun e p hp=>?_⟩
   · subst z;cases rs;rfl
   · subst e
     have e1:(FQ (Int.toNat 1) xs).flatten=xs:=by simp
     rw[e1]at q
     exact k _ (.d (.tuple xs)) _ _ (Grow.refl s ra) (.tup sq rs) trivial q
   · have g:=Grow.data (a:=p) (o:=.tup (FQ n.toNat vs).flatten) s ra hp
     exact k _ (.d _) _ _ g (.tup (.inl (.inl au)) ((rs.repl n.toNat).mono g.fs)) trivial q
theorem vX(ha:PV X rl a fa)(hb:PV X rl b fb):PV X rl (.BinOp a .Mult b pos) (CU qp fa fb):=iB uc sC ha hb
noncomputable def z_:W->W->(W->Prop)->Prop:=fun x y Q=>∃xs ys,x = .d (.tuple xs)/\y = .d (.tuple ys)/\xs≠[]/\xs.length+ys.length<=sizeLine/\Q (.d (.tuple (xs++ys)))
theorem sD:Ec X rl (tM X.K) z_:=fun{F H x y wx wy} Qd Q s ra r1 r2 q k=>by
 obtain⟨xs,ys,rfl,rfl,hne,hz,q⟩:=q
 cases(show Rep X.K F x (.tuple xs)from r1)with
 | @tup a vs _ sq rs =>
   cases(show Rep X.K F y (.tuple ys)from r2)with
   | @tup b us _ sq2 rs2 =>
     refine⟨a,b,vs,us,rfl,rfl,dt s sq,dt s sq2,fun z=>hne ?_,by rw[rs.length,rs2.length];exact hz,fun e=>?_,fun e p hp=>?_⟩
     · subst z;cases rs;rfl
     · subst e
       cases rs2
       rw[HM]at q
       exact k _ (.d (.tuple xs)) _ _ (Grow.refl s ra) (.tup sq rs) trivial q
     · have g:=Grow.data (a:=p) (o:=.tup (vs++us)) s ra hp
       exact k _ (.d _) _ _ g (.tup (.inl (.inl au)) ((rs.append rs2).mono g.fs)) trivial q
end
end L2.VL
namespace L2
section
variable{X:Cx}
noncomputable def w_(K:W.Frag):R2:=fun x y H Q=>∃a b ys,x = .ref a/\y = .ref b/\Em K H a []/\Em K H b ys/\Q (.ref b) H
theorem uj:EH X (Ir .Add) (w_ X.K):=by
 intro pins s σ H x y v u Q I rx ry h
 obtain⟨a,b,ys,rfl,rfl,ha,hb,q⟩:=h
 cases rx
 cases ry
 obtain⟨its,r1,p1,_⟩:=I.tuple ha
 obtain⟨its2,r2,p2,_⟩:=I.tuple hb
 cases r1
 obtain⟨⟨c1,d1,e1,sl1⟩,ho,hc,n,hd⟩:=p1
 obtain⟨⟨c2,d2,e2,sl2⟩,ho2,hc2,n2,hd2⟩:=p2
 cases hc;cases hd;cases hc2;cases hd2
 exact LA ⟨_,ho,rfl⟩ ⟨_,ho2,rfl⟩ Io IW Ho Hl (Hi _ _)
  (tuple_addW0 a b _ its2.toArray n n2 d1 d2 sl1 sl2 rfl) ⟨ho,ho2,⟨.ref b,H,I,rfl,q⟩⟩
noncomputable def tN(K:W.Frag):R2:=fun x y H Q=>tM K x y H Q\/w_ K x y H Q
theorem ui:EH X (Ir .Add) (tN X.K):=fun pins s σ H x y v u Q I rx ry h=>h.elim (uh pins s σ H x y v u Q I rx ry) (uj pins s σ H x y v u Q I rx ry)
section
variable{prog:F0}{w:GD}{A:GN}{E:Fm->Ft->Prop}{s:Ft}
end
end
end L2
namespace L2.VL
section
variable{X:Cx}{rl:RlT}{a b c e:Expr}{es:List Expr}{fa fb fc:TV}{fs:Eg}{pos p p2:Pos}
noncomputable def nQ:W->W->(W->Prop)->Prop:=fun x y Q=>∃xs ys,x = .d (.tuple xs)/\y = .d (.tuple ys)/\xs.length+ys.length<=sizeLine/\Q (.d (.tuple (xs++ys)))
theorem lP:Ec X rl (tN X.K) nQ:=fun{F H x y wx wy} Qd Q s ra r1 r2 q k=>by
 obtain⟨xs,ys,rfl,rfl,hz,q⟩:=q
 by_cases hx:xs=[]
 · subst hx
   cases(show Rep X.K F x (.tuple [])from r1)with
   | @tup a vs _ sq rs =>
     cases rs
     cases(show Rep X.K F y (.tuple ys)from r2)with
     | @tup b us _ sq2 rs2=>exact .inr ⟨a,b,us,rfl,rfl,dt s sq,dt s sq2,k _ (.d (.tuple ys)) _ _ (Grow.refl s ra) (.tup sq2 rs2) trivial q⟩
 · exact .inl (sD Qd Q s ra r1 r2 ⟨xs,ys,rfl,rfl,hx,hz,q⟩ k)
theorem jS(ha:PV X rl a fa)(hb:PV X rl b fb):PV X rl (.BinOp a .Add b pos) (CU nQ fa fb):=iB ui lP ha hb
theorem gU{K:W.Frag}{F:Hp}:∀{vs:List V}{ns:List Int},Reps K F vs (ns.map .int)->vs=ns.map V.int
 | _,[],h=>h.nil_iff
 | _,n::ns,.cons h r=>by rw[aB h,gU r];rfl
end
end L2.VL
namespace L2.TO
section
variable{prog:F0}{w:GD}{A:GN}{E:Fm->Ft->Prop}{s:Ft}
theorem lg(n:Nat):GX ((n:Int)-1) (-1) (-1)=n:=by
 unfold GX
 rw[if_neg (by decide)]
 by_cases h:n=0
 · subst h;decide
 · rw[if_pos (by omega),show(- -1:Int)=1 by decide,LB];omega
theorem jH{sl:Addr}{vk:Fm}{Q:Int×Int×Nat->Ft->Prop}(hs:s.heap.IsSliceOf sl .none .none vk)(pk:Kv vk (some (-1)))
 (h:Q ((n:Int)-1,-1,n) s):FN (Gb prog w) A (HV (.ref sl) (pure (n:Int))) Q E s:=by
 obtain⟨o1,hos,_,hds⟩:=hs;unfold HV J4
 refine Fb (Fb (F_ hos hds (x:=.none) rfl (Fb (F_ hos hds (x:=.none) rfl (Fb (F_ hos hds (x:=vk) rfl (Fj ?_)))))))
 refine Fb (HT.slicePart_ pk ?_)
 show FN _ _ (if((-1:Int)==0)=true then _ else _) _ _ s
 rw[if_neg (by decide)]
 refine Fb (HT.slicePart_ .none (Fb (HT.slicePart_ .none (Fb (Fj ?_)))))
 show FN _ _ (pure ((n:Int)-1,(-1:Int),GX ((n:Int)-1) (-1) (-1))) _ _ s
 rw[lg]
 exact Fj h
theorem pq(xs:Array Fm):((FJ xs.size).filterMap fun(k:Nat)=>xs[((xs.size:Int)-1+(k:Int) * -1).toNat]?).toArray=xs.toList.reverse.toArray:=by
 have e:(fun(k:Nat)=>xs[((xs.size:Int)-1+(k:Int) * -1).toNat]?)=fun k=>xs[xs.size-1-k]?:=by
  funext k
  have:((xs.size:Int)-1+(k:Int) * -1).toNat=xs.size-1-k:=by omega
  rw[this]
 rw[e]
 have e2:(FJ xs.size).filterMap (fun k=>xs[xs.size-1-k]?)=((FJ xs.size).map fun k=>xs.size-1-k).filterMap (xs[·]?):=by rw[List.filterMap_map];rfl
 rw[e2,W.krv_range,List.filterMap_reverse,W.krv_all]
theorem get_rev{t sl:Addr}{items:Array Fm}{vk:Fm}(ht:Lg s.heap t items)(hs:s.heap.IsSliceOf sl .none .none vk)(pk:Kv vk (some (-1)))
 (h:Q (.ref s.heap.objs.size) {s with heap:=s.heap.push {cls:=.type "tuple", data:=.seq items.toList.reverse.toArray}})
 (hsz:items.size<=sizeLine):FN (Gb prog w) A (JG (.ref t) (.ref sl)) Q E s:=by
 have hz:sizeOk (.seq items.toList.reverse.toArray):=by
  show items.toList.reverse.toArray.size<=sizeLine
  rw[FS,K6,IL]
  exact hsz
 have ty:s.TypeIs (.ref sl) "slice" := let ⟨o,h1,h2,_⟩:=hs;⟨o,h1,h2⟩
 have key:FN (Gb prog w) A (call (.builtin "tuple.__getitem__") [.ref t,.ref sl]) Q E s:=by
  refine GF Ga ht.typeIs entry_tuple_getitem ?_ (JV _ _)
  show FN _ _ (HW (.ref t) >>= _) _ _ s;refine Fb (IZ ht (Fb (JW ty ?_)))
  rw[if_pos (by decide)]
  refine Fb (jH hs pk ?_)
  show FN _ _ (if((items.size:Int)-1==0&&(-1:Int)==1&&items.size==items.size)=true then _ else _) _ _ s
  rw[if_neg (by simp),pq]
  first
   | exact Fb (m:=Gr _) (Go (Fj ⟨_,rfl,h⟩) hz)
   | exact Fb (m:=Gr _) (Go (Fb (Fj (Fj ⟨_,rfl,h⟩))) hz)
   | exact Fb (Fb (m:=Gr _) (Go (Fj (Fj ⟨_,rfl,h⟩)) hz))
   | exact Fb (Fb (m:=Gr _) (Go (Fj ⟨_,rfl,h⟩) hz))
 unfold JG;try with_reducible refine HH ?_
 first|exact Fb (Fj (Fb (IB ht.typeIs (by decide) (Fb (Ge (name:=Str.ofString "__getitem__") ht.typeIs Ga (C7 key fun v s' q=>Fj q))))))|exact Fb (IB ht.typeIs (by decide) (Fb (Ge (name:=Str.ofString "__getitem__") ht.typeIs Ga (C7 key fun v s' q=>Fj q))))
end
end L2.TO
namespace L2
section
variable{X:Cx}{a b e:Expr}{ta:TA}{te:TE}{p p2 q pos pos2:Pos}
noncomputable def zc(K:W.Frag)(te:TE):TE:=fun σ H Q=>te σ H fun x H1=>∃a xs,x = .ref a/\Em K H1 a xs/\∀l,H1 l=none->Q (.ref l) (upd H1 l (.tup xs.reverse))
theorem t6{p3 p4:Pos}(he:PE X e te):PE X (.Subscript e (.Slice none none (some (.UnaryOp .USub (.Constant (.int 1) j p3) p4)) p2) pos) (zc X.K te):=by
 intro pins s σ H Q I h
 refine Lw (C7 (he pins s σ H _ I h) fun v s1 ⟨x,H1,I1,r1,q1⟩=>?_)
 obtain⟨a,xs,rfl,hq,q⟩:=q1
 cases r1
 refine wpAny_Slice ?_
 rw[Ll]
 refine Fj (Fj ?_)
 refine C7 (m6 (X:=X) (xu qW dz) pins s1 σ H1 (fun o H=>o=some (-1)/\H=H1) I1 ⟨1,rfl,-1,rfl,rfl,rfl⟩) fun vk s3 ⟨o,H3,I3,pk,eo,eH⟩=>?_
 subst eo eH
 have I4:Inv X pins σ H3 {s3 with heap:=s3.heap.push {cls:=.type "slice", data:=.fields #[.none,.none,vk]}}:=I3.kept (t':=s3.toks) fun b ob q=>Fh _ q
 obtain⟨its,rv,p,hz⟩:=I4.tuple hq
 have hl:=rv.length
 refine tail_any (ops:=[.ref a,.ref s3.heap.objs.size]) p.typeIs Ga.lookup ?_ (by with_unfolding_all rfl)
 refine TO.get_rev p (Heap.IsSliceOf.new ..) pk ?_ (by rw[FS]<;>omega)
 refine⟨.ref _,_,I4.laid (t':=s3.toks) (o:=.tup xs.reverse) (fun b ob q=>Fh _ q) (FC _) ?_,rfl,q _ (I4.hok.fresh (FC _))⟩
 exact⟨by rw[K6];exact hz,its.reverse,rv.reverse,oJ.new _ _⟩
end
end L2
namespace L2.VL
section
variable{X:Cx}{rl:RlT}{a b c e:Expr}{es:List Expr}{fa fb fc:TV}{fs:Eg}{pos pos2 p q p2:Pos}
noncomputable def sQ(fa:TV):TV:=fun ρ Q=>fa ρ fun w=>∃xs,w = .d (.tuple xs)/\Q (.d (.tuple xs.reverse))
theorem vW{p3 p4:Pos}(ha:PV X rl e fa):PV X rl (.Subscript e (.Slice none none (some (.UnaryOp .USub (.Constant (.int 1) j p3) p4)) p2) pos) (sQ fa):=by
 obtain⟨t,p1,k⟩:=ha
 refine⟨_,t6 p1,fun R Qd Q q h=>k R _ _ q fun v w F1 H1 g1 r1 n1 ⟨xs,ew,q1⟩=>?_⟩
 subst ew
 cases(show Rep X.K F1 v (.tuple xs)from r1)with
 | @tup a vs _ sq rs =>
   refine⟨a,vs,rfl,dt g1.sub sq,fun l hl=>?_⟩
   have g:=Grow.data (a:=l) (o:=.tup vs.reverse) g1.sub g1.reel hl
   exact h _ (.d _) _ _ (g1.trans g) (.tup (.inl (.inl au)) (rs.rev.mono g.fs)) trivial q1
end
end L2.VL
namespace L2.TW
section
variable{prog:F0}{w:GD}{A:GN}{E:Fm->Ft->Prop}{s:Ft}
theorem get_whole{t sl:Addr}{items:Array Fm}{vl vu:Fm}{lo hi:Option Int}(ht:Lg s.heap t items)(hs:s.heap.IsSliceOf sl vl vu .none)(pl:Kv vl lo)(pu:Kv vu hi)
 (hw:HT.sIx items.size 0 lo=0/\HT.sIx items.size items.size hi=items.size)(h:Q (.ref t) s):FN (Gb prog w) A (JG (.ref t) (.ref sl)) Q E s:=by
 have ty:s.TypeIs (.ref sl) "slice" := let ⟨o,h1,h2,_⟩:=hs;⟨o,h1,h2⟩
 have key:FN (Gb prog w) A (call (.builtin "tuple.__getitem__") [.ref t,.ref sl]) Q E s:=by
  refine GF Ga ht.typeIs entry_tuple_getitem ?_ (JV _ _)
  show FN _ _ (HW (.ref t) >>= _) _ _ s;refine Fb (IZ ht (Fb (JW ty ?_)))
  rw[if_pos (by decide)]
  refine Fb (HT.sliceApplied_gen hs pl pu ?_)
  rw[hw.1,hw.2,J0]
  show FN _ _ (if(((0:Nat):Int)==0&&(1:Int)==1&&items.size==items.size)=true then _ else _) _ _ s
  rw[if_pos (by simp)]
  unfold IG
  refine Fb (Fb (JW ht.typeIs (Fj ?_)))
  rw[if_pos (by decide)]
  exact Fb (Ia (Fb (Fj (Fj ⟨_,rfl,h⟩))))
 unfold JG;try with_reducible refine HH ?_
 first|exact Fb (Fj (Fb (IB ht.typeIs (by decide) (Fb (Ge (name:=Str.ofString "__getitem__") ht.typeIs Ga (C7 key fun v s' q=>Fj q))))))|exact Fb (IB ht.typeIs (by decide) (Fb (Ge (name:=Str.ofString "__getitem__") ht.typeIs Ga (C7 key fun v s' q=>Fj q))))
end
end L2.TW
namespace L2
section
variable{X:Cx}
noncomputable def B1(K:W.Frag):V->Option Int->Option Int->Hp->VK->Prop:=fun x lo hi H Q=>Bn K x lo hi H Q\/∃a xs,x = .ref a/\Em K H a xs/\(HT.sIx xs.length 0 lo=0/\HT.sIx xs.length xs.length hi=xs.length)/\Q (.ref a) H
theorem tw:Es X (B1 X.K):=by
 intro pins s σ H x v vl vu lo hi sl Q I rx hs pl pu h
 rcases h with h|⟨a,xs,rfl,hx,hw,q⟩
 · exact wM pins s σ H x v vl vu lo hi sl Q I rx hs pl pu h
 · cases rx
   obtain⟨its,r,ht,hz⟩:=I.tuple hx
   have hlen:its.toArray.size=xs.length:=by rw[FS];exact r.length.symm
   exact⟨"tuple", _,Ga.lookup,ht.typeIs,TW.get_whole ht hs pl pu (by rw[hlen];exact hw) ⟨.ref a,H,I,rfl,q⟩⟩
end
end L2
namespace L2.VL
section
variable{X:Cx}{rl:RlT}{a b c e:Expr}{es:List Expr}{fa fb fc:TV}{fs:Eg}{pos p p2:Pos}
theorem n6{l u:Option Int}(h:HT.sIx xs.length 0 l=0/\HT.sIx xs.length xs.length u=xs.length):cutD xs l u=xs:=by
 unfold cutD
 rw[h.1,h.2]
 simp
noncomputable def yQ(fa:TV)(fl fh:Ei):TV:=fun ρ Q=>fa ρ fun w=>fl ρ fun l=>fh ρ fun h=>∃xs,w = .d (.tuple xs)/\Q (.d (.tuple (cutD xs l h)))
theorem ie{lo hi:Option Expr}{fl fh:Ei}(ha:PV X rl a fa)(hl:Ew X rl lo fl)(hh:Ew X rl hi fh):PV X rl (.Subscript a (.Slice lo hi none p2) pos) (yQ fa fl fh):=by
 obtain⟨t,p,k⟩:=ha
 obtain⟨tl,pl,kl⟩:=hl
 obtain⟨th,ph,kh⟩:=hh
 refine⟨_,jZ tw p pl ph,fun R Qd Q q h=>k R _ _ q fun v w F1 H1 g1 r1 n1 q1=>?_⟩
 refine kl (R.grow g1) _ _ q1 fun l F2 H2 g2 q2=>kh ((R.grow g1).grow g2) _ _ q2 fun u F3 H3 g3 q3=>?_
 obtain⟨xs,rfl,q3⟩:=q3
 have r3:=(r1.grow g2).grow g3
 have g:=(g1.trans g2).trans g3
 cases(show Rep X.K F3 v (.tuple xs)from r3)with
 | @tup a vs _ sq rs =>
   by_cases hw:HT.sIx xs.length 0 l=0/\HT.sIx xs.length xs.length u=xs.length
   · rw[n6 hw]at q3
     exact .inr ⟨a,vs,rfl,dt g3.sub sq,by rw[rs.length];exact hw,h _ (.d _) _ _ g (.tup sq rs) trivial q3⟩
   · refine .inl ⟨a,vs,rfl,dt g3.sub sq,by rw[rs.length];exact hw,fun p hp=>?_⟩
     have g':=Grow.data (a:=p) (o:=.tup (qC vs l u)) g3.sub g3.reel hp
     exact h _ (.d _) _ _ (g.trans g') (.tup (.inl (.inl au)) ((rs.cut l u).mono g'.fs)) trivial q3
end
end L2.VL
namespace L2
abbrev Ci(D:List (Str×Int)):List (Fd×Fd):=(D.map fun q=>(q.1,FW q.2)).map fun q=>(Jm q.1,q.2)
section
variable{X:Cx}{e:Expr}{ty:TE}{px apos cpos:Pos}
end
end L2
namespace L2.VL
section
variable{X:Cx}{rl:RlT}{a b c e:Expr}{es:List Expr}{fa fb fc:TV}{fs:Eg}{pos p p2 px apos cpos:Pos}
end
end L2.VL
set_option exponentiation.threshold 10000
namespace L2.VL
structure IsEx (b:Int) (p:List Int):Prop where
 len:p.length=b.toNat
 zero:p.head?=some 0
 nd:p.Nodup
 rng:∀x∈p,0<=x/\x<b
noncomputable def D0(p:List Int):Fd:=.tuple (p.map .int)
noncomputable def yh(bs:List Int):Prop:=bs.length=4/\(∀b∈bs,2<=b/\b<=16)/\bs.Pairwise fun x y=>Int.gcd x y=1
instance (bs:List Int):Decidable (yh bs):=by unfold yh;infer_instance
theorem jl{d:Nat}{k:Int}(h:0<=k):HT.sIx n d (some k)=min k.toNat n:=by
 obtain⟨m,rfl⟩:=I_ h
 exact HT.sIx_nat n d m
theorem iK{k:Int}(h:0<=k):cutD xs none (some k)=xs.take k.toNat:=by
 unfold cutD
 rw[jl h,HT.sIx_none,J6,J0]
 by_cases hk:k.toNat<=xs.length
 · rw[Ja hk]
 · rw[Jw (by omega),GO (FC _),GO (by omega)]
theorem tG:∀{cs:List Int}{ds:List Fd},G6 (fun x d=>∃b p,x = .int b/\d = .tuple [.int b,D0 p]/\IsEx b p) (cs.map FW) ds->∃rows:List (Int×List Int),ds=rows.map (fun r=>.tuple [.int r.1,D0 r.2])/\rows.map (·.1)=cs/\∀r∈rows,IsEx r.1 r.2
 | [],_,h=>by cases h;exact⟨[],rfl,rfl,fun _ z=>nomatch z⟩
 | c::cs,_,h=>by
   cases h with
   | cons h r =>
     obtain⟨b,p,e1,e2,ex⟩:=h
     cases e1
     obtain⟨rows,h1,h2,h3⟩:=tG r
     refine⟨(c,p)::rows,by simp[e2,h1],by simp[h2],fun r hr=>?_⟩
     rcases GT.mp hr with rfl|hr
     · exact ex
     · exact h3 r hr
end L2.VL
set_option exponentiation.threshold 10000
namespace L2.VL
noncomputable def stepT(b:Int)(p:List Int)(t:Int)(a:Nat):Int:=t*b+p.getD a 0
noncomputable def CZ:Fd->Int
 | .int i=>i
 | _=>0
section
variable{P:F0}{w:GD}{K:W.Frag}{mg:Str->Option Fm}{base:Heap}{rl:RlT}{x:Str}{st:Stmt}{N ps:List Str}{k:Nat}{Pd:List W->(List Fd->Prop)->Prop}{t:Eh}
end
section
variable{X:Cx}{rl:RlT}{a b c e:Expr}{es:List Expr}{fa fb fc:TV}{fs:Eg}{pos p p2 px apos cpos:Pos}
noncomputable def oK:EL->Fd
 | .inl i=>.int i
 | .inr x=>.str x
end
end L2.VL
namespace L2.IX
section
variable{prog:F0}{w:GD}{A:GN}{E:Fm->Ft->Prop}{s:Ft}
end
end L2.IX
namespace L2
section
variable{X:Cx}
end
end L2
namespace L2.VL
section
variable{X:Cx}{rl:RlT}{a b c e:Expr}{es:List Expr}{fa fb fc:TV}{fs:Eg}{pos p p2 px apos cpos:Pos}
noncomputable def gq:Fd->Bool
 | .none=>true
 | _=>false
noncomputable def yy(neg:Bool):W->W->(W->Prop)->Prop:=fun x y Q=>∃d,x.dat=some d/\y = .d .none/\Q (.d (.bool (if neg then !gq d else gq d)))
theorem mO{K:W.Frag}(h:Rep K F v d):decide (v=V.non)=gq d:=by
 cases h<;>first|rfl|exact decide_eq_false (fun z=>by cases z)
theorem qM:Ec X rl (fun x y H Q=>y = .non/\Q (.bl (decide (x = .non))) H) (yy false):=fun{F H x y wx wy} Qd Q s ra r1 r2 q k=>by
 obtain⟨d,e1,rfl,q⟩:=q
 have e2:y = .non:=by cases(show Rep X.K F y .none from r2);rfl
 refine⟨e2,?_⟩
 rw[mO (r1.dat s e1)]
 exact k _ (.d _) _ _ (Grow.refl s ra) (.bl _) trivial q
theorem iZ:Ec X rl (fun x y H Q=>y = .non/\Q (.bl (!decide (x = .non))) H) (yy true):=fun{F H x y wx wy} Qd Q s ra r1 r2 q k=>by
 obtain⟨d,e1,rfl,q⟩:=q
 have e2:y = .non:=by cases(show Rep X.K F y .none from r2);rfl
 refine⟨e2,?_⟩
 rw[mO (r1.dat s e1)]
 exact k _ (.d _) _ _ (Grow.refl s ra) (.bl _) trivial q
end
end L2.VL
namespace L2.ZP
section
variable{prog:F0}{w:GD}{A:GN}{E:Fm->Ft->Prop}{s:Ft}{it a:Addr}{k:Nat}{xs:Array Fm}{v:Fm}
theorem s_(st:s.heap.IsTupleIter it a k)(tu:s.heap.IsTuple a xs)(e:xs[k]?=some v)
 (q:∀g,g.IsTupleIter it a (k+1)->Hu it s.heap g->Q v {s with heap:=g}):FN (Gb prog w) A (FM (.ref it)) Q E s:=by
 have ty:=st.typeIs
 obtain⟨o,oe,oc,od⟩:=st
 obtain⟨l,le,_,_,ld⟩:=tu
 unfold FM
 have sl:=F.slot_tuple_iterator_next
 refine Fb (Ge (name:=Str.ofString "__next__") ty sl (GF sl ty F.entry_tuple_iterator_next ?_ (F.args_tuple_iterator_next_1 _)))
 show FN _ _ (do let z <- Kh (.ref it) 0;_) _ _ s
 refine Fb (F_ oe od (x:=.ref a) rfl ?_)
 show FN _ _ (ite ((HC a==H_)=true) _ _) _ _ s
 rw[if_neg (show ¬(HC a == .none)=true by intro z;cases z)]
 show FN _ _ (do let z <- Kh (.ref it) 1;_) _ _ s
 refine Fb (F_ oe od (x:=.int k 0) rfl ?_)
 show FN _ _ (do let z <- seqItems? (.ref a);_) _ _ s
 refine Fb (GY le ld ?_)
 simp only[Gy,e]
 refine Fb (wpAny_setField oe od (by simp) (Fj ⟨v,rfl,Fj (q _ ?_ (K7 ..))⟩))
 refine⟨_,Heap.get?_update_self _ oe (Obj.isFreed_of_fields (Obj.data_mapFields od _)),?_,?_⟩
 · exact(Obj.cls_mapFields ..).trans oc
 · rw[Obj.data_mapFields od];simp[Kj]
theorem wq(hd:A.handled=none)(st:s.heap.IsTupleIter it a k)(tu:s.heap.IsTuple a xs)(e:xs[k]?=none)
 (q:∀g x,Heap.ExtBut it s.heap g->(∃o,g.get? x=some o/\o.cls = .type "StopIteration")->E (.ref x) {s with heap:=g}):FN (Gb prog w) A (FM (.ref it)) Q E s:=by
 have ty:=st.typeIs
 obtain⟨o,oe,oc,od⟩:=st
 obtain⟨l,le,_,_,ld⟩:=tu
 unfold FM
 have sl:=F.slot_tuple_iterator_next
 refine Fb (Ge (name:=Str.ofString "__next__") ty sl (GF sl ty F.entry_tuple_iterator_next ?_ (F.args_tuple_iterator_next_1 _)))
 show FN _ _ (do let z <- Kh (.ref it) 0;_) _ _ s
 refine Fb (F_ oe od (x:=.ref a) rfl ?_)
 show FN _ _ (ite ((HC a==H_)=true) _ _) _ _ s
 rw[if_neg (show ¬(HC a == .none)=true by intro z;cases z)]
 show FN _ _ (do let z <- Kh (.ref it) 1;_) _ _ s
 refine Fb (F_ oe od (x:=.int k 0) rfl ?_)
 show FN _ _ (do let z <- seqItems? (.ref a);_) _ _ s
 refine Fb (GY le ld ?_)
 simp only[Gy,e]
 refine Fb (Ia (Fb (wpAny_setField oe od (by simp) ?_)))
 show FN _ _ (do let z <- newExc (.type "StopIteration") [];_) _ _ _
 refine Fb ?_
 simp only[newExc,newTuple]
 refine Fb (Go ?_ (by size_fits))
 refine Fb (m:=firstArgMember _ _) (K5 (a:=.none) (by first|rfl|(simp only[firstArgMember];rfl)) (Go ?_ (by size_fits)))
 simp only[raiseNew]
 refine Fb (wpAny_handled ?_)
 first
  | rw[show A.in1.handled=none from hd]
  | rw[hd]
 refine Fb (Fj (wpAny_throw ?_))
 exact q _ _ (((K7 ..).extBut.push _).push _) ⟨_,FF _ rfl,rfl⟩
end
noncomputable def EZ(h:Heap)(it a:Addr)(xs:Array Fm)(k:Nat):Prop:=(h.IsListIter it a k/\h.IsList a xs)\/(h.IsTupleIter it a k/\h.IsTuple a xs)
section
variable{prog:F0}{w:GD}{A:GN}{E:Fm->Ft->Prop}{s:Ft}{it a:Addr}{k:Nat}{xs:Array Fm}{v:Fm}
theorem EZ.item(st:EZ s.heap it a xs k)(ne:a≠it)(e:xs[k]?=some v)
 (q:∀g,EZ g it a xs (k+1)->Hu it s.heap g->Q v {s with heap:=g}):FN (Gb prog w) A (FM (.ref it)) Q E s:=by
 rcases st with⟨h1,h2⟩|⟨h1,h2⟩
 · exact wpAny_nextOf_list_item h1 h2 e fun g h3 h4=>q g (.inl ⟨h3,h2.extBut h4.extBut ne⟩) h4
 · exact s_ h1 h2 e fun g h3 h4=>q g (.inr ⟨h3,h2.extBut h4.extBut ne⟩) h4
theorem EZ.fin(hd:A.handled=none)(st:EZ s.heap it a xs k)(e:xs[k]?=none)
 (q:∀g x,Heap.ExtBut it s.heap g->(∃o,g.get? x=some o/\o.cls = .type "StopIteration")->E (.ref x) {s with heap:=g}):FN (Gb prog w) A (FM (.ref it)) Q E s:=by
 rcases st with⟨h1,h2⟩|⟨h1,h2⟩
 · exact wpAny_nextOf_list_end hd h1 h2 e q
 · exact wq hd h1 h2 e q
theorem EZ.keep(st:EZ h it a xs k)(e1:∀o,h.get? it=some o->h'.get? it=some o)(e2:∀o,h.get? a=some o->h'.get? a=some o):EZ h' it a xs k:=by
 rcases st with⟨⟨o,h1,r1⟩,⟨p,h2,r2⟩⟩|⟨⟨o,h1,r1⟩,⟨p,h2,r2⟩⟩
 · exact .inl ⟨⟨o,e1 _ h1,r1⟩,⟨p,e2 _ h2,r2⟩⟩
 · exact .inr ⟨⟨o,e1 _ h1,r1⟩,⟨p,e2 _ h2,r2⟩⟩
end
section
variable{prog:F0}{w:GD}{A:GN}{E:Fm->Ft->Prop}{s:Ft}{z ti to i1 i2 a1 a2:Addr}{k1 k2:Nat}{xs ys:Array Fm}{x y p q:Fm}
theorem SameBut.keep(sb:Hu a h h')(ne:b≠a):∀o,h.get? b=some o->h'.get? b=some o:=fun o e=>sb.extBut _ _ ne e
theorem sg(D:Ki z ti to i1 i2 a1 a2)(oz:KO s.heap z ti to .none)(oi:HD s.heap ti (.ref i1) (.ref i2))(oo:HD s.heap to p q)
 (s1:EZ s.heap i1 a1 xs k1)(s2:EZ s.heap i2 a2 ys k2)(ex:xs[k1]?=some x)(ey:ys[k2]?=some y)
 (done:∀g,KO g z ti to (Kj s.heap.objs.size)->HD g to x y->EZ g i1 a1 xs (k1+1)->EZ g i2 a2 ys (k2+1)->HD g s.heap.objs.size x y->g.objs.size=s.heap.objs.size+1 ->
  (∀b o,b≠z->b≠to->b≠i1->b≠i2->s.heap.get? b=some o->g.get? b=some o)->Q (.ref s.heap.objs.size) {s with heap:=g}) :
 FN (Gb prog w) A (Builtin.«zip.__next__» ⟨[.ref z],[]⟩) (fun r s'=>∃u,r = .done (.ret u)/\Q u s') E s:=by
 show FN _ _ (do let c <- Kh (.ref z) 2;_) _ _ _
 refine Fb (F_ oz rfl (x:=.bool false) rfl ?_)
 show FN _ _ (do let c <- Kh (.ref z) 3;_) _ _ _
 refine Fb (F_ oz rfl (x:=.ref ti) rfl ?_)
 refine Fb (GY oi rfl ?_)
 show FN _ _ (do let c <- FR (.ref z);_) _ _ _
 refine Fb ?_
 unfold FR
 refine Fb (F_ oz rfl (x:=H_) rfl (Fj ?_))
 simp only[if_true]
 refine Fb (Ia (Fb (F_ oz rfl (x:=.ref to) rfl (Fb (FX oz (by simp) fun g1 z1 b1=>?_)))))
 have z1:KO g1 z ti to .ellipsis:=z1
 refine Fb ?_
 simp only[Hz,IJ,Jx,JL]
 have s1a:EZ g1 i1 a1 xs k1:=s1.keep (SameBut.keep b1 D.i1z) (SameBut.keep b1 D.l1z)
 refine Fb (Fb (Im ?_))
 show FN _ _ (do let c <- FM (.ref i1);_) _ _ _
 refine Fb (s1a.item D.l1i1 ex fun g2 s1b b2=>Fj ?_)
 have o2:HD g2 to p q:=b2.extBut _ _ D.TOi1 (b1.extBut _ _ D.TOz oo)
 refine Fb (GY o2 rfl (Fb (HE o2 fun g3 o3 b3=>?_)))
 have o3:HD g3 to x q:=o3
 refine Fb (IM (Fj ?_))
 have s2a:EZ g3 i2 a2 ys k2:=((s2.keep (SameBut.keep b1 D.i2z) (SameBut.keep b1 D.l2z)).keep (SameBut.keep b2 D.i12.symm) (SameBut.keep b2 D.l2i1)).keep (SameBut.keep b3 D.TOi2.symm) (SameBut.keep b3 D.l2TO)
 refine Fb (Fb (Im ?_))
 show FN _ _ (do let c <- FM (.ref i2);_) _ _ _
 refine Fb (s2a.item D.l2i2 ey fun g4 s2b b4=>Fj ?_)
 have o4:HD g4 to x q:=b4.extBut _ _ D.TOi2 o3
 refine Fb (GY o4 rfl (Fb (HE o4 fun g5 o5 b5=>?_)))
 have o5:HD g5 to x y:=o5
 refine Fb (IM (Fj (Fj ?_)))
 refine Fb (GY o5 rfl (Fb (Js ?_)))
 have size:g5.objs.size=s.heap.objs.size:=by rw[b5.1,b4.1,b3.1,b2.1,b1.1]
 have z5:KO g5 z ti to .ellipsis:=b5.extBut _ _ D.TOz.symm (b4.extBut _ _ D.i2z.symm (b3.extBut _ _ D.TOz.symm (b2.extBut _ _ D.i1z.symm z1)))
 have kp:∀b o,b≠z->b≠to->b≠i1->b≠i2->s.heap.get? b=some o->g5.get? b=some o:=fun b o n1 n2 n3 n4 e=>b5.extBut _ _ n2 (b4.extBut _ _ n4 (b3.extBut _ _ n2 (b2.extBut _ _ n3 (b1.extBut _ _ n1 e))))
 have s1c:EZ g5 i1 a1 xs (k1+1):=((s1b.keep (SameBut.keep b3 D.TOi1.symm) (SameBut.keep b3 D.l1TO)).keep (SameBut.keep b4 D.i12) (SameBut.keep b4 D.l1i2)).keep (SameBut.keep b5 D.TOi1.symm) (SameBut.keep b5 D.l1TO)
 have s2c:EZ g5 i2 a2 ys (k2+1):=s2b.keep (SameBut.keep b5 D.TOi2.symm) (SameBut.keep b5 D.l2TO)
 have zl:z<g5.objs.size:=Fz z5
 show FN _ _ (do Gh (.ref z) (.ref g5.objs.size);_) _ _ _
 refine Fb ?_
 unfold Gh
 have z6:KO (g5.push {cls:=.type "tuple", data:=.seq #[x,y]}) z ti to .ellipsis:=Fh _ z5
 refine Fb (FX z6 (by simp) fun g7 z7 b7=>?_)
 have z7:KO g7 z ti to (Kj g5.objs.size):=z7
 refine FX z7 (by simp) fun g8 z8 b8=>?_
 have z8:KO g8 z ti to (Kj g5.objs.size):=z8
 have up:∀b o,b≠z->g5.get? b=some o->g8.get? b=some o:=fun b o n e=>b8.extBut _ _ n (b7.extBut _ _ n (Fh _ e))
 have t8:HD g8 g5.objs.size x y:=b8.extBut _ _ (Hv zl) (b7.extBut _ _ (Hv zl) (FF _ rfl))
 have l8:g8.objs.size=g5.objs.size+1:=by rw[b8.1,b7.1,Gs]
 rw[size]at z8 t8 l8
 refine Fj ⟨_,rfl,?_⟩
 show Q (.ref g5.objs.size) _
 rw[size]
 exact done g8 z8 (up _ _ D.TOz o5) (s1c.keep (fun o e=>up _ o D.i1z e) fun o e=>up _ o D.l1z e) (s2c.keep (fun o e=>up _ o D.i2z e) fun o e=>up _ o D.l2z e) t8 l8 fun b o n1 n2 n3 n4 e=>up b o n1 (kp b o n1 n2 n3 n4 e)
theorem vw{Q:Fin->Ft->Prop}(hd:A.handled=none)(D:Ki z ti to i1 i2 a1 a2)(oz:KO s.heap z ti to .none)(oi:HD s.heap ti (.ref i1) (.ref i2))(oo:HD s.heap to p q)
 (s1:EZ s.heap i1 a1 xs k1)(s2:EZ s.heap i2 a2 ys k2)(e:xs[k1]?=none\/ys[k2]?=none)
 (q':∀g x,(∀b o,b≠z->b≠to->b≠i1->b≠i2->s.heap.get? b=some o->g.get? b=some o)->(∃o,g.get? x=some o/\o.cls = .type "StopIteration")->E (.ref x) {s with heap:=g}) :
 FN (Gb prog w) A (Builtin.«zip.__next__» ⟨[.ref z],[]⟩) Q E s:=by
 show FN _ _ (do let c <- Kh (.ref z) 2;_) _ _ _
 refine Fb (F_ oz rfl (x:=.bool false) rfl ?_)
 show FN _ _ (do let c <- Kh (.ref z) 3;_) _ _ _
 refine Fb (F_ oz rfl (x:=.ref ti) rfl ?_)
 refine Fb (GY oi rfl ?_)
 show FN _ _ (do let c <- FR (.ref z);_) _ _ _
 refine Fb ?_
 unfold FR
 refine Fb (F_ oz rfl (x:=H_) rfl (Fj ?_))
 simp only[if_true]
 refine Fb (Ia (Fb (F_ oz rfl (x:=.ref to) rfl (Fb (FX oz (by simp) fun g1 z1 b1=>?_)))))
 have z1:KO g1 z ti to .ellipsis:=z1
 refine Fb ?_
 simp only[Hz,IJ,Jx,JL]
 have s1a:EZ g1 i1 a1 xs k1:=s1.keep (SameBut.keep b1 D.i1z) (SameBut.keep b1 D.l1z)
 refine Fb (Fb (Im ?_))
 show FN _ _ (do let c <- FM (.ref i1);_) _ _ _
 have last:∀(g g':Heap)(u:Addr)(o:Obj),g.get? u=some o->o.cls = .type "StopIteration" -> KO g z ti to .ellipsis->Hu z g g'->∃o,g'.get? u=some o/\o.cls = .type "StopIteration" := fun g g' u o h1 h2 h3 sb=>by
  have ne:u≠z:=fun c=>by rw[c,h3]at h1;cases h1;simp at h2
  exact⟨o,sb.extBut _ _ ne h1,h2⟩
 cases ex:xs[k1]? with
 | none =>
   refine Fb (s1a.fin hd ex fun g2 u b2 ⟨o,ou,oc⟩=>?_)
   have z2:KO g2 z ti to .ellipsis:=b2 _ _ D.i1z.symm z1
   exact FX z2 (by simp) fun g3 _ b3=>q' g3 u (fun b o n1 _ n3 _ e=>b3.extBut _ _ n1 (b2 _ _ n3 (b1.extBut _ _ n1 e))) (last g2 g3 u o ou oc z2 b3)
 | some x =>
   have ey:ys[k2]?=none:=e.elim (fun h=>by rw[ex]at h;cases h) id
   refine Fb (s1a.item D.l1i1 ex fun g2 s1b b2=>Fj ?_)
   have o2:HD g2 to p q:=b2.extBut _ _ D.TOi1 (b1.extBut _ _ D.TOz oo)
   refine Fb (GY o2 rfl (Fb (HE o2 fun g3 o3 b3=>?_)))
   refine Fb (IM (Fj ?_))
   have s2a:EZ g3 i2 a2 ys k2:=((s2.keep (SameBut.keep b1 D.i2z) (SameBut.keep b1 D.l2z)).keep (SameBut.keep b2 D.i12.symm) (SameBut.keep b2 D.l2i1)).keep (SameBut.keep b3 D.TOi2.symm) (SameBut.keep b3 D.l2TO)
   refine Fb (Fb (Im ?_))
   show FN _ _ (do let c <- FM (.ref i2);_) _ _ _
   refine Fb (s2a.fin hd ey fun g4 u b4 ⟨o,ou,oc⟩=>?_)
   have z4:KO g4 z ti to .ellipsis:=b4 _ _ D.i2z.symm (b3.extBut _ _ D.TOz.symm (b2.extBut _ _ D.i1z.symm z1))
   exact FX z4 (by simp) fun g5 _ b5=>q' g5 u (fun b o n1 n2 n3 n4 e=>b5.extBut _ _ n1 (b4 _ _ n4 (b3.extBut _ _ n2 (b2.extBut _ _ n3 (b1.extBut _ _ n1 e))))) (last g4 g5 u o ou oc z4 b5)
end
noncomputable def Er(b:Bool)(h:Heap)(a:Addr)(xs:Array Fm):Prop:=bif b then h.IsTuple a xs else h.IsList a xs
noncomputable def DL(b:Bool):String:=bif b then "tuple_iterator" else "list_iterator"
theorem Er.push{b:Bool}{h:Heap}{a:Addr}{xs:Array Fm}(q:Er b h a xs)(o:Obj):Er b (h.push o) a xs:=by
 cases b with
 | true=>exact Heap.IsTuple.push q o
 | false=>exact Heap.IsList.push q o
section
variable{prog:F0}{w:GD}{A:GN}{E:Fm->Ft->Prop}{s:Ft}{b b1 b2:Bool}{a a1 a2:Addr}{xs ys:Array Fm}
theorem pV(st:Er b s.heap a xs)(q:Q (.ref s.heap.objs.size) {s with heap:=s.heap.push {cls:=.type (DL b),data:=.fields #[.ref a,.int 0 0]}}):FN (Gb prog w) A (LN (.ref a)) Q E s:=by
 cases b with
 | true=>exact JS st q
 | false=>exact Jj st q
abbrev y1(h:Heap)(b1:Bool)(a1:Addr):Heap:=h.push {cls:=.type (DL b1),data:=.fields #[.ref a1,.int 0 0]}
abbrev y2(h:Heap)(b1 b2:Bool)(a1 a2:Addr):Heap:=(y1 h b1 a1).push {cls:=.type (DL b2),data:=.fields #[.ref a2,.int 0 0]}
abbrev y3(h:Heap)(b1 b2:Bool)(a1 a2:Addr):Heap:=(y2 h b1 b2 a1 a2).push {cls:=.type "tuple", data:=.seq #[.ref h.objs.size,.ref (y1 h b1 a1).objs.size]}
abbrev y4(h:Heap)(b1 b2:Bool)(a1 a2:Addr):Heap:=(y3 h b1 b2 a1 a2).push {cls:=.type "tuple", data:=.seq #[.none,.none]}
abbrev y5(h:Heap)(b1 b2:Bool)(a1 a2:Addr):Heap:=(y4 h b1 b2 a1 a2).push {cls:=.type "zip", data:=.fields #[.none,.bool false,.bool false,.ref (y2 h b1 b2 a1 a2).objs.size,.ref (y3 h b1 b2 a1 a2).objs.size]}
theorem sj(b1 b2:Bool)(a1 a2:Addr)(xs ys:Array Fm) :
 Meets (Builtin.«zip.__new__» ⟨[.type "zip", .ref a1,.ref a2],[]⟩) (fun _ R s=>Er b1 s.heap a1 xs/\Er b2 s.heap a2 ys/\R (.ok (.ret (.ref (y4 s.heap b1 b2 a1 a2).objs.size))) {s with heap:=y5 s.heap b1 b2 a1 a2}) :=
 .of_wp fun prog w A R s h=>by
  obtain⟨hp,g,d,tk,os⟩:=s
  obtain⟨q1,q2,h⟩:=h
  have hsub:=sub_zip
  have k1:Er b1 (K8 ⟨hp,g,d,tk,os⟩) a1 xs:=q1
  have k2:Er b2 (K8 ⟨hp.push {cls:=.type (DL b1),data:=.fields #[.ref a1,.int 0 0]},g,d,tk,os⟩) a2 ys:=q2.push _
  wp_walk using pV k1,pV k2
  exact⟨_,rfl,h⟩
theorem kM(q1:Er b1 s.heap a1 xs)(q2:Er b2 s.heap a2 ys)
 (k:∀g,KO g (s.heap.objs.size+4) (s.heap.objs.size+2) (s.heap.objs.size+3) .none->HD g (s.heap.objs.size+2) (.ref s.heap.objs.size) (.ref (s.heap.objs.size+1))->HD g (s.heap.objs.size+3) .none .none ->
  EZ g s.heap.objs.size a1 xs 0->EZ g (s.heap.objs.size+1) a2 ys 0->g.objs.size=s.heap.objs.size+5->(∀c o,s.heap.get? c=some o->g.get? c=some o)->Q (.ref (s.heap.objs.size+4)) {s with heap:=g}) :
 FN (Gb prog w) A (call (.type "zip") [.ref a1,.ref a2]) Q E s:=by
 refine LD F.called_zip (by decide) (F.typeCall_zip_2 _ _) (F.newCall_zip_2 _ _) (fun u=>F.args_object_init_3 u _ _) F.entry_zip_new (sj b1 b2 a1 a2 xs ys) ⟨q1,q2,?_⟩
 have n1:(y1 s.heap b1 a1).objs.size=s.heap.objs.size+1:=Gs ..
 have n2:(y2 s.heap b1 b2 a1 a2).objs.size=s.heap.objs.size+2:=by rw[Gs,n1]
 have n3:(y3 s.heap b1 b2 a1 a2).objs.size=s.heap.objs.size+3:=by rw[Gs,n2]
 have n4:(y4 s.heap b1 b2 a1 a2).objs.size=s.heap.objs.size+4:=by rw[Gs,n3]
 have n5:(y5 s.heap b1 b2 a1 a2).objs.size=s.heap.objs.size+5:=by rw[Gs,n4]
 have pu:∀{h:Heap}{o u:Obj}{c:Addr},h.get? c=some u->(h.push o).get? c=some u:=fun e=>Fh _ e
 have kp:∀c o,s.heap.get? c=some o->(y5 s.heap b1 b2 a1 a2).get? c=some o:=fun c o e=>pu (pu (pu (pu (pu e))))
 have f5:(y5 s.heap b1 b2 a1 a2).get? (y4 s.heap b1 b2 a1 a2).objs.size=some _:=FF _ rfl
 have f4:(y5 s.heap b1 b2 a1 a2).get? (y3 s.heap b1 b2 a1 a2).objs.size=some _:=pu (FF _ rfl)
 have f3:(y5 s.heap b1 b2 a1 a2).get? (y2 s.heap b1 b2 a1 a2).objs.size=some _:=pu (pu (FF _ rfl))
 have f2:(y5 s.heap b1 b2 a1 a2).get? (y1 s.heap b1 a1).objs.size=some _:=pu (pu (pu (FF _ rfl)))
 have f1:(y5 s.heap b1 b2 a1 a2).get? s.heap.objs.size=some _:=pu (pu (pu (pu (FF _ rfl))))
 show _/\_
 rw[n2,n3,n4]at f5
 rw[n1,n2]at f3
 rw[n3]at f4
 rw[n1]at f2
 rw[n4]
 have mk:∀{b:Bool}{i a:Addr}{zs:Array Fm},(y5 s.heap b1 b2 a1 a2).get? i=some {cls:=.type (DL b),data:=.fields #[.ref a,.int 0 0]}->Er b s.heap a zs->EZ (y5 s.heap b1 b2 a1 a2) i a zs 0:=fun{b i a zs} e q=>by
  cases b with
  | true=>obtain⟨o,h1,h2⟩:=(show s.heap.IsTuple a zs from q);exact .inr ⟨⟨_,e,rfl,rfl⟩,⟨o,kp _ _ h1,h2⟩⟩
  | false=>obtain⟨o,h1,h2⟩:=(show s.heap.IsList a zs from q);exact .inl ⟨⟨_,e,rfl,rfl⟩,⟨o,kp _ _ h1,h2⟩⟩
 exact⟨⟨_,f5,rfl⟩,k _ f5 f3 f4 (mk f1 q1) (mk f2 q2) n5 kp⟩
end
end L2.ZP
namespace L2
open PySem PySem.Spec PyProof.Rows L2.ZP
theorem Inv.turnedL{ch:List Addr}(I:Inv X pins σ H s)(k:∀b o,b∉ch->s.heap.get? b=some o->h'.get? b=some o)(hn:∀b∈ch,iU X pins H b) :
 Inv X pins σ H {s with heap:=h',toks:=t' }:=by
 have nit:∀b u,H b=some u->b∉ch:=fun b u e z=>by rw[(hn b z).1]at e;cases e
 refine I.step (g':=s.gens) (d':=s.drawn) (ch:=ch) (fun b hb=>?_) (fun b o _ _ hc e _=>k b o hc e) (fun b o _ _ hc e _=>⟨o.slots,k b o hc e⟩) (fun _ _ _ _ n=>n) (fun b o hc e=>⟨o,k b o hc e⟩) (fun _ _ e=>e) (fun _ _ _ e=>e) (fun b ps e=>⟨#[],by rw[e];simp⟩) (fun m hm=>?_) (fun b u e=>?_) I.bare
 · obtain⟨_,h2,_,h4,h5,h6⟩:=hn b hb
   exact⟨h4,h2,h5,h6⟩
 · obtain⟨o,es,ep,ho,r⟩:=hm
   exact⟨o,es,ep,k _ o (fun z=>(hn _ z).2.1 rfl) ho,r⟩
 · refine(I.hok b u e).stay (fun c v hc q=>k c v ?_ q) (fun _ q=>q) fun _ _ q=>q
   rcases hc with z|z
   · rw[z];exact nit b u e
   · exact nit c _ z
noncomputable def Ep(b:Bool)(K:W.Frag)(H:Hp)(a:Addr)(xs:List V):Prop:=bif b then Em K H a xs else Eo K H a xs
theorem Inv.sqB{b:Bool}{xs:List V}(I:Inv X pins σ H s)(h:Ep b X.K H a xs):∃its,cw xs its/\Er b s.heap a its.toArray:=by
 cases b with
 | true =>
   obtain⟨its,r,t,z⟩:=I.tuple h
   exact⟨its,r,t⟩
 | false =>
   obtain⟨its,r,p,z⟩:=I.list h
   exact⟨its,r,p.isList⟩
theorem Inv.sqB_inj{b:Bool}{xs ys:List V}(I:Inv X pins σ H s)(h:Ep b X.K H a xs)(h':Ep b X.K H a ys):xs=ys:=by
 cases b with
 | true=>exact I.tuple_inj h h'
 | false=>exact I.list_inj h h'
noncomputable def ER(K:W.Frag)(b1 b2:Bool)(a1 a2:Addr):It :=
 ⟨fun i H=>∃xs ys x y,Ep b1 K H a1 xs/\Ep b2 K H a2 ys/\xs[i]?=some x/\ys[i]?=some y,
  fun i H v H'=>∃x y p,(∀xs,Ep b1 K H a1 xs->xs[i]?=some x)/\(∀ys,Ep b2 K H a2 ys->ys[i]?=some y)/\H p=none/\v = .ref p/\H'=upd H p (.tup [x,y]),
  fun i H=>∃xs ys,Ep b1 K H a1 xs/\Ep b2 K H a2 ys/\(xs.length<=i\/ys.length<=i)⟩
noncomputable def E1(b:Bool)(h:Heap)(it a:Addr)(k:Nat):Prop:=bif b then h.IsTupleIter it a k else h.IsListIter it a k
theorem E1.it1{b:Bool}{k:Nat}{xs:Array Fm}(q:E1 b h it a k)(r:Er b h a xs):EZ h it a xs k:=by
 cases b with
 | true=>exact .inr ⟨q,r⟩
 | false=>exact .inl ⟨q,r⟩
theorem E1.keep{b:Bool}{k:Nat}(q:E1 b h it a k)(e:∀o,h.get? it=some o->h'.get? it=some o):E1 b h' it a k:=by
 cases b with
 | true=>obtain⟨o,h1,r⟩:=(show h.IsTupleIter it a k from q);exact⟨o,e _ h1,r⟩
 | false=>obtain⟨o,h1,r⟩:=(show h.IsListIter it a k from q);exact⟨o,e _ h1,r⟩
theorem E1.obj{b:Bool}{k:Nat}(q:E1 b h it a k):∃o,h.get? it=some o/\∀v,o.data ≠ .cell v:=by
 cases b with
 | true=>obtain⟨o,h1,_,d⟩:=(show h.IsTupleIter it a k from q);exact⟨o,h1,fun v z=>by rw[d]at z;cases z⟩
 | false=>obtain⟨o,h1,_,d⟩:=(show h.IsListIter it a k from q);exact⟨o,h1,fun v z=>by rw[d]at z;cases z⟩
theorem EZ.ir{b:Bool}{k:Nat}{xs:Array Fm}{h0:Heap}(q:EZ h it a xs k)(r:E1 b h0 it a j)(s:Er b h a xs):E1 b h it a k:=by
 cases b with
 | true =>
   rcases q with⟨_,⟨o,e,c,_⟩⟩|⟨q,_⟩
   · obtain⟨o',e',c',_⟩:=(show h.IsTuple a xs from s)
     rw[e]at e';cases e';rw[c]at c';injection c' with z;exact absurd z (by decide)
   · exact q
 | false =>
   rcases q with⟨q,_⟩|⟨_,⟨o,e,c,_⟩⟩
   · exact q
   · obtain⟨o',e',c',_⟩:=(show h.IsList a xs from s)
     rw[e]at e';cases e';rw[c]at c';injection c' with z;exact absurd z (by decide)
noncomputable def ZS(b1 b2:Bool)(z ti to i1 i2 a1 a2:Addr)(i:Nat)(h:Heap):Prop:=KO h z ti to .none/\HD h ti (.ref i1) (.ref i2)/\(∃p q,HD h to p q)/\E1 b1 h i1 a1 i/\E1 b2 h i2 a2 i
theorem Er.of{b:Bool}{xs:Array Fm}(q:Er b h a xs)(e:∀o,h.get? a=some o->h'.get? a=some o):Er b h' a xs:=by
 cases b with
 | true=>obtain⟨o,h1,r⟩:=(show h.IsTuple a xs from q);exact⟨o,e _ h1,r⟩
 | false=>obtain⟨o,h1,r⟩:=(show h.IsList a xs from q);exact⟨o,e _ h1,r⟩
theorem oW{K:W.Frag}{elts:List Expr}{kt:Nat}{pt:Pos}(b1 b2:Bool)(z ti to i1 i2 a1 a2:Addr)(D:Ki z ti to i1 i2 a1 a2) :
 Turn P w K (.Tuple elts kt pt) (ER K b1 b2 a1 a2) [z,ti,to,i1,i2] z (ZS b1 b2 z ti to i1 i2 a1 a2) where
 mem:=by simp
 obj:=fun i h ⟨h1,h2,⟨p,q,h3⟩,h4,h5⟩ b hb=>by
  simp at hb
  rcases hb with rfl|rfl|rfl|rfl|rfl
  · exact⟨_,h1,fun v c=>by cases c⟩
  · exact⟨_,h2,fun v c=>by cases c⟩
  · exact⟨_,h3,fun v c=>by cases c⟩
  · exact h4.obj
  · exact h5.obj
 keep:=fun i h h' ⟨h1,h2,⟨p,q,h3⟩,h4,h5⟩ k=>⟨k z (by simp) _ h1,k ti (by simp) _ h2,⟨p,q,k to (by simp) _ h3⟩,h4.keep fun o e=>k i1 (by simp) o e,h5.keep fun o e=>k i2 (by simp) o e⟩
 item:=by
  intro X hP hw hK hc i pins s σ H E I hf st hg
  subst hP hw hK
  obtain⟨h1,h2,⟨p,q,h3⟩,h4,h5⟩:=st
  obtain⟨xs,ys,x,y,q1,q2,ex,ey⟩:=hg
  obtain⟨its,r1,t1⟩:=I.sqB q1
  obtain⟨jts,r2,t2⟩:=I.sqB q2
  obtain⟨u,hu,ru⟩:=r1.get ex
  obtain⟨v,hv,rv⟩:=r2.get ey
  have ty:s.TypeIs (.ref z) "zip" := ⟨_,h1,rfl⟩
  unfold J8
  refine Fb (Jb (Ge (name:=Str.ofString "__next__") ty F.slot_zip_next (GF F.slot_zip_next ty F.entry_zip_next
   (sg D h1 h2 h3 (h4.it1 t1) (h5.it1 t2) (by simpa using hu) (by simpa using hv) fun g e1 e2 e3 e4 e5 e6 e7=>Fj ?_) (F.args_zip_next_1 _))))
  have hz:s.heap.objs.size≠z:=Hv (Fz h1)
  refine⟨.ref s.heap.objs.size,rfl,wpAny_letOwnedTupleGo_zip e1 fun g' f1 fb=>?_⟩
  have hp:H s.heap.objs.size=none:=I.hok.fresh (FC _)
  have I1:Inv X pins σ (upd H s.heap.objs.size (.tup [x,y])) {s with heap:=s.heap.push {cls:=.type "tuple", data:=.seq [u,v].toArray}} :=
   I.laid (t':=s.toks) (o:=.tup [x,y]) (fun b ob e=>Fh _ e) (FC _) ⟨(by show 2<=sizeLine;decide),[u,v],.cons ru (.cons rv .nil),oJ.new _ _⟩
  have ne:∀b∈[z,ti,to,i1,i2],b≠s.heap.objs.size:=fun b hb e=>by
   simp at hb
   rcases hb with rfl|rfl|rfl|rfl|rfl
   · exact hz e.symm
   · exact absurd (Fz h2) (by rw[e];exact G0 _)
   · exact absurd (Fz h3) (by rw[e];exact G0 _)
   · obtain⟨o,ho,_⟩:=h4.obj
     exact absurd (Fz ho) (by rw[e];exact G0 _)
   · obtain⟨o,ho,_⟩:=h5.obj
     exact absurd (Fz ho) (by rw[e];exact G0 _)
  have kg:∀b o,b∉[z,ti,to,i1,i2]->(s.heap.push {cls:=.type "tuple", data:=.seq [u,v].toArray}).get? b=some o->g'.get? b=some o:=fun b o hb e=>by
   simp at hb
   obtain⟨n1,n2,n3,n4,n5⟩:=hb
   refine fb.extBut _ _ n1 ?_
   by_cases hbn:b=s.heap.objs.size
   · subst hbn
     rw[FF _ rfl]at e
     cases e
     exact e5
   · exact e7 b o n1 n3 n4 n5 (by rw[Jn _ _ _ hbn]at e;exact e)
  have fp1:∀b∈[z,ti,to,i1,i2],iU X pins (upd H s.heap.objs.size (.tup [x,y])) b:=fun b hb=>by
   obtain⟨f0,fr⟩:=hf b hb
   exact⟨by rw[ak (ne b hb)];exact f0,fr⟩
  have I2:Inv X pins σ (upd H s.heap.objs.size (.tup [x,y])) {s with heap:=g' }:=I1.turnedL (t':=s.toks) kg fp1
  have k8:∀b o,b≠z->g.get? b=some o->g'.get? b=some o:=fun b o n e=>fb.extBut _ _ n e
  have t1':Er b1 g a1 its.toArray:=Er.of t1 fun o e=>e7 _ o D.l1z D.l1TO D.l1i1 D.l1i2 e
  have t2':Er b2 g a2 jts.toArray:=Er.of t2 fun o e=>e7 _ o D.l2z D.l2TO D.l2i1 D.l2i2 e
  refine⟨.ref s.heap.objs.size,_,I2,rfl,⟨x,y,_,fun xs' q'=>by rw[I.sqB_inj q' q1];exact ex,fun ys' q'=>by rw[I.sqB_inj q' q2];exact ey,hp,rfl,rfl⟩,⟨f1,k8 _ _ D.TIz (e7 _ _ D.TIz D.TITO D.TIi1 D.TIi2 h2),⟨_,_,k8 _ _ D.TOz e2⟩,(EZ.ir e3 h4 t1').keep fun o e=>k8 _ o D.i1z e,(EZ.ir e4 h5 t2').keep fun o e=>k8 _ o D.i2z e⟩,fun b hb=>(fp1 b hb).1⟩
 done:=by
  intro X hP hw hK hc i pins s σ H E I hf st hg
  subst hP hw hK
  obtain⟨h1,h2,⟨p,q,h3⟩,h4,h5⟩:=st
  obtain⟨xs,ys,q1,q2,ex⟩:=hg
  obtain⟨its,r1,t1⟩:=I.sqB q1
  obtain⟨jts,r2,t2⟩:=I.sqB q2
  have l1:=r1.length
  have l2:=r2.length
  have ty:s.TypeIs (.ref z) "zip" := ⟨_,h1,rfl⟩
  unfold J8
  refine Fb (Jb (Ge (name:=Str.ofString "__next__") ty F.slot_zip_next (GF F.slot_zip_next ty F.entry_zip_next
   (vw (I.ok.hd hc) D h1 h2 h3 (h4.it1 t1) (h5.it1 t2) (by simp;omega) fun g e kg ⟨o,ho,hoc⟩=>?_) (F.args_zip_next_1 _))))
  refine Fb (Kk (T := "StopIteration") (b:=true) ⟨o,ho,hoc⟩ KR (Fj ⟨rfl,?_⟩))
  exact I.turnedL (t':=s.toks) (fun b o hb e=>by simp at hb;exact kg b o hb.1 hb.2.2.1 hb.2.2.2.1 hb.2.2.2.2 e) hf
 self:=fun _ _ _ _ _ st h=>Jy st.1 h
open PySem PySem.Spec PyProof.Rows L2.ZP
section
variable{X:Cx}{e1 e2:Expr}{ta:TA}{elts:List Expr}{kt:Nat}{pt p pos:Pos}
noncomputable def B4(K:W.Frag)(b1 b2:Bool)(t:TA):TI:=fun σ H R=>t σ H fun vs H1=>∃a1 a2 xs ys,vs=[.ref a1,.ref a2]/\Ep b1 K H1 a1 xs/\Ep b2 K H1 a2 ys/\R (ER K b1 b2 a1 a2) H1
theorem xp(b1 b2:Bool)(hg:Gl X "zip")(hm:X.mg "zip" = none)(ha:PA X [e1,e2] ta)(hs:FA [e1,e2] X.env=(false,eval e1 X.env)::FA [e2] X.env:=by rfl)(hpl:(Hf pos (FA [e2] X.env)).any (·.1)=false:=by rfl) :
 PI X (.Tuple elts kt pt) (.Call (.Name "zip" p) [e1,e2] [] pos) (B4 X.K b1 b2 ta):=by
 intro pins s σ H R I h
 refine Call_ (dA I hg hm (by rfl) (Gz (C7 (ha pos pins s σ H _ I h) fun us s1 ⟨vs,H1,I1,r1,q1⟩=>?_) hs hpl) (by decide) (by decide))
 obtain⟨a1,a2,xs,ys,ev,q1,q2,q⟩:=q1
 subst ev
 cases r1 with
 | cons r rr =>
   cases rr with
   | cons r' rr =>
     cases rr
     cases r
     cases r'
     obtain⟨its,v1,t1⟩:=I1.sqB q1
     obtain⟨jts,v2,t2⟩:=I1.sqB q2
     refine kM t1 t2 fun g f1 f2 f3 f4 f5 f6 kp=>Jy f1 ?_
     have lt1:a1<s1.heap.objs.size/\a2<s1.heap.objs.size:=by
      constructor
      · cases b1 with
        | true=>obtain⟨o,ho,_⟩:=(show s1.heap.IsTuple a1 _ from t1);exact Fz ho
        | false=>obtain⟨o,ho,_⟩:=(show s1.heap.IsList a1 _ from t1);exact Fz ho
      · cases b2 with
        | true=>obtain⟨o,ho,_⟩:=(show s1.heap.IsTuple a2 _ from t2);exact Fz ho
        | false=>obtain⟨o,ho,_⟩:=(show s1.heap.IsList a2 _ from t2);exact Fz ho
     obtain⟨l1,l2⟩:=lt1
     have ap:∀{n c:Nat},c<n->∀k:Nat,c≠n+k:=fun h k e=>by omega
     have D:Ki (s1.heap.objs.size+4) (s1.heap.objs.size+2) (s1.heap.objs.size+3) s1.heap.objs.size (s1.heap.objs.size+1) a1 a2:=by
      generalize hN:s1.heap.objs.size=N at l1 l2
      exact⟨by simp,by simp,by simp,by simp,by simp,by simp,by simp,by simp,by simp,by simp,ap l1 4,ap l1 3,ap l1 0,ap l1 1,ap l2 4,ap l2 3,ap l2 0,ap l2 1⟩
     have kg:∀b o,s1.heap.get? b=some o->g.get? b=some o:=kp
     have I2:Inv X pins σ H1 {s1 with heap:=g}:=I1.kept (t':=s1.toks) kg
     have ir:∀{b:Bool}{it a:Addr}{zs:Array Fm},EZ g it a zs 0->Er b s1.heap a zs->E1 b g it a 0:=fun{b it a zs} q r=>by
      have r':=Er.of r fun o e=>kg _ o e
      cases b with
      | true =>
        rcases q with⟨_,⟨o,e,c,_⟩⟩|⟨q,_⟩
        · obtain⟨o',e',c',_⟩:=(show g.IsTuple a zs from r')
          rw[e]at e';cases e';rw[c]at c';injection c' with z;exact absurd z (by decide)
        · exact q
      | false =>
        rcases q with⟨q,_⟩|⟨_,⟨o,e,c,_⟩⟩
        · exact q
        · obtain⟨o',e',c',_⟩:=(show g.IsList a zs from r')
          rw[e]at e';cases e';rw[c]at c';injection c' with z;exact absurd z (by decide)
     refine⟨_,[s1.heap.objs.size+4,s1.heap.objs.size+2,s1.heap.objs.size+3,s1.heap.objs.size,s1.heap.objs.size+1],_,_,H1,rfl,I2,oW b1 b2 _ _ _ _ _ a1 a2 D,⟨f1,f2,⟨_,_,f3⟩,ir f4 t1,ir f5 t2⟩,fun b hb=>?_,q⟩
     have hb':s1.heap.objs.size<=b:=by
      simp at hb
      rcases hb with rfl|rfl|rfl|rfl|rfl
      · exact Hb _ 4
      · exact Hb _ 2
      · exact Hb _ 3
      · exact FC _
      · exact Hb _ 1
     exact I1.fpOk hb' (I1.hok.fresh hb')
end
end L2
namespace L2.VL
section
variable{X:Cx}{rl:RlT}{a b:Expr}{elts:List Expr}{kt:Nat}{pt p pos:Pos}{fs:Eg}
noncomputable def fm(xs ys:List Fd):List Fd:=List.zipWith (fun x y=>.tuple [x,y]) xs ys
noncomputable def du:Fd->Bool
 | .tuple _=>true
 | _=>false
theorem iy{K:W.Frag}(r:Rep K F v d)(e:eB d=some xs):∃a vs,v = .ref a/\Reps K F vs xs/\∀H,bC F H->Ep (du d) K H a vs:=by
 cases r with
 | tup sq rs=>cases e;exact⟨_,_,rfl,rs,fun H s=>dt s sq⟩
 | lst h rs=>cases e;exact⟨_,_,rfl,rs,fun H s=>.inl (.inl (s _ _ h))⟩
 | non=>cases e
 | bl b=>cases e
 | int i=>cases e
 | str x=>cases e
theorem eW{ys:List Fd}(h:(fm xs ys)[i]?=some d):∃x y,xs[i]?=some x/\ys[i]?=some y/\d = .tuple [x,y]:=by
 unfold fm at h
 rw[List.getElem?_zipWith]at h
 cases ex:xs[i]? with
 | none=>rw[ex]at h;cases h
 | some x =>
   cases ey:ys[i]? with
   | none=>rw[ex,ey]at h;cases h
   | some y=>rw[ex,ey]at h;cases h;exact⟨x,y,rfl,rfl,rfl⟩
theorem vN(b1 b2:Bool)(hm:X.mg "zip" = none)(ha:Ev X rl [a,b] fs)(hg:Gl X "zip" := by rfl)(hs:FA [a,b] X.env=(false,eval a X.env)::FA [b] X.env:=by rfl)(hpl:(Hf pos (FA [b] X.env)).any (·.1)=false:=by rfl) :
 EC X rl (.Tuple elts kt pt) (.Call (.Name "zip" p) [a,b] [] pos) (fun ρ Q=>fs ρ fun ws=>∃dx dy xs ys,ws=[.d dx,.d dy]/\eB dx=some xs/\eB dy=some ys/\du dx=b1/\du dy=b2/\Q (fm xs ys)):=by
 obtain⟨t,p1,k⟩:=ha
 refine⟨_,xp b1 b2 hg hm p1 hs hpl,fun R Qd Q q h=>k R _ _ q fun vs ws F1 H1 g1 r1 ⟨dx,dy,xs,ys,ew,e1,e2,kb1,kb2,q1⟩=>?_⟩
 subst ew kb1 kb2
 obtain⟨v,u,rfl,rv,ru⟩:=vg r1
 obtain⟨a1,vs,rfl,rs,sq1⟩:=iy rv e1
 obtain⟨a2,us,rfl,rt,sq2⟩:=iy ru e2
 refine⟨a1,a2,vs,us,rfl,sq1 _ g1.sub,sq2 _ g1.sub,h _ (fm xs ys) F1 H1 g1 ⟨fun i H x e s=>?_,fun i H hl s=>?_,fun i H v H' x F2 e s s2 ra y=>?_⟩ q1⟩
 · obtain⟨x1,y1,ex,ey,_⟩:=eW e
   obtain⟨v1,ev1,_⟩:=rs.get ex
   obtain⟨u1,eu1,_⟩:=rt.get ey
   exact⟨vs,us,v1,u1,sq1 _ s,sq2 _ s,ev1,eu1⟩
 · refine⟨vs,us,sq1 _ s,sq2 _ s,?_⟩
   unfold fm at hl
   rw[K9]at hl
   rw[rs.length,rt.length]
   omega
 · obtain⟨x1,y1,ex,ey,ed⟩:=eW e
   obtain⟨vx,vy,pp,hx,hy,hp,ev,eH⟩:=y
   obtain⟨v1,ev1,rv1⟩:=rs.get ex
   obtain⟨u1,eu1,ru1⟩:=rt.get ey
   have h1:=hx vs (sq1 _ (s.trans s2))
   have h2:=hy us (sq2 _ (s.trans s2))
   rw[ev1]at h1
   rw[eu1]at h2
   cases h1
   cases h2
   subst ev eH ed
   have g:=Grow.data (a:=pp) (o:=.tup [vx,vy]) s2 ra hp
   exact⟨_,g,.tup (.inl (.inl au)) (.cons ((rv1.mono s).mono g.fs) (.cons ((ru1.mono s).mono g.fs) .nil))⟩
noncomputable def DP(b1 b2:Bool)(fs:Eg):En->(List Fd->Prop)->Prop:=fun ρ Q=>fs ρ fun ws=>∃dx dy xs ys,ws=[.d dx,.d dy]/\eB dx=some xs/\eB dy=some ys/\du dx=b1/\du dy=b2/\Q (fm xs ys)
theorem gE(hm:X.mg "zip" = none)(ha:Ev X rl [a,b] fs)(hg:Gl X "zip" := by rfl)(hs:FA [a,b] X.env=(false,eval a X.env)::FA [b] X.env:=by rfl)(hpl:(Hf pos (FA [b] X.env)).any (·.1)=false:=by rfl) :
 EC X rl (.Tuple elts kt pt) (.Call (.Name "zip" p) [a,b] [] pos) (DP true true fs):=vN true true hm ha hg hs hpl
end
theorem nr{α:Sort u}{a b:α}(h:a=b):a=b:=h
abbrev Mo(α:Type):=(α->Prop)->Prop
noncomputable def ret{α:Type}(a:α):Mo α:=fun Q=>Q a
noncomputable def D4{α β:Type}(m:Mo α)(f:α->Mo β):Mo β:=fun Q=>m fun a=>f a Q
noncomputable def DV{α:Type}(P:Prop)(m:Mo α):Mo α:=fun Q=>P/\m Q
noncomputable def stk{α:Type}:Mo α:=fun _=>False
noncomputable def anyM{α:Type}(P:α->Prop):Mo α:=fun Q=>∀a,P a->Q a
noncomputable def aG{α β:Type}(o:Option α)(f:α->Mo β):Mo β:=match o with
 | some a=>f a
 | none=>stk
section
variable{α β γ:Type}
theorem bnd_ret(a:α)(f:α->Mo β):D4 (ret a) f=f a:=nr rfl
theorem bnd_bnd(m:Mo α)(f:α->Mo β)(g:β->Mo γ):D4 (D4 m f) g=D4 m fun a=>D4 (f a) g:=nr rfl
theorem bnd_grd(P:Prop)(m:Mo α)(f:α->Mo β):D4 (DV P m) f=DV P (D4 m f):=nr rfl
theorem bnd_stk(f:α->Mo β):D4 stk f=stk:=nr rfl
theorem bnd_ite(c:Prop)[Decidable c](a b:Mo α)(f:α->Mo β):D4 (if c then a else b) f=if c then D4 a f else D4 b f:=by split<;>rfl
theorem bnd_opt(o:Option α)(k:α->Mo β)(f:β->Mo γ):D4 (aG o k) f=aG o fun a=>D4 (k a) f:=by cases o<;>rfl
theorem opt_some(a:α)(k:α->Mo β):aG (some a) k=k a:=nr rfl
theorem opt_none(k:α->Mo β):aG none k=stk:=nr rfl
theorem af{P:Prop}(h:P)(m:Mo α):DV P m=m:=by funext Q;exact propext ⟨fun z=>z.2,fun z=>⟨h,z⟩⟩
theorem grd_T(m:Mo α):DV True m=m:=af trivial m
theorem fI(c:Prop)[Decidable c](a b:Mo α)(Q:α->Prop):(if c then a else b) Q=if c then a Q else b Q:=by split<;>rfl
theorem ae{m n:Mo α}(h:∀Q,m Q↔n Q):m=n:=funext fun Q=>propext (h Q)
end
noncomputable def asI:W->Option Int
 | .d (.int i)=>some i
 | _=>none
noncomputable def asB:W->Option Bool
 | .d (.bool b)=>some b
 | _=>none
noncomputable def asS:W->Option Str
 | .d (.str b)=>some b
 | _=>none
noncomputable def asD:W->Option Fd
 | .d x=>some x
 | _=>none
noncomputable def lstD:Fd->Option (List Fd)
 | .list xs=>some xs
 | _=>none
noncomputable def tupD:Fd->Option (List Fd)
 | .tuple xs=>some xs
 | _=>none
noncomputable def D9(w:W):Option (List Fd):=w.dat.bind lstD
noncomputable def D6(w:W):Option (List Fd):=(asD w).bind tupD
noncomputable def D8(w:W):Option (List Fd):=w.dat.bind eB
noncomputable def C6:W->Option Int
 | .d (.int i)=>some i
 | .d (.bool b)=>some (if b then 1 else 0)
 | _=>none
noncomputable def isiT:W->Option String
 | .vv (.ty T)=>some T
 | _=>none
noncomputable def u6:List Fd->Option (List Bool)
 | []=>some []
 | .bool b::r=>(u6 r).map (b :: ·)
 | _=>none
noncomputable def hG:List Fd->Option (List Int)
 | []=>some []
 | .int b::r=>(hG r).map (b :: ·)
 | _=>none
theorem blsD_map:∀bs:List Bool,u6 (bs.map .bool)=some bs
 | []=>rfl
 | b::bs=>by show(u6 (bs.map .bool)).map (b :: ·)=_;rw[blsD_map bs];rfl
theorem oD:∀{xs:List Fd}{bs:List Bool},u6 xs=some bs->xs=bs.map .bool
 | [],bs,h=>by cases h;rfl
 | .bool b::r,bs,h=>by
   have h:(u6 r).map (b :: ·)=some bs:=h
   cases q:u6 r with
   | none=>rw[q]at h;cases h
   | some cs=>rw[q]at h;cases h;rw[oD q];rfl
 | .none::_,_,h=>by cases h
 | .int _::_,_,h=>by cases h
 | .str _::_,_,h=>by cases h
 | .list _::_,_,h=>by cases h
 | .tuple _::_,_,h=>by cases h
 | .dict _::_,_,h=>by cases h
theorem b9:∀bs:List Int,hG (bs.map .int)=some bs
 | []=>rfl
 | b::bs=>by show(hG (bs.map .int)).map (b :: ·)=_;rw[b9 bs];rfl
theorem hE:∀{xs:List Fd}{bs:List Int},hG xs=some bs->xs=bs.map .int
 | [],bs,h=>by cases h;rfl
 | .int b::r,bs,h=>by
   have h:(hG r).map (b :: ·)=some bs:=h
   cases q:hG r with
   | none=>rw[q]at h;cases h
   | some cs=>rw[q]at h;cases h;rw[hE q];rfl
 | .none::_,_,h=>by cases h
 | .bool _::_,_,h=>by cases h
 | .str _::_,_,h=>by cases h
 | .list _::_,_,h=>by cases h
 | .tuple _::_,_,h=>by cases h
 | .dict _::_,_,h=>by cases h
theorem asI_d(i:Int):asI (.d (.int i))=some i:=rfl
theorem asB_d(i:Bool):asB (.d (.bool i))=some i:=rfl
theorem asS_d(i:Str):asS (.d (.str i))=some i:=rfl
theorem asD_d(i:Fd):asD (.d i)=some i:=rfl
theorem asT_d(x:Fd):D6 (.d x)=tupD x:=rfl
theorem asL_d(x:Fd):D9 (.d x)=lstD x:=rfl
theorem asL_ml(x:List Fd):D9 (.ml x)=some x:=rfl
theorem asL_pk(x:List Fd):D9 (.pk x)=some x:=rfl
theorem asQ_d(x:Fd):D8 (.d x)=eB x:=rfl
theorem asQ_ml(x:List Fd):D8 (.ml x)=some x:=rfl
theorem asQ_pk(x:List Fd):D8 (.pk x)=some x:=rfl
theorem lstD_l(x:List Fd):lstD (.list x)=some x:=rfl
theorem tupD_t(x:List Fd):tupD (.tuple x)=some x:=rfl
theorem toI_i(i:Int):C6 (.d (.int i))=some i:=rfl
theorem toI_b(i:Bool):C6 (.d (.bool i))=some (if i then 1 else 0):=rfl
theorem isiT_t(T:String):isiT (.vv (.ty T))=some T:=rfl
theorem cE{w:W}{i:Int}:asI w=some i↔w = .d (.int i):=by
 constructor
 · intro h;unfold asI at h;split at h<;>simp_all
 · rintro rfl;rfl
theorem kO{w:W}{i:Bool}:asB w=some i↔w = .d (.bool i):=by
 constructor
 · intro h;unfold asB at h;split at h<;>simp_all
 · rintro rfl;rfl
theorem yd{w:W}{i:Str}:asS w=some i↔w = .d (.str i):=by
 constructor
 · intro h;unfold asS at h;split at h<;>simp_all
 · rintro rfl;rfl
theorem fU{w:W}{i:Fd}:asD w=some i↔w = .d i:=by
 constructor
 · intro h;unfold asD at h;split at h<;>simp_all
 · rintro rfl;rfl
theorem uD{w:W}{i:String}:isiT w=some i↔w = .vv (.ty i):=by
 constructor
 · intro h;unfold isiT at h;split at h<;>simp_all
 · rintro rfl;rfl
theorem zL{w:Fd}{i:List Fd}:lstD w=some i↔w = .list i:=by
 constructor
 · intro h;unfold lstD at h;split at h<;>simp_all
 · rintro rfl;rfl
theorem sZ{w:Fd}{i:List Fd}:tupD w=some i↔w = .tuple i:=by
 constructor
 · intro h;unfold tupD at h;split at h<;>simp_all
 · rintro rfl;rfl
theorem gz{w:W}{i:List Fd}:D6 w=some i↔w = .d (.tuple i):=by
 constructor
 · intro h
   unfold D6 at h
   cases q:asD w with
   | none=>rw[q]at h;cases h
   | some x=>rw[q]at h;rw[fU.mp q,sZ.mp h]
 · rintro rfl;rfl
theorem ye{w:W}{i:List Fd}:D9 w=some i↔w.dat=some (.list i):=by
 unfold D9
 constructor
 · intro h
   cases q:w.dat with
   | none=>rw[q]at h;cases h
   | some x=>rw[q]at h;rw[zL.mp h]
 · intro h;rw[h];rfl
theorem ag{β:Type}{o:Option α}{k:α->Mo β}{Q:β->Prop}:aG o k Q↔∃a,o=some a/\k a Q:=by
 cases o with
 | none=>exact⟨fun z=>z.elim,fun⟨_,z,_⟩=>by cases z⟩
 | some a=>exact⟨fun z=>⟨a,rfl,z⟩,fun⟨_,e,z⟩=>by cases e;exact z⟩
section
variable{fa fb fc:TV}{fs:Eg}{f g:TB}{ρ:En}{t u:Eh}
theorem m_vC(x:Fd):vC x ρ=ret (.d x):=nr rfl
theorem m_vVar(i:Nat):v4 i ρ=aG ((ρ[i]?).join) fun w=>ret w.peek:=by
 refine ae fun Q=>?_
 rw[ag]
 constructor
 · rintro⟨w,e,q⟩;exact⟨w,by rw[e];rfl,q⟩
 · rintro⟨w,e,q⟩
   refine⟨w,?_,q⟩
   cases h:ρ[i]? with
   | none=>rw[h]at e;cases e
   | some o=>rw[h]at e;cases o with
     | none=>cases e
     | some x=>cases e;rfl
theorem m_vNil:yi ρ=ret []:=nr rfl
theorem m_vCons{f:TV}:oV f fs ρ=D4 (f ρ) fun w=>D4 (fs ρ) fun ws=>ret (w.fz::ws):=nr rfl
theorem m_vOp(h:W->W->(W->Prop)->Prop):CU h fa fb ρ=D4 (fa ρ) fun x=>D4 (fb ρ) fun y=>h x y:=nr rfl
theorem m_gI(C:Int->Int->Prop)(h:Int->Int->Fd)(x y:W):gI C h x y=aG (asI x) fun i=>aG (asI y) fun j=>DV (C i j) (ret (.d (h i j))):=by
 refine ae fun Q=>?_
 simp only[ag,cE,gI,DV,ret]
 exact⟨fun⟨i,j,a,b,c,q⟩=>⟨i,a,j,b,c,q⟩,fun⟨i,a,j,b,c,q⟩=>⟨i,j,a,b,c,q⟩⟩
theorem m_gI0(h:Int->Int->Fd)(x y:W):DZ h x y=aG (asI x) fun i=>aG (asI y) fun j=>ret (.d (h i j)):=by
 refine ae fun Q=>?_
 simp only[ag,cE,DZ,ret]
 exact⟨fun⟨i,j,a,b,q⟩=>⟨i,a,j,b,q⟩,fun⟨i,a,j,b,q⟩=>⟨i,j,a,b,q⟩⟩
theorem m_vNeg:yT fa ρ=D4 (fa ρ) fun x=>aG (asI x) fun i=>ret (.d (.int (-i))):=by
 refine ae fun Q=>?_
 simp only[yT,D4,ag,cE,ret]
theorem m_vTest{f:TV}:kS f ρ=D4 (f ρ) fun w=>aG (asB w) ret:=by
 refine ae fun Q=>?_
 simp only[kS,D4,ag,kO,ret]
theorem m_gEqD(neg:Bool)(x y:W):zZ neg x y=aG x.dat fun dx=>aG y.dat fun dy=>DV (G3 dx=true) (DV (G3 dy=true) (ret (.d (.bool (if neg then !IC dx dy else IC dx dy))))):=by
 refine ae fun Q=>?_
 simp only[ag,zZ,DV,ret]
 exact⟨fun⟨i,j,a,b,c,d,q⟩=>⟨i,a,j,b,c,d,q⟩,fun⟨i,a,j,b,c,d,q⟩=>⟨i,j,a,b,c,d,q⟩⟩
theorem m_vAnd:yZ f g ρ=D4 (f ρ) fun b=>if b=true then g ρ else ret false:=by
 refine ae fun Q=>?_
 simp only[yZ,D4,fI,ret]
theorem m_vOr:CT f g ρ=D4 (f ρ) fun b=>if b=true then ret true else g ρ:=by
 refine ae fun Q=>?_
 simp only[CT,D4,fI,ret]
theorem m_vNot:Bk f ρ=D4 (f ρ) fun b=>ret (!b):=nr rfl
theorem m_vAndV:sU fa fb ρ=D4 (fa ρ) fun w=>aG (asB w) fun b=>if b=true then fb ρ else ret (.d (.bool false)):=by
 refine ae fun Q=>?_
 simp only[sU,D4,ag,kO,fI,ret]
theorem m_vNotV:sR fa ρ=D4 (fa ρ) fun w=>aG (asB w) fun b=>ret (.d (.bool (!b))):=by
 refine ae fun Q=>?_
 simp only[sR,D4,ag,kO,ret]
theorem m_vIf{t:TB}:CW t fa fb ρ=D4 (t ρ) fun c=>if c=true then fa ρ else fb ρ:=by
 refine ae fun Q=>?_
 simp only[CW,D4,fI]
theorem m_vTup:v7 fs ρ=D4 (fs ρ) fun ws=>aG (jC ws) fun ds=>DV (ds.length<=sizeLine) (ret (.d (.tuple ds))):=by
 refine ae fun Q=>?_
 simp only[v7,D4,ag,DV,ret]
theorem m_vLst:yU fs ρ=D4 (fs ρ) fun ws=>aG (jC ws) fun ds=>DV (ds.length<=sizeLine) (ret (.ml ds)):=by
 refine ae fun Q=>?_
 simp only[yU,D4,ag,DV,ret]
theorem m_gIx(x y:W):DX x y=aG x.dat fun dx=>aG (asI y) fun i=>aG (itemAt dx i) fun z=>ret (.d z):=by
 refine ae fun Q=>?_
 simp only[DX,ag,cE,ret]
 exact⟨fun⟨i,j,z,a,b,c,q⟩=>⟨i,a,j,b,z,c,q⟩,fun⟨i,a,j,b,z,c,q⟩=>⟨i,j,z,a,b,c,q⟩⟩
theorem m_vCall(h:List W->(W->Prop)->Prop):dB h fs ρ=D4 (fs ρ) h:=nr rfl
theorem m_gAbs(w:W):Bv [w]=aG (asI w) fun i=>ret (.d (.int (if i<0 then -i else i))):=by
 refine ae fun Q=>?_
 simp only[Bv,ag,cE,ret,G4,and_true]
theorem m_gLen(w:W):yt [w]=aG w.dat fun d=>aG (uy d) fun n=>ret (.d (.int n)):=by
 refine ae fun Q=>?_
 simp only[yt,ag,ret,G4,and_true]
 exact⟨fun⟨w',d,n,e,a,b,q⟩=>by subst e;exact⟨d,a,n,b,q⟩,fun⟨d,a,n,b,q⟩=>⟨w,d,n,rfl,a,b,q⟩⟩
theorem m_gRepr(w:W):qo [w]=aG w.dat fun d=>DV (Et d) (ret (.d (.str d.shown))):=by
 refine ae fun Q=>?_
 simp only[qo,ag,ret,DV,G4,and_true]
 exact⟨fun⟨w',d,e,a,b,q⟩=>by subst e;exact⟨d,a,b,q⟩,fun⟨d,a,b,q⟩=>⟨w,d,rfl,a,b,q⟩⟩
theorem m_gIsi(w v:W):yx [w,v]=aG w.dat fun d=>aG (isiT v) fun T=>DV (qZ T=true) (ret (.d (.bool (fX d T)))):=by
 refine ae fun Q=>?_
 simp only[yx,ag,uD,ret,DV,G4,and_true]
 exact⟨fun⟨w',d,T,⟨e,e'⟩,a,b,q⟩=>by subst e;exact⟨d,a,T,e',b,q⟩,fun⟨d,a,T,e',b,q⟩=>⟨w,d,T,⟨rfl,e'⟩,a,b,q⟩⟩
theorem m_gTupO(w:W):qm [w]=aG (D8 w) fun xs=>ret (.d (.tuple xs)):=by
 refine ae fun Q=>?_
 simp only[qm,ag,ret,G4,and_true]
 constructor
 · rintro⟨w',d,xs,e,a,b,q⟩;subst e;exact⟨xs,by unfold D8;rw[a];exact b,q⟩
 · rintro⟨xs,e,q⟩
   unfold D8 at e
   cases h:w.dat with
   | none=>rw[h]at e;cases e
   | some d=>rw[h]at e;exact⟨w,d,xs,rfl,h,e,q⟩
theorem m_gIsN(neg:Bool)(x:W):yy neg x (.d .none)=aG x.dat fun d=>ret (.d (.bool (if neg then !gq d else gq d))):=by
 refine ae fun Q=>?_
 simp only[ag,yy,ret,true_and]
theorem m_gI2(h:Int->Int->Fd)(x y:W):DY h [x,y]=aG (asI x) fun i=>aG (asI y) fun j=>ret (.d (h i j)):=by
 refine ae fun Q=>?_
 simp only[ag,cE,DY,ret,G4,and_true]
 exact⟨fun⟨i,j,⟨a,b⟩,q⟩=>⟨i,a,j,b,q⟩,fun⟨i,a,j,b,q⟩=>⟨i,j,⟨a,b⟩,q⟩⟩
theorem wp{w:W}{i:Int}:C6 w=some i↔(w = .d (.int i)\/∃b:Bool,w = .d (.bool b)/\i=if b then 1 else 0):=by
 constructor
 · intro h
   unfold C6 at h
   split at h
   · cases h;exact .inl rfl
   · cases h;exact .inr ⟨_,rfl,rfl⟩
   · cases h
 · rintro(rfl|⟨b,rfl,rfl⟩)<;>rfl
theorem m_gInt1(w:W):qu [w]=aG (C6 w) fun i=>ret (.d (.int i)):=by
 refine ae fun Q=>?_
 simp only[ag,wp,qu,ret,G4,and_true]
 constructor
 · rintro(⟨i,rfl,q⟩|⟨k,rfl,q⟩)
   · exact⟨i,.inl rfl,q⟩
   · exact⟨_,.inr ⟨k,rfl,rfl⟩,q⟩
 · rintro⟨i,rfl|⟨b,rfl,rfl⟩,q⟩
   · exact .inl ⟨i,rfl,q⟩
   · exact .inr ⟨b,rfl,q⟩
theorem m_oNo:DB ρ=ret none:=nr rfl
theorem m_oIt:DC fa ρ=D4 (fa ρ) fun w=>aG (asI w) fun i=>ret (some i):=by
 refine ae fun Q=>?_
 simp only[DC,D4,ag,cE,ret]
theorem m_vSlL{fl fh:Ei}:Bi fa fl fh ρ=D4 (fa ρ) fun w=>D4 (fl ρ) fun l=>D4 (fh ρ) fun h=>aG (D9 w) fun xs=>ret (.ml (cutD xs l h)):=by
 refine ae fun Q=>?_
 simp only[Bi,D4,ag,ye,ret]
theorem m_vSlA{fl fh:Ei}:yQ fa fl fh ρ=D4 (fa ρ) fun w=>D4 (fl ρ) fun l=>D4 (fh ρ) fun h=>aG (D6 w) fun xs=>ret (.d (.tuple (cutD xs l h))):=by
 refine ae fun Q=>?_
 simp only[yQ,D4,ag,gz,ret]
theorem m_gCatA(x y:W):nQ x y=aG (D6 x) fun xs=>aG (D6 y) fun ys=>DV (xs.length+ys.length<=sizeLine) (ret (.d (.tuple (xs++ys)))):=by
 refine ae fun Q=>?_
 simp only[nQ,ag,gz,DV,ret]
 exact⟨fun⟨i,j,a,b,c,q⟩=>⟨i,a,j,b,c,q⟩,fun⟨i,a,j,b,c,q⟩=>⟨i,j,a,b,c,q⟩⟩
theorem m_vChain(p p':Int->Int->Bool):mi p p' fa fb fc ρ=D4 (fa ρ) fun x=>D4 (fb ρ) fun y=>aG (asI x) fun i=>aG (asI y) fun j=>if p i j=true then D4 (fc ρ) fun z=>aG (asI z) fun k=>ret (.d (.bool (p' j k)))else ret (.d (.bool false)):=by
 show(D4 (fa ρ) fun x=>D4 (fb ρ) fun y=>fun(Q:W->Prop)=>∃i j,x = .d (.int i)/\y = .d (.int j)/\if p i j=true then fc ρ fun z=>∃k,z = .d (.int k)/\Q (.d (.bool (p' j k)))else Q (.d (.bool false)))=_
 congr 1;funext x;congr 1;funext y
 refine ae fun Q=>?_
 simp only[D4,ag,cE,ret,fI]
 exact⟨fun⟨i,j,a,b,q⟩=>⟨i,a,j,b,q⟩,fun⟨i,a,j,b,q⟩=>⟨i,j,a,b,q⟩⟩
noncomputable def C3(ws:List W):Option (Int×Int):=match ws with
 | [a,b]=>(asI a).bind fun i=>(asI b).map fun j=>(i,j)
 | _=>none
theorem two_d(a b:Int):C3 [.d (.int a),.d (.int b)]=some (a,b):=rfl
theorem wo{ws:List W}{p:Int×Int}:C3 ws=some p↔ws=[.d (.int p.1),.d (.int p.2)]:=by
 constructor
 · intro h
   match ws with
   | []=>cases h
   | [_]=>cases h
   | _::_::_::_=>cases h
   | [a,b] =>
     have h:((asI a).bind fun i=>(asI b).map fun j=>(i,j))=some p:=h
     cases ha:asI a with
     | none=>rw[ha]at h;cases h
     | some i =>
       cases hb:asI b with
       | none=>rw[ha,hb]at h;cases h
       | some j=>rw[ha,hb]at h;cases h;rw[cE.mp ha,cE.mp hb]
 · rintro rfl;rfl
theorem m_iL:iL fa ρ=D4 (fa ρ) fun w=>aG ((asD w.fz).bind lstD) ret:=by
 show(D4 (fa ρ) fun w=>fun(Q:List Fd->Prop)=>∃xs,w.fz = .d (.list xs)/\Q xs)=_
 congr 1;funext w
 refine ae fun Q=>?_
 simp only[ag,ret]
 constructor
 · rintro⟨xs,e,q⟩;exact⟨xs,by rw[e];rfl,q⟩
 · rintro⟨xs,e,q⟩
   cases h:asD w.fz with
   | none=>rw[h]at e;cases e
   | some x=>rw[h]at e;rw[fU.mp h,zL.mp e];exact⟨xs,rfl,q⟩
theorem m_iT:iT fa ρ=D4 (fa ρ) fun w=>aG ((asD w.fz).bind tupD) ret:=by
 show(D4 (fa ρ) fun w=>fun(Q:List Fd->Prop)=>∃xs,w.fz = .d (.tuple xs)/\Q xs)=_
 congr 1;funext w
 refine ae fun Q=>?_
 simp only[ag,ret]
 constructor
 · rintro⟨xs,e,q⟩;exact⟨xs,by rw[e];rfl,q⟩
 · rintro⟨xs,e,q⟩
   cases h:asD w.fz with
   | none=>rw[h]at e;cases e
   | some x=>rw[h]at e;rw[fU.mp h,sZ.mp e];exact⟨xs,rfl,q⟩
theorem m_iR1:DS fs ρ=D4 (fs ρ) fun ws=>aG (ws.head?.bind asI) fun j=>DV (ws.length=1) (DV (-(2^62)<=j/\j<2^62) (ret (bu 0 j.toNat))):=by
 show(D4 (fs ρ) fun ws=>fun(Q:List Fd->Prop)=>∃j:Int,ws=[.d (.int j)]/\(-(2^62)<=j/\j<2^62)/\Q (bu 0 j.toNat))=_
 congr 1;funext ws
 refine ae fun Q=>?_
 simp only[ag,DV,ret]
 constructor
 · rintro⟨j,rfl,a,q⟩;exact⟨j,rfl,rfl,a,q⟩
 · rintro⟨j,e,l,a,q⟩
   match ws,l with
   | [w],_=>rw[show w = .d (.int j)from cE.mp e];exact⟨j,rfl,a,q⟩
theorem m_iR2:DR fs ρ=D4 (fs ρ) fun ws=>aG (C3 ws) fun p=>DV (-(2^62)<=p.1/\p.1<2^62 /\ -(2^62)<=p.2/\p.2<2^62) (ret (bu p.1 (p.2-p.1).toNat)):=by
 show(D4 (fs ρ) fun ws=>fun(Q:List Fd->Prop)=>∃i j:Int,ws=[.d (.int i),.d (.int j)]/\(-(2^62)<=i/\i<2^62 /\ -(2^62)<=j/\j<2^62)/\Q (bu i (j-i).toNat))=_
 congr 1;funext ws
 refine ae fun Q=>?_
 simp only[ag,wo,DV,ret]
 exact⟨fun⟨i,j,a,b,q⟩=>⟨(i,j),a,b,q⟩,fun⟨p,a,b,q⟩=>⟨p.1,p.2,a,b,q⟩⟩
noncomputable def vB(b1 b2:Bool)(ws:List W):Option (List Fd):=match ws with
 | [.d x,.d y]=>if du x=b1/\du y=b2 then(eB x).bind fun xs=>(eB y).map fun ys=>fm xs ys else none
 | _=>none
theorem m_iZb(b1 b2:Bool):DP b1 b2 fs ρ=D4 (fs ρ) fun ws=>aG (vB b1 b2 ws) ret:=by
 show(D4 (fs ρ) fun ws=>fun(Q:List Fd->Prop)=>∃dx dy xs ys,ws=[.d dx,.d dy]/\eB dx=some xs/\eB dy=some ys/\du dx=b1/\du dy=b2/\Q (fm xs ys))=_
 congr 1;funext ws
 refine ae fun Q=>?_
 simp only[ag,ret]
 constructor
 · rintro⟨dx,dy,xs,ys,rfl,a,b,c,d,q⟩
   exact⟨_,by show(if du dx=b1/\du dy=b2 then(eB dx).bind fun xs=>(eB dy).map fun ys=>fm xs ys else none)=_;rw[if_pos ⟨c,d⟩,a,b];rfl,q⟩
 · rintro⟨zs,e,q⟩
   unfold vB at e
   split at e
   · rename_i dx dy
     split at e
     · rename_i c
       cases ha:eB dx with
       | none=>rw[ha]at e;cases e
       | some xs =>
         cases hb:eB dy with
         | none=>rw[ha,hb]at e;cases e
         | some ys=>rw[ha,hb]at e;cases e;exact⟨dx,dy,xs,ys,rfl,ha,hb,c.1,c.2,q⟩
     · cases e
   · cases e
theorem m_vUse(Pd:List W->(Fd->Prop)->Prop):yN Pd fs ρ=D4 (fs ρ) fun ws=>DV (ws.all dG=true) (D4 (Pd ws) fun d=>ret (.d d)):=nr rfl
theorem m_gAll(h:List Bool->Bool)(w:W):yC h [w]=aG ((D9 w).bind u6) fun bs=>ret (.d (.bool (h bs))):=by
 refine ae fun Q=>?_
 simp only[yC,ag,ret,G4,and_true]
 constructor
 · rintro⟨w',bs,rfl,e,q⟩;exact⟨bs,by rw[ye.mpr e];exact blsD_map bs,q⟩
 · rintro⟨bs,e,q⟩
   cases hl:D9 w with
   | none=>rw[hl]at e;cases e
   | some xs=>rw[hl]at e;refine⟨w,bs,rfl,?_,q⟩;rw[<- oD e];exact ye.mp hl
theorem m_gRepT(x y:W):qp x y=aG (D6 x) fun xs=>aG (asI y) fun k=>DV (xs≠[]/\1<=k/\k<2^62/\xs.length*k.toNat<=sizeLine) (ret (.d (.tuple (FQ k.toNat xs).flatten))):=by
 refine ae fun Q=>?_
 simp only[qp,ag,gz,cE,DV,ret]
 exact⟨fun⟨i,j,a,b,c,d,e,f,q⟩=>⟨i,a,j,b,⟨c,d,e,f⟩,q⟩,fun⟨i,a,j,b,⟨c,d,e,f⟩,q⟩=>⟨i,j,a,b,c,d,e,f,q⟩⟩
theorem m_vRevT:sQ fa ρ=D4 (fa ρ) fun w=>aG (D6 w) fun xs=>ret (.d (.tuple xs.reverse)):=by
 refine ae fun Q=>?_
 simp only[sQ,D4,ag,gz,ret]
theorem m_gEqS(neg:Bool)(x y:W):yz neg x y=aG (asS x) fun i=>aG (asS y) fun j=>ret (.d (.bool (if neg then !decide (i=j)else decide (i=j)))):=by
 refine ae fun Q=>?_
 simp only[ag,yd,yz,ret]
 exact⟨fun⟨i,j,a,b,q⟩=>⟨i,a,j,b,q⟩,fun⟨i,a,j,b,q⟩=>⟨i,j,a,b,q⟩⟩
end
inductive Fl where
 | nx (ρ:En)|rt (w:W)|bk (ρ:En)|ct (ρ:En)
noncomputable def mS(t:Eh)(ρ:En):Mo Fl:=fun Q=>t ⟨fun ρ=>Q (.nx ρ),fun w=>Q (.rt w),fun ρ=>Q (.bk ρ),fun ρ=>Q (.ct ρ)⟩ ρ
noncomputable def sq(m:Mo Fl)(k:En->Mo Fl):Mo Fl:=D4 m fun fl=>match fl with
 | .nx ρ=>k ρ
 | .rt w=>ret (.rt w)
 | .bk ρ=>ret (.bk ρ)
 | .ct ρ=>ret (.ct ρ)
noncomputable def vj(Q:Fd->Prop):Fl->Prop
 | .nx _=>Q .none
 | .rt w=>∃d,w.fz = .d d/\Q d
 | _=>False
section
variable{fa fb fc:TV}{fs:Eg}{f g:TB}{ρ:En}{t u:Eh}{k:En->Mo Fl}
theorem ay{Q:Fd->Prop}(h:mS t ρ (vj Q)):t (kW Q) ρ:=h
theorem end_d(Q:Fd->Prop)(d:Fd):vj Q (.rt (.d d))=Q d:=propext ⟨fun⟨_,e,q⟩=>by cases e;exact q,fun q=>⟨d,rfl,q⟩⟩
theorem end_ml(Q:Fd->Prop)(d:List Fd):vj Q (.rt (.ml d))=Q (.list d):=propext ⟨fun⟨_,e,q⟩=>by cases e;exact q,fun q=>⟨_,rfl,q⟩⟩
theorem end_nx(Q:Fd->Prop)(ρ:En):vj Q (.nx ρ)=Q .none:=nr rfl
theorem sq_nx:sq (ret (.nx ρ)) k=k ρ:=nr rfl
theorem sq_rt(w:W):sq (ret (.rt w)) k=ret (.rt w):=nr rfl
theorem sq_bk:sq (ret (.bk ρ)) k=ret (.bk ρ):=nr rfl
theorem sq_ct:sq (ret (.ct ρ)) k=ret (.ct ρ):=nr rfl
theorem sq_grd(P:Prop)(m:Mo Fl):sq (DV P m) k=DV P (sq m k):=nr rfl
theorem sq_stk:sq stk k=stk:=nr rfl
theorem sq_ite(c:Prop)[Decidable c](a b:Mo Fl):sq (if c then a else b) k=if c then sq a k else sq b k:=by split<;>rfl
theorem wK(o:Option α)(h:α->Mo Fl):sq (aG o h) k=aG o fun a=>sq (h a) k:=by cases o<;>rfl
theorem s_next:mS v_ ρ=ret (.nx ρ):=nr rfl
theorem s_seq:mS (ve t u) ρ=sq (mS t ρ) (mS u):=by
 refine ae fun Q=>?_
 show t ⟨fun ρ=>u ⟨_,_,_,_⟩ ρ,_,_,_⟩ ρ↔_
 exact Jo
theorem s_drop:mS (we fa) ρ=D4 (fa ρ) fun _=>ret (.nx ρ):=nr rfl
theorem s_ret:mS (yS fa) ρ=D4 (fa ρ) fun w=>ret (.rt w):=nr rfl
theorem s_ifS:mS (yV f t u) ρ=D4 (f ρ) fun b=>if b=true then mS t ρ else mS u ρ:=by
 refine ae fun Q=>?_
 simp only[mS,yV,D4,fI]
theorem s_set(i:Nat):mS (yR i fa) ρ=D4 (fa ρ) fun w=>DV (w.isPk=false) (ret (.nx (ρ.set i (some w)))):=nr rfl
theorem s_never:mS (fun _ _=>False) ρ=stk:=nr rfl
theorem m_hName(i:Nat)(x:Fd):qj i x ρ=ret (ρ.set i (some (.d x))):=nr rfl
theorem xM(xs:List Fd):zX xs ρ=DV (xs=[]) (ret ρ):=nr rfl
theorem ut{g:Ek}{gs:oM}(xs:List Fd):ql g gs xs ρ=aG (match xs with | []=>none|y::r=>some (y,r)) fun p=>D4 (g p.1 ρ) fun ρ'=>gs p.2 ρ':=by
 refine ae fun Q=>?_
 simp only[ag,ql,D4]
 constructor
 · rintro⟨y,r,rfl,q⟩;exact⟨(y,r),rfl,q⟩
 · rintro⟨p,e,q⟩
   cases xs with
   | nil=>cases e
   | cons y r=>cases e;exact⟨y,r,rfl,q⟩
theorem m_hCons_c{g:Ek}{gs:oM}(y:Fd)(r:List Fd):ql g gs (y::r) ρ=D4 (g y ρ) fun ρ'=>gs r ρ':=by rw[ut];rfl
theorem m_hNil_n:zX [] ρ=ret ρ:=by rw[xM,af rfl]
theorem m_hTup(n:Nat){gs:oM}(x:Fd):zW n gs x ρ=aG (tupD x) fun xs=>DV (xs.length=n) (gs xs ρ):=by
 refine ae fun Q=>?_
 simp only[ag,sZ,zW,DV]
theorem s_asg{g:Ek}:mS (ym fa g) ρ=D4 (fa ρ) fun w=>aG (asD w) fun x=>D4 (g x ρ) fun ρ'=>ret (.nx ρ'):=by
 refine ae fun Q=>?_
 simp only[mS,ym,D4,ag,fU,ret]
theorem s_par(i j:Nat):mS (Bj i j fs) ρ=D4 (fs ρ) fun ws=>aG (jC ws) fun ds=>aG (match ds with | [x,y]=>some (x,y)|_=>none) fun p=>ret (.nx ((ρ.set i (some (.d p.1))).set j (some (.d p.2)))):=by
 show(D4 (fs ρ) fun ws=>fun(Q:Fl->Prop)=>∃x y,jC ws=some [x,y]/\Q (.nx ((ρ.set i (some (.d x))).set j (some (.d y)))))=_
 congr 1;funext ws
 refine ae fun Q=>?_
 simp only[ag,ret]
 constructor
 · rintro⟨x,y,e,q⟩;exact⟨_,e,(x,y),rfl,q⟩
 · rintro⟨ds,e,p,e2,q⟩
   split at e2
   · cases e2;exact⟨_,_,e,q⟩
   · cases e2
noncomputable def Dr(ρ:En)(i:Nat):Option Int:=((ρ[i]?).join).bind asI
noncomputable def asM:W->Option (List Fd)
 | .ml xs=>some xs
 | _=>none
noncomputable def Dp(ρ:En)(i:Nat):Option (List Fd):=((ρ[i]?).join).bind asM
theorem asM_ml(xs:List Fd):asM (.ml xs)=some xs:=rfl
theorem By{w:W}:asM w=some xs↔w = .ml xs:=by
 constructor
 · intro h;unfold asM at h;split at h<;>simp_all
 · rintro rfl;rfl
theorem rn:Dp ρ i=some xs↔ρ[i]?=some (some (.ml xs)):=by
 unfold Dp
 constructor
 · intro h
   cases q:ρ[i]? with
   | none=>rw[q]at h;cases h
   | some o=>rw[q]at h;cases o with
     | none=>cases h
     | some w=>rw[By.mp h]
 · intro h;rw[h];rfl
theorem wP{n:Int}:Dr ρ i=some n↔ρ[i]?=some (some (.d (.int n))):=by
 unfold Dr
 constructor
 · intro h
   cases q:ρ[i]? with
   | none=>rw[q]at h;cases h
   | some o=>rw[q]at h;cases o with
     | none=>cases h
     | some w=>rw[cE.mp h]
 · intro h;rw[h];rfl
theorem s_aug(i:Nat)(C:Int->Int->Prop)(h:Int->Int->Int):mS (yY i C h fa) ρ=aG (Dr ρ i) fun n=>D4 (fa ρ) fun w=>aG (asI w) fun m=>DV (C n m) (ret (.nx (ρ.set i (some (.d (.int (h n m))))))):=by
 refine ae fun Q=>?_
 simp only[mS,yY,D4,ag,wP,cE,DV,ret]
theorem s_frz(i:Nat):mS (yW i t) ρ=aG (Dp ρ i) fun xs=>mS t (ρ.set i (some (.d (.list xs)))):=by
 refine ae fun Q=>?_
 simp only[mS,yW,ag,rn]
theorem s_mut(i:Nat)(h:List Fd->List W->(List Fd->Prop)->Prop):mS (yj i h fs) ρ=aG (Dp ρ i) fun xs=>D4 (fs ρ) fun ws=>D4 (h xs ws) fun ys=>ret (.nx (ρ.set i (some (.ml ys)))):=by
 refine ae fun Q=>?_
 simp only[mS,yj,D4,ag,rn,ret]
theorem m_gApp(xs:List Fd)(w:W):yB xs [w]=aG (asD w) fun x=>DV (xs.length<sizeLine) (ret (xs++[x])):=by
 refine ae fun Q=>?_
 simp only[yB,ag,fU,DV,ret]
 constructor
 · rintro⟨x,e,a,q⟩
   cases w<;>first|(cases e;exact⟨_,rfl,a,q⟩)|cases e
 · rintro⟨x,rfl,a,q⟩;exact⟨x,rfl,a,q⟩
end
noncomputable def Le(a b:En):Prop:=a.length=b.length/\∀(i:Nat) w,a[i]?=some (some w)->b[i]?=some (some w)
theorem Le.refl(a:En):Le a a:=⟨rfl,fun _ _ h=>h⟩
theorem Le.trans{a b c:En}(h:Le a b)(h':Le b c):Le a c:=⟨h.1.trans h'.1,fun i w e=>h'.2 i w (h.2 i w e)⟩
theorem le_nil:Le [] []=True:=propext ⟨fun _=>trivial,fun _=>Le.refl _⟩
theorem le_cn(x:Option W)(a b:En):Le (none::a) (x::b)=Le a b:=by
 refine propext ⟨fun h=>⟨by have:=h.1;simpa using this,fun i w e=>by have:=h.2 (i+1) w (by simpa using e);simpa using this⟩,fun h=>⟨by simp[h.1],fun i w e=>?_⟩⟩
 cases i with
 | zero=>simp at e
 | succ i=>simpa using h.2 i w (by simpa using e)
theorem le_cs(x:Option W)(a b:En):Le (x::a) (x::b)=Le a b:=by
 refine propext ⟨fun h=>⟨by have:=h.1;simpa using this,fun i w e=>by have:=h.2 (i+1) w (by simpa using e);simpa using this⟩,fun h=>⟨by simp[h.1],fun i w e=>?_⟩⟩
 cases i with
 | zero=>simpa using e
 | succ i=>simpa using h.2 i w (by simpa using e)
theorem VR.le{K:W.Frag}{ρ0:En}(R:VR K rl F₀ H₀ F H σ ρ)(h:Le ρ0 ρ):VR K rl F₀ H₀ F H σ ρ0 :=
 ⟨R.g,fun i w e=>R.sl i w (h.2 i w e),fun i j x y v n e1 e2=>R.ap i j x y v n (h.2 i x e1) (h.2 j y e2),fun i xs e=>R.np i xs (h.2 i _ e),h.1.trans R.len⟩
noncomputable def fo:List Nat->En->En
 | [],ρ=>ρ
 | i::l,ρ=>fo l (ρ.set i none)
theorem xO(ρ:En)(i:Nat):Le (ρ.set i none) ρ:=by
 refine⟨by simp,fun j w e=>?_⟩
 rw[GG]at e
 split at e
 · split at e
   · cases e
   · cases e
 · exact e
theorem hB:∀(l:List Nat)(ρ:En),Le (fo l ρ) ρ
 | [],ρ=>Le.refl ρ
 | i::l,ρ=>(hB l (ρ.set i none)).trans (xO ρ i)
theorem fo_nil(ρ:En):fo [] ρ=ρ:=rfl
theorem fo_cons(i:Nat)(l:List Nat)(ρ:En):fo (i::l) ρ=fo l (ρ.set i none):=rfl
noncomputable def cB(fl:List Nat)(g:Ek)(t:Eh):List Fd->Eh
 | [],D,ρ=>D.nx ρ
 | x::xs,D,ρ=>g x ρ fun ρ2=>t {D with nx:=fun ρ'=>cB fl g t xs D (fo fl ρ'),ct:=fun ρ'=>cB fl g t xs D (fo fl ρ'),bk:=fun ρ'=>D.nx (fo fl ρ')} ρ2
noncomputable def wd(fl:List Nat)(fi:En->(List Fd->Prop)->Prop)(g:Ek)(t:Eh):Eh:=fun D ρ=>fi ρ fun xs=>cB fl g t xs D (fo fl ρ)
section
variable{X:Cx}{rl:RlT}{st:Stmt}{rest body:List Stmt}{t u:Eh}{a b c e:Expr}{es:List Expr}{fa fb:TV}{fs:Eg}{f:TB}{pos p:Pos}
theorem bD(fl:List Nat){fi:En->(List Fd->Prop)->Prop}{g:Ek}(hp:LM (Gb X.prog X.w) X.A X.env X.xe)(hc:X.calm=true)(hi:EC X rl tg iter fi)(hg:EF X rl tg g)(hb:ly X rl body t)
 (hs:∀x,Gx iter X.env x=pure x:=by intro _;rfl):Ez X rl (.For tg iter body [] pos) (wd fl fi g t):=by
 obtain⟨wi,p0,k0⟩:=hi
 obtain⟨G,p1,k1⟩:=hg
 obtain⟨T,p2,k2⟩:=hb
 refine⟨_,xo hp hc p0 p1 p2 hs,fun{F₀ H₀ F H σ ρ} R Dv D ok q=>k0 R _ _ q fun J xs F1 H1 g1 vi q1=>?_⟩
 refine⟨fun i m σ H=>m=xs.length-i/\i<=xs.length/\∃F ρ,bC F1 F/\VR X.K rl F₀ H₀ F H σ ρ/\cB fl g t (xs.drop i) Dv ρ,⟨xs.length,by simp,GW _,F1,fo fl ρ,.refl _,(R.grow g1).le (hB fl ρ),by simpa using q1⟩,?_⟩
 rintro i m σ H ⟨rfl,hi,F2,ρ2,s2,R2,j2⟩
 have sH:bC F1 H:=s2.trans R2.sub
 by_cases hlt:i<xs.length
 · have ei:xs[i]?=some xs[i]:=by simp[hlt]
   rw[Ha hlt]at j2
   refine .inr ⟨vi.go i H _ ei sH,fun σ' H'=>∃F ρ,bC F1 F/\VR X.K rl F₀ H₀ F H' σ' ρ/\cB fl g t (xs.drop (i+1)) Dv ρ,fun σ' H' z=>⟨xs.length-(i+1),by omega,rfl,hlt,z⟩,fun v H' y=>?_⟩
   obtain⟨Fy,gy,rv⟩:=vi.yld i H v H' _ F2 ei s2 R2.sub R2.reel y
   refine k1 (R2.grow gy) v _ _ _ rv j2 fun F3 H3 σ3 ρ3 s3 n3 R3 q3=>?_
   have s13:bC F1 F3:=s2.trans (gy.fs.trans s3.fs)
   exact k2 R3 {Dv with nx:=fun ρ'=>cB fl g t (xs.drop (i+1)) Dv (fo fl ρ'),ct:=fun ρ'=>cB fl g t (xs.drop (i+1)) Dv (fo fl ρ'),bk:=fun ρ'=>Dv.nx (fo fl ρ')} _
    ⟨fun F4 H4 σ4 ρ4 s4 R4 q4=>⟨F4,fo fl ρ4,s13.trans s4,R4.le (hB fl ρ4),q4⟩,ok.rt,fun F4 H4 σ4 ρ4 s4 R4 q4=>ok.nx _ _ _ _ (g1.fs.trans (s13.trans s4)) (R4.le (hB fl ρ4)) q4,fun F4 H4 σ4 ρ4 s4 R4 q4=>⟨F4,fo fl ρ4,s13.trans s4,R4.le (hB fl ρ4),q4⟩⟩ q3
 · have e:i=xs.length:=by omega
   subst e
   rw[IK]at j2
   exact .inl ⟨vi.stop _ H (FC _) sH,ok.nx _ _ _ _ (g1.fs.trans s2) R2 j2⟩
noncomputable def CN(fl:List Nat)(f:TB)(t:Eh)(m:Nat):Eh:=fun D ρ=>f ρ fun b=>if b=true then t {D with nx:=fun ρ'=>∃k,∃h:k<m,CN fl f t k D (fo fl ρ'),ct:=fun ρ'=>∃k,∃h:k<m,CN fl f t k D (fo fl ρ'),bk:=fun ρ'=>D.nx (fo fl ρ')} ρ else D.nx ρ
termination_by m
noncomputable def lY(fl:List Nat)(f:TB)(t:Eh):Eh:=fun D ρ=>∃m,CN fl f t m D (fo fl ρ)
theorem qS(fl:List Nat)(f:TB)(t:Eh)(m:Nat)(D:VEnds)(ρ:En):CN fl f t m D ρ=f ρ fun b=>if b=true then t {D with nx:=fun ρ'=>∃k,∃h:k<m,CN fl f t k D (fo fl ρ'),ct:=fun ρ'=>∃k,∃h:k<m,CN fl f t k D (fo fl ρ'),bk:=fun ρ'=>D.nx (fo fl ρ')} ρ else D.nx ρ:=by
 conv=>lhs;unfold CN
theorem lH(fl:List Nat)(hp:LM (Gb X.prog X.w) X.A X.env X.xe)(hc:PB X rl c f)(hb:ly X rl body t):Ez X rl (.While c body [] pos) (lY fl f t):=by
 obtain⟨t0,p0,k0⟩:=hc
 obtain⟨t1,p1,k1⟩:=hb
 refine⟨_,pi hp p0 p1,fun{F₀ H₀ F H σ ρ} R Dv D ok q=>?_⟩
 obtain⟨m,j0⟩:=q
 refine⟨fun m σ' H'=>∃F' ρ',bC F F'/\VR X.K rl F₀ H₀ F' H' σ' ρ'/\CN fl f t m Dv ρ',⟨m,F,fo fl ρ,.refl _,R.le (hB fl ρ),j0⟩,?_⟩
 rintro m σ2 H2 ⟨F2,ρ2,s2,R2,j⟩
 rw[qS]at j
 refine k0 R2 _ _ j fun b F1 H1 g1 q1=>?_
 cases b with
 | false=>exact ok.nx _ _ _ _ (s2.trans g1.fs) (R2.grow g1) q1
 | true =>
   refine⟨fun σ' H'=>∃F' ρ',bC F F'/\VR X.K rl F₀ H₀ F' H' σ' ρ'/\∃m',m'<m/\CN fl f t m' Dv ρ',fun σ' H' ⟨F',ρ',s',R',m',hm,j⟩=>⟨m',hm,F',ρ',s',R',j⟩,?_⟩
   exact k1 (R2.grow g1) {Dv with nx:=fun ρ'=>∃k,∃h:k<m,CN fl f t k Dv (fo fl ρ'),ct:=fun ρ'=>∃k,∃h:k<m,CN fl f t k Dv (fo fl ρ'),bk:=fun ρ'=>Dv.nx (fo fl ρ')} _
    ⟨fun F3 H3 σ3 ρ3 s3 R3 ⟨m',hm,q3⟩=>⟨F3,fo fl ρ3,(s2.trans g1.fs).trans s3,R3.le (hB fl ρ3),m',hm,q3⟩,ok.rt,fun F3 H3 σ3 ρ3 s3 R3 q3=>ok.nx _ _ _ _ ((s2.trans g1.fs).trans s3) (R3.le (hB fl ρ3)) q3,fun F3 H3 σ3 ρ3 s3 R3 ⟨m',hm,q3⟩=>⟨F3,fo fl ρ3,(s2.trans g1.fs).trans s3,R3.le (hB fl ρ3),m',hm,q3⟩⟩ q1
end
noncomputable def DJ(fl:List Nat)(k:En->Mo Fl):Fl->Mo Fl
 | .nx ρ=>k (fo fl ρ)
 | .ct ρ=>k (fo fl ρ)
 | .bk ρ=>ret (.nx (fo fl ρ))
 | .rt w=>ret (.rt w)
noncomputable def b_(fl:List Nat)(b:Fd->En->Mo Fl):List Fd->En->Mo Fl
 | [],ρ=>ret (.nx ρ)
 | x::xs,ρ=>D4 (b x ρ) (DJ fl (b_ fl b xs))
theorem jv(fl:List Nat)(g:Ek)(t:Eh):∀(xs:List Fd)(ρ:En),mS (cB fl g t xs) ρ=b_ fl (fun x ρ=>D4 (g x ρ) (mS t)) xs ρ
 | [],ρ=>rfl
 | x::xs,ρ=>by
   refine ae fun Q=>?_
   show(g x ρ fun ρ2=>t ⟨fun ρ'=>mS (cB fl g t xs) (fo fl ρ') Q,fun w=>Q (.rt w),fun ρ'=>Q (.nx (fo fl ρ')),fun ρ'=>mS (cB fl g t xs) (fo fl ρ') Q⟩ ρ2)↔_
   simp only[jv fl g t xs]
   exact Jo
noncomputable def D5(g:Ek)(t:Eh):Fd->En->Mo Fl:=fun x ρ=>D4 (g x ρ) (mS t)
theorem bdy_ap(g:Ek)(t:Eh)(x:Fd)(ρ:En):D5 g t x ρ=D4 (g x ρ) (mS t):=nr rfl
theorem s_for(fl:List Nat)(fi:En->(List Fd->Prop)->Prop)(g:Ek)(t:Eh)(ρ:En):mS (wd fl fi g t) ρ=D4 (fi ρ) fun xs=>b_ fl (D5 g t) xs (fo fl ρ):=by
 refine ae fun Q=>?_
 show(fi ρ fun xs=>mS (cB fl g t xs) (fo fl ρ) Q)↔_
 simp only[jv]
 exact Jo
noncomputable def DI(fl:List Nat)(J:En->Prop)(Q:Fl->Prop):Fl->Prop
 | .nx ρ=>J (fo fl ρ)
 | .ct ρ=>J (fo fl ρ)
 | .bk ρ=>Q (.nx (fo fl ρ))
 | .rt w=>Q (.rt w)
section
variable{α σ:Type}{fl:List Nat}{b:Fd->En->Mo Fl}
theorem kf(J:Nat->En->Prop){Q:Fl->Prop}:∀{xs:List Fd}{ρ:En}(n:Nat),J n ρ->(∀i x ρ,xs[i]?=some x->J (n+i) ρ->∀k:Fl->Prop,(∀r,DI fl (J (n+i+1)) Q r->k r)->b x ρ k)->(∀ρ,J (n+xs.length) ρ->Q (.nx ρ))->b_ fl b xs ρ Q
 | [],ρ,n,h0,_,fin=>fin ρ h0
 | x::xs,ρ,n,h0,step,fin=>by
   refine step 0 x ρ rfl h0 (fun r=>DJ fl (b_ fl b xs) r Q) fun r hr=>?_
   have rc:∀ρ',J (n+1) ρ'->b_ fl b xs ρ' Q:=fun ρ' h'=>kf J (n+1) h' (fun i y ρ e j k hk=>step (i+1) y ρ (by simpa using e) (by rw[show n+(i+1)=n+1+i by omega];exact j) k (by rw[show n+(i+1)+1=n+1+i+1 by omega];exact hk)) (fun ρ j=>fin ρ (by rw[Hm,show n+(xs.length+1)=n+1+xs.length by omega];exact j))
   cases r with
   | nx ρ'=>exact rc _ hr
   | ct ρ'=>exact rc _ hr
   | bk ρ'=>exact hr
   | rt w=>exact hr
theorem nF{xs:List α}{enc:α->Fd}{Q:Fl->Prop}(J:Nat->En->Prop)(h0:J 0 ρ)
 (step:∀i (h:i<xs.length) ρ,J i ρ->∀k:Fl->Prop,(∀r,DI fl (J (i+1)) Q r->k r)->b (enc xs[i]) ρ k)(fin:∀ρ,J xs.length ρ->Q (.nx ρ)):b_ fl b (xs.map enc) ρ Q:=by
 refine kf J 0 h0 (fun i x ρ e j k hk=>?_) (fun ρ j=>fin ρ (by simpa using j))
 have hi:i<xs.length:=by have:=(FK.mp e).1;simpa using this
 rw[Gg,Fp hi]at e
 cases e
 rw[Nat.zero_add]at j hk
 exact step i hi ρ j k hk
theorem pO{lo:Int}{Q:Fl->Prop}(J:Nat->En->Prop)(h0:J 0 ρ)
 (step:∀i,i<n->∀ρ,J i ρ->∀k:Fl->Prop,(∀r,DI fl (J (i+1)) Q r->k r)->b (.int (lo+i)) ρ k)(fin:∀ρ,J n ρ->Q (.nx ρ)):b_ fl b (bu lo n) ρ Q:=by
 refine nF (xs:=FJ n) J h0 (fun i h ρ j k hk=>?_) (fun ρ j=>fin ρ (by simpa using j))
 rw[HZ]
 exact step i (by simpa using h) ρ j k hk
theorem nD{xs:List α}{enc:α->Fd}(st:σ->En)(f:σ->α->σ)(s:σ)(I:σ->Prop)(h0:I s)(step:∀x∈xs,∀s,I s->I (f s x)/\∃ρ',b (enc x) (st s)=ret (.nx ρ')/\fo fl ρ'=st (f s x)):b_ fl b (xs.map enc) (st s)=ret (.nx (st (xs.foldl f s))):=by
 induction xs generalizing s with
 | nil=>rfl
 | cons x xs ih =>
   obtain⟨h1,ρ',e1,e2⟩:=step x FB s h0
   show D4 (b (enc x) (st s)) (DJ fl (b_ fl b (xs.map enc)))=_
   rw[e1,bnd_ret]
   show b_ fl b (xs.map enc) (fo fl ρ')=_
   rw[e2]
   exact ih (f s x) h1 fun y hy=>step y (Fv _ hy)
theorem ln{lo:Int}(st:Nat->En)(h0:∀i,i<n->∃ρ',b (.int (lo+i)) (st i)=ret (.nx ρ')/\fo fl ρ'=st (i+1)):b_ fl b (bu lo n) (st 0)=ret (.nx (st n)):=by
 have key:∀k m,m+k=n->b_ fl b ((bu lo n).drop m) (st m)=ret (.nx (st n)):=by
  intro k
  induction k with
  | zero => intro m e;have e:m=n:=by omega
            subst e;rw[Jh (by rw[ar];omega)];rfl
  | succ k ih =>
    intro m e
    have hm:m<(bu lo n).length:=by rw[ar];omega
    rw[Ha hm]
    have ex:(bu lo n)[m] = .int (lo+m):=by simp[bu]
    rw[ex]
    obtain⟨ρ',e1,e2⟩:=h0 m (by omega)
    show D4 (b (.int (lo+m)) (st m)) (DJ fl (b_ fl b ((bu lo n).drop (m+1))))=_
    rw[e1,bnd_ret]
    show b_ fl b _ (fo fl ρ')=_
    rw[e2]
    exact ih (m+1) (by omega)
 have:=key n 0 (by omega)
 simpa using this
theorem nE{xs:List α}{enc:α->Fd}(p:α->Bool)(w:α->W)(step:∀x∈xs,(p x=true->b (enc x) ρ=ret (.rt (w x)))/\(p x=false->∃ρ',b (enc x) ρ=ret (.nx ρ')/\fo fl ρ'=ρ)) :
 b_ fl b (xs.map enc) ρ=match xs.find? p with|some x=>ret (.rt (w x))|none=>ret (.nx ρ):=by
 induction xs with
 | nil=>rfl
 | cons x xs ih =>
   have h:=step x FB
   show D4 (b (enc x) ρ) (DJ fl (b_ fl b (xs.map enc)))=_
   cases hp:p x with
   | true=>rw[h.1 hp,bnd_ret,List.find?_cons_of_pos hp];rfl
   | false =>
     obtain⟨ρ',e1,e2⟩:=h.2 hp
     rw[e1,bnd_ret,List.find?_cons_of_neg (by rw[hp];decide)]
     show b_ fl b _ (fo fl ρ')=_
     rw[e2]
     exact ih fun y hy=>step y (Fv _ hy)
end
noncomputable def ge(fl:List Nat)(f:TB)(t:Eh)(ρ:En):Mo Fl:=fun Q=>∃m,mS (CN fl f t m) ρ Q
theorem s_while(fl:List Nat)(f:TB)(t:Eh)(ρ:En):mS (lY fl f t) ρ=ge fl f t (fo fl ρ):=nr rfl
theorem oO(fl:List Nat)(f:TB)(t:Eh)(m:Nat)(ρ:En):mS (CN fl f t m) ρ=D4 (f ρ) fun b=>if b=true then D4 (mS t ρ) (DJ fl fun ρ'=>fun Q=>∃k,∃h:k<m,mS (CN fl f t k) ρ' Q)else ret (.nx ρ):=by
 refine ae fun Q=>?_
 show CN fl f t m _ ρ↔_
 rw[qS]
 simp only[D4,fI]
 exact Jo
theorem sy{fl:List Nat}{f:TB}{t:Eh}(h:f ρ=ret false):ge fl f t ρ=ret (.nx ρ):=by
 refine ae fun Q=>?_
 constructor
 · rintro⟨m,q⟩;rw[oO,h,bnd_ret,if_neg (by decide)]at q;exact q
 · intro q;refine⟨0,?_⟩;rw[oO,h,bnd_ret,if_neg (by decide)];exact q
theorem ss{fl:List Nat}{f:TB}{t:Eh}{ρ':En}(h:f ρ=ret true)(h2:mS t ρ=ret (.nx ρ')):ge fl f t ρ=ge fl f t (fo fl ρ'):=by
 refine ae fun Q=>?_
 constructor
 · rintro⟨m,q⟩;rw[oO,h,bnd_ret,if_pos rfl,h2,bnd_ret]at q;obtain⟨k,_,q⟩:=q;exact⟨k,q⟩
 · rintro⟨m,q⟩;refine⟨m+1,?_⟩;rw[oO,h,bnd_ret,if_pos rfl,h2,bnd_ret];exact⟨m,Kl m,q⟩
theorem lG{σ:Type}{fl:List Nat}{f:TB}{t:Eh}(st:σ->En)(c:σ->Bool)(nxt:σ->σ)(μ:σ->Nat)(I:σ->Prop)
 (hf:∀s,I s->f (st s)=ret (c s))(ht:∀s,I s->c s=true->I (nxt s)/\μ (nxt s)<μ s/\∃ρ',mS t (st s)=ret (.nx ρ')/\fo fl ρ'=st (nxt s))(s:σ)(hs:I s):∃s',I s'/\c s'=false/\ge fl f t (st s)=ret (.nx (st s')):=by
 induction hm:μ s using Nat.strongRecOn generalizing s with
 | ind n ih =>
   subst hm
   cases hc:c s with
   | false=>exact⟨s,hs,hc,sy (by rw[hf s hs,hc])⟩
   | true =>
     obtain⟨i1,m1,ρ',e1,e2⟩:=ht s hs hc
     obtain⟨s',a,b,e⟩:=ih _ m1 (nxt s) i1 rfl
     exact⟨s',a,b,by rw[ss (by rw[hf s hs,hc]) e1,e2,e]⟩
noncomputable def kU(ρ0:En)(g:Ek)(ft:TB)(fe:TV):List Fd->List Fd->(List Fd->Prop)->Prop
 | [],acc,Q=>Q acc
 | x::xs,acc,Q=>g x ρ0 fun ρ2=>Le ρ0 ρ2/\ft ρ2 fun b=>if b=true then fe ρ2 fun w=>∃d,w.fz = .d d/\acc.length<sizeLine/\kU ρ0 g ft fe xs (acc++[d]) Q else kU ρ0 g ft fe xs acc Q
noncomputable def mf(fi:En->(List Fd->Prop)->Prop)(fr:List (Option Nat))(g:Ek)(ft:TB)(fe:TV):TV:=fun ρ Q=>fi ρ fun xs=>kU (eg fr ρ) g ft fe xs [] fun ds=>Q (.ml ds)
section
variable{X:Cx}{rl:RlT}{elt tg iter:Expr}{ifs:List Expr}{scope:Scope}{pos:Pos}{fi:En->(List Fd->Prop)->Prop}{g:Ek}{ft:TB}{fe:TV}
theorem pQ{N':List Str}{wi:TI}(fr:List (Option Nat))(k0:∀{F₀ H₀ F H:Hp}{σ:St}{ρ:En},VR X.K rl F₀ H₀ F H σ ρ->∀(Qd:List Fd->Prop)(R:It->Hp->Prop),fi ρ Qd ->
 (∀J xs F' H',Grow rl F H F' H'->VIt X.K rl F' J xs->Qd xs->R J H')->wi σ H R)
 (hg:∀y,EF (blk X N' scope y) rl tg g)(ht:∀y,qK (blk X N' scope y) rl ifs ft)(he:∀y,PV (blk X N' scope y) rl elt fe)
 (R:VR X.K rl F₀ H₀ F H σ ρ)(Qd:W->Prop)(Q:VK)(q:mf fi fr g ft fe ρ Qd)
 (k:∀v w F' H',Grow rl F H F' H'->cZ X.K rl F' H' v w->dH H v w->Qd w->Q v H'):wD wi fr (fun y=>Gn (hg y)) (fun y=>Gn (ht y)) (fun y=>Gn (he y)) σ H Q:=by
 refine k0 R _ _ q fun J xs F1 H1 g1 vi q1=>?_
 intro D hD
 have rD:rl.a≠some D:=fun e=>by obtain⟨o,z⟩:=g1.reel.live e;rw[hD]at z;cases z
 have FD:F1 D=none:=g1.sub.free hD
 have gD:Grow rl F1 H1 F1 (upd H1 D (.lst [])):=Grow.laid g1.sub g1.reel hD
 have R1:=R.grow g1
 have n0:lE (eg fr ρ):=eG
 refine⟨fun i m acc σc Hc=>m=xs.length-i/\i<=xs.length/\∃Fc ds,VR X.K rl F1 H1 Fc Hc σc (eg fr ρ)/\Hc D=some (.lst acc)/\Fc D=none/\Reps X.K Fc acc ds/\kU (eg fr ρ) g ft fe (xs.drop i) ds (fun ds=>Qd (.ml ds)),
  ⟨xs.length,by simp,GW _,F1,[],gB R1 gD,au,FD,.nil,by simpa using q1⟩,?_⟩
 rintro z i m acc σc Hc ⟨rfl,hi,Fc,ds,Rc,hDc,fDc,rs,q2⟩
 have sH:bC F1 Hc:=Rc.g.fs.trans Rc.sub
 by_cases hlt:i<xs.length
 · have ei:xs[i]?=some xs[i]:=by simp[hlt]
   have ed:xs.drop i=xs[i]::xs.drop (i+1):=Ha hlt
   rw[ed]at q2
   refine .inr ⟨vi.go i Hc _ ei sH,fun v H' y=>?_⟩
   obtain⟨Fy,gy,rv⟩:=vi.yld i Hc v H' _ Fc ei Rc.g.fs Rc.sub Rc.reel y
   refine(Fw (hg z)).2 (Rc.grow gy) v _ _ _ rv q2 fun F3 H3 σ3 ρ3 g3 n3 R3 ⟨le3,q3⟩=>?_
   refine(Fw (ht z)).2 R3 _ _ q3 fun b F4 H4 g4 q4=>?_
   have R4:=R3.grow g4
   have g34:=(gy.trans g3).trans g4
   have keepD:∀{Fx Hx:Hp},Grow rl Fc Hc Fx Hx->Hx D=some (.lst acc)/\Fx D=none:=fun gx=>⟨gx.same D _ hDc rD,by rw[gx.old D _ hDc];exact fDc⟩
   cases b with
   | false=>exact⟨xs.length-(i+1),by omega,rfl,hlt,F4,ds,R4.le le3,(keepD g34).1,(keepD g34).2,rs.mono g34.fs,q4⟩
   | true =>
     refine(Fw (he z)).2 R4 _ _ q4 fun v5 w5 F5 H5 g5 r5 n5 ⟨d,ed5,hl,q5⟩=>?_
     obtain⟨F6,g6,s6,r6⟩:=cZ.fz g5 r5 n5
     rw[ed5]at r6
     have g36:=g34.trans g6
     refine⟨(keepD g36).1,by rw[rs.length];exact hl,xs.length-(i+1),by omega,rfl,hlt,F6,ds++[d],((R4.grow g6).le le3).other n0 hD (keepD g36).2 rD,au,(keepD g36).2,(rs.mono g36.fs).snoc r6,q5⟩
 · have e:i=xs.length:=by omega
   subst e
   rw[IK]at q2
   refine .inl ⟨vi.stop _ Hc (FC _) sH,k _ (.ml ds) Fc Hc (g1.trans Rc.g) ⟨D,acc,rfl,fDc,rD,hDc,rs⟩ (fun a ea=>by cases ea;exact g1.freeB hD) q2⟩
theorem aF(N':List Str)(fr:List (Option Nat))(hc:X.calm=true)(hi:EC X rl tg iter fi)
 (hg:∀y,EF (blk X N' scope y) rl tg g)(ht:∀y,qK (blk X N' scope y) rl ifs ft)(he:∀y,PV (blk X N' scope y) rl elt fe)
 (hfr:qx fr N' X.N scope X.env.scope=true:=by rfl)(hsc:rA scope X.env.scope=true:=by rfl)
 (hs:∀x,Gx iter X.env x=pure x:=by intro _;rfl):PV X rl (.ListComp elt [⟨tg,iter,ifs,0⟩] scope pos) (mf fi fr g ft fe):=by
 obtain⟨wi,p0,k0⟩:=hi
 exact⟨_,pA N' fr hc p0 hfr hsc (fun y=>(Fw (hg y)).1) (fun y=>(Fw (ht y)).1) (fun y=>(Fw (he y)).1) hs,fun R Qd Q q k=>pQ fr k0 hg ht he R Qd Q q k⟩
end
noncomputable def DM(ρ0:En)(g:Ek)(ft:TB)(fe:TV)(x:Fd):Mo (Option Fd):=D4 (g x ρ0) fun ρ2=>DV (Le ρ0 ρ2) (D4 (ft ρ2) fun b=>if b=true then D4 (fe ρ2) fun w=>aG (asD w.fz) fun d=>ret (some d)else ret none)
noncomputable def cz(b:Fd->Mo (Option Fd)):List Fd->List Fd->Mo (List Fd)
 | [],acc=>ret acc
 | x::xs,acc=>D4 (b x) fun o=>match o with
   | some d=>DV (acc.length<sizeLine) (cz b xs (acc++[d]))
   | none=>cz b xs acc
theorem hR(ρ0:En)(g:Ek)(ft:TB)(fe:TV):∀(xs acc:List Fd),kU ρ0 g ft fe xs acc=cz (DM ρ0 g ft fe) xs acc
 | [],acc=>rfl
 | x::xs,acc=>by
   refine ae fun Q=>?_
   show(g x ρ0 fun ρ2=>Le ρ0 ρ2/\ft ρ2 fun b=>if b=true then fe ρ2 fun w=>∃d,w.fz = .d d/\acc.length<sizeLine/\kU ρ0 g ft fe xs (acc++[d]) Q else kU ρ0 g ft fe xs acc Q)↔(D4 (DM ρ0 g ft fe x) _) Q
   simp only[hR ρ0 g ft fe xs]
   have:∀(ρ2:En)(b:Bool),(if b=true then fe ρ2 fun w=>∃d,w.fz = .d d/\acc.length<sizeLine/\cz (DM ρ0 g ft fe) xs (acc++[d]) Q else cz (DM ρ0 g ft fe) xs acc Q)=(D4 (if b=true then D4 (fe ρ2) fun w=>aG (asD w.fz) fun d=>ret (some d)else ret none) fun o=>match o with
   | some d=>DV (acc.length<sizeLine) (cz (DM ρ0 g ft fe) xs (acc++[d]))
   | none=>cz (DM ρ0 g ft fe) xs acc) Q:=by
     intro ρ2 b
     cases b with
     | false=>rfl
     | true =>
       rw[if_pos rfl,if_pos rfl]
       show _=fe ρ2 fun w=>_
       congr 1
       funext w
       refine propext ?_
       show _↔(D4 (aG (asD w.fz) fun d=>ret (some d)) _) Q
       rw[bnd_opt,ag]
       simp only[fU]
       exact Jo
   simp only[this]
   exact Jo
theorem m_comp(fi:En->(List Fd->Prop)->Prop)(fr:List (Option Nat))(g:Ek)(ft:TB)(fe:TV)(ρ:En):mf fi fr g ft fe ρ=D4 (fi ρ) fun xs=>D4 (cz (DM (eg fr ρ) g ft fe) xs []) fun ds=>ret (.ml ds):=by
 refine ae fun Q=>?_
 show(fi ρ fun xs=>kU (eg fr ρ) g ft fe xs [] fun ds=>Q (.ml ds))↔_
 simp only[hR]
 exact Jo
section
variable{α:Type}{b:Fd->Mo (Option Fd)}
theorem dj{enc:α->Fd}(f:α->Option Fd):∀(xs:List α)(acc:List Fd),(∀x∈xs,b (enc x)=ret (f x))->acc.length+xs.length<=sizeLine->cz b (xs.map enc) acc=ret (acc++xs.filterMap f)
 | [],acc,_,_=>by simp[cz]
 | x::xs,acc,h,hl=>by
   show D4 (b (enc x)) _=_
   rw[h x FB,bnd_ret]
   simp at hl
   cases e:f x with
   | none =>
     show cz b (xs.map enc) acc=_
     rw[dj f xs acc (fun y hy=>h y (Fv _ hy)) (by omega),List.filterMap_cons_none e]
   | some d =>
     show DV (acc.length<sizeLine) (cz b (xs.map enc) (acc++[d]))=_
     rw[af (by omega),dj f xs (acc++[d]) (fun y hy=>h y (Fv _ hy)) (by simp;omega),List.filterMap_cons_some e]
     simp
theorem u0{xs:List α}{enc:α->Fd}(f:α->Option Fd)(h:∀x∈xs,b (enc x)=ret (f x))(hl:xs.length<=sizeLine):cz b (xs.map enc) []=ret (xs.filterMap f):=by
 have:=dj f xs [] h (by simpa using hl)
 simpa using this
theorem comp_map{xs:List α}{enc:α->Fd}(f:α->Fd)(h:∀x∈xs,b (enc x)=ret (some (f x)))(hl:xs.length<=sizeLine):cz b (xs.map enc) []=ret (xs.map f):=by
 rw[u0 (fun x=>some (f x)) h hl,Ji]
theorem di{lo:Int}(f:Nat->Fd)(h:∀j,j<n->b (.int (lo+j))=ret (some (f j)))(hl:n<=sizeLine):cz b (bu lo n) []=ret ((FJ n).map f) :=
 comp_map (xs:=FJ n) f (fun j hj=>h j (GR.mp hj)) (by simpa using hl)
end
section
variable(c:Prop)[Decidable c]
theorem ite_nx(a b:En):(if c then ret (Fl.nx a)else ret (Fl.nx b))=ret (Fl.nx (if c then a else b)):=by split<;>rfl
theorem ite_rt(a b:W):(if c then ret (Fl.rt a)else ret (Fl.rt b))=ret (Fl.rt (if c then a else b)):=by split<;>rfl
theorem ite_retd(a b:Fd):(if c then ret (W.d a)else ret (W.d b))=ret (W.d (if c then a else b)):=by split<;>rfl
theorem ite_retb(a b:Bool):(if c then ret a else ret b)=ret (if c then a else b):=by split<;>rfl
theorem ite_rets(a b:Fd):(if c then ret (some a)else ret (some b))=ret (some (if c then a else b)):=by split<;>rfl
theorem ite_cons{α:Type}(x y:α)(l m:List α):(if c then x::l else y::m)=(if c then x else y)::(if c then l else m):=by split<;>rfl
theorem ite_some{α:Type}(x y:α):(if c then some x else some y)=some (if c then x else y):=by split<;>rfl
theorem ite_d(a b:Fd):(if c then W.d a else W.d b)=W.d (if c then a else b):=by split<;>rfl
theorem ite_pi(a b:Int):(if c then FW a else FW b)=FW (if c then a else b):=by split<;>rfl
theorem ite_pb(a b:Bool):(if c then Hq a else Hq b)=Hq (if c then a else b):=by split<;>rfl
theorem itb_tt(b y:Bool):(if b=true then true else y)=(b||y):=by cases b<;>rfl
theorem itb_ff(b y:Bool):(if b=true then y else false)=(b&&y):=by cases b<;>rfl
theorem itb_ft(b y:Bool):(if b=true then false else y)=(!b&&y):=by cases b<;>rfl
theorem itb_tf(b y:Bool):(if b=true then y else true)=(!b||y):=by cases b<;>rfl
end
theorem ac(h:n<=1000):(n<=sizeLine)=True:=by have:=FG;exact propext ⟨fun _=>trivial,fun _=>by omega⟩
theorem tup2(x y:Fd):(match [x,y]with | [x,y]=>some (x,y)|_=>none)=some (x,y):=rfl
theorem bnd_tt{α β:Type}(a:α)(f:α->Mo β):D4 (fun Q=>Q a) f=f a:=nr rfl
section
variable{α β:Type}
theorem aL{P:α->Prop}{f:α->Mo β}{Q:β->Prop}(h:∀a,P a->f a Q):D4 (anyM P) f Q:=h
theorem cu{P:Prop}{m:Mo α}{Q:α->Prop}(h:P)(h':m Q):DV P m Q:=⟨h,h'⟩
theorem kw{c:Prop}[Decidable c]{a b:Mo α}{Q:α->Prop}(h:c->a Q)(h':¬c->b Q):(if c then a else b) Q:=by split<;>simp_all
end
theorem az{Q:Fd->Prop}(h:Q d):ret (Fl.rt (.d d)) (vj Q):=⟨d,rfl,h⟩
theorem mL{Q:Fd->Prop}{d:List Fd}(h:Q (.list d)):ret (Fl.rt (.ml d)) (vj Q):=⟨_,rfl,h⟩
section
variable{α:Type}{k:En->Mo Fl}{Q:Fl->Prop}
theorem Dm{m:Mo α}{h:α->Mo Fl}(z:D4 m (fun a=>sq (h a) k) Q):sq (D4 m h) k Q:=z
theorem Dl{o:Option α}{h:α->Mo Fl}(z:aG o (fun a=>sq (h a) k) Q):sq (aG o h) k Q:=by rw[wK];exact z
noncomputable def kc(k1 k2:En->Mo Fl):En->Mo Fl:=fun ρ=>sq (k1 ρ) k2
theorem kc_ap(k1 k2:En->Mo Fl)(ρ:En):kc k1 k2 ρ=sq (k1 ρ) k2:=nr rfl
theorem sq_sq(m:Mo Fl)(k1 k2:En->Mo Fl):sq (sq m k1) k2=sq m (kc k1 k2):=by
 refine ae fun Q=>?_
 show m _↔m _
 have:∀fl:Fl,(sq (match fl with | .nx ρ=>k1 ρ | .rt w=>ret (.rt w) | .bk ρ=>ret (.bk ρ) | .ct ρ=>ret (.ct ρ)) k2) Q=(match fl with | .nx ρ=>kc k1 k2 ρ | .rt w=>ret (.rt w) | .bk ρ=>ret (.bk ρ) | .ct ρ=>ret (.ct ρ):Mo Fl) Q:=by intro fl;cases fl<;>rfl
 exact Iff.of_eq (congrArg m (funext this))
theorem bg{P:α->Prop}{f:α->Mo Fl}(z:∀a,P a->sq (f a) k Q):sq (D4 (anyM P) f) k Q:=z
end
theorem pk_sc(x:List Int):L2.VL.W.peek (.sc x) = .sc x:=rfl
theorem fz_sc(x:List Int):(W.sc x).fz = .sc x:=rfl
theorem arg_sc(x:List Int):dG (.sc x)=true:=rfl
theorem isPk_sc(x:List Int):(W.sc x).isPk=false:=rfl
section
variable{X:Cx}{rl:RlT}{a b c e:Expr}{es:List Expr}{fa fb fc:TV}{fs:Eg}{pos p p2:Pos}{ρ:En}
noncomputable def qt:List W->(W->Prop)->Prop:=fun ws Q=>∃ns,ws=[.sc ns]/\Q (.d (.int ns.length))
theorem sI:eK X rl (fun xs H Q=>∃p ys,xs=[.ref p]/\(Eo X.K H p ys\/Em X.K H p ys)/\Q (.int ys.length) H) qt:=fun{F H vs ws} Qd Q s ra r ⟨ns,ew,q⟩ k=>by
 subst ew
 obtain⟨v,rfl,⟨a,rfl,sq⟩⟩:=mR r
 exact⟨a,_,rfl,.inl (jk s sq),k _ (.d _) _ _ (Grow.refl s ra) (by rw[Fq];exact .int _) trivial q⟩
theorem i6(hm:X.mg "len" = none)(ha:Ev X rl [a] fs)(hg:Gl X "len" := by rfl)(he:FA [a] X.env=(false,eval a X.env)::FA [] X.env:=by rfl)(hpl:(Hf pos (FA [] X.env)).any (·.1)=false:=by rfl) :
 PV X rl (.Call (.Name "len" p) [a] [] pos) (dB qt fs):=cI eS sI hm boot_len ha hg (by decide) (by decide) he hpl
noncomputable def asSc:W->Option (List Int)
 | .sc ns=>some ns
 | _=>none
theorem asSc_s(ns:List Int):asSc (.sc ns)=some ns:=rfl
theorem jF{w:W}{i:List Int}:asSc w=some i↔w = .sc i:=by
 constructor
 · intro h;unfold asSc at h;split at h<;>simp_all
 · rintro rfl;rfl
theorem m_gLenS(w:W):qt [w]=aG (asSc w) fun ns=>ret (.d (.int ns.length)):=by
 refine ae fun Q=>?_
 simp only[qt,ag,jF,ret,G4,and_true]
noncomputable def yu:W->W->(W->Prop)->Prop:=fun x y Q=>∃ns i n,x = .sc ns/\y = .d (.int i)/\atI ns i=some n/\Q (.d (.int n))
theorem fT{β:Type}(f:α->β)(xs:List α)(i:Int):atI (xs.map f) i=(atI xs i).map f:=by
 unfold atI
 rw[Fq]
 cases ixN xs.length i<;>simp
theorem vJ:Ec X rl (Du X.K) yu:=fun{F H x y wx wy} Qd Q s ra r1 r2 q k=>by
 obtain⟨ns,i,n,rfl,rfl,e,q⟩:=q
 obtain⟨a,rfl,sq⟩:=r1
 have ey:=aB r2
 subst ey
 exact .inl ⟨a,_,i,.int n,rfl,rfl,jk s sq,by rw[fT,e];rfl,k _ (.d _) _ _ (Grow.refl s ra) (.int n) trivial q⟩
theorem vZ(ha:PV X rl a fa)(hb:PV X rl b fb)(hs:fV b:=by exact fun _ _=>rfl):PV X rl (.Subscript a b pos) (CU yu fa fb):=hZ vJ ha hb fun _ _ p1 p2=>pB kr p1 p2 hs
theorem m_gIxS(x y:W):yu x y=aG (asSc x) fun ns=>aG (asI y) fun i=>aG (atI ns i) fun n=>ret (.d (.int n)):=by
 refine ae fun Q=>?_
 simp only[yu,ag,jF,cE,ret]
 exact⟨fun⟨i,j,z,a,b,c,q⟩=>⟨i,a,j,b,z,c,q⟩,fun⟨i,a,j,b,z,c,q⟩=>⟨i,j,z,a,b,c,q⟩⟩
theorem mM{K:W.Frag}{F:Hp}:∀ns:List Int,Reps K F (ns.map V.int) (ns.map FW)
 | []=>.nil
 | n::ns=>.cons (.int n) (mM ns)
noncomputable def yP(fa:TV)(fl fh:Ei):TV:=fun ρ Q=>fa ρ fun w=>fl ρ fun l=>fh ρ fun h=>∃ns:List Int,w = .sc ns/\Q (.ml (cutD (ns.map .int) l h))
theorem vV{lo hi:Option Expr}{fl fh:Ei}(ha:PV X rl a fa)(hl:Ew X rl lo fl)(hh:Ew X rl hi fh):PV X rl (.Subscript a (.Slice lo hi none p2) pos) (yP fa fl fh):=by
 obtain⟨t,p,k⟩:=ha
 obtain⟨tl,pl,kl⟩:=hl
 obtain⟨th,ph,kh⟩:=hh
 refine⟨_,jZ tD p pl ph,fun R Qd Q q h=>k R _ _ q fun v w F1 H1 g1 r1 n1 q1=>?_⟩
 refine kl (R.grow g1) _ _ q1 fun l F2 H2 g2 q2=>kh ((R.grow g1).grow g2) _ _ q2 fun u F3 H3 g3 q3=>?_
 obtain⟨ns,rfl,q3⟩:=q3
 obtain⟨a,rfl,sq⟩:=(r1.grow g2).grow g3
 have g:=(g1.trans g2).trans g3
 exact⟨a,_,rfl,jk g3.sub sq,fun p hp=>h _ (.ml _) _ _ (g.trans (Grow.laid g3.sub g3.reel hp)) (j9 g3.sub g3.reel hp ((mM ns).cut l u)) (fun a ea=>by cases ea;exact g.freeB hp) q3⟩
theorem m_vSlS{fl fh:Ei}:yP fa fl fh ρ=D4 (fa ρ) fun w=>D4 (fl ρ) fun l=>D4 (fh ρ) fun h=>aG (asSc w) fun ns=>ret (.ml (cutD (ns.map .int) l h)):=by
 refine ae fun Q=>?_
 simp only[yP,D4,ag,jF,ret]
end
noncomputable def Dn(K:W.Frag)(pre:List W->Prop):Sp:=fun vs H Q _=>∃F ws,bC F H/\d9 K RlT.no F H vs ws/\ws.all dG=true/\pre ws/\∀r F' H',H r=none->Grow RlT.no F H F' H'->Eu (RlT.at' r BM) F' H'->Q (.ref r) H'
structure DfnR (P:F0) (w:GD) (K:W.Frag) (mg:Str->Option Fm) (base:Heap) (x:Str) (ps:List Str) (k:Nat) (pre:List W->Prop):Prop where
 ex:∃f fd,mg x=some (.ref f)/\W.keepIn K (.ref f)=true/\Binds K fd ps []/\FnOk P w K mg base E5 k f fd ps (Dn K pre)
noncomputable def DG:Option W->Option W
 | some .reel=>none
 | o=>o
noncomputable def nR(ρ:En):En:=ρ.map DG
noncomputable def W.isR:W->Bool
 | .reel=>true
 | _=>false
noncomputable def wa(i:Nat)(pre:List W->Prop)(fs:Eg)(t:Eh):Eh:=fun D ρ=>fs ρ fun ws=>ws.all dG=true/\pre ws/\t ⟨fun ρ'=>D.nx (nR ρ'),fun w=>w.isR=false/\D.rt w,fun ρ'=>D.bk (nR ρ'),fun ρ'=>D.ct (nR ρ')⟩ (ρ.set i (some .reel))
theorem uK{r:Addr}(g:Grow RlT.no F₀ H₀ F H)(ra:Eu (RlT.at' r BM) F H):Grow (RlT.at' r BM) F₀ H₀ F H:=⟨fun b o e _=>g.same b o e (by simp),g.fs,g.sub,g.old,ra⟩
theorem kB{r:Addr}{n':Nat}(g:Grow (RlT.at' r n') F₀ H₀ F H)(n:H₀ r=none):Grow RlT.no F₀ H₀ F H:=⟨fun b o e _=>g.same b o e (fun z=>by cases z;rw[n]at e;cases e),g.fs,g.sub,g.old,fun _ z=>by cases z⟩
theorem wX{K:W.Frag}{r:Addr}{w:W}(h:cZ K RlT.no F H v w)(ne:∀a,w.own=true\/(∃xs,w = .pk xs)->v = .ref a->a≠r):cZ K (RlT.at' r BM) F H v w:=by
 cases w with
 | d x=>exact h
 | ml xs=>obtain⟨a,vs,e,f,_,g⟩:=h;exact⟨a,vs,e,f,fun z=>ne a (.inl rfl) e (by cases z;rfl),g⟩
 | pk xs=>obtain⟨a,vs,e,f,_,g⟩:=h;exact⟨a,vs,e,f,fun z=>ne a (.inr ⟨_,rfl⟩) e (by cases z;rfl),g⟩
 | reel=>obtain⟨_,z,_⟩:=h;cases z
 | vv u=>exact h
 | md kvs=>obtain⟨a,vs,e,f,_,g⟩:=h;exact⟨a,vs,e,f,fun z=>ne a (.inl rfl) e (by cases z;rfl),g⟩
 | mk kvs=>obtain⟨a,vs,e,f,_,g⟩:=h;exact⟨a,vs,e,f,fun z=>ne a (.inl rfl) e (by cases z;rfl),g⟩
 | nt ds=>exact h
 | lk=>trivial
 | sc ns=>exact h
 | fd _=>exact h
 | fw _=>exact h
 | ft _=>exact h
 | xc _ _=>exact h
 | dp _ _=>exact h
theorem mQ{K:W.Frag}{r:Addr}{n':Nat}{w:W}(h:cZ K (RlT.at' r n') F H v w)(n:w.isR=false):cZ K RlT.no F H v w:=by
 cases w with
 | d x=>exact h
 | ml xs=>obtain⟨a,vs,e,f,_,g⟩:=h;exact⟨a,vs,e,f,by simp,g⟩
 | pk xs=>obtain⟨a,vs,e,f,_,g⟩:=h;exact⟨a,vs,e,f,by simp,g⟩
 | reel=>cases n
 | vv u=>exact h
 | md kvs=>obtain⟨a,vs,e,f,_,g⟩:=h;exact⟨a,vs,e,f,by simp,g⟩
 | mk kvs=>obtain⟨a,vs,e,f,_,g⟩:=h;exact⟨a,vs,e,f,by simp,g⟩
 | nt ds=>exact h
 | lk=>trivial
 | sc ns=>exact h
 | fd _=>exact h
 | fw _=>exact h
 | ft _=>exact h
 | xc _ _=>exact h
 | dp _ _=>exact h
theorem kd{w:W}(h:(nR ρ)[i]?=some (some w)):ρ[i]?=some (some w)/\w.isR=false:=by
 unfold nR at h
 rw[Gg]at h
 cases e:ρ[i]? with
 | none=>rw[e]at h;cases h
 | some o =>
   rw[e]at h
   cases o with
   | none=>cases h
   | some u=>cases u<;>first|(cases h;exact⟨rfl,rfl⟩)|cases h
theorem VR.out{K:W.Frag}{r:Addr}{n':Nat}(R:VR K (RlT.at' r n') F₀ H₀ F H σ ρ)(n:H₀ r=none):VR K RlT.no F₀ H₀ F H σ (nR ρ):=by
 refine⟨kB R.g n,fun i w e=>?_,fun i j x y v hn e1 e2=>R.ap i j x y v hn (kd e1).1 (kd e2).1,fun i xs e=>R.np i xs (kd e).1,?_⟩
 · obtain⟨e1,e2⟩:=kd e
   obtain⟨v,h1,h2,h3⟩:=R.sl i w e1
   exact⟨v,h1,mQ h2 e2,h3⟩
 · have:=R.len;simpa[nR]using this
theorem VR.into{K:W.Frag}{r:Addr}(R:VR K RlT.no F₀ H₀ F H σ ρ)(n:H r=none)(g:Grow RlT.no F H F' H')(ra:Eu (RlT.at' r BM) F' H')(i:Nat):VR K (RlT.at' r BM) F₀ H₀ F' H' (σ.set i (some (.ref r))) (ρ.set i (some .reel)):=by
 have R1:=R.grow g
 refine⟨uK R1.g ra,fun j w e=>?_,fun j k x y v hn e1 e2 o1 o2 s1 s2=>?_,fun j xs e=>?_,by simp[R.len]⟩
 · by_cases hj:i=j
   · subst hj
     have hi:i<ρ.length:=by
      rw[GG]at e
      by_cases hi:i<ρ.length
      · exact hi
      · simp[hi]at e
     rw[FT hi]at e
     cases e
     exact⟨.ref r,by rw[FT (by rw[<- R.len];exact hi)],⟨r,rfl,rfl⟩,trivial⟩
   · rw[FP hj]at e
     obtain⟨v,h1,h2,h3⟩:=R1.sl j w e
     refine⟨v,by rw[FP hj];exact h1,wX h2 fun a ow ea z=>?_,h3⟩
     obtain⟨v0,h10,h20,_⟩:=R.sl j w e
     rw[h1]at h10
     cases h10
     rcases ow with ow|⟨xs,rfl⟩
     · obtain⟨b,o,eb,hb⟩:=h20.live ow
       rw[ea]at eb
       cases eb
       rw[z,n]at hb
       cases hb
     · exact absurd e (R.np j xs)
 · have key:∀(m:Nat)(z:W),(ρ.set i (some W.reel))[m]?=some (some z)->z.own=true->i≠m/\ρ[m]?=some (some z):=fun m z e o=>by
     by_cases hm:i=m
     · subst hm
       rw[GG]at e
       split at e
       · split at e
         · cases e;cases o
         · cases e
       · exact absurd rfl (by assumption)
     · rw[FP hm]at e;exact⟨hm,e⟩
   obtain⟨n1,d1⟩:=key j x e1 o1
   obtain⟨n2,d2⟩:=key k y e2 o2
   rw[FP n1]at s1
   rw[FP n2]at s2
   exact R1.ap j k x y v hn d1 d2 o1 o2 s1 s2
 · rw[GG]at e
   split at e
   · split at e
     · cases e
     · cases e
   · exact R1.np j xs e
section
variable{X:Cx}{st:Stmt}{rest body:List Stmt}{t u:Eh}{a b c e:Expr}{es:List Expr}{fa fb:TV}{fs:Eg}{pos p px cpos:Pos}{ρ:En}
end
noncomputable def CY:Fl->Mo Fl
 | .nx ρ=>ret (.nx (nR ρ))
 | .rt w=>DV (w.isR=false) (ret (.rt w))
 | .bk ρ=>ret (.bk (nR ρ))
 | .ct ρ=>ret (.ct (nR ρ))
theorem s_newR(i:Nat)(pre:List W->Prop)(fs:Eg)(t:Eh)(ρ:En):mS (wa i pre fs t) ρ=D4 (fs ρ) fun ws=>DV (ws.all dG=true) (DV (pre ws) (D4 (mS t (ρ.set i (some .reel))) CY)):=nr rfl
theorem nR_nil:nR []=[]:=rfl
theorem nR_r(l:En):nR (some .reel::l)=none::nR l:=rfl
theorem nR_n(l:En):nR (none::l)=none::nR l:=rfl
theorem nR_d(x:Fd)(l:En):nR (some (.d x)::l)=some (.d x)::nR l:=rfl
theorem nR_ml(x:List Fd)(l:En):nR (some (.ml x)::l)=some (.ml x)::nR l:=rfl
theorem nR_sc(x:List Int)(l:En):nR (some (.sc x)::l)=some (.sc x)::nR l:=rfl
noncomputable def gf(K:W.Frag):Sp:=fun vs H Q _=>∃(a:Addr)(ns:List Int),vs=[.ref a]/\Eo K H a (ns.map V.int)/\ns.length<=63/\∀H',Q (.bl true) H'
noncomputable def B2:VEnds:=⟨fun _=>False,fun w=>w = .d (.bool true),fun _=>False,fun _=>False⟩
noncomputable def vh:Fl->Prop
 | .rt w=>w = .d (.bool true)
 | _=>False
theorem un_law(m:Mo Fl):D4 m CY vh=m vh:=by
 show m (fun fl=>CY fl vh)=m vh
 congr 1
 funext fl
 cases fl with
 | rt w=>exact propext ⟨fun⟨_,h⟩=>h,fun h=>⟨by rw[show w = .d (.bool true)from h];rfl,h⟩⟩
 | _=>rfl
theorem uz:ret (Fl.rt (.d (.bool true))) vh:=rfl
section
variable{P:F0}{w:GD}{K:W.Frag}{mg:Str->Option Fm}{base:Heap}{st:Stmt}{N:List Str}{k:Nat}{t:Eh}{x:Str}
theorem uk(F:Fun K "law" "law" st f fd)(S:FnScope N [x] (defScope st))
 (hbody:∀(cdv:Fm)(A:GN)(outer:List Env)(s:Ft)(H:Hp)(E:XK),Room k (A.deeper (J9 "law" (defScope st) s.heap.objs.size f cdv))->ly (lC E5 P w K mg base N "law" (defScope st) f cdv A outer s H E).nox RlT.no (defBody st) t)
 (hread:∀ns:List Int,ns.length<=63->mS t (cY N [.sc ns]) vh):FnOk P w K mg base E5 (k+1) f fd [x] (gf K):=by
 refine F.ok S (fun vs H Q E h=>?_) (fun cdv A outer s H vs Q E hr h=>?_)
 · obtain⟨a,ns,rfl,_⟩:=h
   rfl
 · obtain⟨a,ns,rfl,hS,hl,kq⟩:=h
   obtain⟨T,p,kk⟩:=hbody cdv A outer s H E hr
   have rw0:d9 K RlT.no H H [.ref a] [.sc ns]:=.cons ⟨a,rfl,hS⟩ .nil
   have R:VR K RlT.no H H H H (start N [.ref a]) (cY N [.sc ns]):=dL (.refl H) (fun _ z=>by cases z) rw0 rfl
   refine⟨T,p,kk R B2 _ ⟨fun _ _ _ _ _ _ z=>GC z,?_,fun _ _ _ _ _ _ z=>GC z,fun _ _ _ _ _ _ z=>GC z⟩ (hread ns hl)⟩
   rintro v w1 F1 H1 g1 r1 n1 z
   have z:w1 = .d (.bool true):=z
   subst z
   have e:=dQ r1
   subst e
   exact kq H1
end
noncomputable def oT(i:Nat)(fa:TV):Eh:=fun D ρ=>fa ρ fun w=>∃d,w.fz = .d d/\D.nx (ρ.set i (some (.d d)))
section
variable{X:Cx}{rl:RlT}{st:Stmt}{rest body:List Stmt}{t u:Eh}{a b c e:Expr}{es:List Expr}{fa fb:TV}{fs:Eg}{f:TB}{pos p:Pos}{ρ:En}
theorem aD(i:Nat){x:Str}(hN:X.N.Nodup)(he:PV X rl e fa)(hi:X.N[i]?=some x:=by rfl)(hx:Loc X.env.scope x:=by first|exact HJ rfl|exact G_ rfl)
 (hs:HL e (some (.Name x pos')) pos.line X.env=pure false:=by rfl)(hf:X.fn x=true\/X.env.scope.names.lookup x=some .local:=by first|exact .inl rfl|exact .inr rfl) :
 Ez X rl (.Assign [.Name x pos'] e pos) (oT i fa):=by
 obtain⟨t,p,k⟩:=he
 refine⟨_,iC hN hi hx p hs hf,fun R Dv D ok q=>k R _ _ q fun v w F1 H1 g1 r1 n1 ⟨d,ed,q1⟩=>?_⟩
 obtain⟨F2,g2,s2,r2⟩:=cZ.fz g1 r1 n1
 rw[ed]at r2
 exact ok.nx _ _ _ _ g2.fs (R.set g2 r2 trivial (fun xs z=>by cases z) i) q1
theorem s_setZ(i:Nat):mS (oT i fa) ρ=D4 (fa ρ) fun w=>aG (asD w.fz) fun d=>ret (.nx (ρ.set i (some (.d d)))):=by
 show(D4 (fa ρ) fun w=>fun(Q:Fl->Prop)=>∃d,w.fz = .d d/\Q (.nx (ρ.set i (some (.d d)))))=_
 congr 1;funext w
 refine ae fun Q=>?_
 simp only[ag,fU,ret]
end
section
variable{X:Cx}{rl:RlT}{elt tg iter:Expr}{ifs:List Expr}{scope:Scope}{pos:Pos}{fi:En->(List Fd->Prop)->Prop}{g:Ek}{ft:TB}{fe:TV}
end
noncomputable def aA(xs:List Int):Fd:=.tuple (xs.map .int)
noncomputable def lm(xs:List Int):Fd:=.list (xs.map .int)
theorem dD:∀{xs ys:List Int},xs.map FW=ys.map FW↔xs=ys:=by
 intro xs ys
 constructor
 · intro h
   have:=congrArg hG h
   rw[b9,b9]at this
   exact Gv this
 · rintro rfl;rfl
theorem jU{xs:List Int}:aA xs=aA ys↔xs=ys:=by
 unfold aA
 rw[Iv,dD]
theorem pN{xs:List Int}:lm xs=lm ys↔xs=ys:=by
 unfold lm
 rw[Kc,dD]
theorem gn{α:Type}{f:α->Fd}(h:∀a b,f a=f b↔a=b):∀{xs ys:List α},xs.map f=ys.map f↔xs=ys
 | [],[]=>by simp
 | [],_::_=>by simp
 | _::_,[]=>by simp
 | x::xs,y::ys=>by simp[h,gn h (xs:=xs) (ys:=ys)]
noncomputable def y9(xs:List (List Int)):Fd:=.tuple (xs.map aA)
theorem oY{xs ys:List (List Int)}:y9 xs=y9 ys↔xs=ys:=by
 unfold y9
 rw[Iv,gn fun _ _=>jU]
theorem rX{xs:List α}{i:Int}(h0:0<=i)(h1:i<(xs.length:Int)):atI xs i=some (xs[i.toNat]'(by omega)):=by
 obtain⟨n,rfl⟩:=I_ h0
 exact bQ (Fp (by omega))
section
variable{α σ:Type}{fl:List Nat}{b:Fd->En->Mo Fl}{k:En->Mo Fl}{Q:Fl->Prop}{ρ:En}
theorem oN{f:TB}{t:Eh}(st:σ->En)(c:σ->Bool)(nxt:σ->σ)(μ:σ->Nat)(I:σ->Prop)(s:σ)(h0:ρ=st s)(hs:I s)
 (hf:∀s,I s->f (st s)=ret (c s))(ht:∀s,I s->c s=true->I (nxt s)/\μ (nxt s)<μ s/\∃ρ',mS t (st s)=ret (.nx ρ')/\fo fl ρ'=st (nxt s))(fin:∀s,I s->c s=false->k (st s) Q):sq (ge fl f t ρ) k Q:=by
 subst h0
 obtain⟨s',a,b,e⟩:=lG st c nxt μ I hf ht s hs
 rw[e]
 exact fin s' a b
theorem uN{xs:List α}{enc:α->Fd}(st:σ->En)(f:σ->α->σ)(s:σ)(I:σ->Prop)(h0:ρ=st s)(hx:xs'=xs.map enc)(hs:I s)(step:∀x∈xs,∀s,I s->I (f s x)/\∃ρ',b (enc x) (st s)=ret (.nx ρ')/\fo fl ρ'=st (f s x))
 (fin:k (st (xs.foldl f s)) Q):sq (b_ fl b xs' ρ) k Q:=by
 subst h0 hx
 rw[nD st f s I hs step]
 exact fin
theorem kE{lo:Int}(st:Nat->En)(h0:ρ=st 0)(step:∀i,i<n->∃ρ',b (.int (lo+i)) (st i)=ret (.nx ρ')/\fo fl ρ'=st (i+1))(fin:k (st n) Q):sq (b_ fl b (bu lo n) ρ) k Q:=by
 subst h0
 rw[ln st step]
 exact fin
theorem uO{xs:List α}{enc:α->Fd}(p:α->Bool)(w:α->W)(hx:xs'=xs.map enc)(step:∀x∈xs,(p x=true->b (enc x) ρ=ret (.rt (w x)))/\(p x=false->∃ρ',b (enc x) ρ=ret (.nx ρ')/\fo fl ρ'=ρ))
 (hit:∀x∈xs,p x=true->Q (.rt (w x)))(fin:(∀x∈xs,p x=false)->k ρ Q):sq (b_ fl b xs' ρ) k Q:=by
 subst hx
 rw[nE p w step]
 cases h:xs.find? p with
 | none=>exact fin fun x hx=>by have:=List.find?_eq_none.mp h x hx;simpa using this
 | some x=>exact hit x (J7 h) (by have:=List.find?_some h;exact this)
noncomputable def DH(fl:List Nat)(J:En->Prop)(k:En->Mo Fl)(Q:Fl->Prop):Fl->Prop
 | .nx ρ=>J (fo fl ρ)
 | .ct ρ=>J (fo fl ρ)
 | .bk ρ=>k (fo fl ρ) Q
 | .rt w=>Q (.rt w)
theorem dg{J:En->Prop}{ρ:En}(h:J (fo fl ρ)):DH fl J k Q (.nx ρ):=h
theorem nB{J:En->Prop}{w:W}(h:Q (.rt w)):DH fl J k Q (.rt w):=h
theorem gt{xs:List α}{enc:α->Fd}(J:Nat->En->Prop)(hx:xs'=xs.map enc)(h0:J 0 ρ)
 (step:∀i (h:i<xs.length) ρ,J i ρ->∀K:Fl->Prop,(∀r,DH fl (J (i+1)) k Q r->K r)->b (enc xs[i]) ρ K)(fin:∀ρ,J xs.length ρ->k ρ Q):sq (b_ fl b xs' ρ) k Q:=by
 subst hx
 refine nF (Q:=fun r=>(match r with | .nx ρ=>k ρ | .rt w=>ret (.rt w) | .bk ρ=>ret (.bk ρ) | .ct ρ=>ret (.ct ρ):Mo Fl) Q) J h0 (fun i hi ρ j K hK=>step i hi ρ j K fun r hr=>hK r ?_) fin
 cases r<;>exact hr
theorem jz{lo:Int}(J:Nat->En->Prop)(h0:J 0 ρ)
 (step:∀i,i<n->∀ρ,J i ρ->∀K:Fl->Prop,(∀r,DH fl (J (i+1)) k Q r->K r)->b (.int (lo+i)) ρ K)(fin:∀ρ,J n ρ->k ρ Q):sq (b_ fl b (bu lo n) ρ) k Q:=by
 refine pO (Q:=fun r=>(match r with | .nx ρ=>k ρ | .rt w=>ret (.rt w) | .bk ρ=>ret (.bk ρ) | .ct ρ=>ret (.ct ρ):Mo Fl) Q) J h0 (fun i hi ρ j K hK=>step i hi ρ j K fun r hr=>hK r ?_) fin
 cases r<;>exact hr
theorem hJ{lo:Int}(step:∀i,i<n->∀K:Fl->Prop,(∀r,DH fl (fun ρ'=>ρ'=ρ) k Q r->K r)->b (.int (lo+i)) ρ K)(fin:k ρ Q):sq (b_ fl b (bu lo n) ρ) k Q :=
 jz (fun _ ρ'=>ρ'=ρ) rfl (fun i h ρ' e K hK=>by subst e;exact step i h K hK) fun ρ' e=>by subst e;exact fin
end
section
variable{α β:Type}{b:Fd->Mo (Option Fd)}{k:List Fd->Mo β}{Q:β->Prop}
theorem cb{xs:List α}{enc:α->Fd}(f:α->Fd)(hx:xs'=xs.map enc)(h:∀x∈xs,b (enc x)=ret (some (f x)))(hl:xs.length<=sizeLine)(fin:k (xs.map f) Q):D4 (cz b xs' []) k Q:=by
 subst hx;rw[comp_map f h hl];exact fin
theorem dq{lo:Int}(f:Nat->Fd)(h:∀j,j<n->b (.int (lo+j))=ret (some (f j)))(hl:n<=sizeLine)(fin:k ((FJ n).map f) Q):D4 (cz b (bu lo n) []) k Q:=by
 rw[di f h hl];exact fin
end
section
variable{α β:Type}
theorem nw{i:Int}{k:Fd->Mo β}{Q:β->Prop}(h0:0<=i)(h1:i<(xs.length:Int))(h:∀z∈xs,k z Q):aG (atI xs i) k Q:=by
 obtain⟨z,e,m⟩:=yc h0 h1
 rw[e]
 exact h z m
theorem ll{xs:List α}{enc:α->Fd}{i:Int}{k:Fd->Mo β}{Q:β->Prop}(P:α->Prop)(hx:xs'=xs.map enc)(h0:0<=i)(h1:i<(xs.length:Int))(hP:∀z∈xs,P z)(h:∀z,P z->k (enc z) Q):aG (atI xs' i) k Q:=by
 subst hx
 refine nw h0 (by simpa using h1) fun z mz=>?_
 obtain⟨x,hx,rfl⟩:=Gf.mp mz
 exact h x (hP x hx)
end
section
variable{X:Cx}{rl:RlT}{a b c o e:Expr}{es:List Expr}{fa fb:TV}{fs:Eg}{pos p apos cpos:Pos}{ρ:En}
theorem nn:EH X (G1 .IsNot) (fun x y H Q=>∃b c,x = .bl b/\y = .bl c/\Q (.bl (b != c)) H):=by
 intro pins s σ H x y v u Q I rx ry ⟨b,c,ex,ey,q⟩
 subst ex ey
 cases(show v=JC b from rx)
 cases(show u=JC c from ry)
 exact isnot_bool ⟨.bl _,H,I,rfl,q⟩
noncomputable def uM:W->W->(W->Prop)->Prop:=fun x y Q=>∃b c,x = .d (.bool b)/\y = .d (.bool c)/\Q (.d (.bool (b != c)))
theorem lM:Ec X rl (fun x y H Q=>∃b c,x = .bl b/\y = .bl c/\Q (.bl (b != c)) H) uM:=fun{F H x y wx wy} Qd Q s ra r1 r2 q k=>by
 obtain⟨b,c,rfl,rfl,q⟩:=q
 exact⟨b,c,dQ r1,dQ r2,k _ (.d _) _ _ (Grow.refl s ra) (.bl _) trivial q⟩
theorem m_gNotB(x y:W):uM x y=aG (asB x) fun i=>aG (asB y) fun j=>ret (.d (.bool (i != j))):=by
 refine ae fun Q=>?_
 simp only[ag,kO,uM,ret]
 exact⟨fun⟨i,j,a,b,q⟩=>⟨i,a,j,b,q⟩,fun⟨i,a,j,b,q⟩=>⟨i,j,a,b,q⟩⟩
end
end L2.VL
namespace L2
section
variable{X:Cx}{pos:Pos}
end
end L2
namespace L2.VL
section
variable{X:Cx}{rl:RlT}{es:List Expr}{pos:Pos}{ρ:En}
end
noncomputable def Av:=Ff @bnd_tt (Ff @bnd_ret (Ff @bnd_bnd (Ff @bnd_grd (Ff @bnd_stk (Ff @bnd_ite (Ff @bnd_opt (Ff @opt_some (Ff @opt_none (Ff @grd_T (Ff @sq_nx (Ff @sq_rt (Ff @sq_bk (Ff @sq_ct (Ff @sq_grd (Ff @sq_stk (Ff @sq_ite (Ff @sq_sq (@kc_ap))))))))))))))))))
noncomputable def Ay:=Ff @ite_nx (Ff @ite_rt (Ff @ite_retd (Ff @ite_retb (Ff @ite_rets (Ff @ite_cons (Ff @ite_some (Ff @ite_d (Ff @ite_pi (Ff @ite_pb (Ff @itb_tt (Ff @itb_ff (Ff @itb_ft (Ff @itb_tf (@ite_self.{1}))))))))))))))
noncomputable def AB:=Ff @m_vC (Ff @m_vVar (Ff @m_vNil (Ff @m_vCons (Ff @m_vOp (Ff @m_gI (Ff @m_gI0 (Ff @m_vNeg (Ff @m_vTest (Ff @m_gEqD (Ff @m_vAnd (Ff @m_vOr (Ff @m_vNot (Ff @m_vAndV (Ff @m_vNotV (Ff @m_vIf (Ff @m_vTup (Ff @m_vLst (Ff @m_gIx (Ff @m_vCall (Ff @m_gAbs (@m_gLen)))))))))))))))))))))
noncomputable def AA:=Ff @m_gRepr (Ff @m_gIsi (Ff @m_gTupO (Ff @m_gIsN (Ff @m_gI2 (Ff @m_gInt1 (Ff @m_oNo (Ff @m_oIt (Ff @m_vSlL (Ff @m_vSlA (Ff @m_gCatA (Ff @m_vChain (Ff @m_iL (Ff @m_iT (Ff @m_iR1 (@m_iR2)))))))))))))))
noncomputable def Az:=Ff @m_iZb (Ff @m_vUse (Ff @m_gAll (Ff @m_gRepT (Ff @m_vRevT (Ff @m_gEqS (Ff @m_comp (Ff @m_gLenS (Ff @m_gIxS (Ff @m_vSlS (@m_gNotB))))))))))
noncomputable def Ar:=Ff @s_next (Ff @s_seq (Ff @s_drop (Ff @s_ret (Ff @s_ifS (Ff @s_set (Ff @s_setZ (Ff @s_never (Ff @s_asg (Ff @s_par (Ff @s_aug (Ff @s_frz (Ff @s_mut (Ff @s_for (Ff @bdy_ap (Ff @s_while (Ff @s_newR (Ff @m_hName (@m_hNil_n))))))))))))))))))
noncomputable def Aq:=Ff @m_hCons_c (Ff @m_hTup (@m_gApp))
noncomputable def Au:=Ff @pk_sc (Ff @fz_sc (Ff @arg_sc (Ff @isPk_sc (Ff @asI_d (Ff @asB_d (Ff @asS_d (Ff @asD_d (Ff @asT_d (Ff @asL_d (Ff @asL_ml (Ff @asL_pk (Ff @asQ_d (Ff @asQ_ml (Ff @asQ_pk (Ff @lstD_l (Ff @tupD_t (Ff @toI_i (Ff @toI_b (Ff @isiT_t (Ff @asM_ml (Ff @asSc_s (Ff @two_d (@fz_d)))))))))))))))))))))))
noncomputable def At:=Ff @fz_ml (Ff @fz_pk (Ff @fz_reel (Ff @fz_vv (Ff @pk_d (Ff @pk_ml (Ff @pk_reel (Ff @pk_vv (Ff @dat_d (Ff @dat_ml (Ff @dat_pk (Ff @isPk_d (Ff @isPk_ml (Ff @isPk_reel (Ff @dats_nil (Ff @dats_d (Ff @arg_d (Ff @arg_reel (Ff @item_l (Ff @item_t (Ff @len_l (Ff @len_t (Ff @seq_l (@seq_t)))))))))))))))))))))))
noncomputable def As:=Ff @at0 (Ff @at1 (Ff @blsD_map (Ff @tup2 (Ff @fo_nil (Ff @fo_cons (Ff @nR_nil (Ff @nR_r (Ff @nR_n (Ff @nR_d (Ff @nR_ml (Ff @nR_sc (Ff @le_nil (Ff @le_cn (Ff @le_cs (Ff @end_d (Ff @end_ml (Ff @end_nx (@un_law))))))))))))))))))
noncomputable def Ax:=Ff @FV.{0,0} (Ff @Kx.{0,0} (Ff @Hm.{0} (Ff @Kw.{0} (Ff @List.getElem?_cons_zero.{0} (Ff @List.getElem?_cons_succ.{0} (Ff @List.set_cons_zero.{0} (Ff @List.set_cons_succ.{0} (Ff @List.set_nil.{0} (Ff @List.cons_append.{0} (Ff @KA.{0} (Ff @List.all_cons.{0} (Ff @List.all_nil.{0} (Ff @List.head?_cons.{0} (Ff @Bool.and_true (Ff @Option.some.injEq.{0} (Ff @Option.map_some.{0,0} (Ff @Option.bind_some.{0,0} (Ff @Option.bind_none.{0,0} (Ff @Option.join_some.{0} (Ff @Option.join_none.{0} (Ff @Iu (Ff @and_self (@and_true)))))))))))))))))))))))
noncomputable def Aw:=Ff @true_and (Ff @shaped_i (Ff @eqv_ii (Ff @shaped_b (Ff @Lq (Ff @Bool.and_self (Ff @Bool.not_true (Ff @Bool.not_false (Ff @Fq.{0,0} (Ff @Gy (Ff @Bool.true_eq_false (Ff @decide_true (Ff @decide_false (Ff @List.isEmpty_cons.{0} (Ff @List.isEmpty_nil.{0} (@List.isEmpty_map.{0,0})))))))))))))))
section
variable{X:Cx}{rl:RlT}{e:Expr}{fa:TV}{pos dpos q1 q2 q3 q4:Pos}{ρ:En}{j1 j2 j3 j4:Nat}{a b x y:Str}
end
theorem Eu.pay{a:Option Addr}{b b':Nat}{F H:Hp}(r:Eu ⟨a,b⟩ F H)(h:b'<=b):Eu ⟨a,b'⟩ F H:=fun x e=>by
 obtain⟨z,⟨o,q,ro⟩⟩:=r x e
 exact⟨z,⟨o,q,ro.pay h⟩⟩
theorem Grow.pay{a:Option Addr}{b b':Nat}{F H F' H':Hp}(g:Grow ⟨a,b⟩ F H F' H')(h:b'<=b):Grow ⟨a,b'⟩ F H F' H':=⟨g.same,g.fs,g.sub,g.old,g.reel.pay h⟩
theorem Grow.tr{a:Option Addr}{b b':Nat}{F1 H1 F2 H2:Hp}(g:Grow ⟨a,b⟩ F H F1 H1)(g':Grow ⟨a,b'⟩ F1 H1 F2 H2):Grow ⟨a,b'⟩ F H F2 H2 :=
 ⟨fun c o e n=>g'.same c o (g.same c o e n) n,g.fs.trans g'.fs,g'.sub,fun c o e=>by obtain⟨o',e'⟩:=g.live e;rw[g'.old c o' e',g.old c o e],g'.reel⟩
theorem cZ.on{K:W.Frag}{a:Option Addr}{b b':Nat}{w:W}(r:cZ K ⟨a,b⟩ F H v w):cZ K ⟨a,b'⟩ F H v w:=by cases w<;>exact r
theorem cZ.gr{K:W.Frag}{a:Option Addr}{b b' b2:Nat}{w:W}(g:Grow ⟨a,b'⟩ F H F' H')(r:cZ K ⟨a,b⟩ F H v w):cZ K ⟨a,b2⟩ F' H' v w:=((r.on (b':=b')).grow g).on
theorem VR.gr{K:W.Frag}{a:Option Addr}{b b':Nat}{F₀ H₀ F H F' H':Hp}{σ:St}{ρ:En}(r:VR K ⟨a,b⟩ F₀ H₀ F H σ ρ)(g:Grow ⟨a,b'⟩ F H F' H'):VR K ⟨a,b'⟩ F₀ H₀ F' H' σ ρ :=
 ⟨r.g.tr g,fun i w e=>let ⟨v,e1,e2,e3⟩:=r.sl i w e;⟨v,e1,e2.gr g,e3⟩,r.ap,r.np,r.len⟩
theorem VR.pay{K:W.Frag}{a:Option Addr}{b b':Nat}{F₀ H₀ F H:Hp}{σ:St}{ρ:En}(r:VR K ⟨a,b⟩ F₀ H₀ F H σ ρ)(h:b'<=b):VR K ⟨a,b'⟩ F₀ H₀ F H σ ρ:=r.gr ((Grow.refl r.sub r.reel).pay h)
theorem EndsOk.pay{K:W.Frag}{a:Option Addr}{b b':Nat}{F₀ H₀ Fs:Hp}{Dv:VEnds}{D:Ends}(ok:EndsOk K ⟨a,b'⟩ F₀ H₀ Fs Dv D)(h:b'<=b):EndsOk K ⟨a,b⟩ F₀ H₀ Fs Dv D :=
 ⟨fun F H σ ρ s R=>ok.nx F H σ ρ s (R.pay h),fun v w F H g r n=>ok.rt v w F H (g.pay h) r.on n,fun F H σ ρ s R=>ok.bk F H σ ρ s (R.pay h),fun F H σ ρ s R=>ok.ct F H σ ρ s (R.pay h)⟩
noncomputable def CV(X:Cx)(al:Option Addr)(c:Nat)(e:Expr)(f:TV):Prop:=∃t,PE X e t/\∀{b:Nat}{F₀ H₀ F H:Hp}{σ:St}{ρ:En},VR X.K ⟨al,b+c⟩ F₀ H₀ F H σ ρ->∀(Qd:W->Prop)(Q:VK),f ρ Qd ->
 (∀v w F' H',Grow ⟨al,b⟩ F H F' H'->cZ X.K ⟨al,b⟩ F' H' v w->dH H v w->Qd w->Q v H')->t σ H Q
noncomputable def E6(X:Cx)(al:Option Addr)(c:Nat)(es:List Expr)(f:Eg):Prop:=∃t,PA X es t/\∀{b:Nat}{F₀ H₀ F H:Hp}{σ:St}{ρ:En},VR X.K ⟨al,b+c⟩ F₀ H₀ F H σ ρ->∀(Qd:List W->Prop)(Q:List V->Hp->Prop),f ρ Qd ->
 (∀vs ws F' H',Grow ⟨al,b⟩ F H F' H'->d9 X.K ⟨al,b⟩ F' H' vs ws->Qd ws->Q vs H')->t σ H Q
noncomputable def CS(X:Cx)(al:Option Addr)(c:Nat)(st:Stmt)(t:Eh):Prop:=∃T,PS X st T/\∀{b:Nat}{F₀ H₀ F H:Hp}{σ:St}{ρ:En},VR X.K ⟨al,b+c⟩ F₀ H₀ F H σ ρ->∀Dv D,EndsOk X.K ⟨al,b⟩ F₀ H₀ F Dv D->t Dv ρ->T D σ H
noncomputable def E7(X:Cx)(al:Option Addr)(c:Nat)(st:List Stmt)(t:Eh):Prop:=∃T,Ey X st T/\∀{b:Nat}{F₀ H₀ F H:Hp}{σ:St}{ρ:En},VR X.K ⟨al,b+c⟩ F₀ H₀ F H σ ρ->∀Dv D,EndsOk X.K ⟨al,b⟩ F₀ H₀ F Dv D->t Dv ρ->T D σ H
section
variable{X:Cx}{al:Option Addr}{c c1 c2 c3:Nat}{st:Stmt}{rest body:List Stmt}{t u:Eh}{a b e ec:Expr}{es:List Expr}{fa fb:TV}{fs:Eg}{f g:TB}{pos p:Pos}
theorem cv(h:∀n,PV X ⟨al,n⟩ e fa):CV X al 0 e fa :=
 ⟨fun σ H Q=>∃n,Gn (h n) σ H Q,fun pins s σ H Q I ⟨n,z⟩=>(Fw (h n)).1 pins s σ H Q I z,fun{b F₀ H₀ F H σ ρ} R Qd Q q k=>⟨b,(Fw (h b)).2 R Qd Q q k⟩⟩
theorem D3(h:∀n,Ev X ⟨al,n⟩ es fs):E6 X al 0 es fs :=
 ⟨fun σ H Q=>∃n,Gn (h n) σ H Q,fun p pins s σ H Q I ⟨n,z⟩=>(Fw (h n)).1 p pins s σ H Q I z,fun{b F₀ H₀ F H σ ρ} R Qd Q q k=>⟨b,(Fw (h b)).2 R Qd Q q k⟩⟩
theorem cs(h:∀n,Ez X ⟨al,n⟩ st t):CS X al 0 st t :=
 ⟨fun D σ H=>∃n,Gn (h n) D σ H,fun pins s σ H D I ⟨n,z⟩=>(Fw (h n)).1 pins s σ H D I z,fun{b F₀ H₀ F H σ ρ} R Dv D ok q=>⟨b,(Fw (h b)).2 R Dv D ok q⟩⟩
theorem fP:E6 X al 0 [] yi:=D3 fun _=>ab
theorem ci(h1:CV X al c1 e fa)(h2:E6 X al c2 es fs)(hs:FA (e::es) X.env=(false,eval e X.env)::FA es X.env:=by rfl):E6 X al (c1+c2) (e::es) (oV fa fs):=by
 obtain⟨t,p1,k1⟩:=h1
 obtain⟨ts,p2,k2⟩:=h2
 refine⟨_,nl p1 p2 hs,fun{n _ _ _ _ _ _} R Qd Q q k=>?_⟩
 refine k1 (b:=n+c2) (R.pay (by omega)) _ _ q fun v w F1 H1 g1 r1 n1 q1=>?_
 obtain⟨F2,g2,s2,r2⟩:=cZ.fz g1 r1 n1
 refine k2 (b:=n) (R.gr g2) _ _ q1 fun vs ws F3 H3 g3 r3 q3=>?_
 exact k (v::vs) (w.fz::ws) F3 H3 (g2.tr g3) (.cons (r2.gr g3) r3) q3
theorem kF{r:R2}{g:W->W->(W->Prop)->Prop}(vo:∀n,Ec X ⟨al,n⟩ r g)(ha:CV X al c1 a fa)(hb:CV X al c2 b fb){e:Expr}(hp:∀ta tb,PE X a ta->PE X b tb->PE X e (Dc r ta tb)):CV X al (c1+c2) e (CU g fa fb):=by
 obtain⟨ta,p1,k1⟩:=ha
 obtain⟨tb,p2,k2⟩:=hb
 refine⟨_,hp ta tb p1 p2,fun{n _ _ _ _ _ _} R Qd Q q k=>?_⟩
 refine k1 (b:=n+c2) (R.pay (by omega)) _ _ q fun v w F1 H1 g1 r1 n1 q1=>?_
 refine k2 (b:=n) (R.gr g1) _ _ q1 fun v2 w2 F2 H2 g2 r2 n2 q2=>?_
 exact vo n Qd Q g2.sub g2.reel (r1.gr g2) r2 q2 fun v3 w3 F3 H3 g3 r3 n3 q3=>k v3 w3 F3 H3 ((g1.tr g2).tr g3) r3 ((n3.back g2).back g1) q3
theorem Ae{op:Lj}{r:R2}{g:W->W->(W->Prop)->Prop}(ho:EH X (Ir op) r)(vo:∀n,Ec X ⟨al,n⟩ r g)(ha:CV X al c1 a fa)(hb:CV X al c2 b fb):CV X al (c1+c2) (.BinOp a op b pos) (CU g fa fb) :=
 kF vo ha hb fun _ _ p1 p2=>xv ho p1 p2
theorem ya(ha:CV X al c1 a fa)(hb:CV X al c2 b fb):CV X al (c1+c2) (.BinOp a .Add b pos) (CU (DZ fun i j=>.int (i+j)) fa fb):=Ae rM (fun _=>cF fun _ _ _ _=>.int _) ha hb
theorem Cd(ha:CV X al c1 a fa)(hb:CV X al c2 b fb)(hs:fV b:=by exact fun _ _=>rfl):CV X al (c1+c2) (.Subscript a b pos) (CU DX fa fb):=kF (fun _=>vL) ha hb fun _ _ p1 p2=>pB kr p1 p2 hs
theorem Ad{x1}(h:E6 X al c es fs):CV X al c (.Tuple es x1 pos) (v7 fs):=by
 obtain⟨t,p,k⟩:=h
 refine⟨_,nc p,fun R Qd Q q h=>k R _ _ q fun vs ws F1 H1 g1 r1 ⟨ds,e1,z,q1⟩=>?_⟩
 have rs:=dn r1 e1
 refine⟨by rw[rs.length];exact z,fun p hp=>?_⟩
 have g2:=g1.tr (Grow.data (a:=p) (o:=.tup vs) g1.sub g1.reel hp)
 exact h _ (.d (.tuple ds)) _ _ g2 (.tup (.inl (.inl au)) (rs.mono (Grow.data (o:=.tup vs) g1.sub g1.reel hp).fs)) trivial q1
theorem og(h:CS X al c st t):E7 X al c [st] t:=by
 obtain⟨T,p,k⟩:=h
 exact⟨T,jn p,k⟩
theorem ca(h:CS X al c1 st t)(h2:E7 X al c2 rest u):E7 X al (c1+c2) (st::rest) (ve t u):=by
 obtain⟨T,p,k⟩:=h
 obtain⟨T2,p2,k2⟩:=h2
 refine⟨_,cJ p p2,fun{n _ _ _ _ _ _} R Dv D ok q=>k (b:=n+c2) (R.pay (by omega)) {Dv with nx:=u Dv} {D with nx:=T2 D} ?_ q⟩
 have o2:=ok.pay (b:=n+c2) (by omega)
 exact⟨fun F H σ ρ s' R' q'=>k2 (b:=n) R' Dv D (ok.on s') q',o2.rt,o2.bk,o2.ct⟩
theorem x8(h:CV X al c e fa):CS X al c (.Return (some e) pos) (yS fa):=by
 obtain⟨t,p,k⟩:=h
 exact⟨_,mV p,fun R Dv D ok q=>k R _ _ q fun v w F1 H1 g1 r1 n1 q1=>ok.rt v w F1 H1 (R.g.tr g1) r1 (n1.back R.g) q1⟩
theorem VR.setC{K:W.Frag}{n':Nat}(r:VR K ⟨al,n⟩ F₀ H₀ F H σ ρ){H1 F1:Hp}(g:Grow ⟨al,n'⟩ F H F1 H1)(hn:n'<=n){w:W}(rw':cZ K ⟨al,n'⟩ F1 H1 v w)(hw:dH H v w)(hp:∀xs,w ≠ .pk xs)(i:Nat):VR K ⟨al,n'⟩ F₀ H₀ F1 H1 (σ.set i (some v)) (ρ.set i (some w)) :=
 (r.pay hn).set g rw' hw hp i
theorem oa(i:Nat){x:Str}(hN:X.N.Nodup)(he:CV X al c e fa)(hi:X.N[i]?=some x:=by rfl)(hx:Loc X.env.scope x:=by first|exact HJ rfl|exact G_ rfl)
 (hs:HL e (some (.Name x pos')) pos.line X.env=pure false:=by rfl)(hf:X.fn x=true\/X.env.scope.names.lookup x=some .local:=by first|exact .inl rfl|exact .inr rfl) :
 CS X al c (.Assign [.Name x pos'] e pos) (oT i fa):=by
 obtain⟨t,p,k⟩:=he
 refine⟨_,iC hN hi hx p hs hf,fun R Dv D ok q=>k R _ _ q fun v w F1 H1 g1 r1 n1 ⟨d,ed,q1⟩=>?_⟩
 obtain⟨F2,g2,s2,r2⟩:=cZ.fz g1 r1 n1
 rw[ed]at r2
 exact ok.nx _ _ _ _ g2.fs (R.setC g2 (by omega) r2 trivial (fun xs z=>by cases z) i) q1
theorem x9{g:Ek}(he:CV X al c e fa)(hg:∀n,EF X ⟨al,n⟩ tg g)(hs:IS [tg] e pos.line X.env=pure false:=by rfl)(hw:IT [tg] e X.env=pure none:=by rfl)
 (h1:(G8 [tg] X.env).map (·.2)=[Jg tg X.env]:=by rfl):CS X al c (.Assign [tg] e pos) (ym fa g):=by
 obtain⟨t,p,k⟩:=he
 refine⟨_,mX p (g:=fun v σ H Q=>∃n,Gn (hg n) v σ H Q) (fun pins s σ H v u Q I rv ⟨n,z⟩=>(Fw (hg n)).1 pins s σ H v u Q I rv z) hs hw h1,fun{n _ _ _ _ _ _} R Dv D ok q=>k R _ _ q fun v w F1 H1 g1 r1 n1 ⟨x,ew,q1⟩=>?_⟩
 subst ew
 exact⟨n,(Fw (hg n)).2 (R.gr g1) v x _ _ r1 q1 fun F2 H2 σ2 ρ2 s2 n2 R2 q2=>ok.nx _ _ _ _ (g1.fs.trans s2.fs) R2 q2⟩
end
noncomputable def yX(n:Nat)(fl:List Nat)(fi:En->(List Fd->Prop)->Prop)(g:Ek)(t:Eh):Eh:=fun D ρ=>fi ρ fun xs=>xs.length<=n/\cB fl g t xs D (fo fl ρ)
section
variable{X:Cx}{al:Option Addr}{c c1 c2 c3:Nat}{st:Stmt}{rest body:List Stmt}{t u:Eh}{a b e ec:Expr}{es:List Expr}{fa fb:TV}{fs:Eg}{f:TB}{pos p:Pos}
noncomputable def Cc(K:W.Frag)(al:Option Addr)(c:Nat)(P:List W->(Fd->Prop)->Prop):Sp:=fun vs H Q _=>∃b F ws,bC F H/\Eu ⟨al,b+c⟩ F H/\d9 K ⟨al,b+c⟩ F H vs ws/\ws.all dG=true/\P ws fun d=>∀v F' H',Grow ⟨al,b⟩ F H F' H'->Rep K F' v d->Q v H'
structure DfnC (P:F0) (w:GD) (K:W.Frag) (mg:Str->Option Fm) (base:Heap) (al:Option Addr) (c:Nat) (x:Str) (ps:List Str) (k:Nat) (Pd:List W->(Fd->Prop)->Prop):Prop where
 mono:∀ws Q Q',(∀d,Q d->Q' d)->Pd ws Q->Pd ws Q'
 ex:∃f fd,mg x=some (.ref f)/\W.keepIn K (.ref f)=true/\Binds K fd ps []/\FnOk P w K mg base E5 k f fd ps (Cc K al c Pd)
theorem kN{x:Str}{ps:List Str}{k:Nat}{Pd:List W->(Fd->Prop)->Prop}(D:DfnC X.prog X.w X.K X.mg X.base al c2 x ps k Pd)(hr:Room k X.A)(ha:E6 X al c1 (e::es) fs)(hg:Gl X x:=by rfl)
 (hdb:(x==("__debug__" : Str))=false:=by decide)(he:FA (e::es) X.env=(false,eval e X.env)::FA es X.env:=by rfl)(hpl:(Hf pos (FA es X.env)).any (·.1)=false:=by rfl) :
 CV X al (c1+c2) (.Call (.Name x p) (e::es) [] pos) (yN Pd fs):=by
 obtain⟨f,fd,hm,hk,hb,F⟩:=D.ex
 obtain⟨t,p1,kk⟩:=ha
 refine⟨_,gY F hr hg hm hk hb .nil pH p1 hdb he hpl,fun{n _ _ _ _ _ _} R Qd Q q h=>kk (b:=n+c2) (R.pay (by omega)) _ _ q fun vs ws F1 H1 g1 r1 ⟨ok,q1⟩=>?_⟩
 refine⟨n,F1,ws,g1.sub,g1.reel,by rw[HM];exact r1,ok,?_⟩
 exact D.mono ws _ _ (fun d qd v F2 H2 g2 r2=>h v (.d d) F2 H2 (g1.tr g2) r2 trivial qd) q1
end
section
variable{P:F0}{w:GD}{K:W.Frag}{mg:Str->Option Fm}{base:Heap}{al:Option Addr}{c c0:Nat}{x:Str}{st:Stmt}{N ps:List Str}{k:Nat}{Pd:List W->(Fd->Prop)->Prop}{t:Eh}
theorem DfnC.of(Fn:FnIn K mg x st ps)(S:FnScope N ps (defScope st))(mono:∀ws Q Q',(∀d,Q d->Q' d)->Pd ws Q->Pd ws Q')(len:∀ws Q,Pd ws Q->ws.length=ps.length)
 (hbody:∀{f:Addr}(cdv:Fm)(A:GN)(outer:List Env)(s:Ft)(H:Hp)(E:XK),Room k (A.deeper (J9 x (defScope st) s.heap.objs.size f cdv)) ->
  E7 (lC E5 P w K mg base N x (defScope st) f cdv A outer s H E).nox al c0 (defBody st) t)
 (hle:c0<=c)(hread:∀ws Q,Pd ws Q->t (kW Q) (cY N ws)):DfnC P w K mg base al c x ps (k+1) Pd:=by
 obtain⟨f,fd,hm,F,hb⟩:=Fn.ex
 refine⟨mono,f,fd,hm,F.kp,hb,?_⟩
 refine F.ok S (fun vs H Q E ⟨n,F,ws,_,_,r,_,q⟩=>(G7 r).trans (len ws _ q)) fun cdv A outer s H vs Q E hr h=>?_
 obtain⟨n,F1,ws,sm,ra,r,ok,q⟩:=h
 obtain⟨T,p,kk⟩:=hbody cdv A outer s H E hr
 refine⟨T,p,kk (b:=n) ((dL sm ra r ok).pay (by omega)) (kW _) _ ⟨?_,?_,fun _ _ _ _ _ _ z=>GC z,fun _ _ _ _ _ _ z=>GC z⟩ (hread ws _ q)⟩
 · intro F2 H2 σ1 ρ1 _ R1 q1
   exact q1 .non F2 H2 R1.g .non
 · rintro v w1 F2 H2 g1 r1 n1 ⟨d,ed,q1⟩
   obtain⟨F3,g2,s2,r2⟩:=cZ.fz g1 r1 n1
   rw[ed]at r2
   exact q1 v F3 H2 g2 r2
end
noncomputable def wf(n:Nat)(fi:En->(List Fd->Prop)->Prop)(fr:List (Option Nat))(g:Ek)(ft:TB)(fe:TV):TV:=fun ρ Q=>fi ρ fun xs=>xs.length<=n/\kU (eg fr ρ) g ft fe xs [] fun ds=>Q (.ml ds)
section
variable{X:Cx}{al:Option Addr}{c1 c2 c3:Nat}{elt tg iter:Expr}{ifs:List Expr}{scope:Scope}{pos:Pos}{fi:En->(List Fd->Prop)->Prop}{g:Ek}{ft:TB}{fe:TV}
end
noncomputable def kC:EL:=H0 "cell"
noncomputable def kL:EL:=H0 "left"
noncomputable def kT:EL:=H0 "turn"
theorem zP:¬kC=kL:=by decide +kernel
theorem zO:¬kC=kT:=by decide +kernel
theorem yq:¬kL=kT:=by decide +kernel
noncomputable def bH(c l t:Int):List (EL×V):=[(kC,.int c),(kL,.int l),(kT,.int t)]
theorem i5{p:EL×V}{r:List (EL×V)}{k:EL}(e:¬p.1=k):eU (p::r) k=eU r k:=by
 unfold eU
 rw[GL]
 simp[e]
theorem wu(c l t:Int):eU (bH c l t) kC=some (.int c):=dk rfl
theorem wr(c l t:Int):eU (bH c l t) kL=some (.int l):=by unfold bH;rw[i5 zP];exact dk rfl
theorem rg(c l t:Int):eU (bH c l t) kT=some (.int t):=by unfold bH;rw[i5 zO,i5 yq];exact dk rfl
theorem DF{a b:EL}(h:¬a=b):¬b=a:=fun e=>h e.symm
theorem zC(c l t n:Int):dv (bH c l t) kL (.int n)=bH c n t:=by
 unfold dv bH
 rw[if_pos (by simp)]
 simp[zP,DF yq]
theorem zB(c l t n:Int):dv (bH c l t) kT (.int n)=bH c l n:=by
 unfold dv bH
 rw[if_pos (by simp)]
 simp[zO,yq]
theorem Af:(0:Int)+BM<2^59990:=by
 have h:BM<2^59990:=KN (by decide) (by decide)
 rw[IQ]
 exact_mod_cast h
theorem ReelOk.kv{r:Addr}(h:ReelOk n F H r):∃c l t:Int,H r=some (.dK (bH c l t))/\0<=l/\0<=t/\t+n<2^59990:=by
 obtain⟨o,e,c,l,t,rfl,q⟩:=h.ex
 exact⟨c,l,t,e,q⟩
theorem Eu.put{al:Option Addr}{n':Nat}{K:W.Frag}{r:Addr}{c l t:Int}(R:VR K ⟨al,n⟩ F₀ H₀ F H σ ρ)(e:al=some r)(h:0<=l/\0<=t/\t+n'<2^59990):VR K ⟨al,n'⟩ F₀ H₀ F (upd H r (.dK (bH c l t))) σ ρ:=by
 have fr:F r=none:=(R.reel r e).1
 have neF:∀b u,F b=some u->b≠r:=fun b u q z=>by subst z;rw[fr]at q;cases q
 have g:Grow ⟨al,n'⟩ F H F (upd H r (.dK (bH c l t))):=by
  refine⟨fun b o q n=>by rw[ak (fun z=>n (by rw[z];exact e))];exact q,.refl F,fun b o q=>by rw[ak (neF b o q)];exact R.sub b o q,fun _ _ _=>rfl,fun y z=>?_⟩
  have:y=r:=Gv (z.symm.trans e)
  subst this
  exact⟨fr,⟨_,au,c,l,t,rfl,h⟩⟩
 exact R.gr g
section
variable{X:Cx}{rl:RlT}{e:Expr}{fa:TV}{pos p p1 p2:Pos}{ρ:En}
noncomputable def CP(i:Nat):TV:=fun ρ Q=>ρ[i]?=some (some .reel)/\∀n:Int,0<=n->Q (.d (.int n))
noncomputable def CQ(i:Nat):TV:=fun ρ Q=>ρ[i]?=some (some .reel)/\∀n:Int,Q (.d (.int n))
theorem lV{x:Str}{k:Str}{j}(hr:Room 0 X.A)(hk:(H0 k:EL)=kL\/(H0 k:EL)=kT)(hN:X.N[i]?=some x:=by rfl)(hv:Eb X.env.scope x:=by first|exact HJ rfl|exact G_ (HJ rfl)|exact G_ (G_ rfl))
 (hd:(x==("__debug__" : Str))=false:=by decide)(hcd:(x==("__classdict__" : Str))=false:=by decide)(hs:sd (.Constant (.str k) j p2):=by exact fun _ _=>rfl):PV X rl (.Subscript (.Name x p1) (.Constant (.str k) j p2) pos) (CP i):=by
 refine⟨_,fG (ls hr) (dw hN hv hd hcd) dS hs,fun{F₀ H₀ F H σ ρ} R Qd Q ⟨e1,q⟩ h=>?_⟩
 obtain⟨v,s1,⟨r,er,ev⟩,_⟩:=R.sl i _ e1
 subst ev
 obtain⟨_,ok⟩:=R.reel r er
 obtain⟨c,l,t,hH,b2,b3,b4⟩:=ok.kv
 have go:∀n:Int,0<=n->eU (bH c l t) (H0 k)=some (.int n)->wC (zb i) (tC (.str k)) σ H Q:=fun n hn e=>by
  refine⟨.ref r,s1,r,.int n,rfl,?_,h _ (.d _) F H (Grow.refl R.sub R.reel) (.int n) trivial (q n hn)⟩
  have g:=vt.k (k:=(H0 k:EL)) hH
  rw[e]at g
  exact g
 rcases hk with hk|hk
 · exact go l b2 (by rw[hk];exact wr c l t)
 · exact go t b3 (by rw[hk];exact rg c l t)
theorem sM{x:Str}{j}(hr:Room 0 X.A)(hN:X.N[i]?=some x:=by rfl)(hv:Eb X.env.scope x:=by first|exact HJ rfl|exact G_ (HJ rfl)|exact G_ (G_ rfl))
 (hd:(x==("__debug__" : Str))=false:=by decide)(hcd:(x==("__classdict__" : Str))=false:=by decide)(hs:sd (.Constant (.str "cell") j p2):=by exact fun _ _=>rfl):PV X rl (.Subscript (.Name x p1) (.Constant (.str "cell") j p2) pos) (CQ i):=by
 refine⟨_,fG (ls hr) (dw hN hv hd hcd) dS hs,fun{F₀ H₀ F H σ ρ} R Qd Q ⟨e1,q⟩ h=>?_⟩
 obtain⟨v,s1,⟨r,er,ev⟩,_⟩:=R.sl i _ e1
 subst ev
 obtain⟨_,ok⟩:=R.reel r er
 obtain⟨c,l,t,hH,b2,b3,b4⟩:=ok.kv
 refine⟨.ref r,s1,r,.int c,rfl,?_,h _ (.d _) F H (Grow.refl R.sub R.reel) (.int c) trivial (q c)⟩
 have g:=vt.k (k:=kC) hH
 rw[wu]at g
 exact g
noncomputable def v8(i:Nat)(fa:TV):Eh:=fun D ρ=>fa ρ fun w=>∃n,w = .d (.int n)/\0<=n/\ρ[i]?=some (some .reel)/\D.nx ρ
theorem sA{x:Str}{k:Str}{j}(hr:Room 0 X.A)(hk:(H0 k:EL)=kL\/False)(ha:PV X rl e fa)(hN:X.N[i]?=some x:=by rfl)(hv:Eb X.env.scope x:=by first|exact HJ rfl|exact G_ (HJ rfl)|exact G_ (G_ rfl))
 (hd:(x==("__debug__" : Str))=false:=by decide)(hcd:(x==("__classdict__" : Str))=false:=by decide)(hsw:HL e (some (.Subscript (.Name x p1) (.Constant (.str k) j p2) pos')) pos.line X.env=pure false:=by rfl) :
 Ez X rl (.Assign [.Subscript (.Name x p1) (.Constant (.str k) j p2) pos'] e pos) (v8 i fa):=by
 obtain⟨t,p3,kk⟩:=ha
 refine⟨_,jp (ls hr) (dw hN hv hd hcd) dS p3 hsw,fun{F₀ H₀ F H σ ρ} R Dv D ok q=>kk R _ _ q fun v w F1 H1 g1 r1 n1 ⟨n,ew,hn,e1,q1⟩=>?_⟩
 subst ew
 have ev:=aB r1
 subst ev
 have R1:=R.grow g1
 obtain⟨v,s1,⟨r,er,ev⟩,_⟩:=R1.sl i _ e1
 subst ev
 obtain⟨_,okr⟩:=R1.reel r er
 obtain⟨c,l,t,hH,b2,b3,b4⟩:=okr.kv
 refine⟨.ref r,s1,r,_,rfl,Ao.k (k:=(H0 k:EL)) hH (ij (by show 3<=1000;decide)),?_⟩
 have go:∀l' t':Int,0<=l'->0<=t'->t'+rl.b<2^59990->dv (bH c l t) (H0 k) (.int n)=bH c l' t'->D.nx σ (upd H1 r (.dK (dv (bH c l t) (H0 k) (.int n)))):=fun l' t' x2 x3 x4 e=>by
  rw[e]
  exact ok.nx _ _ _ _ g1.fs (Eu.put (al:=rl.a) (n:=rl.b) (n':=rl.b) R1 er ⟨x2,x3,x4⟩) q1
 rcases hk with hk|hk
 · exact go n t hn b3 b4 (by rw[hk];exact zC c l t n)
 · exact hk.elim
noncomputable def D7:W->Option Unit
 | .reel=>some ()
 | _=>none
theorem cU:D7 .reel=some ():=rfl
theorem Bl:(((ρ[i]?).join).bind D7=some ())↔ρ[i]?=some (some .reel):=by
 constructor
 · intro h
   cases q:ρ[i]? with
   | none=>rw[q]at h;cases h
   | some o=>rw[q]at h;cases o with
     | none=>cases h
     | some w=>cases w<;>first|rfl|cases h
 · intro h;rw[h];rfl
theorem wO{β:Type}{k:Unit->Mo β}{Q:β->Prop}:aG (((ρ[i]?).join).bind D7) k Q↔ρ[i]?=some (some .reel)/\k () Q:=by
 rw[ag]
 exact⟨fun⟨u,a,q⟩=>⟨Bl.mp a,q⟩,fun⟨a,q⟩=>⟨(),Bl.mpr a,q⟩⟩
theorem cO(i:Nat):CP i ρ=aG (((ρ[i]?).join).bind D7) fun _=>D4 (anyM fun n:Int=>0<=n) fun n=>ret (.d (.int n)):=ae fun Q=>(Iff.intro (fun⟨a,q⟩=>wO.mpr ⟨a,fun n h=>q n h⟩) fun h=>⟨(wO.mp h).1,fun n hn=>(wO.mp h).2 n hn⟩)
theorem cP(i:Nat):CQ i ρ=aG (((ρ[i]?).join).bind D7) fun _=>D4 (anyM fun _:Int=>True) fun n=>ret (.d (.int n)):=ae fun Q=>(Iff.intro (fun⟨a,q⟩=>wO.mpr ⟨a,fun n _=>q n⟩) fun h=>⟨(wO.mp h).1,fun n=>(wO.mp h).2 n trivial⟩)
theorem bM(i:Nat):mS (v8 i fa) ρ=D4 (fa ρ) fun w=>aG (asI w) fun n=>DV (0<=n) (aG (((ρ[i]?).join).bind D7) fun _=>ret (.nx ρ)):=by
 show(D4 (fa ρ) fun w=>fun(Q:Fl->Prop)=>∃n,w = .d (.int n)/\0<=n/\ρ[i]?=some (some .reel)/\Q (.nx ρ))=_
 congr 1;funext w
 refine ae fun Q=>?_
 simp only[ag (o:=asI w),cE,DV,wO,ret]
end
theorem lj(c l t:Int):dU [] [(kC,V.int c),(kL,.int l),(kT,.int t)]=bH c l t:=by
 unfold dU bH
 simp only[JH,List.foldl_nil]
 have p0:dv ([]:List (EL×V)) kC (V.int c)=[(kC,V.int c)]:=rfl
 rw[p0]
 unfold dv
 simp[zP,zO,yq]
section
variable{X:Cx}{s1 s2:Stmt}{t1 t2:Eh}{e1 e2 e3:Expr}{f1 f2 f3:TV}{pos dpos q1 q2 q3:Pos}{j1 j2 j3:Nat}
theorem mB(hs1:Ez X RlT.no s1 t1)(hs2:Ez X RlT.no s2 t2)(h1:PV X RlT.no e1 f1)(h2:PV X RlT.no e2 f2)(h3:PV X RlT.no e3 f3) :
 ∃ T,Ey X [s1,s2,.Return (some (.Dict [some (.Constant (.str "cell") j1 q1),some (.Constant (.str "left") j2 q2),some (.Constant (.str "turn") j3 q3)] [e1,e2,e3] dpos)) pos] T /\
   ∀ {F H:Hp}{σ:St}{ρ:En},VR X.K RlT.no F H F H σ ρ->∀D:Ends,(mS (ve t1 t2) ρ fun r=>∃ρ',r = .nx ρ'/\(D4 (f1 ρ') fun w1=>D4 (f2 ρ') fun w2=>D4 (f3 ρ') fun w3=>ret (w1,w2,w3)) fun p=>∃c l t:Int,p=(.d (.int c),.d (.int l),.d (.int t))/\0<=l/\t=0) ->
     (∀r F' H',H r=none->Grow RlT.no F H F' H'->Eu (RlT.at' r BM) F' H'->D.rt (.ref r) H')->T D σ H:=by
 obtain⟨T1,p1,k1⟩:=hs1
 obtain⟨T2,p2,k2⟩:=hs2
 obtain⟨g1,pe1,ke1⟩:=h1
 obtain⟨g2,pe2,ke2⟩:=h2
 obtain⟨g3,pe3,ke3⟩:=h3
 refine⟨_,cJ p1 (cJ p2 (jn (mV (nh (cK dS pe1 (cK dS pe2 (cK dS pe3 mY))) rfl rfl (by intro z;cases z) (by show 3<=15;decide))))),fun{F H σ ρ} R D q fin=>?_⟩
 have qq:t1 ⟨fun ρ=>t2 ⟨fun ρ'=>(D4 (f1 ρ') fun w1=>D4 (f2 ρ') fun w2=>D4 (f3 ρ') fun w3=>ret (w1,w2,w3)) fun p=>∃c l t:Int,p=(.d (.int c),.d (.int l),.d (.int t))/\0<=l/\t=0,fun _=>False,fun _=>False,fun _=>False⟩ ρ,fun _=>False,fun _=>False,fun _=>False⟩ ρ:=by
  simpa[mS,ve]using q
 refine k1 R ⟨_,fun _=>False,fun _=>False,fun _=>False⟩ _ ⟨fun F1 H1 σ1 ρ1 sm1 R1 qa=>?_,fun _ _ _ _ _ _ _ z=>GC z,fun _ _ _ _ _ _ z=>GC z,fun _ _ _ _ _ _ z=>GC z⟩ qq
 refine k2 R1 ⟨_,fun _=>False,fun _=>False,fun _=>False⟩ _ ⟨fun F2 H2 σ2 ρ2 sm2 R2 qb=>?_,fun _ _ _ _ _ _ _ z=>GC z,fun _ _ _ _ _ _ z=>GC z,fun _ _ _ _ _ _ z=>GC z⟩ qa
 intro p hp
 have gp:Grow RlT.no F2 H2 F2 (upd H2 p (.dK [])):=Grow.laid R2.sub R2.reel hp
 refine ke1 (R2.grow gp) _ _ qb fun v1 w1 F3 H3 g3' r1 n1 qc=>?_
 refine ke2 ((R2.grow gp).grow g3') _ _ qc fun v2 w2 F4 H4 g4 r2 n2 qd=>?_
 refine ke3 (((R2.grow gp).grow g3').grow g4) _ _ qd fun v3 w3 F5 H5 g5 r3 n3 qe=>?_
 obtain⟨c,l,t,e,hl,ht⟩:=qe
 cases e
 have a1:=aB r1
 have a2:=aB r2
 have a3:=aB r3
 subst a1 a2 a3
 have gg:Grow RlT.no (F2) (upd H2 p (.dK [])) F5 H5:=(g3'.trans g4).trans g5
 have hp5:H5 p=some (.dK []):=gg.same p _ au (by simp)
 refine⟨hp5,[(kC,.int c),(kL,.int l),(kT,.int t)],rfl,(by show 3<=15;decide),?_⟩
 rw[lj]
 have h0:H p=none:=R2.g.freeB hp
 have f5:F5 p=none:=by rw[gg.old p _ au];exact R2.sub.free hp
 have g0:Grow RlT.no F H F5 H5:=(R2.g.trans gp).trans gg
 refine fin p F5 _ h0 ⟨fun b o eb _=>by rw[ak (aK eb h0)];exact g0.same b o eb (by simp),g0.fs,fun b o eb=>?_,g0.old,fun _ z=>by cases z⟩ (fun r er=>?_)
 · have:b≠p:=fun z=>by subst z;rw[f5]at eb;cases eb
   rw[ak this]
   exact g0.sub b o eb
 · cases er
   subst ht
   exact⟨f5,⟨_,au,c,l,0,rfl,hl,by omega,Af⟩⟩
end
noncomputable def CO(m:Nat)(i:Nat):TV:=fun ρ Q=>ρ[i]?=some (some .reel)/\∀n:Int,0<=n->n+m<2^59990->Q (.d (.int n))
section
variable{X:Cx}{al:Option Addr}{m m' c:Nat}{rest:List Stmt}{u:Eh}{e:Expr}{fa:TV}{pos p p1 p2:Pos}{ρ:En}
theorem sL{x:Str}{j}(hr:Room 0 X.A)(hN:X.N[i]?=some x:=by rfl)(hv:Eb X.env.scope x:=by first|exact HJ rfl|exact G_ (HJ rfl)|exact G_ (G_ rfl))
 (hd:(x==("__debug__" : Str))=false:=by decide)(hcd:(x==("__classdict__" : Str))=false:=by decide)(hs:sd (.Constant (.str "turn") j p2):=by exact fun _ _=>rfl):PV X ⟨al,m⟩ (.Subscript (.Name x p1) (.Constant (.str "turn") j p2) pos) (CO m i):=by
 refine⟨_,fG (ls hr) (dw hN hv hd hcd) dS hs,fun{F₀ H₀ F H σ ρ} R Qd Q ⟨e1,q⟩ h=>?_⟩
 obtain⟨v,s1,⟨r,er,ev⟩,_⟩:=R.sl i _ e1
 subst ev
 obtain⟨_,ok⟩:=R.reel r er
 obtain⟨c,l,t,hH,b2,b3,b4⟩:=ok.kv
 refine⟨.ref r,s1,r,.int t,rfl,?_,h _ (.d _) F H (Grow.refl R.sub R.reel) (.int t) trivial (q t b3 b4)⟩
 have g:=vt.k (k:=kT) hH
 rw[rg]at g
 exact g
noncomputable def wg(i ih:Nat)(u:Eh):Eh:=fun D ρ=>ρ[ih]?=some (some .reel)/\i<ρ.length/\∀n:Int,0<=n->n<2^59990->u D (ρ.set i (some (.d (.int n))))
theorem uZ(i ih:Nat){x h:Str}{j1 j2:Nat}{q1 q2 q3 q4 q5 q6 q7 q8 q9 q10 q11:Pos}(hr:Room 0 X.A)(hN:X.N.Nodup)(hne:i≠ih)(hrest:E7 X al c rest u)(hi:X.N[i]?=some x:=by rfl)(hih:X.N[ih]?=some h:=by rfl)
 (hx:Loc X.env.scope x:=by first|exact HJ rfl|exact G_ rfl)(hf:X.fn x=true\/X.env.scope.names.lookup x=some .local:=by first|exact .inl rfl|exact .inr rfl)
 (hv:Eb X.env.scope h:=by first|exact HJ rfl|exact G_ (HJ rfl)|exact G_ (G_ rfl))(hvx:Eb X.env.scope x:=by first|exact HJ rfl|exact G_ (HJ rfl)|exact G_ (G_ rfl))
 (hd:(h==("__debug__" : Str))=false:=by decide)(hcd:(h==("__classdict__" : Str))=false:=by decide)(hd':(x==("__debug__" : Str))=false:=by decide)(hcd':(x==("__classdict__" : Str))=false:=by decide)
 (hs:HL (.BinOp (.Subscript (.Name h q1) (.Constant (.str "turn") j1 q2) q3) .Add (.Constant (.int 1) j2 q4) q5) (some (.Name x q6)) q7.line X.env=pure false:=by rfl)
 (hsw:HL (.Name x q8) (some (.Subscript (.Name h q9) (.Constant (.str "turn") j1 q10) q11)) pos.line X.env=pure false:=by rfl)
 (hsl:sd (.Constant (.str "turn") j1 q2):=by exact fun _ _=>rfl) :
 E7 X al (1+c) (.Assign [.Name x q6] (.BinOp (.Subscript (.Name h q1) (.Constant (.str "turn") j1 q2) q3) .Add (.Constant (.int 1) j2 q4) q5) q7 :: .Assign [.Subscript (.Name h q9) (.Constant (.str "turn") j1 q10) q11] (.Name x q8) pos::rest) (wg i ih u):=by
 obtain⟨T,pT,kR⟩:=hrest
 have s1:∀n,Ez X ⟨al,n⟩ (.Assign [.Name x q6] (.BinOp (.Subscript (.Name h q1) (.Constant (.str "turn") j1 q2) q3) .Add (.Constant (.int 1) j2 q4) q5) q7) (oT i (CU (DZ fun i j=>.int (i+j)) (CO n ih) (vC (.int 1)))):=fun n =>
  aD i hN (v_add (sL hr hih hv hd hcd hsl) ah) hi hx hs hf
 refine⟨_,cJ (t:=fun D σ H=>∃n,Gn (s1 n) D σ H) (fun pins s σ H D I ⟨n,z⟩=>(Fw (s1 n)).1 pins s σ H D I z) (cJ (jp (ls hr) (dw hih hv hd hcd) dS (dw hi hvx hd' hcd') hsw) pT),fun{b F₀ H₀ F H σ ρ} R Dv D ok ⟨e1,hlen,q⟩=>⟨b+(1+c),?_⟩⟩
 refine(Fw (s1 (b+(1+c)))).2 R {Dv with nx:=fun ρ'=>∃n:Int,(0<=n/\n+(b+c:Nat)<2^59990)/\ρ'=ρ.set i (some (.d (.int n)))} _ ⟨fun F1 H1 σ1 ρ1 sm R1 qn=>?_,fun v w F1 H1 g r n q=>(ok.pay (by omega)).rt v w F1 H1 g r n q,fun F1 H1 σ1 ρ1 sm R1 q=>(ok.pay (b:=b+(1+c)) (by omega)).bk F1 H1 σ1 ρ1 sm R1 q,fun F1 H1 σ1 ρ1 sm R1 q=>(ok.pay (b:=b+(1+c)) (by omega)).ct F1 H1 σ1 ρ1 sm R1 q⟩ ?_
 · obtain⟨n,⟨hn,hl⟩,rfl⟩:=qn
   obtain⟨v,s1',r1,_⟩:=R1.sl i (.d (.int n)) (by rw[FT hlen])
   have ev:=aB r1
   subst ev
   obtain⟨v2,s2,⟨r,er,ev2⟩,_⟩:=R1.sl ih .reel (by rw[FP hne];exact e1)
   subst ev2
   obtain⟨_,okr⟩:=R1.reel r er
   obtain⟨cc,l,t,hH,b2,b3,b4⟩:=okr.kv
   refine⟨.int n,s1',.ref r,s2,r,_,rfl,Ao.k (k:=kT) hH (ij (by show 3<=1000;decide)),?_⟩
   rw[zB]
   exact kR (b:=b) (Eu.put (n':=b+c) R1 er ⟨b2,hn,hl⟩) Dv D (ok.on sm) (q n hn (by omega))
 · refine⟨e1,fun n h0 h1=>?_⟩
   refine⟨n,1,rfl,rfl,.int (n+1),rfl,n+1,⟨by omega,by omega⟩,rfl⟩
theorem bO(i ih:Nat):mS (wg i ih u) ρ=aG (((ρ[ih]?).join).bind D7) fun _=>DV (i<ρ.length) (D4 (anyM fun n:Int=>0<=n/\n<2^59990) fun n=>mS u (ρ.set i (some (.d (.int n))))):=ae fun Q=>(Iff.intro (fun⟨a,l,q⟩=>wO.mpr ⟨a,l,fun n hn=>q n hn.1 hn.2⟩) fun h=>⟨(wO.mp h).1,(wO.mp h).2.1,fun n h0 h1=>(wO.mp h).2.2 n ⟨h0,h1⟩⟩)
theorem uY(i:Nat){x f:Str}{ps:List Str}{k:Nat}{pre:List W->Prop}{fs:Eg}{es:List Expr}{cpos:Pos}(D:DfnR X.prog X.w X.K X.mg X.base f ps k pre)(hr:Room k X.A)(hN:X.N.Nodup)(ha:Ev X RlT.no (e::es) fs)(hrest:∀r,E7 X (some r) c rest u)(hc:c<=BM)
 (hi:X.N[i]?=some x:=by rfl)(hx:Loc X.env.scope x:=by first|exact HJ rfl|exact G_ rfl)(hg:Gl X f:=by rfl)(hdb:(f==("__debug__" : Str))=false:=by decide)
 (he:FA (e::es) X.env=(false,eval e X.env)::FA es X.env:=by rfl)(hpl:(Hf cpos (FA es X.env)).any (·.1)=false:=by rfl)
 (hs:HL (.Call (.Name f p) (e::es) [] cpos) (some (.Name x px)) pos.line X.env=pure false:=by rfl)(hf:X.fn x=true\/X.env.scope.names.lookup x=some .local:=by first|exact .inl rfl|exact .inr rfl) :
 ly X RlT.no (.Assign [.Name x px] (.Call (.Name f p) (e::es) [] cpos) pos::rest) (wa i pre fs u):=by
 obtain⟨fa,fd,hm,hk,hb,F⟩:=D.ex
 obtain⟨ta,p1,k1⟩:=ha
 refine⟨_,cJ (iC hN hi hx (gY F hr hg hm hk hb .nil pH p1 hdb he hpl) hs hf) (tT X rest),fun{F₀ H₀ F H σ ρ} R Dv D ok q=>k1 R _ _ q fun vs ws F1 H1 g1 r1 ⟨ao,pw,q1⟩=>?_⟩
 have R1:=R.grow g1
 refine⟨F1,ws,g1.sub,by rw[HM];exact r1,ao,pw,fun r F2 H2 hr2 g2 ra=>?_⟩
 intro pins s I
 obtain⟨T,pT,kT⟩:=hrest r
 have h0:H₀ r=none:=R1.g.freeB hr2
 refine pT pins s _ H2 D I (kT (b:=0) ((R1.into hr2 g2 ra i).pay (by omega)) _ D ⟨fun F3 H3 σ3 ρ3 s3 R3 q3=>?_,fun v w F3 H3 g3 r3 n3 q3=>?_,fun F3 H3 σ3 ρ3 s3 R3 q3=>?_,fun F3 H3 σ3 ρ3 s3 R3 q3=>?_⟩ q1)
 · exact ok.nx F3 H3 σ3 _ (g1.fs.trans (g2.fs.trans s3)) (R3.out h0) q3
 · exact ok.rt v w F3 H3 (kB g3 h0) (mQ r3 q3.1) n3 q3.2
 · exact ok.bk F3 H3 σ3 _ (g1.fs.trans (g2.fs.trans s3)) (R3.out h0) q3
 · exact ok.ct F3 H3 σ3 _ (g1.fs.trans (g2.fs.trans s3)) (R3.out h0) q3
end
theorem bN(n:Nat)(fl:List Nat)(fi:En->(List Fd->Prop)->Prop)(g:Ek)(t:Eh)(ρ:En):mS (yX n fl fi g t) ρ=D4 (fi ρ) fun xs=>DV (xs.length<=n) (b_ fl (D5 g t) xs (fo fl ρ)):=by
 refine ae fun Q=>?_
 show(fi ρ fun xs=>xs.length<=n/\mS (cB fl g t xs) (fo fl ρ) Q)↔_
 simp only[jv]
 exact Jo
theorem bp(n:Nat)(fi:En->(List Fd->Prop)->Prop)(fr:List (Option Nat))(g:Ek)(ft:TB)(fe:TV)(ρ:En):wf n fi fr g ft fe ρ=D4 (fi ρ) fun xs=>DV (xs.length<=n) (D4 (cz (DM (eg fr ρ) g ft fe) xs []) fun ds=>ret (.ml ds)):=by
 refine ae fun Q=>?_
 show(fi ρ fun xs=>xs.length<=n/\kU (eg fr ρ) g ft fe xs [] fun ds=>Q (.ml ds))↔_
 simp only[hR]
 exact Jo
noncomputable def fr(q:Rat):Fd:=.tuple [.int q.num,.int q.den]
noncomputable def mx(q r:Rat):Rat:=if q<r then r else q
noncomputable def mn(q r:Rat):Rat:=if q<r then q else r
theorem gA{α β:Type}(f:α->Fd)(g:β->Fd):∀(xs:List α)(ys:List β),fm (xs.map f) (ys.map g)=(xs.zip ys).map fun p=>.tuple [f p.1,g p.2]
 | [],_=>by simp[fm]
 | _::_,[]=>by simp[fm]
 | x::xs,y::ys=>by
   show FY [f x,g y]::fm (xs.map f) (ys.map g)=_
   rw[gA f g xs ys]
   rfl
noncomputable def qd(a b:Int):Rat:=(a:Rat) / (b:Rat)
noncomputable def fv(b:Int):List Int->Rat
 | []=>0
 | d::ds=>((d:Rat)+fv b ds) / (b:Rat)
noncomputable def tv(b:Int)(ds:List Int):Int:=ds.foldl (fun t d=>t*b+d) 0
noncomputable def ix(p:List Int)(f:Int):Int:=(p.idxOf f:Int)
noncomputable def Fx(b:Int)(N:Nat)(q:Rat):Prop:=∃(T:Int)(k:Nat),q=qd T (b^k)/\0<=T/\T<b^k/\b^k<2^N
theorem qX:qZ "int" = true:=by decide
theorem qY:qZ "bool" = true:=by decide
theorem eL:qZ "tuple" = true:=by decide
noncomputable def q9:Rat:=⟨999999999998,999999999999,by decide,by decide⟩
theorem iE(h:fX d "tuple" = true):∃xs,d = .tuple xs:=by cases d<;>simp[fX,C2]at h<;>exact⟨_,rfl⟩
theorem n_(xs:List Fd)(l u:Option Int):(cutD xs l u).length<=xs.length:=by
 unfold cutD
 rw[GQ,HX]
 omega
theorem GlK.int{K:W.Frag}{x:Str}{a:Int}{t:Tok}(h1:W.nsIn K GE x=some (some (.int a t))):GlK K x (.int a):=⟨.int a,.int a t,h1,⟨t,rfl⟩,fun F=>.int a⟩
noncomputable def fJ(d:Fd)(m:Int):Bool:=match d with
 | .int k=>decide (0<=k)&&decide (k<m)
 | _=>false
theorem iF(i:Int):bX (.int i)=true:=rN.mpr ⟨i,rfl⟩
theorem pY(h:bX d=false):fJ d m=false:=by
 cases d<;>first|rfl|(rw[iF]at h;cases h)
end L2.VL
namespace L2
theorem lu{prog:F0}{R:LP->Ft->Prop}{kx vx target:Expr}{it:Fm}{D:Addr}{env:Env}(I:Nat->Ft->Prop)
 (turn:∀n s,I n s->FN (Gb prog w) A (J8 it) (fun r s₁=>(r=none/\R (.ok .next) s₁)\/∃v,r=some v /\
  FN (Gb prog w) A (Hw target it v) (fun _ s₂=>FN (Gb prog w) A (Jg target env v) (fun _ s₃=>FN (Gb prog w) A (dC ifs env) (fun ok s₄ =>
   if ok=true then FN (Gb prog w) A (eval kx env) (fun x s₅=>FN (Gb prog w) A (eval vx env) (fun y s₆=>FN (Gb prog w) A (dictSet D x y) (fun _ s₇=>∃m,m<n/\I m s₇) (fun _ _=>False) s₆) (fun _ _=>False) s₅) (fun _ _=>False) s₄
   else ∃m,m<n/\I m s₄) (fun _ _=>False) s₃) (fun _ _=>False) s₂) (fun _ _=>False) s₁) (fun _ _=>False) s)
 (n:Nat)(h:I n s):HS (Gb prog w) A (.compLoop (.DictComp kx vx [⟨target,iter,ifs,0⟩] scope pos) 0 it (.ref D) env) R s:=by
 refine Ky rfl I (fun n s hI=>?_) n h
 show FN _ A ((Lo (.DictComp kx vx [⟨target,iter,ifs,0⟩] scope pos) 0 it (.ref D) env).onRaise (fun x=>do Lp x env;JI x)) _ _ s
 refine K3 ?_
 rw[compTurn_dict]
 refine Fb (HG (Fb (Gk (turn n s hI) (fun r s₁ h₁=>?_) fun _ _ h'=>h'.elim)))
 rcases h₁ with⟨rfl,h₁⟩|⟨v,rfl,h₁⟩
 · exact Fj h₁
 · refine Fb (Gk h₁ (fun _ s₂ h₂=>Fb (Gk h₂ (fun _ s₃ h₃=>Fb (Gk h₃ (fun ok s₄ h₄=>?_) fun _ _ z=>z.elim)) fun _ _ z=>z.elim)) fun _ _ z=>z.elim)
   cases ok with
   | false=>exact Fj ⟨rfl,h₄⟩
   | true=>exact Fb (Fb (Gk h₄ (fun x s₅ h₅=>Fb (HH (Gk h₅ (fun y s₆ h₆=>Fb (HG (HH (Gk h₆ (fun _ s₇ h₇=>Fj ⟨rfl,h₇⟩) fun _ _ z=>z.elim)))) fun _ _ z=>z.elim))) fun _ _ z=>z.elim))
noncomputable def mD(wi:TI)(fr:List (Option Nat))(g:CompA->TG)(tt:CompA->TT)(tk te:CompA->TE):TE:=fun σ H Q=>wi σ H fun J H1=>∀D,H1 D=none->∃Wv:Nat->Nat->List (EL×V)->St->Hp->Prop,(∃m,Wv 0 m [] (lB fr σ) (upd H1 D (.dK []))) /\
 ∀ (z:CompA) i m acc σc H,Wv i m acc σc H->(J.stop i H/\Q (.ref D) H)\/(J.go i H/\∀x H',J.yld i H x H'->g z x σc H' fun σ2 H2=>tt z σ2 H2 fun b H3 =>
   if b=true then tk z σ2 H3 fun ky H4=>te z σ2 H4 fun y H5=>∃k:EL,ky=kV k/\H5 D=some (.dK acc)/\acc.length<sizeLine/\∃m',m'<m/\Wv (i+1) m' (dv acc k y) σ2 (upd H5 D (.dK (dv acc k y)))else ∃m',m'<m/\Wv (i+1) m' acc σ2 H3)
theorem fR{kx vx:Expr}{g:TG}{tt:TT}{tk te:TE}{H3:Hp}{s3:Ft}{D:Addr}{J:It}{Q:VK}
 {cl:List (Str×Addr)}(N':List Str)(fr:List (Option Nat))(hc:X.calm=true)(hkind:scope.kind = .function)(hcell:∀y∈scope.names,y.2 = .cell->scope.names.lookup y.1=some .cell)
 (hfree:∀y∈scope.names,y.2 = .free->X.env.kindOf y.1=some .cell\/X.env.kindOf y.1=some .free)(frl:fr.length=N'.length)
 (frg:∀(i j:Nat),fr[i]?=some (some j)->∃x,N'[i]?=some x/\X.N[j]?=some x/\scope.names.lookup x=some .free/\(X.env.scope.names.lookup x=some .cell\/X.env.scope.names.lookup x=some .free))
 (cl1:∀x c,cl.lookup x=some c->X.env.cells.lookup x=some c)(cl2:∀x,(x,GM)∈scope.names->(cl.lookup x).isSome=true)
 (I3:Inv X pins σ H3 s3)(T:Turn X.prog X.w X.K tg J fp it tn)(tn3:tn 0 s3.heap)(fpD:∀b∈fp,H3 b=none)(fp3:∀b∈fp,b<s3.heap.objs.size)
 (fpk:∀b∈fp,b≠X.env.locals/\b∉X.fs/\(b∈X.ex\/X.s₀.heap.objs.size<=b)/\(∀x c,X.env.cells.lookup x=some c->c≠b)/\∀p∈X.pn++pins,p.1≠b)
 (hg:PG (aV X N' scope cl fp (X.pn++pins) s3 H3) tg g)(ht:Ex (aV X N' scope cl fp (X.pn++pins) s3 H3) ifs tt)(hk:PE (aV X N' scope cl fp (X.pn++pins) s3 H3) kx tk)(he:PE (aV X N' scope cl fp (X.pn++pins) s3 H3) vx te)
 {Wv:Nat->Nat->List (EL×V)->St->Hp->Prop}{m0:Nat}(w0:Wv 0 m0 [] (lB fr σ) H3)
 (turn:∀i m acc σc H,Wv i m acc σc H->(J.stop i H/\Q (.ref D) H)\/(J.go i H/\∀x H',J.yld i H x H'->g x σc H' fun σ2 H2=>tt σ2 H2 fun b H3 =>
  if b=true then tk σ2 H3 fun ky H4=>te σ2 H4 fun y H5=>∃k:EL,ky=kV k/\H5 D=some (.dK acc)/\acc.length<sizeLine/\∃m',m'<m/\Wv (i+1) m' (dv acc k y) σ2 (upd H5 D (.dK (dv acc k y)))else ∃m',m'<m/\Wv (i+1) m' acc σ2 H3))
 (fin:∀s5 H4 m,s5.heap.Ns s3.heap.objs.size m->(∀h',Hu s3.heap.objs.size s5.heap h'->Inv X pins σ H4 {s5 with heap:=h' })->iU X pins H4 s3.heap.objs.size->Q (.ref D) H4->Rp s3.heap.objs.size (.ok .next) s5) :
 FN (Gb X.prog X.w) X.A (Jr scope X.env.globals cl [] X.env.qual none .none (some X.env)) (fun cenv s₄ =>
  HS (Gb X.prog X.w) X.A (.compStart (.DictComp kx vx [⟨tg,iter,ifs,0⟩] scope pos) 0 (.ref it) (.ref D) {cenv with scope:=LY scope X.env})
   (Rp cenv.locals) s₄) X.xe s3:=by
 refine dF N' fr hc hkind hcell hfree frl frg cl1 cl2 I3 T tn3 fpD fp3 fpk (fun s' IY tY stat=>?_) fin
 have loop:HS (Gb X.prog X.w) X.A (.compLoop (.DictComp kx vx [⟨tg,iter,ifs,0⟩] scope pos) 0 (.ref it) (.ref D) (aV X N' scope cl fp (X.pn++pins) s3 H3).env)
  (fun r s5=>r = .ok .next/\∃σ5 H4,Inv (aV X N' scope cl fp (X.pn++pins) s3 H3) [] σ5 H4 s5/\Q (.ref D) H4) s':=by
  refine lu (fun n s'=>∃i acc σ' H',Inv (aV X N' scope cl fp (X.pn++pins) s3 H3) [] σ' H' s'/\tn i s'.heap/\(∀b∈fp,H' b=none)/\Wv i n acc σ' H') ?_ m0
   ⟨0,[],_,_,IY,tY,fpD,w0⟩
  rintro n s4 ⟨i,acc,σ4,H4,I4,st4,fr4,w4⟩
  rcases turn i n acc σ4 H4 w4 with⟨stop,qn⟩|⟨go,step⟩
  · exact C7 (T.done (aV X N' scope cl fp (X.pn++pins) s3 H3) rfl rfl rfl hc i [] s4 σ4 H4 (fun _ _=>False) I4 (stat fr4) st4 stop) fun r s5 ⟨hr,I5⟩=>.inl ⟨hr,rfl,σ4,H4,I5,qn⟩
  · refine C7 (T.item (aV X N' scope cl fp (X.pn++pins) s3 H3) rfl rfl rfl hc i [] s4 σ4 H4 (fun _ _=>False) I4 (stat fr4) st4 go) fun r s5 ⟨u,hr,h5⟩=>.inr ⟨u,hr,?_⟩
    refine C7 h5 fun _ s6 ⟨x,H6,I6,r6,y6,st6,fr6⟩=>?_
    have I6':=I6.pinned (stat fr6) (T.obj _ _ st6)
    have again:∀{σ7:St}{H7:Hp}{s7:Ft},Inv (aV X N' scope cl fp (X.pn++pins) s3 H3) ([]++eO fp s6.heap) σ7 H7 s7->∀{acc':List (EL×V)}{m':Nat},m'<n->Wv (i+1) m' acc' σ7 H7 ->
     ∃m,m<n/\∃i acc σ' H',Inv (aV X N' scope cl fp (X.pn++pins) s3 H3) [] σ' H' s7/\tn i s7.heap/\(∀b∈fp,H' b=none)/\Wv i m acc σ' H':=fun{σ7 H7 s7} I7 {acc' m'} hm w7=>by
     refine⟨m',hm,i+1,acc',σ7,H7,I7.unpinned,T.keep _ _ _ st6 fun b hb o e=>(I7.pin (b,o) (FO _ (FO _ (br hb e)))).1,fun b hb=>?_,w7⟩
     obtain⟨o,e,d⟩:=T.obj _ _ st6 b hb
     exact(I7.pin (b,o) (FO _ (FO _ (br hb e)))).2.1
    refine C7 (hg _ s6 σ4 H6 x u _ I6' r6 (step x H6 y6)) fun _ s7 ⟨σ7,H7,I7,q7⟩=>?_
    refine C7 (ht _ s7 σ7 H7 _ I7 q7) fun ok s8 ⟨H8,I8,q8⟩=>?_
    cases ok with
    | false =>
      rw[if_neg Gi]at q8 ⊢
      obtain⟨m',hm,w8⟩:=q8
      exact again I8 hm w8
    | true =>
      rw[if_pos rfl]at q8 ⊢
      refine C7 (hk _ s8 σ7 H8 _ I8 q8) fun ku s9 ⟨ky,H9,I9,rk,q9⟩=>?_
      refine C7 (he _ s9 σ7 H9 _ I9 q9) fun y s10 ⟨yv,H10,I10,r10,k,ek,eD,hl,m',hm,w10⟩=>?_
      subst ek
      obtain⟨z,hd,vs,rel,dd⟩:=uW I10.hok eD
      have hz:vs.length<=sizeLine:=by rw[<- rel.length];exact z
      have hl2:(dv acc k yv).length<=sizeLine:=by have:=cQ acc k yv;omega
      refine wpAny_dictSet_pairs (hsz:=hz) (lr rk) dd fun h' dd' hs=>?_
      have hex:∃q,h'.get? D=some q:=let ⟨q,_,_,hq,_⟩:=dd';⟨q,hq⟩
      exact again (fO I10 (by rw[eD];exact Iq) hs hex (dk_new hl2 hd (rel.put k r10) dd')) hm w10
 exact codeAny_compStart_dict loop (T.self X.A 0 _ _ _ tY loop)
section
variable{X:Cx}{kx vx tg iter:Expr}{ifs:List Expr}{scope:Scope}{pos:Pos}{wi:TI}{g:CompA->TG}{tt:CompA->TT}{tk te:CompA->TE}
theorem pE(N':List Str)(fr:List (Option Nat))(hc:X.calm=true)(hi:PI X tg iter wi)(hfr:qx fr N' X.N scope X.env.scope=true)(hsc:rA scope X.env.scope=true)
 (hg:∀y,PG (blk X N' scope y) tg (g y))(ht:∀y,Ex (blk X N' scope y) ifs (tt y))(hk:∀y,PE (blk X N' scope y) kx (tk y))(he:∀y,PE (blk X N' scope y) vx (te y))
 (hs:∀x,Gx iter X.env x=pure x:=by intro _;rfl):PE X (.DictComp kx vx [⟨tg,iter,ifs,0⟩] scope pos) (mD wi fr g tt tk te):=by
 intro pins s σ H Q I h
 obtain⟨sk,sn⟩:=FE.mp hsc
 have hkind:scope.kind = .function:=of_decide_eq_true sk
 have hall:=GH.mp sn
 have hcell:∀y∈scope.names,y.2 = .cell->scope.names.lookup y.1=some .cell:=fun y hy hl=>by
  rcases Gc.mp (FE.mp (FE.mp (hall y hy)).1).1 with z|z
  · exact absurd hl (of_decide_eq_true z)
  · exact of_decide_eq_true z
 have hnames:∀y∈scope.names,y.2 = .local->scope.names.lookup y.1=some .local:=fun y hy hl=>by
  rcases Gc.mp (FE.mp (FE.mp (hall y hy)).1).2 with z|z
  · exact absurd hl (of_decide_eq_true z)
  · exact of_decide_eq_true z
 have hfree:∀y∈scope.names,y.2 = .free->X.env.kindOf y.1=some .cell\/X.env.kindOf y.1=some .free:=fun y hy hl=>by
  rcases Gc.mp (FE.mp (hall y hy)).2 with z|z
  · exact absurd hl (of_decide_eq_true z)
  · exact(Gc.mp z).imp of_decide_eq_true of_decide_eq_true
 obtain⟨frl,frg⟩:=qx.get hfr
 obtain⟨cl,hclos,cl1,cl2⟩:=cS (env:=X.env) (scope:=scope) fun y hy hl=>I.ok.has y.1 (hfree y hy hl)
 rw[arm_eval_DictComp]
 refine Ie (use:=none) rfl hs hclos hkind hnames (C7 (hi pins s σ H _ I h) fun v s1 h1=>C7 h1 fun itv s2 h2=>?_)
 obtain⟨it,fp,tn,J,H2,e,I2,T,st2,f2,q2⟩:=h2
 subst e
 refine Go ?_
 have hD:H2 s2.heap.objs.size=none:=I2.hok.fresh (FC _)
 have I3:Inv X pins σ (upd H2 s2.heap.objs.size (.dK [])) {s2 with heap:=s2.heap.push {cls:=.type "dict", data:=.dict #[]}} :=
  I2.laid (t':=s2.toks) (fun b u e=>Fh _ e) (FC _) (ff s2.heap I2.big)
 obtain⟨Wv,⟨m0,w0⟩,turn⟩:=q2 _ hD
 have tn3:tn 0 (s2.heap.push {cls:=.type "dict", data:=.dict #[]}):=T.keep _ _ _ st2 fun b _ o e=>Fh _ e
 have fpD:∀b∈fp,(upd H2 s2.heap.objs.size (.dK [])) b=none:=fun b hb=>by
  obtain⟨o,e,_⟩:=T.obj _ _ st2 b hb
  rw[ak (Gj (Fz e))]
  exact(f2 b hb).1
 have fp3:∀b∈fp,b<(s2.heap.push {cls:=.type "dict", data:=.dict #[]}).objs.size:=fun b hb=>by
  obtain⟨o,e,_⟩:=T.obj _ _ tn3 b hb
  exact Fz e
 exact fR N' fr hc hkind hcell hfree frl frg cl1 cl2 I3 T tn3 fpD fp3 (fun b hb=>(f2 b hb).2) (hg ⟨cl,fp,X.pn++pins,_,_⟩) (ht ⟨cl,fp,X.pn++pins,_,_⟩) (hk ⟨cl,fp,X.pn++pins,_,_⟩) (he ⟨cl,fp,X.pn++pins,_,_⟩) w0 (turn ⟨cl,fp,X.pn++pins,_,_⟩)
  (Rp:=compPost (Gb X.prog X.w) X.A X.xe none (EP X pins σ Q) (.ref s2.heap.objs.size)) fun s5 H4 m hn k _ qn=>⟨m,hn,fun h' hs'=>⟨.ref _,H4,k h' hs',rfl,qn⟩⟩
theorem jo{b:Bool}{x:Str}{spos:Pos}{ix:Nat}(N':List Str)(fr:List (Option Nat))(hc:X.calm=true)(hi:PI X tg iter wi)(hfr:qx fr N' X.N scope X.env.scope=true)(hsc:rA scope X.env.scope=true)
 (hg:∀y,PG (blk X N' scope y) tg (g y))(ht:∀y,Ex (blk X N' scope y) ifs (tt y))(hk:∀y,PE (blk X N' scope y) kx (tk y))(he:∀y,PE (blk X N' scope y) vx (te y))(hN:X.N.Nodup)(hix:X.N[ix]?=some x)(hx:Loc X.env.scope x)
 (hf:X.fn x=true\/X.env.scope.names.lookup x=some .local)(hsw:HL (.DictComp kx vx [⟨tg,iter,ifs,0⟩] scope pos) (some (.Name x px)) spos.line X.env=pure b)
 (hs:∀x,Gx iter X.env x=pure x):PS X (.Assign [.Name x px] (.DictComp kx vx [⟨tg,iter,ifs,0⟩] scope pos) spos) (zq (mD wi fr g tt tk te) (qr ix)):=by
 cases b with
 | false=>exact iC hN hix hx (pE N' fr hc hi hfr hsc hg ht hk he hs) hsw hf
 | true =>
 intro pins s σ H DD I h
 obtain⟨sk,sn⟩:=FE.mp hsc
 have hkind:scope.kind = .function:=of_decide_eq_true sk
 have hall:=GH.mp sn
 have hcell:∀y∈scope.names,y.2 = .cell->scope.names.lookup y.1=some .cell:=fun y hy hl=>by
  rcases Gc.mp (FE.mp (FE.mp (hall y hy)).1).1 with z|z
  · exact absurd hl (of_decide_eq_true z)
  · exact of_decide_eq_true z
 have hnames:∀y∈scope.names,y.2 = .local->scope.names.lookup y.1=some .local:=fun y hy hl=>by
  rcases Gc.mp (FE.mp (FE.mp (hall y hy)).1).2 with z|z
  · exact absurd hl (of_decide_eq_true z)
  · exact of_decide_eq_true z
 have hfree:∀y∈scope.names,y.2 = .free->X.env.kindOf y.1=some .cell\/X.env.kindOf y.1=some .free:=fun y hy hl=>by
  rcases Gc.mp (FE.mp (hall y hy)).2 with z|z
  · exact absurd hl (of_decide_eq_true z)
  · exact(Gc.mp z).imp of_decide_eq_true of_decide_eq_true
 obtain⟨frl,frg⟩:=qx.get hfr
 obtain⟨cl,hclos,cl1,cl2⟩:=cS (env:=X.env) (scope:=scope) fun y hy hl=>I.ok.has y.1 (hfree y hy hl)
 rw[exec_Assign_Name_used _ _ _ _ hsw]
 refine Fb (HG (Fb ?_))
 show FN _ X.A (do let _ <- comprehension (.DictComp kx vx [⟨tg,iter,ifs,0⟩] scope pos) scope X.env _ newDict false (eval iter X.env) (some (Jg (.Name x px) X.env))) _ _ s
 refine Fb (Gk (Ie (use:=some (Jg (.Name x px) X.env)) (Q:=fun _ s'=>SP X pins DD .next s') rfl hs hclos hkind hnames
  (C7 (hi pins s σ H _ I h) fun v s1 h1=>C7 h1 fun itv s2 h2=>?_)) (fun _ s' hq=>Fj (Fj hq)) fun _ _ e=>e)
 obtain⟨it,fp,tn,J,H2,e,I2,T,st2,f2,q2⟩:=h2
 subst e
 refine Go ?_
 have hD:H2 s2.heap.objs.size=none:=I2.hok.fresh (FC _)
 have I3:Inv X pins σ (upd H2 s2.heap.objs.size (.dK [])) {s2 with heap:=s2.heap.push {cls:=.type "dict", data:=.dict #[]}} :=
  I2.laid (t':=s2.toks) (fun b u e=>Fh _ e) (FC _) (ff s2.heap I2.big)
 obtain⟨Wv,⟨m0,w0⟩,turn⟩:=q2 _ hD
 have tn3:tn 0 (s2.heap.push {cls:=.type "dict", data:=.dict #[]}):=T.keep _ _ _ st2 fun b _ o e=>Fh _ e
 have fpD:∀b∈fp,(upd H2 s2.heap.objs.size (.dK [])) b=none:=fun b hb=>by
  obtain⟨o,e,_⟩:=T.obj _ _ st2 b hb
  rw[ak (Gj (Fz e))]
  exact(f2 b hb).1
 have fp3:∀b∈fp,b<(s2.heap.push {cls:=.type "dict", data:=.dict #[]}).objs.size:=fun b hb=>by
  obtain⟨o,e,_⟩:=T.obj _ _ tn3 b hb
  exact Fz e
 refine fR (Q:=fun v H1=>qr ix v σ H1 DD.nx) N' fr hc hkind hcell hfree frl frg cl1 cl2 I3 T tn3 fpD fp3 (fun b hb=>(f2 b hb).2) (hg ⟨cl,fp,X.pn++pins,_,_⟩) (ht ⟨cl,fp,X.pn++pins,_,_⟩) (hk ⟨cl,fp,X.pn++pins,_,_⟩) (he ⟨cl,fp,X.pn++pins,_,_⟩) w0 (turn ⟨cl,fp,X.pn++pins,_,_⟩)
  (Rp:=compPost (Gb X.prog X.w) X.A X.xe (some (Jg (.Name x px) X.env)) (fun _ s'=>SP X pins DD .next s') (.ref s2.heap.objs.size)) fun s5 H4 m hn k fpo qn=>?_
 show FN _ X.A (Jg (.Name x px) X.env (.ref s2.heap.objs.size)) _ _ s5
 have I5:Inv X pins σ H4 s5:=k s5.heap (Kd _ _)
 obtain⟨f0,f1,f2',f3,f4,f5⟩:=fpo
 refine wpAny_assign_Name (ig I5 hN hix hx (v:=.ref s2.heap.objs.size) rfl (fun s6 I6 sb=>?_) hf)
 obtain⟨a,sb,ha⟩:=sb
 have hne:(s2.heap.push {cls:=.type "dict", data:=.dict #[]}).objs.size≠a:=by
  rcases ha with rfl|ha
  · exact f1
  · exact fun z=>f4 x a ha z.symm
 refine⟨m,hn.at' fun o e=>sb.extBut _ o hne e,fun h' hs'=>?_⟩
 exact⟨_,H4,I6.turned (t':=s6.toks) (fun b o hb e=>hs'.extBut b o hb e) f0 f1 f3 f4 f5,qn⟩
end
section
variable{prog:F0}{w:GD}{A:GN}{E:Fm->Ft->Prop}
end
section
variable{X:Cx}
end
end L2
theorem L2.Room.un1{k:Nat}{A:PySem.Around}(r:L2.Room k A):A.units+1<PySem.cLine:=by have:=r.un;omega
namespace L2.VL
noncomputable def lA(kvs:List (EL×Fd))(k:EL):Option Fd:=(kvs.find? fun kv=>decide (kv.1=k)).map (·.2)
noncomputable def putF(kvs:List (EL×Fd))(k:EL)(x:Fd):List (EL×Fd) :=
 if(kvs.any fun kv=>decide (kv.1=k))=true then kvs.map (fun kv=>if kv.1=k then(kv.1,x)else kv)else kvs++[(k,x)]
section
variable{K:W.Frag}{F:Hp}{us:List (EL×V)}{kvs:List (EL×Fd)}
theorem EN.val(r:EN K F us kvs)(k:EL):(eU us k=none/\lA kvs k=none)\/∃v d,eU us k=some v/\lA kvs k=some d/\Rep K F v d:=by
 induction r with
 | nil=>exact .inl ⟨rfl,rfl⟩
 | @cons p q ps qs h t ih =>
   unfold eU lA at *
   rw[GL,GL,h.1]
   by_cases e:q.1=k
   · simp only[e,decide_true]
     exact .inr ⟨p.2,q.2,rfl,rfl,h.2⟩
   · simp only[e,decide_false]
     exact ih
theorem EN.any(r:EN K F us kvs)(k:EL):(us.any fun kv=>decide (kv.1=k))=kvs.any fun kv=>decide (kv.1=k):=by
 induction r with
 | nil=>rfl
 | cons h t ih=>rw[JB,JB,ih,h.1]
theorem EN.keys(r:EN K F us kvs):us.map (·.1)=kvs.map (·.1):=by
 induction r with
 | nil=>rfl
 | cons h t ih=>rw[FV,FV,ih,h.1]
theorem EN.repl(r:EN K F us kvs)(k:EL)(rv:Rep K F v d):EN K F (us.map fun kv=>if kv.1=k then(kv.1,v)else kv) (kvs.map fun kv=>if kv.1=k then(kv.1,d)else kv):=by
 induction r with
 | nil=>exact .nil
 | @cons p q ps qs h t ih =>
   refine .cons ?_ ih
   show(if p.1=k then(p.1,v)else p).1=(if q.1=k then(q.1,d)else q).1/\Rep K F (if p.1=k then(p.1,v)else p).2 (if q.1=k then(q.1,d)else q).2
   by_cases e:q.1=k
   · have e':p.1=k:=h.1.trans e
     rw[if_pos e,if_pos e']
     exact⟨h.1,rv⟩
   · have e':¬p.1=k:=fun z=>e (h.1.symm.trans z)
     rw[if_neg e,if_neg e']
     exact h
theorem EN.snoc(r:EN K F us kvs)(k:EL)(rv:Rep K F v d):EN K F (us++[(k,v)]) (kvs++[(k,d)]):=by
 induction r with
 | nil=>exact .cons ⟨rfl,rv⟩ .nil
 | cons h t ih=>exact .cons h ih
theorem EN.put(r:EN K F us kvs)(k:EL)(rv:Rep K F v d):EN K F (dv us k v) (putF kvs k d):=by
 unfold dv putF
 rw[r.any k]
 split
 · exact r.repl k rv
 · exact r.snoc k rv
theorem EN.mono{F':Hp}(s:bC F F')(r:EN K F us kvs):EN K F' us kvs:=G6.mapP r fun _ _ z=>⟨z.1,z.2.mono s⟩
end
noncomputable def iX:W->Option EL
 | .d (.int i)=>some (.inl i)
 | .d (.str x)=>some (.inr x)
 | _=>none
theorem keyW_i(i:Int):iX (.d (.int i))=some (.inl i):=rfl
theorem keyW_s(x:Str):iX (.d (.str x))=some (.inr x):=rfl
theorem eY{K:W.Frag}{w:W}{k:EL}(e:iX w=some k)(r:cZ K rl F H v w):v=kV k:=by
 unfold iX at e
 split at e
 · cases e;exact aB r
 · cases e;exact fE r
 · cases e
noncomputable def qT(ρ0:En)(g:Ek)(ft:TB)(fk fe:TV):List Fd->List (EL×Fd)->(List (EL×Fd)->Prop)->Prop
 | [],acc,Q=>Q acc
 | x::xs,acc,Q=>g x ρ0 fun ρ2=>Le ρ0 ρ2/\ft ρ2 fun b=>if b=true then fk ρ2 fun wk=>∃k,iX wk=some k/\fe ρ2 fun w=>∃d,w.fz = .d d/\acc.length<sizeLine/\qT ρ0 g ft fk fe xs (putF acc k d) Q else qT ρ0 g ft fk fe xs acc Q
section
variable{X:Cx}{rl:RlT}{kx vx tg iter:Expr}{ifs:List Expr}{scope:Scope}{pos:Pos}{fi:En->(List Fd->Prop)->Prop}{g:Ek}{ft:TB}{fk fe:TV}
end
noncomputable def DN(ρ0:En)(g:Ek)(ft:TB)(fk fe:TV)(x:Fd):Mo (Option (EL×Fd)):=D4 (g x ρ0) fun ρ2=>DV (Le ρ0 ρ2) (D4 (ft ρ2) fun b=>if b=true then D4 (fk ρ2) fun wk=>aG (iX wk) fun k=>D4 (fe ρ2) fun w=>aG (asD w.fz) fun d=>ret (some (k,d))else ret none)
noncomputable def d8(b:Fd->Mo (Option (EL×Fd))):List Fd->List (EL×Fd)->Mo (List (EL×Fd))
 | [],acc=>ret acc
 | x::xs,acc=>D4 (b x) fun o=>match o with
   | some d=>DV (acc.length<sizeLine) (d8 b xs (putF acc d.1 d.2))
   | none=>d8 b xs acc
theorem kG(ρ0:En)(g:Ek)(ft:TB)(fk fe:TV):∀(xs:List Fd)(acc:List (EL×Fd)),qT ρ0 g ft fk fe xs acc=d8 (DN ρ0 g ft fk fe) xs acc
 | [],acc=>rfl
 | x::xs,acc=>by
   refine ae fun Q=>?_
   show(g x ρ0 fun ρ2=>Le ρ0 ρ2/\ft ρ2 fun b=>if b=true then fk ρ2 fun wk=>∃k,iX wk=some k/\fe ρ2 fun w=>∃d,w.fz = .d d/\acc.length<sizeLine/\qT ρ0 g ft fk fe xs (putF acc k d) Q else qT ρ0 g ft fk fe xs acc Q)↔(D4 (DN ρ0 g ft fk fe x) _) Q
   simp only[kG ρ0 g ft fk fe xs]
   have:∀(ρ2:En)(b:Bool),(if b=true then fk ρ2 fun wk=>∃k,iX wk=some k/\fe ρ2 fun w=>∃d,w.fz = .d d/\acc.length<sizeLine/\d8 (DN ρ0 g ft fk fe) xs (putF acc k d) Q else d8 (DN ρ0 g ft fk fe) xs acc Q)=(D4 (if b=true then D4 (fk ρ2) fun wk=>aG (iX wk) fun k=>D4 (fe ρ2) fun w=>aG (asD w.fz) fun d=>ret (some (k,d))else ret none) fun o=>match o with
   | some d=>DV (acc.length<sizeLine) (d8 (DN ρ0 g ft fk fe) xs (putF acc d.1 d.2))
   | none=>d8 (DN ρ0 g ft fk fe) xs acc) Q:=by
     intro ρ2 b
     cases b with
     | false=>rfl
     | true =>
       rw[if_pos rfl,if_pos rfl]
       show _=fk ρ2 fun wk=>_
       congr 1
       funext wk
       refine propext ?_
       show _↔(D4 (aG (iX wk) fun k=>D4 (fe ρ2) fun w=>aG (asD w.fz) fun d=>ret (some (k,d))) _) Q
       rw[bnd_opt,ag]
       have e2:∀(k:EL),(fe ρ2 fun w=>∃d,w.fz = .d d/\acc.length<sizeLine/\d8 (DN ρ0 g ft fk fe) xs (putF acc k d) Q)=(D4 (D4 (fe ρ2) fun w=>aG (asD w.fz) fun d=>ret (some (k,d))) fun o=>match o with
        | some d=>DV (acc.length<sizeLine) (d8 (DN ρ0 g ft fk fe) xs (putF acc d.1 d.2))
        | none=>d8 (DN ρ0 g ft fk fe) xs acc) Q:=fun k=>by
        show _=fe ρ2 fun w=>_
        congr 1
        funext w
        refine propext ?_
        show _↔(D4 (aG (asD w.fz) fun d=>ret (some (k,d))) _) Q
        rw[bnd_opt,ag]
        simp only[fU]
        exact Jo
       simp only[e2]
   simp only[this]
   exact Jo
theorem pf(kvs:List (EL×Fd))(k:EL)(x:Fd):(putF kvs k x).length<=kvs.length+1:=by
 unfold putF;split<;>simp
section
variable{α:Type}{b:Fd->Mo (Option (EL×Fd))}
theorem iM{enc:α->Fd}(f:α->EL×Fd):∀(xs:List α)(acc:List (EL×Fd)),(∀x∈xs,b (enc x)=ret (some (f x)))->acc.length+xs.length<=sizeLine->d8 b (xs.map enc) acc=ret ((xs.map f).foldl (fun a p=>putF a p.1 p.2) acc)
 | [],acc,_,_=>rfl
 | x::xs,acc,h,hl=>by
   show D4 (b (enc x)) _=_
   rw[h x FB,bnd_ret]
   show DV (acc.length<sizeLine) (d8 b (xs.map enc) (putF acc (f x).1 (f x).2))=_
   simp only[Hm]at hl
   have:=pf acc (f x).1 (f x).2
   rw[af (by omega),iM f xs _ (fun y hy=>h y (Fv _ hy)) (by omega)]
   rfl
theorem uV{β:Type}{Q:β->Prop}{k:List (EL×Fd)->Mo β}{xs:List α}{enc:α->Fd}(f:α->EL×Fd)(hx:xs'=xs.map enc)(h:∀x∈xs,b (enc x)=ret (some (f x)))(hl:xs.length<=sizeLine)
 (fin:k ((xs.map f).foldl (fun a p=>putF a p.1 p.2) []) Q):D4 (d8 b xs' []) k Q:=by
 subst hx
 rw[iM f xs [] h (by simpa using hl)]
 exact fin
end
section
variable{X:Cx}{rl:RlT}{a c e o i:Expr}{es:List Expr}{fa fb:TV}{fs:Eg}{pos p kpos:Pos}{ρ:En}
end
end L2.VL
namespace L2
end L2
namespace L2.VL
section
variable{X:Cx}{rl:RlT}{tg:Expr}{fa:TV}{ρ:En}
end
end L2.VL
namespace L2
variable{X:Cx}
end L2
namespace L2.VL
section
variable{X:Cx}{rl:RlT}{a e:Expr}{es:List Expr}{fs:Eg}{pos:Pos}
end
theorem Dfn.never{K:W.Frag}{mg:Str->Option Fm}{base:Heap}{x:Str}{st:Stmt}{ps:List Str}{k:Nat}{Pd:List W->(Fd->Prop)->Prop}(Fn:FnIn K mg x st ps)(no:∀ws Q,Pd ws Q->False:=by exact fun _ _ z=>z):Dfn P w K mg base rl x ps k Pd:=by
 obtain⟨f,fd,hm,F,hb⟩:=Fn.ex
 exact⟨fun ws Q Q' _ z=>(no ws Q z).elim,f,fd,hm,F.kp,hb,⟨fun vs H Q E ⟨_,ws,_,_,_,_,z⟩=>(no ws _ z).elim,fun A outer s H args us vs Q E _ _ _ _ ⟨_,ws,_,_,_,_,z⟩=>(no ws _ z).elim⟩⟩
end L2.VL
namespace L2
section
variable{X:Cx}
theorem fL{its:List Fm}(r:cw (ns.map V.int) its){v:Fm}(e:its[i]?=some v):∃t,v = .int (ns.getD i 0) t:=by
 have hl:=r.length
 rw[Fq]at hl
 have hi:i<ns.length:=by have:=(FK.mp e).1;omega
 have hb:(ns.map V.int)[i]?=some (.int ns[i]):=by simp[hi]
 obtain⟨u,hu,ru⟩:=r.get hb
 rw[e]at hu
 cases hu
 have:ns.getD i 0=ns[i]:=by simp[LU,hi]
 rw[this]
 exact ru
theorem preSum_eq(ns:List Int):preSum (fun i=>ns.getD i 0) ns.length=ns.sum:=by
 have key:∀k,k<=ns.length->preSum (fun i=>ns.getD i 0) k=(ns.take k).sum:=by
  intro k
  induction k with
  | zero=>intro _;rfl
  | succ k ih =>
    intro hk
    have hk':k<ns.length:=by omega
    show preSum _ k+ns.getD k 0=_
    rw[ih (by omega),Je hk',KB]
    simp[LU,hk']
 rw[key _ (FC _),GO (FC _)]
theorem ot(hc:X.calm=true):d_ X (.builtin "sum") (fun xs H Q=>∃(p:Addr)(ns:List Int),xs=[.ref p]/\Eo X.K H p (ns.map V.int)/\Q (.int ns.sum) H):=by
 intro pins s σ H xs us Q I r ⟨p,ns,ex,hq,q⟩
 subst ex
 obtain⟨u,rfl,ru⟩:=vals1 r
 cases ru
 obtain⟨its,rv,pl,hz⟩:=I.list hq
 have hl:=rv.length
 rw[Fq]at hl
 refine call_sum_walkG (Jj pl.isList ?_)
 have ne:p≠s.heap.objs.size:=by obtain⟨o,ho,_⟩:=pl.isList;exact Gj (Fz ho)
 refine⟨s.heap.objs.size,_,_,_,_,_,fun i=>ns.getD i 0,rfl,Walks.list (A:=X.A.in1) (I.ok.hd hc) s.heap.objs.size p ne its.toArray,⟨⟨_,FF _ rfl,rfl,rfl⟩,pl.isList.push _⟩,?_,?_,?_⟩
 · intro b hb
   have hb:b=s.heap.objs.size\/b=p:=by simpa using hb
   show b<(Heap.push _ _).objs.size
   rw[Gs]
   rcases hb with rfl|rfl
   · exact Kl _
   · obtain⟨o,ho,_⟩:=pl.isList;exact IE (Fz ho)
 · intro i v hP
   exact fL rv (by simpa using hP)
 · intro h' tk t' k
   have e:preSum (fun i=>ns.getD i 0) its.toArray.size=ns.sum:=by rw[FS,<- hl];exact preSum_eq ns
   rw[e]
   exact⟨.int _,H,I.kept (t':=tk) fun b o eb=>k b o (by simp;exact Gj (Fz eb)) (Fh _ eb),⟨t',rfl⟩,q⟩
end
end L2
namespace L2.VL
section
variable{X:Cx}{rl:RlT}{a:Expr}{fs:Eg}{pos p:Pos}
noncomputable def zY:List W->(W->Prop)->Prop:=fun ws Q=>∃(w:W)(ns:List Int),ws=[w]/\w.dat=some (.list (ns.map .int))/\Q (.d (.int ns.sum))
theorem vP:eK X rl (fun xs H Q=>∃(p:Addr)(ns:List Int),xs=[.ref p]/\Eo X.K H p (ns.map V.int)/\Q (.int ns.sum) H) zY:=fun{F H vs ws} Qd Q s ra r ⟨w,ns,ew,ed,q⟩ k=>by
 subst ew
 obtain⟨v,rfl,r1⟩:=mR r
 obtain⟨a,us,rfl,sq,rs⟩:=r1.items s ed
 have e:=gU rs
 subst e
 exact⟨a,ns,rfl,sq,k _ (.d _) _ _ (Grow.refl s ra) (.int _) trivial q⟩
theorem v_sum(hm:X.mg "sum" = none)(ha:Ev X rl [a] fs)(hc:X.calm=true:=by rfl)(hg:Gl X "sum" := by rfl)(he:FA [a] X.env=(false,eval a X.env)::FA [] X.env:=by rfl)(hpl:(Hf pos (FA [] X.env)).any (·.1)=false:=by rfl) :
 PV X rl (.Call (.Name "sum" p) [a] [] pos) (dB zY fs):=cI (ot hc) vP hm (by rfl) ha hg (by decide) (by decide) he hpl
noncomputable def uI:Fd->Option (List Int)
 | .list xs=>hG xs
 | _=>none
theorem yr:uI d=some ns↔d = .list (ns.map .int):=by
 constructor
 · intro h
   cases d with
   | list xs=>rw[hE h]
   | _=>cases h
 · rintro rfl;exact b9 _
theorem m_gSum(w:W):zY [w]=aG (w.dat.bind uI) fun ns=>ret (.d (.int ns.sum)):=by
 refine ae fun Q=>?_
 rw[ag]
 constructor
 · rintro⟨w',ns,e,ed,q⟩
   cases e
   exact⟨ns,by rw[ed];exact b9 ns,q⟩
 · rintro⟨ns,e,q⟩
   cases ed:w.dat with
   | none=>rw[ed]at e;cases e
   | some d =>
     rw[ed]at e
     exact⟨w,ns,rfl,by rw[ed,yr.mp e],q⟩
theorem intsO_l(ns:List Int):uI (.list (ns.map .int))=some ns:=b9 ns
noncomputable def E9:=Ff @m_gSum (@intsO_l)
end
section
variable{X:Cx}{rl:RlT}{ei e:Expr}{fx fv:TV}{pos p1 pos':Pos}{ρ:En}
end
section
variable{X:Cx}{al:Option Addr}{c1 c2:Nat}{ei e:Expr}{fx fv:TV}{pos p1 pos':Pos}{ρ:En}
end
section
variable{X:Cx}{rl:RlT}{iter:Expr}{scope:Scope}{fi:En->(List Fd->Prop)->Prop}{xk xl xh f:Str}{ps:List Str}{k:Nat}{Pd:List W->(Fd->Prop)->Prop}{pk p1 p2 p3 p4 p5 p6 p7 p8 p9 p10 ap pc rp:Pos}
end
section
variable{X:Cx}{al:Option Addr}{c1 c2:Nat}{iter:Expr}{scope:Scope}{fi:En->(List Fd->Prop)->Prop}{xk xl xh f:Str}{ps:List Str}{k:Nat}{Pd:List W->(Fd->Prop)->Prop}{pk p1 p2 p3 p4 p5 p6 p7 p8 p9 p10 ap pc rp:Pos}
end
section
variable{X:Cx}{rl:RlT}{e:Expr}{fa:TV}{pos dpos q1 q2 q3 q4 q5 q6 q7 q8:Pos}{ρ:En}{j1 j2 j3 j4 j5 j6 j7 j8:Nat}{a1 a2 a3 a4 x1 x2 x3 x4:Int}
noncomputable def lZ(ps:List (Int×Int))(fa:TV):TV:=fun ρ Q=>fa ρ fun w=>∃k,w = .d (.int k)/\∃v,ps.lookup k=some v/\Q (.d (.int v))
theorem lT(ps:List (Int×Int))(k:Int):eU (ps.map fun p=>((Gw p.1:EL),V.int p.2)) (Gw k)=(ps.lookup k).map V.int:=by
 induction ps with
 | nil=>rfl
 | cons p ps ih =>
   unfold eU at ih ⊢
   rw[FV,GL,GJ]
   by_cases h:p.1=k
   · simp[h]
   · have h1:(k==p.1)=false:=by simpa using fun z=>h z.symm
     have h2:decide ((Gw p.1:EL)=Gw k)=false:=by simpa using h
     rw[h1]
     simp only[h2,Iu,if_false]
     exact ih
theorem sN(hr:Room 0 X.A)(hd:a1≠a2/\a1≠a3/\a1≠a4/\a2≠a3/\a2≠a4/\a3≠a4)(h:PV X rl e fa)(hs:sd e:=by exact fun _ _=>rfl) :
 PV X rl (.Subscript (.Dict [some (.Constant (.int a1) j1 q1),some (.Constant (.int a2) j2 q2),some (.Constant (.int a3) j3 q3),some (.Constant (.int a4) j4 q4)] [.Constant (.int x1) j5 q5,.Constant (.int x2) j6 q6,.Constant (.int x3) j7 q7,.Constant (.int x4) j8 q8] dpos) e pos) (lZ [(a1,x1),(a2,x2),(a3,x3),(a4,x4)] fa):=by
 obtain⟨t,p,k⟩:=h
 obtain⟨d12,d13,d14,d23,d24,d34⟩:=hd
 refine⟨_,fG (ls hr) (nh (cK dz dz (cK dz dz (cK dz dz (cK dz dz mY)))) rfl rfl (by intro z;cases z) (by show 4<=15;decide)) p hs,fun{F₀ H₀ F H σ ρ} R Qd Q q h=>?_⟩
 intro d hd
 refine⟨au,[(Gw a1,.int x1),(Gw a2,.int x2),(Gw a3,.int x3),(Gw a4,.int x4)],rfl,(by show 4<=15;decide),?_⟩
 have em:dU [] [((Gw a1:EL),V.int x1),(Gw a2,.int x2),(Gw a3,.int x3),(Gw a4,.int x4)]=[(Gw a1,.int x1),(Gw a2,.int x2),(Gw a3,.int x3),(Gw a4,.int x4)]:=by
  unfold dU
  simp only[JH,List.foldl_nil]
  have p0:dv ([]:List (EL×V)) (Gw a1) (V.int x1)=[(Gw a1,V.int x1)]:=rfl
  rw[p0]
  unfold dv
  simp[d12,d13,d14,d23,d24,d34]
 rw[em,sV]
 have g0:Grow rl F H F (upd H d (.dK [(Gw a1,.int x1),(Gw a2,.int x2),(Gw a3,.int x3),(Gw a4,.int x4)])):=Grow.laid R.sub R.reel hd
 refine k (R.grow g0) _ _ q fun v w F1 H1 g1 r1 n1 ⟨kk,ew,vv,lk,q1⟩=>?_
 subst ew
 have ev:=aB r1
 subst ev
 have rd:rl.a≠some d:=fun z=>by obtain⟨o,zz⟩:=R.reel.live z;rw[hd]at zz;cases zz
 have hD:H1 d=some (.dK [(Gw a1,.int x1),(Gw a2,.int x2),(Gw a3,.int x3),(Gw a4,.int x4)]):=g1.same d _ au rd
 have gd:=vt.k (k:=(Gw kk:EL)) hD
 have:eU [((Gw a1:EL),V.int x1),(Gw a2,.int x2),(Gw a3,.int x3),(Gw a4,.int x4)] (Gw kk)=some (.int vv):=by
  have z:=lT [(a1,x1),(a2,x2),(a3,x3),(a4,x4)] kk
  rw[lk]at z
  exact z
 rw[this]at gd
 exact⟨d,.int vv,rfl,gd,h _ (.d (.int vv)) _ _ (g0.trans g1) (.int vv) trivial q1⟩
theorem gZ(ps:List (Int×Int)):lZ ps fa ρ=D4 (fa ρ) fun w=>aG (asI w) fun k=>aG (ps.lookup k) fun v=>ret (.d (.int v)):=by
 refine ae fun Q=>?_
 simp only[lZ,D4,ag,cE,ret]
end
end L2.VL
namespace L2.TI
section
variable{prog:F0}{w:GD}{A:GN}{E:Fm->Ft->Prop}{s:Ft}{t:Addr}{vs:List Fm}{ns:List Int}{k:Int}{tok:Tok}{j:Nat}
theorem fL:∀{vs:List Fm}{ns:List Int}{i:Nat}{n:Int},K1 vs ns->ns[i]?=some n->∃u,vs[i]?=some (.int n u)
 | _,_,_,_,.nil,e=>by simp at e
 | _,_,0,_,.cons n t r,e=>by simp at e;subst e;exact⟨t,rfl⟩
 | _,_,i+1,_,.cons n t r,e=>by
   obtain⟨u,h⟩:=fL (i:=i) r (by simpa using e)
   exact⟨u,by simpa using h⟩
theorem scan{Q:Option Fin×Unit->Ft->Prop}(hI:K1 vs ns)(hj:ns[j]?=some k)(hno:∀m,m<j->ns[m]?≠some k)(q:Q (some (.done (.ret (.int j s.toks))),()) {s with toks:=s.toks+1}) :
 ∀ len start:Nat,start<=j->j<start+len->FN (Gb prog w) A (forIn (List.range' start len) ((none,()):Option Fin×Unit) fun(i:Nat)(_:Option Fin×Unit) =>
   match vs.toArray[i]? with
   | some y=>do
     let b <- eqBool y (JD k tok)
     if b=true then do
      let r <- retInt (i:Int)
      pure (ForInStep.done (some r,()))
     else pure (Iz (none,()))
   | _=>pure (Iz (none,()))) Q E s
 | 0,start,h1,h2=>by omega
 | len+1,start,h1,h2=>by
   rw[List.range'_succ,Hz]
   have hl:start<ns.length:=by have:=(FK.mp hj).1;omega
   obtain⟨u,hu⟩:=fL (i:=start) (n:=ns[start]) hI (Fp hl)
   have hv:vs.toArray[start]?=some (.int ns[start] u):=by simpa using hu
   refine Fb ?_
   rw[hv]
   refine Fb (wpAny_eqBool_int ?_)
   by_cases e:ns[start]=k
   · have es:start=j:=by
       rcases Nat.lt_or_eq_of_le h1 with z|z
       · exact absurd (by rw[Fp hl,e]) (hno start z)
       · exact z
     subst es
     rw[if_pos (by simpa using e)]
     exact Fb (Fb (LV (Fj (Fj (Fj q)))))
   · rw[if_neg (by simpa using e)]
     refine Fj ?_
     have ne:start≠j:=fun z=>by subst z;rw[Fp hl]at hj;exact e (Gv hj)
     exact scan hI hj hno q len (start+1) (by omega) (by omega)
theorem body{R:LP->Ft->Prop}(tp:Lg s.heap t vs.toArray)(hI:K1 vs ns)(hj:ns[j]?=some k)(hno:∀m,m<j->ns[m]?≠some k)
 (q:R (.ok (.ret (.int j s.toks))) {s with toks:=s.toks+1}) :
 FN (Gb prog w) A.in1 (Builtin.«tuple.index» ⟨[.ref t,.int k tok],[]⟩) (fun fin s'=>match fin with | .done f=>R (.ok f) s' | .again c'=>c'.quiet=true/\HS (Gb prog w) A c' R s') (fun e s'=>R (.error e) s') s:=by
 unfold Builtin.«tuple.index»
 show FN _ _ (do let z <- HW (.ref t);_) _ _ s
 refine Fb (IZ tp ?_)
 refine Fb (Fj (Fb (Fj ?_)))
 dsimp only
 rw[Std.Legacy.Range.forIn_eq_forIn_range']
 have hl:j<vs.toArray.size:=by
  have h1:=(FK.mp hj).1
  have h2:=hI.length
  simp only[FS]
  omega
 refine Fb (scan hI hj hno ?_ _ 0 (GW _) ?_)
 · exact Fj q
 · show j<0+Std.Legacy.Range.size _
   simp[Std.Legacy.Range.size]
   simpa using hl
end
end L2.TI
namespace L2
section
variable{X:Cx}
end
end L2
namespace L2.VL
section
variable{X:Cx}{rl:RlT}{a b c o e:Expr}{es:List Expr}{fa fb:TV}{fs:Eg}{pos p apos cpos:Pos}{ρ:En}
end
end L2.VL
namespace L2.RT
section
variable{prog:F0}{w:GD}{A:GN}{E:Fm->Ft->Prop}{s:Ft}
end
end L2.RT
namespace L2
section
variable{X:Cx}{tg e:Expr}{ta te:TE}{p p2 pos:Pos}
end
end L2
namespace L2.VL
section
variable{X:Cx}{rl:RlT}{a b c e tg:Expr}{es:List Expr}{fa fb fc:TV}{fs:Eg}{pos pos2 p p2 q:Pos}
end
end L2.VL
namespace L2
open L2.ZP
section
variable{X:Cx}{e1 e2:Expr}{elts:List Expr}{kt:Nat}{pt p pos:Pos}{ta:TA}
end
end L2
namespace L2.VL
section
variable{X:Cx}{rl:RlT}{a b:Expr}{elts:List Expr}{kt:Nat}{pt p pos:Pos}{fs:Eg}
end
end L2.VL
namespace L2
abbrev DK(elt t1 i1:Expr)(f1:List Expr)(t2 i2:Expr)(f2:List Expr)(scope:Scope)(pos:Pos):Expr:=.ListComp elt [⟨t1,i1,f1,0⟩,⟨t2,i2,f2,0⟩] scope pos
theorem sX(elt t1 i1:Expr)(f1:List Expr)(t2 i2:Expr)(f2:List Expr)(scope:Scope)(pos:Pos)(it acc:Fm)(env:Env) :
 Lo (DK elt t1 i1 f1 t2 i2 f2 scope pos) 0 it acc env=(Ls i1.pos >>= fun _=>J8 it >>= fun r=>match r with
  | none=>pure (.done .next)
  | some v=>Hw t1 it v >>= fun _=>Jg t1 env v >>= fun _=>dC f1 env >>= fun ok=>(if ok=true then
      (eval i2 env >>= fun x=>Ls i2.pos >>= fun _=>Gx i2 env x >>= fun x=>holding [x] (LN x) >>= fun y=>runOwn (.compStart (DK elt t1 i1 f1 t2 i2 f2 scope pos) 1 y acc env) env >>= fun _=>again (.compLoop (DK elt t1 i1 f1 t2 i2 f2 scope pos) 0 it acc env))
      else again (.compLoop (DK elt t1 i1 f1 t2 i2 f2 scope pos) 0 it acc env))):=by rfl
theorem sW(elt t1 i1:Expr)(f1:List Expr)(t2 i2:Expr)(f2:List Expr)(scope:Scope)(pos:Pos)(it acc:Fm)(env:Env) :
 Lo (DK elt t1 i1 f1 t2 i2 f2 scope pos) 1 it acc env=(Ls i2.pos >>= fun _=>J8 it >>= fun r=>match r with
  | none=>pure (.done .next)
  | some v=>Hw t2 it v >>= fun _=>Jg t2 env v >>= fun _=>dC f2 env >>= fun ok=>(if ok=true then
      ((eval elt env >>= fun x=>call (.builtin "list.append") [acc,x] >>= fun _=>pure ()) >>= fun _=>again (.compLoop (DK elt t1 i1 f1 t2 i2 f2 scope pos) 1 it acc env))
      else again (.compLoop (DK elt t1 i1 f1 t2 i2 f2 scope pos) 1 it acc env))):=by rfl
section
variable{prog:F0}{w:GD}{A:GN}{R:LP->Ft->Prop}{s:Ft}{elt t1 i1 t2 i2:Expr}{f1 f2:List Expr}{scope:Scope}{pos:Pos}{it acc:Fm}{env:Env}
theorem uw(I:Nat->Ft->Prop)(hs:∀x,Gx i2 env x=pure x)
 (turn:∀n s,I n s->FN (Gb prog w) A (J8 it) (fun r s₁=>(r=none/\R (.ok .next) s₁)\/∃v,r=some v /\
  FN (Gb prog w) A (Hw t1 it v) (fun _ s₂=>FN (Gb prog w) A (Jg t1 env v) (fun _ s₃=>FN (Gb prog w) A (dC f1 env) (fun ok s₄ =>
   if ok=true then FN (Gb prog w) A (eval i2 env) (fun x s₅=>FN (Gb prog w) A (LN x) (fun y s₆=>HS (Gb prog w) A (.compStart (DK elt t1 i1 f1 t2 i2 f2 scope pos) 1 y acc env) (fun r s₇=>r = .ok .next/\∃m,m<n/\I m s₇) s₆) (fun _ _=>False) s₅) (fun _ _=>False) s₄
   else ∃m,m<n/\I m s₄) (fun _ _=>False) s₃) (fun _ _=>False) s₂) (fun _ _=>False) s₁) (fun _ _=>False) s)
 (n:Nat)(h:I n s):HS (Gb prog w) A (.compLoop (DK elt t1 i1 f1 t2 i2 f2 scope pos) 0 it acc env) R s:=by
 refine Ky rfl I (fun n s hI=>?_) n h
 show FN _ A ((Lo (DK elt t1 i1 f1 t2 i2 f2 scope pos) 0 it acc env).onRaise (fun x=>do Lp x env;JI x)) _ _ s
 refine K3 ?_
 rw[sX]
 refine Fb (HG (Fb (Gk (turn n s hI) (fun r s₁ h₁=>?_) fun _ _ h'=>h'.elim)))
 rcases h₁ with⟨rfl,h₁⟩|⟨v,rfl,h₁⟩
 · exact Fj h₁
 · refine Fb (Gk h₁ (fun _ s₂ h₂=>Fb (Gk h₂ (fun _ s₃ h₃=>Fb (Gk h₃ (fun ok s₄ h₄=>?_) fun _ _ z=>z.elim)) fun _ _ z=>z.elim)) fun _ _ z=>z.elim)
   cases ok with
   | false=>exact Fj ⟨rfl,h₄⟩
   | true =>
     refine Fb (Gk h₄ (fun x s₅ h₅=>Fb (HG (Fb (K5 (hs x) (Fb (HH (Gk h₅ (fun y s₆ h₆=>?_) fun _ _ z=>z.elim))))))) fun _ _ z=>z.elim)
     refine Fb (wpAny_runOwn (JT h₆ fun r s₇ ⟨hr,h₇⟩=>?_))
     subst hr
     exact Fj ⟨rfl,h₇⟩
theorem uv(I:Nat->Ft->Prop)
 (turn:∀n s,I n s->FN (Gb prog w) A (J8 it) (fun r s₁=>(r=none/\R (.ok .next) s₁)\/∃v,r=some v /\
  FN (Gb prog w) A (Hw t2 it v) (fun _ s₂=>FN (Gb prog w) A (Jg t2 env v) (fun _ s₃=>FN (Gb prog w) A (dC f2 env) (fun ok s₄ =>
   if ok=true then FN (Gb prog w) A (eval elt env) (fun x s₅=>FN (Gb prog w) A (call (.builtin "list.append") [acc,x]) (fun _ s₆=>∃m,m<n/\I m s₆) (fun _ _=>False) s₅) (fun _ _=>False) s₄
   else ∃m,m<n/\I m s₄) (fun _ _=>False) s₃) (fun _ _=>False) s₂) (fun _ _=>False) s₁) (fun _ _=>False) s)
 (n:Nat)(h:I n s):HS (Gb prog w) A (.compLoop (DK elt t1 i1 f1 t2 i2 f2 scope pos) 1 it acc env) R s:=by
 refine Ky rfl I (fun n s hI=>?_) n h
 show FN _ A ((Lo (DK elt t1 i1 f1 t2 i2 f2 scope pos) 1 it acc env).onRaise (fun x=>do Lp x env;JI x)) _ _ s
 refine K3 ?_
 rw[sW]
 refine Fb (HG (Fb (Gk (turn n s hI) (fun r s₁ h₁=>?_) fun _ _ h'=>h'.elim)))
 rcases h₁ with⟨rfl,h₁⟩|⟨v,rfl,h₁⟩
 · exact Fj h₁
 · refine Fb (Gk h₁ (fun _ s₂ h₂=>Fb (Gk h₂ (fun _ s₃ h₃=>Fb (Gk h₃ (fun ok s₄ h₄=>?_) fun _ _ z=>z.elim)) fun _ _ z=>z.elim)) fun _ _ z=>z.elim)
   cases ok with
   | false=>exact Fj ⟨rfl,h₄⟩
   | true=>exact Fb (Fb (Gk h₄ (fun x s₅ h₅=>Fb (Gk h₅ (fun _ s₆ h₆=>Fj (Fj ⟨rfl,h₆⟩)) fun _ _ z=>z.elim)) fun _ _ z=>z.elim))
theorem o6
 (h0:HS (Gb prog w) A (.compLoop (DK elt t1 i1 f1 t2 i2 f2 scope pos) 1 it acc env) R s)
 (h:FN (Gb prog w) A (LN it) (fun it' s'=>HS (Gb prog w) A (.compLoop (DK elt t1 i1 f1 t2 i2 f2 scope pos) 1 it' acc env) R s') (notedBy (Gb prog w) A env fun x s'=>R (.error x) s') s) :
 HS (Gb prog w) A (.compStart (DK elt t1 i1 f1 t2 i2 f2 scope pos) 1 it acc env) R s:=by
 refine codeAny_of_tree ?_
 show FN _ _ ((compStart (DK elt t1 i1 f1 t2 i2 f2 scope pos) 1 it acc env).onRaise (fun x=>do Lp x env;Ls theWindowsPlace)) _ _ s
 refine wpAny_notedAt ?_
 unfold compStart
 show FN _ _ (ask >>= _) _ _ s
 refine Fb (wpAny_askSetting (wpAny_ite ?_))
 split
 · first
     | exact Fb (Fj (Fj (Ff rfl h0)))
     | exact Fj (Ff rfl h0)
 · first
     | exact Fb (Ia (Fb (HG (Fb (Gk h (fun it' s' h'=>Fj (Ff rfl h')) fun _ _ x=>x)))))
     | (refine Fb (Ia ?_);show FN _ _ (Ls i2.pos >>= _) _ _ s;exact Fb (HG (Fb (Gk h (fun it' s' h'=>Fj (Ff rfl h')) fun _ _ x=>x))))
end
noncomputable def Dd(wi:TI)(g:TG)(tt:TT)(te:TE)(D:Addr)(acc:List V)(σ:St)(H:Hp)(R:List V->St->Hp->Prop):Prop:=wi σ H fun J H1=>∃Wv:Nat->Nat->List V->St->Hp->Prop,(∃m,Wv 0 m acc σ H1) /\
 ∀ i m acc σc H,Wv i m acc σc H->(J.stop i H/\R acc σc H)\/(J.go i H/\∀x H',J.yld i H x H'->g x σc H' fun σ2 H2=>tt σ2 H2 fun b H3 =>
   if b=true then te σ2 H3 fun y H4=>H4 D=some (.lst acc)/\acc.length<sizeLine/\∃m',m'<m/\Wv (i+1) m' (acc++[y]) σ2 (upd H4 D (.lst (acc++[y])))else ∃m',m'<m/\Wv (i+1) m' acc σ2 H3)
section
variable{Y:Cx}{elt t1 i1 t2 i2:Expr}{f1 f2:List Expr}{scope:Scope}{pos:Pos}{wi:TI}{g:TG}{tt:TT}{te:TE}{D:Addr}
theorem xW(hc:Y.calm=true)(hx:Y.xe=fun _ _=>False)(hi:PI Y t2 i2 wi)(hg:PG Y t2 g)(ht:Ex Y f2 tt)(he:PE Y elt te){acc:List V}{R:List V->St->Hp->Prop}{Rp:Ft->Prop}
 (I:Inv Y pins σ H s)(q:Dd wi g tt te D acc σ H R)(fin:∀acc σ5 H5 s5,Inv Y pins σ5 H5 s5->R acc σ5 H5->Rp s5) :
 FN (Gb Y.prog Y.w) Y.A (eval i2 Y.env) (fun x s₅=>FN (Gb Y.prog Y.w) Y.A (LN x) (fun y s₆=>HS (Gb Y.prog Y.w) Y.A (.compStart (DK elt t1 i1 f1 t2 i2 f2 scope pos) 1 y (.ref D) Y.env) (fun r s₇=>r = .ok .next/\Rp s₇) s₆) (fun _ _=>False) s₅) (fun _ _=>False) s:=by
 have hi':=hi pins s σ H _ I q
 rw[hx]at hi'
 refine C7 hi' fun v s1 h1=>C7 h1 fun itv s2 h2=>?_
 obtain⟨it,fp,tn,J,H2,e,I2,T,st2,f2',Wv,⟨m0,w0⟩,turn⟩:=h2
 subst e
 have stat:∀{H':Hp},(∀b∈fp,H' b=none)->∀b∈fp,iU Y pins H' b:=fun hn b hb=>⟨hn b hb,(f2' b hb).2⟩
 have loop:HS (Gb Y.prog Y.w) Y.A (.compLoop (DK elt t1 i1 f1 t2 i2 f2 scope pos) 1 (.ref it) (.ref D) Y.env) (fun r s₇=>r = .ok .next/\Rp s₇) s2:=by
  refine uv (fun n s'=>∃i acc σ' H',Inv Y pins σ' H' s'/\tn i s'.heap/\(∀b∈fp,H' b=none)/\Wv i n acc σ' H') ?_ m0 ⟨0,acc,σ,H2,I2,st2,fun b hb=>(f2' b hb).1,w0⟩
  rintro n s4 ⟨i,acc,σ4,H4,I4,st4,fr4,w4⟩
  rcases turn i n acc σ4 H4 w4 with⟨stop,qn⟩|⟨go,step⟩
  · exact C7 (T.done Y rfl rfl rfl hc i pins s4 σ4 H4 (fun _ _=>False) I4 (stat fr4) st4 stop) fun r s5 ⟨hr,I5⟩=>.inl ⟨hr,rfl,fin acc σ4 H4 s5 I5 qn⟩
  · refine C7 (T.item Y rfl rfl rfl hc i pins s4 σ4 H4 (fun _ _=>False) I4 (stat fr4) st4 go) fun r s5 ⟨u,hr,h5⟩=>.inr ⟨u,hr,?_⟩
    refine C7 h5 fun _ s6 ⟨x,H6,I6,r6,y6,st6,fr6⟩=>?_
    have I6':=I6.pinned (stat fr6) (T.obj _ _ st6)
    have again:∀{σ7:St}{H7:Hp}{s7:Ft},Inv Y (pins++eO fp s6.heap) σ7 H7 s7->∀{acc':List V}{m':Nat},m'<n->Wv (i+1) m' acc' σ7 H7 ->
     ∃m,m<n/\∃i acc σ' H',Inv Y pins σ' H' s7/\tn i s7.heap/\(∀b∈fp,H' b=none)/\Wv i m acc σ' H':=fun{σ7 H7 s7} I7 {acc' m'} hm w7=>by
     refine⟨m',hm,i+1,acc',σ7,H7,I7.unpinned,T.keep _ _ _ st6 fun b hb o e=>(I7.pin (b,o) (FO _ (FO _ (br hb e)))).1,fun b hb=>?_,w7⟩
     obtain⟨o,e,d⟩:=T.obj _ _ st6 b hb
     exact(I7.pin (b,o) (FO _ (FO _ (br hb e)))).2.1
    have h7:=hg _ s6 σ4 H6 x u _ I6' r6 (step x H6 y6)
    rw[hx]at h7
    refine C7 h7 fun _ s7 ⟨σ7,H7,I7,q7⟩=>?_
    have h8:=ht _ s7 σ7 H7 _ I7 q7
    rw[hx]at h8
    refine C7 h8 fun ok s8 ⟨H8,I8,q8⟩=>?_
    cases ok with
    | false =>
      rw[if_neg Gi]at q8 ⊢
      obtain⟨m',hm,w8⟩:=q8
      exact again I8 hm w8
    | true =>
      rw[if_pos rfl]at q8 ⊢
      have h9:=he _ s8 σ7 H8 _ I8 q8
      rw[hx]at h9
      refine C7 h9 fun y s9 ⟨yv,H9,I9,r9,eD,hl,m',hm,w9⟩=>?_
      have h10:=fH (X:=Y) _ s9 σ7 H9 (.ref D) [yv] (.ref D) [y] (fun _ H'=>H'=upd H9 D (.lst (acc++[yv]))) I9 rfl (.cons r9 .nil) ⟨D,acc,yv,rfl,rfl,eD,hl,rfl⟩
      rw[hx]at h10
      exact C7 h10 fun _ s10 ⟨_,H10,I10,_,e10⟩=>by subst e10;exact again I10 hm w9
 exact o6 loop (T.self Y.A 0 _ _ _ st2 loop)
end
noncomputable def rh(wi:TI)(fr:List (Option Nat))(g:CompA->TG)(tt:CompA->TT)(wj:CompA->TI)(g2:CompA->TG)(tt2:CompA->TT)(te:CompA->TE):TE:=fun σ H Q=>wi σ H fun J H1=>∀D,H1 D=none->∃Wv:Nat->Nat->List V->St->Hp->Prop,(∃m,Wv 0 m [] (lB fr σ) (upd H1 D (.lst []))) /\
 ∀ (z:CompA) i m acc σc H,Wv i m acc σc H->(J.stop i H/\Q (.ref D) H)\/(J.go i H/\∀x H',J.yld i H x H'->g z x σc H' fun σ2 H2=>tt z σ2 H2 fun b H3 =>
   if b=true then Dd (wj z) (g2 z) (tt2 z) (te z) D acc σ2 H3 fun acc' σ5 H5=>∃m',m'<m/\Wv (i+1) m' acc' σ5 H5 else ∃m',m'<m/\Wv (i+1) m' acc σ2 H3)
section
variable{Y:Cx}{elt t1 i1 t2 i2:Expr}{f1 f2:List Expr}{scope:Scope}{pos:Pos}{wj:TI}{g g2:TG}{tt tt2:TT}{te:TE}{D:Addr}
theorem xF(hc:Y.calm=true)(hx:Y.xe=fun _ _=>False)(hg:PG Y t1 g)(ht:Ex Y f1 tt)(hj:PI Y t2 i2 wj)(hg2:PG Y t2 g2)(ht2:Ex Y f2 tt2)(he:PE Y elt te)(hs:∀x,Gx i2 Y.env x=pure x)
 {J:It}{Q:VK}(T:Turn Y.prog Y.w Y.K t1 J fp it tn)(I:Inv Y [] σ H s)(st0:tn 0 s.heap)(fp0:∀b∈fp,H b=none)(stat:∀{H':Hp},(∀b∈fp,H' b=none)->∀b∈fp,iU Y [] H' b)
 {Wv:Nat->Nat->List V->St->Hp->Prop}{m0:Nat}(w0:Wv 0 m0 [] σ H)
 (turn:∀i m acc σc H,Wv i m acc σc H->(J.stop i H/\Q (.ref D) H)\/(J.go i H/\∀x H',J.yld i H x H'->g x σc H' fun σ2 H2=>tt σ2 H2 fun b H3 =>
  if b=true then Dd wj g2 tt2 te D acc σ2 H3 fun acc' σ5 H5=>∃m',m'<m/\Wv (i+1) m' acc' σ5 H5 else ∃m',m'<m/\Wv (i+1) m' acc σ2 H3)) :
 HS (Gb Y.prog Y.w) Y.A (.compStart (DK elt t1 i1 f1 t2 i2 f2 scope pos) 0 (.ref it) (.ref D) Y.env) (fun r s5=>r = .ok .next/\∃σ5 H4,Inv Y [] σ5 H4 s5/\Q (.ref D) H4) s:=by
 have loop:HS (Gb Y.prog Y.w) Y.A (.compLoop (DK elt t1 i1 f1 t2 i2 f2 scope pos) 0 (.ref it) (.ref D) Y.env) (fun r s5=>r = .ok .next/\∃σ5 H4,Inv Y [] σ5 H4 s5/\Q (.ref D) H4) s:=by
  refine uw (fun n s'=>∃i acc σ' H',Inv Y [] σ' H' s'/\tn i s'.heap/\(∀b∈fp,H' b=none)/\Wv i n acc σ' H') hs ?_ m0 ⟨0,[],_,_,I,st0,fp0,w0⟩
  rintro n s4 ⟨i,acc,σ4,H4,I4,st4,fr4,w4⟩
  rcases turn i n acc σ4 H4 w4 with⟨stop,qn⟩|⟨go,step⟩
  · exact C7 (T.done Y rfl rfl rfl hc i [] s4 σ4 H4 (fun _ _=>False) I4 (stat fr4) st4 stop) fun r s5 ⟨hr,I5⟩=>.inl ⟨hr,rfl,σ4,H4,I5,qn⟩
  · refine C7 (T.item Y rfl rfl rfl hc i [] s4 σ4 H4 (fun _ _=>False) I4 (stat fr4) st4 go) fun r s5 ⟨u,hr,h5⟩=>.inr ⟨u,hr,?_⟩
    refine C7 h5 fun _ s6 ⟨x,H6,I6,r6,y6,st6,fr6⟩=>?_
    have I6':=I6.pinned (stat fr6) (T.obj _ _ st6)
    have again:∀{σ7:St}{H7:Hp}{s7:Ft},Inv Y ([]++eO fp s6.heap) σ7 H7 s7->∀{acc':List V}{m':Nat},m'<n->Wv (i+1) m' acc' σ7 H7 ->
     ∃m,m<n/\∃i acc σ' H',Inv Y [] σ' H' s7/\tn i s7.heap/\(∀b∈fp,H' b=none)/\Wv i m acc σ' H':=fun{σ7 H7 s7} I7 {acc' m'} hm w7=>by
     refine⟨m',hm,i+1,acc',σ7,H7,I7.unpinned,T.keep _ _ _ st6 fun b hb o e=>(I7.pin (b,o) (FO _ (FO _ (br hb e)))).1,fun b hb=>?_,w7⟩
     obtain⟨o,e,d⟩:=T.obj _ _ st6 b hb
     exact(I7.pin (b,o) (FO _ (FO _ (br hb e)))).2.1
    have h7:=hg _ s6 σ4 H6 x u _ I6' r6 (step x H6 y6)
    rw[hx]at h7
    refine C7 h7 fun _ s7 ⟨σ7,H7,I7,q7⟩=>?_
    have h8:=ht _ s7 σ7 H7 _ I7 q7
    rw[hx]at h8
    refine C7 h8 fun ok s8 ⟨H8,I8,q8⟩=>?_
    cases ok with
    | false =>
      rw[if_neg Gi]at q8 ⊢
      obtain⟨m',hm,w8⟩:=q8
      exact again I8 hm w8
    | true =>
      rw[if_pos rfl]at q8 ⊢
      exact xW hc hx hj hg2 ht2 he I8 q8 fun acc' σ9 H9 s9 I9 ⟨m',hm,w9⟩=>again I9 hm w9
 exact Ks loop (T.self Y.A 0 _ _ _ st0 loop)
end
section
variable{X:Cx}{elt t1 i1 t2 i2:Expr}{f1 f2:List Expr}{scope:Scope}{pos:Pos}{wi:TI}{wj:CompA->TI}{g g2:CompA->TG}{tt tt2:CompA->TT}{te:CompA->TE}
theorem rA.get{scope scX:Scope}(hsc:rA scope scX=true):scope.kind = .function/\(∀y∈scope.names,y.2 = .cell->scope.names.lookup y.1=some .cell)/\(∀y∈scope.names,y.2 = .local->scope.names.lookup y.1=some .local) /\
 ∀y∈scope.names,y.2 = .free->scX.names.lookup y.1=some .cell\/scX.names.lookup y.1=some .free:=by
 obtain⟨sk,sn⟩:=FE.mp hsc
 have hall:=GH.mp sn
 refine⟨of_decide_eq_true sk,fun y hy hl=>?_,fun y hy hl=>?_,fun y hy hl=>?_⟩
 · rcases Gc.mp (FE.mp (FE.mp (hall y hy)).1).1 with z|z
   · exact absurd hl (of_decide_eq_true z)
   · exact of_decide_eq_true z
 · rcases Gc.mp (FE.mp (FE.mp (hall y hy)).1).2 with z|z
   · exact absurd hl (of_decide_eq_true z)
   · exact of_decide_eq_true z
 · rcases Gc.mp (FE.mp (hall y hy)).2 with z|z
   · exact absurd hl (of_decide_eq_true z)
   · exact(Gc.mp z).imp of_decide_eq_true of_decide_eq_true
theorem ng(N':List Str)(fr:List (Option Nat))(hc:X.calm=true)(hi:PI X t1 i1 wi)(hfr:qx fr N' X.N scope X.env.scope=true)(hsc:rA scope X.env.scope=true)
 (hg:∀y,PG (blk X N' scope y) t1 (g y))(ht:∀y,Ex (blk X N' scope y) f1 (tt y))(hj:∀y,PI (blk X N' scope y) t2 i2 (wj y))(hg2:∀y,PG (blk X N' scope y) t2 (g2 y))(ht2:∀y,Ex (blk X N' scope y) f2 (tt2 y))(he:∀y,PE (blk X N' scope y) elt (te y))
 (hs:∀x,Gx i1 X.env x=pure x:=by intro _;rfl)(hs2:∀y x,Gx i2 (blk X N' scope y).env x=pure x:=by intro _ _;rfl):PE X (DK elt t1 i1 f1 t2 i2 f2 scope pos) (rh wi fr g tt wj g2 tt2 te):=by
 intro pins s σ H Q I h
 obtain⟨hkind,hcell,hnames,hfree⟩:=rA.get hsc
 obtain⟨frl,frg⟩:=qx.get hfr
 obtain⟨cl,hclos,cl1,cl2⟩:=cS (env:=X.env) (scope:=scope) fun y hy hl=>I.ok.has y.1 (hfree y hy hl)
 rw[eval_ListComp]
 refine Ie (use:=none) rfl hs hclos hkind hnames (C7 (hi pins s σ H _ I h) fun v s1 h1=>C7 h1 fun itv s2 h2=>?_)
 obtain⟨it,fp,tn,J,H2,e,I2,T,st2,f2,q2⟩:=h2
 subst e
 refine Go ?_
 have hD:H2 s2.heap.objs.size=none:=I2.hok.fresh (FC _)
 have I3:Inv X pins σ (upd H2 s2.heap.objs.size (.lst [])) {s2 with heap:=s2.heap.push {cls:=.type "list", data:=.seq ([]:List Fm).toArray}} :=
  I2.laid (t':=s2.toks) (fun b u e=>Fh _ e) (FC _) ⟨by show 0<=sizeLine;exact GW _,[],0,.nil,FF _ rfl⟩
 obtain⟨Wv,⟨m0,w0⟩,turn⟩:=q2 _ hD
 have tn3:tn 0 (s2.heap.push {cls:=.type "list", data:=.seq ([]:List Fm).toArray}):=T.keep _ _ _ st2 fun b _ o e=>Fh _ e
 have fpD:∀b∈fp,(upd H2 s2.heap.objs.size (.lst [])) b=none:=fun b hb=>by
  obtain⟨o,e,_⟩:=T.obj _ _ st2 b hb
  rw[ak (Gj (Fz e))]
  exact(f2 b hb).1
 have fp3:∀b∈fp,b<(s2.heap.push {cls:=.type "list", data:=.seq ([]:List Fm).toArray}).objs.size:=fun b hb=>by
  obtain⟨o,e,_⟩:=T.obj _ _ tn3 b hb
  exact Fz e
 exact dF N' fr hc hkind hcell hfree frl frg cl1 cl2 I3 T tn3 fpD fp3 (fun b hb=>(f2 b hb).2)
  (fun s' IY tY stat=>xF (Y:=blk X N' scope ⟨cl,fp,X.pn++pins,_,_⟩) hc rfl (hg ⟨cl,fp,X.pn++pins,_,_⟩) (ht ⟨cl,fp,X.pn++pins,_,_⟩) (hj ⟨cl,fp,X.pn++pins,_,_⟩) (hg2 ⟨cl,fp,X.pn++pins,_,_⟩) (ht2 ⟨cl,fp,X.pn++pins,_,_⟩) (he ⟨cl,fp,X.pn++pins,_,_⟩) (hs2 ⟨cl,fp,X.pn++pins,_,_⟩) T IY tY fpD stat w0 (turn ⟨cl,fp,X.pn++pins,_,_⟩))
  (Rp:=compPost (Gb X.prog X.w) X.A X.xe none (EP X pins σ Q) (.ref s2.heap.objs.size)) fun s5 H4 m hn k _ qn=>⟨m,hn,fun h' hs'=>⟨.ref _,H4,k h' hs',rfl,qn⟩⟩
end
end L2
namespace L2.VL
noncomputable def oU(ρ0:En)(g:Ek)(ft:TB)(fj:En->(List Fd->Prop)->Prop)(g2:Ek)(ft2:TB)(fe:TV):List Fd->List Fd->(List Fd->Prop)->Prop
 | [],acc,Q=>Q acc
 | x::xs,acc,Q=>g x ρ0 fun ρ2=>Le ρ0 ρ2/\ft ρ2 fun b=>if b=true then fj ρ2 fun ys=>kU ρ2 g2 ft2 fe ys acc fun acc'=>oU ρ0 g ft fj g2 ft2 fe xs acc' Q else oU ρ0 g ft fj g2 ft2 fe xs acc Q
noncomputable def mh(fi:En->(List Fd->Prop)->Prop)(fr:List (Option Nat))(g:Ek)(ft:TB)(fj:En->(List Fd->Prop)->Prop)(g2:Ek)(ft2:TB)(fe:TV):TV:=fun ρ Q=>fi ρ fun xs=>oU (eg fr ρ) g ft fj g2 ft2 fe xs [] fun ds=>Q (.ml ds)
section
variable{X:Cx}{rl:RlT}{elt t1 i1 t2 i2:Expr}{f1 f2:List Expr}{scope:Scope}{pos:Pos}{fi fj:En->(List Fd->Prop)->Prop}{g g2:Ek}{ft ft2:TB}{fe:TV}
theorem pR{N':List Str}{wi:TI}(fr:List (Option Nat))(k0:∀{F₀ H₀ F H:Hp}{σ:St}{ρ:En},VR X.K rl F₀ H₀ F H σ ρ->∀(Qd:List Fd->Prop)(R:It->Hp->Prop),fi ρ Qd ->
 (∀J xs F' H',Grow rl F H F' H'->VIt X.K rl F' J xs->Qd xs->R J H')->wi σ H R)
 (hg:∀y,EF (blk X N' scope y) rl t1 g)(ht:∀y,qK (blk X N' scope y) rl f1 ft)(hj:∀y,EC (blk X N' scope y) rl t2 i2 fj)(hg2:∀y,EF (blk X N' scope y) rl t2 g2)(ht2:∀y,qK (blk X N' scope y) rl f2 ft2)(he:∀y,PV (blk X N' scope y) rl elt fe)
 (R:VR X.K rl F₀ H₀ F H σ ρ)(Qd:W->Prop)(Q:VK)(q:mh fi fr g ft fj g2 ft2 fe ρ Qd)
 (k:∀v w F' H',Grow rl F H F' H'->cZ X.K rl F' H' v w->dH H v w->Qd w->Q v H') :
 rh wi fr (fun y=>Gn (hg y)) (fun y=>Gn (ht y)) (fun y=>Gn (hj y)) (fun y=>Gn (hg2 y)) (fun y=>Gn (ht2 y)) (fun y=>Gn (he y)) σ H Q:=by
 refine k0 R _ _ q fun J xs F1 H1 g1 vi q1=>?_
 intro D hD
 have rD:rl.a≠some D:=fun e=>by obtain⟨o,z⟩:=g1.reel.live e;rw[hD]at z;cases z
 have FD:F1 D=none:=g1.sub.free hD
 have gD:Grow rl F1 H1 F1 (upd H1 D (.lst [])):=Grow.laid g1.sub g1.reel hD
 have R1:=R.grow g1
 have n0:lE (eg fr ρ):=eG
 have keepD:∀{acc:List V}{Fc Hc Fx Hx:Hp},Hc D=some (.lst acc)->Fc D=none->Grow rl Fc Hc Fx Hx->Hx D=some (.lst acc)/\Fx D=none:=fun hDc fDc gx=>⟨gx.same D _ hDc rD,by rw[gx.old D _ hDc];exact fDc⟩
 refine⟨fun i m acc σc Hc=>m=xs.length-i/\i<=xs.length/\∃Fc ds,VR X.K rl F1 H1 Fc Hc σc (eg fr ρ)/\Hc D=some (.lst acc)/\Fc D=none/\Reps X.K Fc acc ds/\oU (eg fr ρ) g ft fj g2 ft2 fe (xs.drop i) ds (fun ds=>Qd (.ml ds)),
  ⟨xs.length,by simp,GW _,F1,[],gB R1 gD,au,FD,.nil,by simpa using q1⟩,?_⟩
 rintro z i m acc σc Hc ⟨rfl,hi,Fc,ds,Rc,hDc,fDc,rs,q2⟩
 have sH:bC F1 Hc:=Rc.g.fs.trans Rc.sub
 by_cases hlt:i<xs.length
 · have ei:xs[i]?=some xs[i]:=by simp[hlt]
   have ed:xs.drop i=xs[i]::xs.drop (i+1):=Ha hlt
   rw[ed]at q2
   refine .inr ⟨vi.go i Hc _ ei sH,fun v H' y=>?_⟩
   obtain⟨Fy,gy,rv⟩:=vi.yld i Hc v H' _ Fc ei Rc.g.fs Rc.sub Rc.reel y
   refine(Fw (hg z)).2 (Rc.grow gy) v _ _ _ rv q2 fun F3 H3 σ3 ρ3 g3 n3 R3 ⟨le3,q3⟩=>?_
   refine(Fw (ht z)).2 R3 _ _ q3 fun b F4 H4 g4 q4=>?_
   have R4:=R3.grow g4
   have g34:=(gy.trans g3).trans g4
   have nm3:lE ρ3:=n3 n0
   cases b with
   | false=>exact⟨xs.length-(i+1),by omega,rfl,hlt,F4,ds,R4.le le3,(keepD hDc fDc g34).1,(keepD hDc fDc g34).2,rs.mono g34.fs,q4⟩
   | true =>
     refine(Fw (hj z)).2 R4 _ _ q4 fun J2 ys F5 H5 g5 vi2 q5=>?_
     have g35:=g34.trans g5
     refine⟨fun j m acc σe He=>m=ys.length-j/\j<=ys.length/\∃Fe es,VR X.K rl F1 H1 Fe He σe ρ3/\bC F5 Fe/\He D=some (.lst acc)/\Fe D=none/\Reps X.K Fe acc es /\
      kU ρ3 g2 ft2 fe (ys.drop j) es (fun es=>oU (eg fr ρ) g ft fj g2 ft2 fe (xs.drop (i+1)) es (fun ds=>Qd (.ml ds))),
      ⟨ys.length,by simp,GW _,F5,ds,R4.grow g5,.refl _,(keepD hDc fDc g35).1,(keepD hDc fDc g35).2,rs.mono g35.fs,by simpa using q5⟩,?_⟩
     rintro j m acc2 σe He ⟨rfl,hj',Fe,es,Re,s5,hDe,fDe,res,q6⟩
     have sHe:bC F5 He:=s5.trans Re.sub
     by_cases hlt2:j<ys.length
     · have ej:ys[j]?=some ys[j]:=by simp[hlt2]
       have edj:ys.drop j=ys[j]::ys.drop (j+1):=Ha hlt2
       rw[edj]at q6
       refine .inr ⟨vi2.go j He _ ej sHe,fun v2 H2' y2=>?_⟩
       obtain⟨Fy2,gy2,rv2⟩:=vi2.yld j He v2 H2' _ Fe ej s5 Re.sub Re.reel y2
       refine(Fw (hg2 z)).2 (Re.grow gy2) v2 _ _ _ rv2 q6 fun F7 H7 σ7 ρ7 g7 n7 R7 ⟨le7,q7⟩=>?_
       refine(Fw (ht2 z)).2 R7 _ _ q7 fun b2 F8 H8 g8 q8=>?_
       have R8:=R7.grow g8
       have g78:=(gy2.trans g7).trans g8
       cases b2 with
       | false=>exact⟨ys.length-(j+1),by omega,rfl,hlt2,F8,es,R8.le le7,s5.trans g78.fs,(keepD hDe fDe g78).1,(keepD hDe fDe g78).2,res.mono g78.fs,q8⟩
       | true =>
         refine(Fw (he z)).2 R8 _ _ q8 fun v9 w9 F9 H9 g9 r9 n9 ⟨d,ed9,hl,q9⟩=>?_
         obtain⟨F10,g10,s10,r10⟩:=cZ.fz g9 r9 n9
         rw[ed9]at r10
         have g710:=g78.trans g10
         refine⟨(keepD hDe fDe g710).1,by rw[res.length];exact hl,ys.length-(j+1),by omega,rfl,hlt2,F10,es++[d],((R8.grow g10).le le7).other nm3 hD (keepD hDe fDe g710).2 rD,s5.trans g710.fs,au,(keepD hDe fDe g710).2,(res.mono g710.fs).snoc r10,q9⟩
     · have e:j=ys.length:=by omega
       subst e
       rw[IK]at q6
       exact .inl ⟨vi2.stop _ He (FC _) sHe,xs.length-(i+1),by omega,rfl,hlt,Fe,es,Re.le le3,hDe,fDe,res,q6⟩
 · have e:i=xs.length:=by omega
   subst e
   rw[IK]at q2
   refine .inl ⟨vi.stop _ Hc (FC _) sH,k _ (.ml ds) Fc Hc (g1.trans Rc.g) ⟨D,acc,rfl,fDc,rD,hDc,rs⟩ (fun a ea=>by cases ea;exact g1.freeB hD) q2⟩
theorem jR(N':List Str)(fr:List (Option Nat))(hc:X.calm=true)(hi:EC X rl t1 i1 fi)
 (hg:∀y,EF (blk X N' scope y) rl t1 g)(ht:∀y,qK (blk X N' scope y) rl f1 ft)(hj:∀y,EC (blk X N' scope y) rl t2 i2 fj)(hg2:∀y,EF (blk X N' scope y) rl t2 g2)(ht2:∀y,qK (blk X N' scope y) rl f2 ft2)(he:∀y,PV (blk X N' scope y) rl elt fe)
 (hfr:qx fr N' X.N scope X.env.scope=true:=by rfl)(hsc:rA scope X.env.scope=true:=by rfl)
 (hs:∀x,Gx i1 X.env x=pure x:=by intro _;rfl)(hs2:∀y x,Gx i2 (blk X N' scope y).env x=pure x:=by intro _ _;rfl):PV X rl (.ListComp elt [⟨t1,i1,f1,0⟩,⟨t2,i2,f2,0⟩] scope pos) (mh fi fr g ft fj g2 ft2 fe):=by
 obtain⟨wi,p0,k0⟩:=hi
 exact⟨_,ng N' fr hc p0 hfr hsc (fun y=>(Fw (hg y)).1) (fun y=>(Fw (ht y)).1) (fun y=>(Fw (hj y)).1) (fun y=>(Fw (hg2 y)).1) (fun y=>(Fw (ht2 y)).1) (fun y=>(Fw (he y)).1) hs hs2,
  fun R Qd Q q k=>pR fr k0 hg ht hj hg2 ht2 he R Qd Q q k⟩
end
noncomputable def pW(ρ0:En)(g:Ek)(ft:TB)(fj:En->(List Fd->Prop)->Prop)(g2:Ek)(ft2:TB)(fe:TV)(x:Fd)(acc:List Fd):Mo (List Fd) :=
 D4 (g x ρ0) fun ρ2=>DV (Le ρ0 ρ2) (D4 (ft ρ2) fun b=>if b=true then D4 (fj ρ2) fun ys=>cz (DM ρ2 g2 ft2 fe) ys acc else ret acc)
noncomputable def d6(b:Fd->List Fd->Mo (List Fd)):List Fd->List Fd->Mo (List Fd)
 | [],acc=>ret acc
 | x::xs,acc=>D4 (b x acc) (d6 b xs)
theorem kH(ρ0:En)(g:Ek)(ft:TB)(fj:En->(List Fd->Prop)->Prop)(g2:Ek)(ft2:TB)(fe:TV):∀(xs acc:List Fd),oU ρ0 g ft fj g2 ft2 fe xs acc=d6 (pW ρ0 g ft fj g2 ft2 fe) xs acc
 | [],acc=>rfl
 | x::xs,acc=>by
   refine ae fun Q=>?_
   show(g x ρ0 fun ρ2=>Le ρ0 ρ2/\ft ρ2 fun b=>if b=true then fj ρ2 fun ys=>kU ρ2 g2 ft2 fe ys acc fun acc'=>oU ρ0 g ft fj g2 ft2 fe xs acc' Q else oU ρ0 g ft fj g2 ft2 fe xs acc Q)↔(D4 (pW ρ0 g ft fj g2 ft2 fe x acc) (d6 (pW ρ0 g ft fj g2 ft2 fe) xs)) Q
   simp only[kH ρ0 g ft fj g2 ft2 fe xs,hR]
   have:∀(ρ2:En)(b:Bool),(if b=true then fj ρ2 fun ys=>cz (DM ρ2 g2 ft2 fe) ys acc fun acc'=>d6 (pW ρ0 g ft fj g2 ft2 fe) xs acc' Q else d6 (pW ρ0 g ft fj g2 ft2 fe) xs acc Q)
    = (D4 (if b=true then D4 (fj ρ2) fun ys=>cz (DM ρ2 g2 ft2 fe) ys acc else ret acc) (d6 (pW ρ0 g ft fj g2 ft2 fe) xs)) Q:=by
    intro ρ2 b
    cases b<;>rfl
   simp only[this]
   exact Jo
theorem m_comp2(fi:En->(List Fd->Prop)->Prop)(fr:List (Option Nat))(g:Ek)(ft:TB)(fj:En->(List Fd->Prop)->Prop)(g2:Ek)(ft2:TB)(fe:TV)(ρ:En) :
 mh fi fr g ft fj g2 ft2 fe ρ=D4 (fi ρ) fun xs=>D4 (d6 (pW (eg fr ρ) g ft fj g2 ft2 fe) xs []) fun ds=>ret (.ml ds):=by
 refine ae fun Q=>?_
 show(fi ρ fun xs=>oU (eg fr ρ) g ft fj g2 ft2 fe xs [] fun ds=>Q (.ml ds))↔_
 simp only[kH]
 exact Jo
section
variable{α β:Type}{b:Fd->Mo (Option Fd)}
theorem jD{c:Fd->List Fd->Mo (List Fd)}{xs:List α}{enc:α->Fd}(F:α->List Fd)(h:∀x∈xs,∀acc:List Fd,acc.length+(F x).length<=sizeLine->c (enc x) acc=ret (acc++F x)) :
 ∀acc:List Fd,acc.length+(xs.flatMap F).length<=sizeLine->d6 c (xs.map enc) acc=ret (acc++xs.flatMap F):=by
 induction xs with
 | nil=>intro acc _;show ret acc=_;simp
 | cons x xs ih =>
   intro acc hl
   rw[IF,GK]at hl
   show D4 (c (enc x) acc) _=_
   rw[h x FB acc (by omega),bnd_ret,ih (fun y my=>h y (Fv _ my)) (acc++F x) (by rw[GK];omega),IF,Kb]
theorem yb{γ:Type}{c:Fd->List Fd->Mo (List Fd)}{k:List Fd->Mo γ}{Q:γ->Prop}{xs:List α}{enc:α->Fd}(F:α->List Fd)(hx:xs'=xs.map enc)
 (h:∀x∈xs,∀acc:List Fd,acc.length+(F x).length<=sizeLine->c (enc x) acc=ret (acc++F x))(hl:(xs.flatMap F).length<=sizeLine)(fin:k (xs.flatMap F) Q):D4 (d6 c xs' []) k Q:=by
 subst hx
 rw[jD F h [] (by simpa using hl),bnd_ret]
 simpa using fin
end
noncomputable def Fa:=Ff @m_comp2 (@bnd_ret)
section
variable{X:Cx}{rl:RlT}{a b c o e:Expr}{es:List Expr}{fa fb:TV}{fs:Eg}{pos p apos cpos:Pos}{ρ:En}
end
end L2.VL
namespace L2
theorem cM:Lv (.type "tuple") (dunderI "add")=pure none:=by
 have e:dunderI "add" = "__iadd__" := by decide
 rw[e,typeLookup_type,builtinLookup_eq_fast];kernel_rfl
section
variable{prog:F0}{w:GD}{A:GN}{E:Fm->Ft->Prop}{s:Ft}
theorem cR{T id:String}{B:Builtin}{a b:Fm}{S:PySem.Spec}(ha:s.TypeIs a T)(hb:s.TypeIs b T)(hno:Lv (.type T) (dunderI "add")=pure none)
 (hfill:fillsNumberSlot (.type T) "add" = pure false)(hseq:seqSlot? (.type T) "__add__" = pure (some (.builtin id)))(slot:Slot T "__add__" id)
 (entry:entryFor table id=some B)(args:argsOk id ⟨[a,b],[]⟩)(g:Meets (B ⟨[a,b],[]⟩) S)(h:S A (wants Q E) s):FN (Gb prog w) A (LL .Add a b) Q E s :=
 wpAny_inplaceOp_concat ha hb hno hfill hseq (KI slot ha entry args g h)
theorem qg{t:Addr}{vs ws:List Fm}(ht:Lg s.heap t vs.toArray)(hb:Lg s.heap b ws.toArray)(hv:vs≠[])
 (h1:ws=[]->Q (.ref t) s)(h2:ws≠[]->Q (.ref s.heap.objs.size) {s with heap:=s.heap.push {cls:=.type "tuple", data:=.seq (vs++ws).toArray}})
 (hsz:vs.length+ws.length<=sizeLine):FN (Gb prog w) A (LL .Add (.ref t) (.ref b)) Q E s:=by
 obtain⟨⟨cls,dd,data,sl⟩,ho,hc,n,hd⟩:=id ht
 obtain⟨⟨cls2,dd2,data2,sl2⟩,ho2,hc2,n2,hd2⟩:=id hb
 simp only at hc hd hc2 hd2
 subst hc hd hc2 hd2
 have e:vs.toArray++ws.toArray=(vs++ws).toArray:=by simp
 by_cases hw:ws=[]
 · exact cR ⟨_,ho,rfl⟩ ⟨_,ho2,rfl⟩ cM Io IW Ho Hl (Hi _ _)
     (tuple_addW1 t b vs.toArray ws.toArray n n2 dd dd2 sl sl2 (by simpa using hv) (by simp[hw])) ⟨ho,ho2,h1 hw⟩
 · refine cR ⟨_,ho,rfl⟩ ⟨_,ho2,rfl⟩ cM Io IW Ho Hl (Hi _ _)
     (tuple_addW2 t b vs.toArray ws.toArray n n2 dd dd2 sl sl2 (by simpa using hv) (by simpa using hw) (by rw[FS,FS];exact hsz)) ⟨ho,ho2,?_⟩
   rw[e]
   exact h2 hw
end
section
variable{X:Cx}
theorem uF:EB X .Add (tN X.K):=by
 intro pins s σ H x y v u Q I rx ry h
 rcases h with h|h
 · obtain⟨a,b,xs,ys,rfl,rfl,ha,hb,hx,hz,q1,q2⟩:=h
   cases rx
   cases ry
   obtain⟨its,r1,p1,_⟩:=I.tuple ha
   obtain⟨its2,r2,p2,_⟩:=I.tuple hb
   refine qg p1 p2 (fun z=>hx (r1.nil_iff.mp z)) (fun z=>⟨.ref a,H,I,rfl,q1 (r2.nil_iff.mp z)⟩) (fun z=>?_) (by rw[<- r1.length,<- r2.length];exact hz)
   refine⟨.ref s.heap.objs.size,_,I.laid (t':=s.toks) (o:=.tup (xs++ys)) (fun b ob q=>Fh _ q) (FC _) ?_,rfl,q2 (fun w=>z (r2.nil_iff.mpr w)) _ (I.hok.fresh (FC _))⟩
   exact⟨by rw[GK];exact hz,_,r1.append r2,oJ.new _ _⟩
 · obtain⟨a,b,ys,rfl,rfl,ha,hb,q⟩:=h
   cases rx
   cases ry
   obtain⟨its,r1,p1,_⟩:=I.tuple ha
   obtain⟨its2,r2,p2,_⟩:=I.tuple hb
   cases r1
   obtain⟨⟨c1,d1,e1,sl1⟩,ho,hc,n,hd⟩:=p1
   obtain⟨⟨c2,d2,e2,sl2⟩,ho2,hc2,n2,hd2⟩:=p2
   cases hc;cases hd;cases hc2;cases hd2
   exact cR ⟨_,ho,rfl⟩ ⟨_,ho2,rfl⟩ cM Io IW Ho Hl (Hi _ _)
    (tuple_addW0 a b _ its2.toArray n n2 d1 d2 sl1 sl2 rfl) ⟨ho,ho2,⟨.ref b,H,I,rfl,q⟩⟩
end
end L2
namespace L2.VL
section
variable{X:Cx}{rl:RlT}{e:Expr}{fa:TV}{pos:Pos}{ρ:En}
noncomputable def sT(i:Nat)(fa:TV):Eh:=fun D ρ=>∃xs,ρ[i]?=some (some (.d (.tuple xs)))/\fa ρ fun w=>∃ys,w = .d (.tuple ys)/\xs.length+ys.length<=sizeLine/\D.nx (ρ.set i (some (.d (.tuple (xs++ys)))))
theorem sB(i:Nat){x:Str}(hN:X.N.Nodup)(he:PV X rl e fa)(hi:X.N[i]?=some x:=by rfl)(hx:Loc X.env.scope x:=by first|exact HJ rfl|exact G_ rfl)
 (hf:X.fn x=true\/X.env.scope.names.lookup x=some .local:=by first|exact .inl rfl|exact .inr rfl):Ez X rl (.AugAssign (.Name x pos') .Add e pos) (sT i fa):=by
 obtain⟨t,p,k⟩:=he
 refine⟨_,rC hN hi hx p uF hf,fun{F₀ H₀ F H σ ρ} R Dv D ok ⟨xs,e1,q⟩=>?_⟩
 obtain⟨v,s1,r1,_⟩:=R.sl i _ e1
 refine⟨_,s1,k R _ _ q fun v2 w2 F1 H1 g1 r2 n1 ⟨ys,ew,hz,q1⟩=>?_⟩
 subst ew
 have R1:=R.grow g1
 refine lP (wx:=.d (.tuple xs)) (wy:=.d (.tuple ys)) (fun w=>w = .d (.tuple (xs++ys))) _ g1.sub R1.reel (r1.grow g1) r2 ⟨xs,ys,rfl,rfl,hz,rfl⟩ fun v' w' F2 H2 g2 r' n' ew=>?_
 subst ew
 exact ok.nx _ _ _ _ (g1.fs.trans g2.fs) (R1.set g2 r' n' (fun _ z=>by cases z) i) q1
noncomputable def Do(ρ:En)(i:Nat):Option (List Fd):=((ρ[i]?).join).bind D6
theorem wN{n:List Fd}:Do ρ i=some n↔ρ[i]?=some (some (.d (.tuple n))):=by
 unfold Do
 cases h:ρ[i]? with
 | none=>simp
 | some o=>cases o with
   | none=>simp
   | some w=>simp[gz]
theorem rB(i:Nat):mS (sT i fa) ρ=aG (Do ρ i) fun n=>D4 (fa ρ) fun w=>aG (D6 w) fun m=>DV (n.length+m.length<=sizeLine) (ret (.nx (ρ.set i (some (.d (.tuple (n++m))))))):=by
 refine ae fun Q=>?_
 simp only[mS,sT,D4,ag,wN,gz,DV,ret]
end
section
variable{X:Cx}{rl:RlT}{a b e:Expr}{fa fb:TV}{pos:Pos}{ρ:En}
end
end L2.VL
namespace L2
section
variable{X:Cx}
theorem oq(hc:X.calm=true):d_ X (.builtin "sum") (fun xs H Q=>∃(p:Addr)(ns:List Int),xs=[.ref p]/\Em X.K H p (ns.map V.int)/\Q (.int ns.sum) H):=by
 intro pins s σ H xs us Q I r ⟨p,ns,ex,hq,q⟩
 subst ex
 obtain⟨u,rfl,ru⟩:=vals1 r
 cases ru
 obtain⟨its,rv,pl,hz⟩:=I.tuple hq
 have hl:=rv.length
 rw[Fq]at hl
 have it:s.heap.IsTuple p its.toArray:=pl
 refine call_sum_walkG (JS it ?_)
 obtain⟨o,ho,ho2⟩:=pl
 have ne:p≠s.heap.objs.size:=Gj (Fz ho)
 refine⟨s.heap.objs.size,_,_,_,_,_,fun i=>ns.getD i 0,rfl,Walks.tuple (A:=X.A.in1) (I.ok.hd hc) s.heap.objs.size p ne its.toArray,⟨⟨_,FF _ rfl,rfl,rfl⟩,⟨o,Fh _ ho,ho2⟩⟩,?_,?_,?_⟩
 · intro b hb
   have hb:b=s.heap.objs.size\/b=p:=by simpa using hb
   show b<(Heap.push _ _).objs.size
   rw[Gs]
   rcases hb with rfl|rfl
   · exact Kl _
   · exact IE (Fz ho)
 · intro i v hP
   exact fL rv (by simpa using hP)
 · intro h' tk t' k
   have e:preSum (fun i=>ns.getD i 0) its.toArray.size=ns.sum:=by rw[FS,<- hl];exact preSum_eq ns
   rw[e]
   exact⟨.int _,H,I.kept (t':=tk) fun b o eb=>k b o (by simp;exact Gj (Fz eb)) (Fh _ eb),⟨t',rfl⟩,q⟩
end
end L2
namespace L2.VL
section
variable{X:Cx}{rl:RlT}{a e:Expr}{fs:Eg}{pos p:Pos}
noncomputable def uL:List W->(W->Prop)->Prop:=fun ws Q=>∃(ns:List Int),ws=[.d (.tuple (ns.map .int))]/\Q (.d (.int ns.sum))
theorem sF:eK X rl (fun xs H Q=>∃(p:Addr)(ns:List Int),xs=[.ref p]/\Em X.K H p (ns.map V.int)/\Q (.int ns.sum) H) uL:=fun{F H vs ws} Qd Q s ra r ⟨ns,ew,q⟩ k=>by
 subst ew
 obtain⟨v,rfl,r1⟩:=mR r
 cases(show Rep X.K F v (.tuple (ns.map .int))from r1)with
 | @tup a us _ sq rs =>
   have e:=gU rs
   subst e
   exact⟨a,ns,rfl,dt s sq,k _ (.d _) _ _ (Grow.refl s ra) (.int _) trivial q⟩
theorem vU(hm:X.mg "sum" = none)(ha:Ev X rl [a] fs)(hc:X.calm=true:=by rfl)(hg:Gl X "sum" := by rfl)(he:FA [a] X.env=(false,eval a X.env)::FA [] X.env:=by rfl)(hpl:(Hf pos (FA [] X.env)).any (·.1)=false:=by rfl) :
 PV X rl (.Call (.Name "sum" p) [a] [] pos) (dB uL fs):=cI (oq hc) sF hm (by rfl) ha hg (by decide) (by decide) he hpl
noncomputable def uH:Fd->Option (List Int)
 | .tuple xs=>hG xs
 | _=>none
theorem p_:uH d=some ns↔d = .tuple (ns.map .int):=by
 constructor
 · intro h
   cases d with
   | tuple xs=>rw[hE h]
   | _=>cases h
 · rintro rfl;exact b9 _
theorem uu(w:W):uL [w]=aG (asD w) fun d=>aG (uH d) fun ns=>ret (.d (.int ns.sum)):=by
 refine ae fun Q=>?_
 simp only[ag,fU,p_,ret]
 constructor
 · rintro⟨ns,e,q⟩
   cases e
   exact⟨_,rfl,ns,rfl,q⟩
 · rintro⟨d,e,ns,e2,q⟩
   subst e e2
   exact⟨ns,rfl,q⟩
theorem uG(ns:List Int):uH (.tuple (ns.map .int))=some ns:=b9 ns
end
end L2.VL
namespace L2.ZP
section
variable{prog:F0}{w:GD}{A:GN}{E:Fm->Ft->Prop}{s:Ft}{z it a:Addr}{k:Nat}{xs:Array Fm}{x p:Fm}{b:Bool}
abbrev e2(h:Heap)(b:Bool)(a:Addr):Heap:=(y1 h b a).push {cls:=.type "enumerate", data:=.fields #[.none,.bool false,.ref h.objs.size,Kj 0,.none,.none]}
theorem qy(b:Bool)(a:Addr)(o:Obj)(xs:Array Fm)(hr:∀h:Heap,h.get? a=some o->Er b h a xs) :
 Meets (Builtin.«enumerate.__new__» ⟨[.type "enumerate", .ref a],[]⟩) (fun _ R s=>s.heap.get? a=some o/\R (.ok (.ret (.ref (y1 s.heap b a).objs.size))) {s with heap:=e2 s.heap b a}) :=
 .of_wp fun prog w A R s h=>by
  obtain⟨hp,g,d,tk,os⟩:=s
  obtain⟨l0,h⟩:=h
  have hsub:=sub_enumerate
  have k1:Er b (K8 ⟨hp,g,d,tk,os⟩) a xs:=hr _ l0
  wp_walk using Hj l0
  refine wpAny_stack_any fun st=>Fj ?_
  split
  · rename_i c _ _ _ _ _
    cases(c==Lr "enumerate")<;>(wp_walk using Hj l0,pV k1;exact⟨_,rfl,h⟩)
  · wp_walk using Hj l0,pV k1
    exact⟨_,rfl,h⟩
theorem Er.obj(q:Er b h a xs):∃o,h.get? a=some o/\∀h':Heap,h'.get? a=some o->Er b h' a xs:=by
 cases b with
 | true=>obtain⟨o,h1,r⟩:=(show h.IsTuple a xs from q);exact⟨o,h1,fun h' e=>⟨o,e,r⟩⟩
 | false=>obtain⟨o,h1,r⟩:=(show h.IsList a xs from q);exact⟨o,h1,fun h' e=>⟨o,e,r⟩⟩
theorem oC(q1:Er b s.heap a xs)
 (done:∀g,JA g (s.heap.objs.size+1) s.heap.objs.size 0 .none->EZ g s.heap.objs.size a xs 0->g.objs.size=s.heap.objs.size+2->(∀c o,s.heap.get? c=some o->g.get? c=some o)->Q (.ref (s.heap.objs.size+1)) {s with heap:=g}) :
 FN (Gb prog w) A (call (.type "enumerate") [.ref a]) Q E s:=by
 obtain⟨o,h1,hr⟩:=q1.obj
 refine LD F.called_enumerate (by decide) (F.typeCall_enumerate_1 _) (F.newCall_enumerate_1 _) (fun u=>F.args_object_init_2 u _) F.entry_enumerate_new (qy b a o xs hr) ⟨h1,?_⟩
 have n1:(y1 s.heap b a).objs.size=s.heap.objs.size+1:=Gs ..
 have n2:(e2 s.heap b a).objs.size=s.heap.objs.size+2:=by rw[Gs,n1]
 have pu:∀{h:Heap}{o u:Obj}{c:Addr},h.get? c=some u->(h.push o).get? c=some u:=fun e=>Fh _ e
 have kp:∀c o,s.heap.get? c=some o->(e2 s.heap b a).get? c=some o:=fun c o e=>pu (pu e)
 have f2:(e2 s.heap b a).get? (y1 s.heap b a).objs.size=some _:=FF _ rfl
 have f1:(e2 s.heap b a).get? s.heap.objs.size=some _:=pu (FF _ rfl)
 show _/\_
 rw[n1]at f2
 rw[n1]
 have mk:EZ (e2 s.heap b a) s.heap.objs.size a xs 0:=by
  have e:=hr _ (kp _ _ h1)
  cases b with
  | true=>exact .inr ⟨⟨_,f1,rfl,rfl⟩,e⟩
  | false=>exact .inl ⟨⟨_,f1,rfl,rfl⟩,e⟩
 exact⟨⟨_,f2,rfl⟩,done _ f2 mk n2 kp⟩
theorem uU(oz:JA s.heap z it k p)(s1:EZ s.heap it a xs k)(ex:xs[k]?=some x)(ne:z≠it)(nz:a≠z)(ni:a≠it)
 (done:∀g,KC g z it ((k:Int)+1) x s.heap.objs.size->EZ g it a xs (k+1)->g.get? s.heap.objs.size=some {cls:=.type "tuple", data:=.seq #[.int k s.toks,x]}->g.objs.size=s.heap.objs.size+1 ->
  (∀b o,b≠z->b≠it->s.heap.get? b=some o->g.get? b=some o)->Q (.ref s.heap.objs.size) {s with heap:=g,toks:=s.toks+1}) :
 FN (Gb prog w) A (Builtin.«enumerate.__next__» ⟨[.ref z],[]⟩) (fun r s'=>∃u,r = .done (.ret u)/\Q u s') E s:=by
 show FN _ _ (do let c <- Kh (.ref z) 2;_) _ _ _
 refine Fb (F_ oz rfl (x:=.ref it) rfl ?_)
 refine Fb (s1.item ni ex fun g1 s1a b1=>?_)
 have z1:JA g1 z it k p:=b1.extBut _ _ ne oz
 show FN _ _ (do let c <- Kh (.ref z) 3;_) _ _ _
 refine Fb (F_ z1 rfl (x:=Kj k) rfl ?_)
 show FN _ _ (do let c <- Kh (.ref z) 4;_) _ _ _
 refine Fb (F_ z1 rfl (x:=.none) rfl ?_)
 show FN _ _ (do let c <- mkInt k;_) _ _ _
 refine Fb (LV ?_)
 show FN _ _ (do setField (.ref z) 3 (Kj ((k:Int)+1));_) _ _ _
 refine Fb (FX z1 (by simp) fun g2 z2 b2=>?_)
 have z2:JA g2 z it ((k:Int)+1) p:=z2
 show FN _ _ (do setField (.ref z) 4 .none;_) _ _ _
 refine Fb (FX z2 (by simp) fun g3 z3 b3=>?_)
 have z3:JA g3 z it ((k:Int)+1) p:=z3
 have size:g3.objs.size=s.heap.objs.size:=by rw[b3.1,b2.1,b1.1]
 have s3:EZ g3 it a xs (k+1):=(s1a.keep (SameBut.keep b2 ne.symm) (SameBut.keep b2 nz)).keep (SameBut.keep b3 ne.symm) (SameBut.keep b3 nz)
 have k3:∀b o,b≠z->b≠it->s.heap.get? b=some o->g3.get? b=some o:=fun b o n1 n2 e=>b3.extBut _ _ n1 (b2.extBut _ _ n1 (b1.extBut _ _ n2 e))
 have zl:z<g3.objs.size:=Fz z3
 show FN _ _ (do let c <- newTuple [.int k s.toks,x];_) _ _ _
 refine Fb (Js ?_)
 have z4:JA (g3.push {cls:=.type "tuple", data:=.seq #[.int k s.toks,x]}) z it ((k:Int)+1) p:=Fh _ z3
 show FN _ _ (do let c <- FR (.ref z);_) _ _ _
 refine Fb ?_
 unfold FR
 refine Fb (F_ z4 rfl (x:=H_) rfl (Fj ?_))
 simp only[if_true]
 refine Fb (Ia (Fb (F_ z4 rfl (x:=p) rfl (Fb (FX z4 (by simp) fun g5 z5 b5=>?_)))))
 have z5:JA g5 z it ((k:Int)+1) x:=z5
 show FN _ _ (do Gh (.ref z) (.ref g3.objs.size);_) _ _ _
 refine Fb ?_
 unfold Gh
 refine Fb (FX z5 (by simp) fun g6 z6 b6=>?_)
 have z6:KC g6 z it ((k:Int)+1) x g3.objs.size:=z6
 refine FX z6 (by simp) fun g7 z7 b7=>?_
 have z7:KC g7 z it ((k:Int)+1) x g3.objs.size:=z7
 have up:∀b o,b≠z->g3.get? b=some o->g7.get? b=some o:=fun b o n e=>b7.extBut _ _ n (b6.extBut _ _ n (b5.extBut _ _ n (Fh _ e)))
 have t7:g7.get? g3.objs.size=some {cls:=.type "tuple", data:=.seq #[.int k s.toks,x]} :=
  b7.extBut _ _ (Hv zl) (b6.extBut _ _ (Hv zl) (b5.extBut _ _ (Hv zl) (FF _ rfl)))
 have l7:g7.objs.size=g3.objs.size+1:=by rw[b7.1,b6.1,b5.1,Gs]
 rw[size]at z7 t7 l7
 refine Fb (IM (Fj ⟨_,rfl,?_⟩))
 show Q (.ref g3.objs.size) _
 rw[size]
 exact done g7 z7 (s3.keep (fun o e=>up _ o ne.symm e) fun o e=>up _ o nz e) t7 l7 fun b o n1 n2 e=>up b o n1 (k3 b o n1 n2 e)
end
end L2.ZP
namespace L2
open PySem PySem.Spec PyProof.Rows L2.ZP
noncomputable def EW(K:W.Frag)(b:Bool)(a:Addr):It :=
 ⟨fun i H=>∃xs x,Ep b K H a xs/\xs[i]?=some x,
  fun i H v H'=>∃x p,(∀xs,Ep b K H a xs->xs[i]?=some x)/\H p=none/\v = .ref p/\H'=upd H p (.tup [.int i,x]),
  fun i H=>∃xs,Ep b K H a xs/\xs.length<=i⟩
noncomputable def ES(b:Bool)(z it a:Addr)(i:Nat)(h:Heap):Prop:=(∃p,JA h z it i p)/\E1 b h it a i
theorem mo{K:W.Frag}{elts:List Expr}{kt:Nat}{pt:Pos}(b:Bool)(z it a:Addr)(ne:z≠it)(nz:a≠z)(ni:a≠it) :
 Turn P w K (.Tuple elts kt pt) (EW K b a) [z,it] z (ES b z it a) where
 mem:=by simp
 obj:=fun i h ⟨⟨p,h1⟩,h4⟩ c hb=>by
  simp at hb
  rcases hb with rfl|rfl
  · exact⟨_,h1,fun v c=>by cases c⟩
  · exact h4.obj
 keep:=fun i h h' ⟨⟨p,h1⟩,h4⟩ k=>⟨⟨p,k z (by simp) _ h1⟩,h4.keep fun o e=>k it (by simp) o e⟩
 item:=by
  intro X hP hw hK hc i pins s σ H E I hf st hg
  subst hP hw hK
  obtain⟨⟨p,h1⟩,h4⟩:=st
  obtain⟨xs,x,q1,ex⟩:=hg
  obtain⟨its,r1,t1⟩:=I.sqB q1
  obtain⟨u,hu,ru⟩:=r1.get ex
  have ty:s.TypeIs (.ref z) "enumerate" := ⟨_,h1,rfl⟩
  unfold J8
  refine Fb (Jb (Ge (name:=Str.ofString "__next__") ty F.slot_enumerate_next (GF F.slot_enumerate_next ty F.entry_enumerate_next
   (uU h1 (h4.it1 t1) (by simpa using hu) ne nz ni fun g e1 e3 e5 e6 e7=>Fj ?_) (F.args_enumerate_next_1 _))))
  have hz:s.heap.objs.size≠z:=Hv (Fz h1)
  refine⟨.ref s.heap.objs.size,rfl,JP e1 fun g' f1 fb=>?_⟩
  have hp:H s.heap.objs.size=none:=I.hok.fresh (FC _)
  have I1:Inv X pins σ (upd H s.heap.objs.size (.tup [.int i,x])) {s with heap:=s.heap.push {cls:=.type "tuple", data:=.seq [.int i s.toks,u].toArray},toks:=s.toks+1} :=
   I.laid (t':=s.toks+1) (o:=.tup [.int i,x]) (fun b ob e=>Fh _ e) (FC _) ⟨(by show 2<=sizeLine;decide),[.int i s.toks,u],.cons ⟨_,rfl⟩ (.cons ru .nil),oJ.new _ _⟩
  have ne':∀b∈[z,it],b≠s.heap.objs.size:=fun b hb e=>by
   simp at hb
   rcases hb with rfl|rfl
   · exact hz e.symm
   · obtain⟨o,ho,_⟩:=h4.obj
     exact absurd (Fz ho) (by rw[e];exact G0 _)
  have kg:∀b o,b∉[z,it]->(s.heap.push {cls:=.type "tuple", data:=.seq [.int i s.toks,u].toArray}).get? b=some o->g'.get? b=some o:=fun b o hb e=>by
   simp at hb
   obtain⟨n1,n2⟩:=hb
   refine fb.extBut _ _ n1 ?_
   by_cases hbn:b=s.heap.objs.size
   · subst hbn
     rw[FF _ rfl]at e
     cases e
     exact e5
   · exact e7 b o n1 n2 (by rw[Jn _ _ _ hbn]at e;exact e)
  have fp1:∀b∈[z,it],iU X pins (upd H s.heap.objs.size (.tup [.int i,x])) b:=fun b hb=>by
   obtain⟨f0,fr⟩:=hf b hb
   exact⟨by rw[ak (ne' b hb)];exact f0,fr⟩
  have I2:Inv X pins σ (upd H s.heap.objs.size (.tup [.int i,x])) {s with heap:=g',toks:=s.toks+1}:=I1.turnedL (t':=s.toks+1) kg fp1
  have k8:∀b o,b≠z->g.get? b=some o->g'.get? b=some o:=fun b o n e=>fb.extBut _ _ n e
  have t1':Er b g a its.toArray:=Er.of t1 fun o e=>e7 _ o nz ni e
  refine⟨.ref s.heap.objs.size,_,I2,rfl,⟨x,_,fun xs' q'=>by rw[I.sqB_inj q' q1];exact ex,hp,rfl,rfl⟩,⟨⟨_,by simpa using f1⟩,(EZ.ir e3 h4 t1').keep fun o e=>k8 _ o ne.symm e⟩,fun b hb=>(fp1 b hb).1⟩
 done:=by
  intro X hP hw hK hc i pins s σ H E I hf st hg
  subst hP hw hK
  obtain⟨⟨p,h1⟩,h4⟩:=st
  obtain⟨xs,q1,ex⟩:=hg
  obtain⟨its,r1,t1⟩:=I.sqB q1
  have l1:=r1.length
  have ty:s.TypeIs (.ref z) "enumerate" := ⟨_,h1,rfl⟩
  unfold J8
  refine Fb (Jb (Ge (name:=Str.ofString "__next__") ty F.slot_enumerate_next (GF F.slot_enumerate_next ty F.entry_enumerate_next ?_ (F.args_enumerate_next_1 _))))
  show FN _ _ (do let c <- Kh (.ref z) 2;_) _ _ _
  refine Fb (F_ h1 rfl (x:=.ref it) rfl ?_)
  refine Fb ((h4.it1 t1).fin (I.ok.hd hc) (by simp;omega) fun g e kg ⟨o,ho,hoc⟩=>?_)
  refine Fb (Kk (T := "StopIteration") (b:=true) ⟨o,ho,hoc⟩ KR (Fj ⟨rfl,?_⟩))
  exact I.turnedL (t':=s.toks) (fun b o hb e=>by simp at hb;exact kg b o hb.2 e) hf
 self:=fun _ _ _ _ _ st h=>by
  obtain⟨⟨p,h1⟩,_⟩:=st
  exact Jp h1 h
section
variable{X:Cx}{e1:Expr}{ta:TA}{elts:List Expr}{kt:Nat}{pt p pos:Pos}
noncomputable def B7(K:W.Frag)(b:Bool)(t:TA):TI:=fun σ H R=>t σ H fun vs H1=>∃a xs,vs=[.ref a]/\Ep b K H1 a xs/\R (EW K b a) H1
theorem tX(b:Bool)(hg:Gl X "enumerate")(hm:X.mg "enumerate" = none)(ha:PA X [e1] ta)(hs:FA [e1] X.env=(false,eval e1 X.env)::FA [] X.env:=by rfl)(hpl:(Hf pos (FA [] X.env)).any (·.1)=false:=by rfl) :
 PI X (.Tuple elts kt pt) (.Call (.Name "enumerate" p) [e1] [] pos) (B7 X.K b ta):=by
 intro pins s σ H R I h
 refine Call_ (dA I hg hm (by rfl) (Gz (C7 (ha pos pins s σ H _ I h) fun us s1 ⟨vs,H1,I1,r1,q1⟩=>?_) hs hpl) (by decide) (by decide))
 obtain⟨a,xs,ev,q1,q⟩:=q1
 subst ev
 cases r1 with
 | cons r rr =>
   cases rr
   cases r
   obtain⟨its,v1,t1⟩:=I1.sqB q1
   refine oC t1 fun g f1 f4 f6 kp=>Jp f1 ?_
   have l1:a<s1.heap.objs.size:=by
    obtain⟨o,ho,_⟩:=t1.obj
    exact Fz ho
   have I2:Inv X pins σ H1 {s1 with heap:=g}:=I1.kept (t':=s1.toks) kp
   have ir:E1 b g s1.heap.objs.size a 0:=by
    have r':=Er.of t1 fun o e=>kp _ o e
    cases b with
    | true =>
      rcases f4 with⟨_,⟨o,e,c,_⟩⟩|⟨q,_⟩
      · obtain⟨o',e',c',_⟩:=(show g.IsTuple a _ from r')
        rw[e]at e';cases e';rw[c]at c';injection c' with z;exact absurd z (by decide)
      · exact q
    | false =>
      rcases f4 with⟨q,_⟩|⟨_,⟨o,e,c,_⟩⟩
      · exact q
      · obtain⟨o',e',c',_⟩:=(show g.IsList a _ from r')
        rw[e]at e';cases e';rw[c]at c';injection c' with z;exact absurd z (by decide)
   refine⟨_,[s1.heap.objs.size+1,s1.heap.objs.size],_,_,H1,rfl,I2,mo b _ _ a (by simp) (Gj (IE l1)) (Gj l1),⟨⟨_,f1⟩,ir⟩,fun b hb=>?_,q⟩
   have hb':s1.heap.objs.size<=b:=by
    simp at hb
    rcases hb with rfl|rfl
    · exact Hb _ 1
    · exact FC _
   exact I1.fpOk hb' (I1.hok.fresh hb')
end
end L2
namespace L2.VL
section
variable{X:Cx}{rl:RlT}{a:Expr}{elts:List Expr}{kt:Nat}{pt p pos:Pos}{fs:Eg}
noncomputable def cD(xs:List Fd):List Fd:=xs.zipIdx.map fun z=>.tuple [.int (z.2:Nat),z.1]
theorem dZ(h:(cD xs)[i]?=some d):∃x,xs[i]?=some x/\d = .tuple [.int (i:Nat),x]:=by
 unfold cD at h
 rw[Gg,List.getElem?_zipIdx]at h
 cases ex:xs[i]? with
 | none=>rw[ex]at h;cases h
 | some x=>rw[ex]at h;simp at h;exact⟨x,rfl,h.symm⟩
noncomputable def DU(b:Bool)(fs:Eg):En->(List Fd->Prop)->Prop:=fun ρ Q=>fs ρ fun ws=>∃dx xs,ws=[.d dx]/\eB dx=some xs/\du dx=b/\Q (cD xs)
theorem sE(b:Bool)(hm:X.mg "enumerate" = none)(ha:Ev X rl [a] fs)(hg:Gl X "enumerate" := by rfl)(hs:FA [a] X.env=(false,eval a X.env)::FA [] X.env:=by rfl)(hpl:(Hf pos (FA [] X.env)).any (·.1)=false:=by rfl) :
 EC X rl (.Tuple elts kt pt) (.Call (.Name "enumerate" p) [a] [] pos) (DU b fs):=by
 obtain⟨t,p1,k⟩:=ha
 refine⟨_,tX b hg hm p1 hs hpl,fun R Qd Q q h=>k R _ _ q fun vs ws F1 H1 g1 r1 ⟨dx,xs,ew,e1,kb1,q1⟩=>?_⟩
 subst ew kb1
 obtain⟨v,rfl,rv⟩:=mR r1
 obtain⟨a1,vs,rfl,rs,sq1⟩:=iy rv e1
 refine⟨a1,vs,rfl,sq1 _ g1.sub,h _ (cD xs) F1 H1 g1 ⟨fun i H x e s=>?_,fun i H hl s=>?_,fun i H v H' x F2 e s s2 ra y=>?_⟩ q1⟩
 · obtain⟨x1,ex,_⟩:=dZ e
   obtain⟨v1,ev1,_⟩:=rs.get ex
   exact⟨vs,v1,sq1 _ s,ev1⟩
 · refine⟨vs,sq1 _ s,?_⟩
   unfold cD at hl
   rw[Fq,HB]at hl
   rw[rs.length]
   omega
 · obtain⟨x1,ex,ed⟩:=dZ e
   obtain⟨vx,pp,hx,hp,ev,eH⟩:=y
   obtain⟨v1,ev1,rv1⟩:=rs.get ex
   have h1:=hx vs (sq1 _ (s.trans s2))
   rw[ev1]at h1
   cases h1
   subst ev eH ed
   have g:=Grow.data (a:=pp) (o:=.tup [.int (i:Nat),vx]) s2 ra hp
   exact⟨_,g,.tup (.inl (.inl au)) (.cons (.int _) (.cons ((rv1.mono s).mono g.fs) .nil))⟩
theorem cf(hm:X.mg "enumerate" = none)(ha:Ev X rl [a] fs)(hg:Gl X "enumerate" := by rfl)(hs:FA [a] X.env=(false,eval a X.env)::FA [] X.env:=by rfl)(hpl:(Hf pos (FA [] X.env)).any (·.1)=false:=by rfl) :
 EC X rl (.Tuple elts kt pt) (.Call (.Name "enumerate" p) [a] [] pos) (DU true fs):=sE true hm ha hg hs hpl
end
noncomputable def uT(ws:List W):Option (List Fd):=match ws with
 | [.d (.tuple xs)]=>some (cD xs)
 | _=>none
theorem rP(xs:List Fd):uT [.d (.tuple xs)]=some (cD xs):=rfl
theorem ke{fs:Eg}:DU true fs ρ=D4 (fs ρ) fun ws=>aG (uT ws) ret:=by
 show(D4 (fs ρ) fun ws=>fun(Q:List Fd->Prop)=>∃dx xs,ws=[.d dx]/\eB dx=some xs/\du dx=true/\Q (cD xs))=_
 congr 1;funext ws
 refine ae fun Q=>?_
 simp only[ag,ret]
 constructor
 · rintro⟨dx,xs,rfl,a,b,q⟩
   cases dx with
   | tuple ys=>cases a;exact⟨_,rfl,q⟩
   | _=>cases b
 · rintro⟨zs,e,q⟩
   unfold uT at e
   split at e
   · cases e;exact⟨_,_,rfl,rfl,rfl,q⟩
   · cases e
theorem dh(xs:List α)(enc:α->Fd):cD (xs.map enc)=xs.zipIdx.map fun z=>FY [.int (z.2:Nat),enc z.1]:=by
 unfold cD
 rw[List.zipIdx_map,Gu]
 rfl
section
variable{α β:Type}{b:Fd->Mo (Option Fd)}
end
end L2.VL
namespace L2
theorem nU{o:Obj}{us:List (EL×V)}(ok:E2 P w H h)(e:H a=some (.frz o (.dK us))) :
 us.length<=sizeLine/\(a==IA)=false/\∃vs es ep,KV us vs/\o.data = .dict es ep/\h.DictAt (bB P w) a vs ep:=by
 obtain⟨e1,z,hd,vs,rel,o',es,ep,ho,hx,hdat,r⟩:=ok a _ e
 rw[e1]at ho
 cases ho
 exact⟨z,hd,vs,es,ep,rel,hdat,o,es,e1,hx,hdat,r⟩
theorem xT{k:EL}{v:Fm}(h:(bB P w).is k v=true):RelV (kV k) v:=by
 have h:jw k v=true:=h
 rcases aZ h with⟨i,t,e1,e2⟩|⟨y,t,e1,e2⟩<;>subst e1 e2<;>exact⟨_,rfl⟩
noncomputable def EY(a:Addr)(o:Obj)(us:List (EL×V)):It :=
 ⟨fun i H=>i<us.length/\H a=some (.frz o (.dK us)),fun i H x H'=>H'=H/\∃p,us[i]?=some p/\x=kV p.1,fun i H=>us.length<=i/\H a=some (.frz o (.dK us))⟩
theorem zN{us:List (EL×V)}{vs:List (EL×Fm)}(r:KV us vs):∀{i:Nat}{p:EL×V},us[i]?=some p->∃q,vs[i]?=some q/\p.1=q.1:=by
 unfold KV at r
 induction r with
 | nil=>intro i p e;simp at e
 | @cons p q ps qs h t ih =>
   intro i p' e
   cases i with
   | zero=>simp at e;subst e;exact⟨q,rfl,h.1⟩
   | succ j=>obtain⟨q',e1,e2⟩:=ih (i:=j) (p:=p') (by simpa using e);exact⟨q',by simpa using e1,e2⟩
theorem mw{K:W.Frag}(a it:Addr){o:Obj}{us:List (EL×V)}{es:Array LJ}{ep:Nat}(hep:o.data = .dict es ep) :
 Turn P w K tg (EY a o us) [it] it (fun i h=>h.IsKeyIter it a i us.length ep) where
 mem:=by simp
 obj:=fun i h st b hb=>by
  have e:b=it:=by simpa using hb
  subst e
  obtain⟨o,e,c,d⟩:=st
  exact⟨o,e,fun v z=>by rw[d]at z;cases z⟩
 keep:=fun i h h' st k=>by
  obtain⟨o,e,r⟩:=st
  exact⟨o,k it (by simp) o e,r⟩
 item:=by
  intro X hP hw hK hc i pins s σ H E I hf st hg
  subst hP hw hK
  obtain⟨hi,ha⟩:=hg
  obtain⟨z,hd,vs,es',ep',rel,hdat,dd⟩:=nU I.hok ha
  rw[hep]at hdat
  cases hdat
  have hl:us.length=vs.length:=G7 rel
  have eu:us[i]?=some us[i]:=by simp[hi]
  obtain⟨⟨k,v⟩,ev,ek⟩:=zN rel eu
  obtain⟨f0,f1,f2,f3,f4,f5⟩:=hf it (by simp)
  rw[hl]at st
  refine wpAny_pyNext_dict_item st dd ev fun key h' hkey st' sb=>?_
  have I1:Inv X pins σ H {s with heap:=h' }:=I.turned (t':=s.toks) (fun b o hb e=>(sb.2 b hb).trans e) f0 f1 f3 f4 f5
  obtain⟨oi,e,c,d⟩:=id st'
  rw[<- hl]at st'
  exact⟨key,rfl,nP (s:={s with heap:=h' }) e c d (by decide) ⟨kV us[i].1,H,I1,by rw[ek];exact xT hkey,⟨rfl,_,eu,rfl⟩,st',fun b hb=>(hf b hb).1⟩⟩
 done:=by
  intro X hP hw hK hc i pins s σ H E I hf st hg
  subst hP hw hK
  obtain⟨hi,ha⟩:=hg
  obtain⟨z,hd,vs,es',ep',rel,hdat,dd⟩:=nU I.hok ha
  rw[hep]at hdat
  cases hdat
  have hl:us.length=vs.length:=G7 rel
  obtain⟨f0,f1,f2,f3,f4,f5⟩:=hf it (by simp)
  rw[hl]at st
  refine wpAny_pyNext_dict_end (I.ok.hd hc) st dd (by rw[Jt];omega) fun h' sb=>⟨rfl,?_⟩
  exact I.turned (t':=s.toks) (fun b o hb e=>sb b o hb e) f0 f1 f3 f4 f5
 self:=fun A i s Q E st h=>by
  refine wpAny_pyIter_slot st.typeIs F.slot_dict_keyiterator_iter (GF F.slot_dict_keyiterator_iter st.typeIs F.entry_dict_keyiterator_iter ?_ (F.args_dict_keyiterator_iter_1 _))
  show FN _ _ (ret (.ref it)) _ _ s
  exact Fj ⟨_,rfl, "dict_keyiterator", _,st.typeIs,F.slot_dict_keyiterator_next.lookup,h⟩
section
variable{X:Cx}{e:Expr}{tg:Expr}{te:TE}
noncomputable def xX(t:TE):TI:=fun σ H R=>t σ H fun v H1=>∃a o us,v = .ref a/\H1 a=some (.frz o (.dK us))/\R (EY a o us) H1
theorem tZ(he:PE X e te):PI X tg e (xX te):=by
 intro pins s σ H R I h
 refine C7 (he pins s σ H _ I h) fun v s1 ⟨x,H1,I1,r1,q1⟩=>?_
 obtain⟨a,o,us,ev,ha,q⟩:=q1
 subst ev
 cases r1
 obtain⟨z,hd,vs,es,ep,rel,hdat,dd⟩:=nU I1.hok ha
 have hl:us.length=vs.length:=G7 rel
 refine wpAny_pyIter_dict hd dd ?_
 refine⟨s1.heap.objs.size,[s1.heap.objs.size],_,_,H1,rfl,I1.kept (t':=s1.toks) fun b o e=>Fh _ e,mw a _ hdat,⟨_,FF _ rfl,rfl,by rw[hl];rfl⟩,fun b hb=>?_,q⟩
 have e:b=s1.heap.objs.size:=by simpa using hb
 subst e
 exact I1.fpOk (FC _) (I1.hok.fresh (FC _))
noncomputable def zw(i:Nat)(T:TS):TS:=fun D σ H=>T {D with nx:=fun σ' H'=>∃a us,σ'[i]?=some (some (.ref a))/\H' a=some (.dK us)/\∀o,D.nx σ' (upd H' a (.frz o (.dK us)))} σ H
theorem tU{st:Stmt}{T:TS}(i:Nat)(h:PS X st T):PS X st (zw i T):=fun pins s σ H D I q=>C7 (h pins s σ H _ I q) fun f s' z=>by
 cases f with
 | next =>
   obtain⟨σ',H',I',a,us,e1,e2,k⟩:=z
   obtain⟨z,hd,vs,rel,o,es,ep,ho,r⟩:=I'.hok a _ e2
   refine⟨σ',_,?_,k o⟩
   exact fO (t':=s'.toks) I' (by rw[e2];trivial) (Kd _ _) ⟨o,ho⟩ ⟨ho,z,hd,vs,rel,o,es,ep,ho,r⟩
 | brk=>exact z
 | cont=>exact z
 | ret u=>exact z
end
end L2
namespace L2.VL
section
variable{X:Cx}{rl:RlT}{a b e o i':Expr}{es:List Expr}{fa fb:TV}{fs:Eg}{pos p px apos cpos:Pos}{ρ:En}{st:Stmt}{t:Eh}
noncomputable def asFw:W->Option (List (EL×Fd))
 | .fw kvs=>some kvs
 | _=>none
theorem asFw_f(kvs:List (EL×Fd)):asFw (.fw kvs)=some kvs:=rfl
theorem jG{w:W}{kvs:List (EL×Fd)}:asFw w=some kvs↔w = .fw kvs:=by
 constructor
 · intro h;unfold asFw at h;split at h<;>simp_all
 · rintro rfl;rfl
noncomputable def asDp:W->Option (List (EL×Fd)×Fd)
 | .dp kvs x=>some (kvs,x)
 | _=>none
theorem asDp_f(kvs:List (EL×Fd))(x:Fd):asDp (.dp kvs x)=some (kvs,x):=rfl
theorem oE{w:W}{z:List (EL×Fd)×Fd}:asDp w=some z↔w = .dp z.1 z.2:=by
 constructor
 · intro h;unfold asDp at h;split at h
   · cases h;rfl
   · cases h
 · rintro rfl;rfl
theorem tK{K:W.Frag}(k:EL):Rep K F (kV k) (oK k):=by cases k<;>constructor
noncomputable def uJ(fa:TV):En->(List Fd->Prop)->Prop:=fun ρ Q=>fa ρ fun w=>∃kvs,w = .fw kvs/\Q (kvs.map fun p=>oK p.1)
theorem uA{K:W.Frag}{us:List (EL×V)}{kvs:List (EL×Fd)}(r:EN K F us kvs){x:Fd}(h:(kvs.map fun p=>oK p.1)[i]?=some x):∃p,us[i]?=some p/\x=oK p.1:=by
 have e:=congrArg (fun l=>(l.map oK)[i]?) r.keys
 simp only[Gu]at e
 rw[show(kvs.map (oK ∘ fun x=>x.1))=kvs.map fun p=>oK p.1 from rfl,h,Gg]at e
 cases q:us[i]? with
 | none=>rw[q]at e;cases e
 | some p=>rw[q]at e;exact⟨p,rfl,(Gv e).symm⟩
theorem lQ(ha:PV X rl a fa):EC X rl tg a (uJ fa):=by
 obtain⟨t,p1,k⟩:=ha
 refine⟨_,tZ p1,fun R Qd Q q h=>k R _ _ q fun v w F1 H1 g1 r1 n1 ⟨kvs,ew,q1⟩=>?_⟩
 subst ew
 obtain⟨x,us,ob,rfl,hx,rk⟩:=r1
 have hl:us.length=kvs.length:=G7 rk
 refine⟨x,ob,us,rfl,g1.sub _ _ hx,h _ (kvs.map fun p=>oK p.1) F1 H1 g1 (VIt.of (fun i H y e s=>⟨?_,s _ _ hx⟩) (fun i H hl' s=>⟨by rw[Fq]at hl';omega,s _ _ hx⟩) fun i H v H' y e s z=>?_) q1⟩
 · have:=(FK.mp e).1
   rw[Fq]at this
   omega
 · obtain⟨e1,pp,e2,e3⟩:=z
   obtain⟨p',e4,e5⟩:=uA rk e
   rw[e2]at e4
   cases e4
   subst e3 e5
   exact⟨e1,tK _⟩
theorem m_iWalk:uJ fa ρ=D4 (fa ρ) fun w=>aG (asFw w) fun kvs=>ret (kvs.map fun p=>oK p.1):=by
 refine ae fun Q=>?_
 simp only[uJ,D4,ag,jG,ret]
noncomputable def me(fa fb:TV):TV:=fun ρ Q=>fa ρ fun x=>fb ρ fun y=>∃kvs k d,x = .fw kvs/\iX y=some k/\lA kvs k=some d/\Q (.d d)
theorem i8(hu:X.A.units+1<Lk)(ho:PV X rl o fa)(hi:PV X rl i' fb)(hs:sd i':=by intro _ _;rfl):PV X rl (.Subscript o i' pos) (me fa fb):=by
 obtain⟨t1,p1,k1⟩:=ho
 obtain⟨t2,p2,k2⟩:=hi
 refine⟨_,fG hu p1 p2 hs,fun R Qd Q q h=>k1 R _ _ q fun v w F1 H1 g1 r1 n1 q1=>k2 (R.grow g1) _ _ q1 fun v2 w2 F2 H2 g2 r2 n2 ⟨kvs,k,d,ex,ek,ed,q2⟩=>?_⟩
 subst ex
 obtain⟨x,us,ob,rfl,hx,rk⟩:=r1.grow g2
 have ev:=eY ek r2
 subst ev
 rcases rk.val k with⟨_,z⟩|⟨v3,d3,e1,e2,r3⟩
 · rw[ed]at z;cases z
 · rw[ed]at e2
   cases e2
   refine⟨x,v3,rfl,?_,h v3 (.d d) F2 H2 (g1.trans g2) r3 trivial q2⟩
   rw[<- e1]
   exact .inl ⟨us,k,.inr ⟨ob,g2.sub _ _ hx⟩,rfl,rfl⟩
theorem m_vDGetW:me fa fb ρ=D4 (fa ρ) fun x=>D4 (fb ρ) fun y=>aG (asFw x) fun kvs=>aG (iX y) fun k=>aG (lA kvs k) fun d=>ret (.d d):=by
 refine ae fun Q=>?_
 simp only[me,D4,ag,jG,ret]
 constructor
 · intro h;refine cast ?_ h;congr 1;funext x;congr 1;funext y;exact propext ⟨fun⟨a,b,c,d,e,f,g⟩=>⟨a,d,b,e,c,f,g⟩,fun⟨a,d,b,e,c,f,g⟩=>⟨a,b,c,d,e,f,g⟩⟩
 · intro h;refine cast ?_ h;congr 1;funext x;congr 1;funext y;exact propext ⟨fun⟨a,d,b,e,c,f,g⟩=>⟨a,b,c,d,e,f,g⟩,fun⟨a,b,c,d,e,f,g⟩=>⟨a,d,b,e,c,f,g⟩⟩
noncomputable def sS(fb fa:TV):TV:=fun ρ Q=>fb ρ fun y=>fa ρ fun x=>∃kvs k,x = .fw kvs/\iX y=some k/\Q (.d (.bool (lA kvs k).isSome))
theorem sK(hu:X.A.units+1<Lk)(hi:PV X rl i' fb)(ho:PV X rl o fa)(hm:HF .In o=false:=by rfl):PB X rl (.Compare i' [.In] [o] pos) (kS (sS fb fa)):=by
 obtain⟨t1,p1,k1⟩:=hi
 obtain⟨t2,p2,k2⟩:=ho
 refine⟨_,xm (xD hu p1 p2) hm,fun R Qd Q q h=>k1 R _ _ q fun v w F1 H1 g1 r1 n1 q1=>k2 (R.grow g1) _ _ q1 fun v2 w2 F2 H2 g2 r2 n2 ⟨kvs,k,ex,ek,c,ec,q2⟩=>?_⟩
 subst ex
 cases ec
 obtain⟨x,us,ob,rfl,hx,rk⟩:=r2
 have ev:=eY ek (r1.grow g2)
 subst ev
 refine⟨x,eU us k,rfl,.inl ⟨us,k,.inr ⟨ob,g2.sub _ _ hx⟩,rfl,rfl⟩,(lA kvs k).isSome,?_,h _ F2 H2 (g1.trans g2) q2⟩
 rcases rk.val k with⟨e1,z⟩|⟨v3,d3,e1,e2,r3⟩
 · rw[e1,z];rfl
 · rw[e1,e2];rfl
theorem m_vDInW:sS fb fa ρ=D4 (fb ρ) fun y=>D4 (fa ρ) fun x=>aG (asFw x) fun kvs=>aG (iX y) fun k=>ret (.d (.bool (lA kvs k).isSome)):=by
 refine ae fun Q=>?_
 simp only[sS,D4,ag,jG,ret]
 constructor
 · intro h;refine cast ?_ h;congr 1;funext y;congr 1;funext x;exact propext ⟨fun⟨a,b,c,d,e⟩=>⟨a,c,b,d,e⟩,fun⟨a,c,b,d,e⟩=>⟨a,b,c,d,e⟩⟩
 · intro h;refine cast ?_ h;congr 1;funext y;congr 1;funext x;exact propext ⟨fun⟨a,c,b,d,e⟩=>⟨a,b,c,d,e⟩,fun⟨a,b,c,d,e⟩=>⟨a,c,b,d,e⟩⟩
noncomputable def l_:TV:=fun _ Q=>Q (.mk [])
theorem oS:PV X rl (.Dict [] [] pos) l_:=by
 refine⟨_,pD,fun R Qd Q q h p hp=>?_⟩
 refine h _ (.mk []) _ _ (Grow.laid R.sub R.reel hp) ⟨p,[],rfl,R.sub.free hp,fun e=>?_,au,.nil⟩ (fun a ea=>by cases ea;exact hp) q
 obtain⟨o,z⟩:=R.reel.live e
 rw[hp]at z
 cases z
theorem m_vDict0K:l_ ρ=ret (.mk []):=nr rfl
theorem VR.ownK{K:W.Frag}{ρ:En}(r:VR K rl F₀ H₀ F H σ ρ){xs ys:List (EL×Fd)}{a:Addr}{us:List (EL×V)}(e:ρ[i]?=some (some (.mk xs)))(es:σ[i]?=some (some (.ref a)))(rs:EN K F us ys) :
 VR K rl F₀ H₀ F (upd H a (.dK us)) σ (ρ.set i (some (.mk ys))):=by
 obtain⟨v,h1,h2,h3⟩:=r.sl i _ e
 rw[es]at h1
 cases h1
 obtain⟨a',vs,ev,f,hr,hh,q⟩:=(show lD K rl F H (.ref a) xs from h2)
 cases ev
 have n0:H₀ a=none:=h3 a rfl
 have hi:i<ρ.length:=(FK.mp e).1
 have neF:∀b u,F b=some u->b≠a:=fun b u q z=>by subst z;rw[f]at q;cases q
 have g:Grow rl F₀ H₀ F (upd H a (.dK us)):=by
  refine⟨fun b o q1 n=>by rw[ak (aK q1 n0)];exact r.g.same b o q1 n,r.g.fs,fun b o q1=>by rw[ak (neF b o q1)];exact r.sub b o q1,r.g.old,fun y z=>?_⟩
  obtain⟨z1,⟨u,h1,h2⟩⟩:=r.reel y z
  exact⟨z1,⟨u,by rw[ak (fun q=>hr (by rw[<- q];exact z))];exact h1,h2⟩⟩
 refine⟨g,fun j w e1=>?_,fun j k ys' zs u hjk e1 e2 w1 w2 s1 s2=>?_,fun j ys' z=>?_,by simp[r.len]⟩
 · by_cases hj:i=j
   · subst hj
     rw[FT hi]at e1
     cases e1
     exact⟨_,es,⟨a,us,rfl,f,hr,au,rs⟩,h3⟩
   · rw[FP hj]at e1
     obtain⟨u,g1,g2,g3⟩:=r.sl j w e1
     refine⟨u,g1,?_,g3⟩
     have ap:w.own=true->∀b,u = .ref b->b≠a:=fun ow b eb z=>r.ap i j _ _ (.ref a) hj e e1 rfl ow es (by rw[g1,eb,z])
     cases w with
     | ml zs=>obtain⟨b,us',eb,f1,f2,f3,f4⟩:=(show hW K rl F H u zs from g2);exact⟨b,us',eb,f1,f2,by rw[ak (ap rfl b eb)];exact f3,f4⟩
     | md zs=>obtain⟨b,us',eb,f1,f2,f3,f4⟩:=(show r_ K rl F H u zs from g2);exact⟨b,us',eb,f1,f2,by rw[ak (ap rfl b eb)];exact f3,f4⟩
     | mk zs=>obtain⟨b,us',eb,f1,f2,f3,f4⟩:=(show lD K rl F H u zs from g2);exact⟨b,us',eb,f1,f2,by rw[ak (ap rfl b eb)];exact f3,f4⟩
     | pk zs=>exact absurd e1 (r.np j zs)
     | _=>exact g2
 · have nd:∀(j:Nat)(z:W),(ρ.set i (some (W.mk ys)))[j]?=some (some z)->z.own=true->∃z',ρ[j]?=some (some z')/\z'.own=true:=fun j zs z o=>by
     by_cases hj:i=j
     · subst hj
       exact⟨_,e,rfl⟩
     · rw[FP hj]at z
       exact⟨zs,z,o⟩
   obtain⟨_,d1,o1⟩:=nd j _ e1 w1
   obtain⟨_,d2,o2⟩:=nd k _ e2 w2
   exact r.ap j k _ _ u hjk d1 d2 o1 o2 s1 s2
 · rw[GG]at z
   split at z
   · first|cases z|(split at z<;>cases z)
   · exact r.np j ys' z
theorem VR.frzK{K:W.Frag}{ρ:En}(r:VR K rl F₀ H₀ F H σ ρ){xs:List (EL×Fd)}{a:Addr}{us:List (EL×V)}{ob:Obj}(e:ρ[i]?=some (some (.mk xs)))(es:σ[i]?=some (some (.ref a)))(hH:H a=some (.dK us))(rs:EN K F us xs) :
 bC F (upd F a (.frz ob (.dK us)))/\VR K rl F₀ H₀ (upd F a (.frz ob (.dK us))) (upd H a (.frz ob (.dK us))) σ (ρ.set i (some (.fw xs))):=by
 obtain⟨v,h1,h2,h3⟩:=r.sl i _ e
 rw[es]at h1
 cases h1
 obtain⟨a',vs,ev,f,hr,hh,q⟩:=(show lD K rl F H (.ref a) xs from h2)
 cases ev
 have n0:H₀ a=none:=h3 a rfl
 have hi:i<ρ.length:=(FK.mp e).1
 have neF:∀b u,F b=some u->b≠a:=fun b u q z=>by subst z;rw[f]at q;cases q
 have fsm:bC F (upd F a (.frz ob (.dK us))):=fun b u z=>by rw[ak (neF b u z)];exact z
 have g:Grow rl F₀ H₀ (upd F a (.frz ob (.dK us))) (upd H a (.frz ob (.dK us))):=by
  refine⟨fun b o q1 n=>by rw[ak (aK q1 n0)];exact r.g.same b o q1 n,r.g.fs.trans fsm,fun b o q1=>?_,fun b o q1=>by rw[ak (aK q1 n0)];exact r.g.old b o q1,fun y z=>?_⟩
  · by_cases hb:b=a
    · subst hb;rw[au]at q1 ⊢;exact q1
    · rw[ak hb]at q1 ⊢;exact r.sub b o q1
  · obtain⟨z1,⟨u,h1,h2⟩⟩:=r.reel y z
    have ny:y≠a:=fun q=>hr (by rw[<- q];exact z)
    exact⟨by rw[ak ny];exact z1,⟨u,by rw[ak ny];exact h1,RO.mono fsm h2⟩⟩
 refine⟨fsm,g,fun j w e1=>?_,fun j k ys' zs u hjk e1 e2 w1 w2 s1 s2=>?_,fun j ys' z=>?_,by simp[r.len]⟩
 · by_cases hj:i=j
   · subst hj
     rw[FT hi]at e1
     cases e1
     exact⟨_,es,⟨a,us,ob,rfl,au,rs.mono fsm⟩,trivial⟩
   · rw[FP hj]at e1
     obtain⟨u,g1,g2,g3⟩:=r.sl j w e1
     refine⟨u,g1,?_,g3⟩
     have ap:w.own=true->∀b,u = .ref b->b≠a:=fun ow b eb z=>r.ap i j _ _ (.ref a) hj e e1 rfl ow es (by rw[g1,eb,z])
     cases w with
     | d x=>exact Rep.mono fsm g2
     | ml zs=>obtain⟨b,us',eb,f1,f2,f3,f4⟩:=(show hW K rl F H u zs from g2);exact⟨b,us',eb,by rw[ak (ap rfl b eb)];exact f1,f2,by rw[ak (ap rfl b eb)];exact f3,f4.mono fsm⟩
     | md zs=>obtain⟨b,us',eb,f1,f2,f3,f4⟩:=(show r_ K rl F H u zs from g2);exact⟨b,us',eb,by rw[ak (ap rfl b eb)];exact f1,f2,by rw[ak (ap rfl b eb)];exact f3,G6.mapP f4 fun _ _ z=>⟨z.1,z.2.mono fsm⟩⟩
     | mk zs=>obtain⟨b,us',eb,f1,f2,f3,f4⟩:=(show lD K rl F H u zs from g2);exact⟨b,us',eb,by rw[ak (ap rfl b eb)];exact f1,f2,by rw[ak (ap rfl b eb)];exact f3,G6.mapP f4 fun _ _ z=>⟨z.1,z.2.mono fsm⟩⟩
     | pk zs=>exact absurd e1 (r.np j zs)
     | reel=>exact g2
     | vv u=>exact g2
     | lk=>trivial
     | nt ds=>obtain⟨b,us,eb,f1,f2⟩:=g2;exact⟨b,us,eb,fsm _ _ f1,f2.mono fsm⟩
     | sc ns=>obtain⟨b,eb,f1⟩:=g2;exact⟨b,eb,jk fsm f1⟩
     | fd kvs=>obtain⟨b,us,eb,f1,f2⟩:=g2;exact⟨b,us,eb,fsm _ _ f1,G6.mapP f2 fun _ _ z=>⟨z.1,z.2.mono fsm⟩⟩
     | fw kvs=>obtain⟨b,us,o,eb,f1,f2⟩:=g2;exact⟨b,us,o,eb,fsm _ _ f1,G6.mapP f2 fun _ _ z=>⟨z.1,z.2.mono fsm⟩⟩
     | ft kvs=>obtain⟨b,us,o,eb,f1,f2⟩:=g2;exact⟨b,us,o,eb,fsm _ _ f1,G6.mapP f2 fun _ _ z=>⟨z.1,z.2.mono fsm⟩⟩
     | xc _ _=>obtain⟨b,dx,us,C,eb,n,f1,f3,f2⟩:=g2;exact⟨b,dx,us,C,eb,n,fsm _ _ f1,fsm _ _ f3,G6.mapP f2 fun _ _ z=>⟨z.1,z.2.mono fsm⟩⟩
     | dp _ _=>obtain⟨c,b,us,u,o,eb,f1,f3,f2,z⟩:=g2;exact⟨c,b,us,u,o,eb,fsm _ _ f1,fsm _ _ f3,G6.mapP f2 fun _ _ z=>⟨z.1,z.2.mono fsm⟩,z.mono fsm⟩
 · have nd:∀(j:Nat)(y:W),(ρ.set i (some (W.fw xs)))[j]?=some (some y)->y.own=true->ρ[j]?=some (some y):=fun j y z o=>by
     by_cases hj:i=j
     · subst hj
       rw[FT hi]at z
       cases z
       cases o
     · rw[FP hj]at z
       exact z
   exact r.ap j k _ _ u hjk (nd j _ e1 w1) (nd k _ e2 w2) w1 w2 s1 s2
 · rw[GG]at z
   split at z
   · first|cases z|(split at z<;>cases z)
   · exact r.np j ys' z
noncomputable def yD:W->Option (List (EL×Fd))
 | .mk kvs=>some kvs
 | _=>none
theorem asMk_m(kvs:List (EL×Fd)):yD (.mk kvs)=some kvs:=rfl
noncomputable def Dq(ρ:En)(i:Nat):Option (List (EL×Fd)):=((ρ[i]?).join).bind yD
theorem rq{kvs:List (EL×Fd)}:Dq ρ i=some kvs↔ρ[i]?=some (some (.mk kvs)):=by
 unfold Dq
 constructor
 · intro h
   cases q:ρ[i]? with
   | none=>rw[q]at h;cases h
   | some o=>rw[q]at h;cases o with
     | none=>cases h
     | some w =>
       have h:yD w=some kvs:=h
       unfold yD at h
       split at h
       · cases h;rfl
       · cases h
 · intro h;rw[h];rfl
noncomputable def yk(i:Nat):Eh:=fun D ρ=>∃kvs,ρ[i]?=some (some (.mk kvs))/\D.nx (ρ.set i (some (.fw kvs)))
theorem lJ(i:Nat)(h:Ez X rl st t):Ez X rl st (ve t (yk i)):=by
 obtain⟨T,p,k⟩:=h
 refine⟨_,tU i p,fun{F₀ H₀ F H σ ρ} R Dv D ok q=>k R {Dv with nx:=yk i Dv} _ ⟨fun F' H' σ' ρ' s' R' z=>?_,ok.rt,ok.bk,ok.ct⟩ q⟩
 obtain⟨kvs,e,q'⟩:=z
 obtain⟨v,h1,h2,h3⟩:=R'.sl i _ e
 obtain⟨a,us,rfl,f,hr,hh,rs⟩:=(show lD X.K rl F' H' v kvs from h2)
 refine⟨a,us,h1,hh,fun o=>?_⟩
 obtain⟨fsm,R2⟩:=R'.frzK (ob:=o) e h1 hh rs
 exact ok.nx _ _ _ _ (s'.trans fsm) R2 q'
theorem s_fzS(i:Nat):mS (yk i) ρ=aG (Dq ρ i) fun kvs=>ret (.nx (ρ.set i (some (.fw kvs)))):=by
 refine ae fun Q=>?_
 simp only[mS,yk,ag,rq,ret]
noncomputable def ma(i:Nat)(fk fx:TV):Eh:=fun D ρ=>∃kvs,ρ[i]?=some (some (.mk kvs))/\fx ρ fun wx=>fk ρ fun wk=>∃k x,iX wk=some k/\wx = .d x/\kvs.length<sizeLine/\D.nx (ρ.set i (some (.mk (putF kvs k x))))
theorem oP(i:Nat){x:Str}{f:Expr}{fk fx:TV}(hu:X.A.units+1<Lk)(hk:PV X rl e fk)(hx:PV X rl f fx)(hN:X.N[i]?=some x:=by rfl)(hv:Eb X.env.scope x:=by first|exact HJ rfl|exact G_ (HJ rfl)|exact G_ (G_ rfl))
 (hd:(x==("__debug__" : Str))=false:=by decide)(hcd:(x==("__classdict__" : Str))=false:=by decide)(hs:HL f (some (.Subscript (.Name x px) e pos')) pos.line X.env=pure false:=by rfl) :
 Ez X rl (.Assign [.Subscript (.Name x px) e pos'] f pos) (ma i fk fx):=by
 obtain⟨t,p1,k1⟩:=hk
 obtain⟨t2,p2,k2⟩:=hx
 refine⟨_,jp hu (dw hN hv hd hcd) p1 p2 hs,fun{F₀ H₀ F H σ ρ} R Dv D ok ⟨kvs,e1,q⟩=>?_⟩
 obtain⟨v,h1,h2,h3⟩:=R.sl i _ e1
 obtain⟨a,us,rfl,f0,hr,hh,rs⟩:=(show lD X.K rl F H v kvs from h2)
 refine k2 R _ _ q fun v2 w2 F2 H2 g2 r2 n2 q2=>⟨.ref a,h1,k1 (R.grow g2) _ _ q2 fun v1 w1 F1 H1 g1 r1 n1 q3=>?_⟩
 obtain⟨k,d,ek,rfl,hz,q3⟩:=q3
 have ev:=eY ek r1
 subst ev
 have g:=g2.trans g1
 have hl:us.length=kvs.length:=G7 rs
 refine⟨a,_,rfl,.inl ⟨us,k,g.same a _ hh hr,rfl,by omega,rfl⟩,?_⟩
 have rs1:EN X.K F1 us kvs:=rs.mono g.fs
 exact ok.nx _ _ _ _ g.fs ((R.grow g).ownK e1 h1 (rs1.put k (Rep.mono g1.fs r2))) q3
theorem s_dputK(i:Nat){fk fx:TV}:mS (ma i fk fx) ρ=aG (Dq ρ i) fun kvs=>D4 (fx ρ) fun wx=>D4 (fk ρ) fun wk=>aG (iX wk) fun k=>aG (asD wx) fun x=>DV (kvs.length<sizeLine) (ret (.nx (ρ.set i (some (.mk (putF kvs k x)))))):=by
 refine ae fun Q=>?_
 simp only[mS,ma,ag,rq,D4,DV,ret,fU]
 refine exists_congr fun kvs=>and_congr_right fun _=>?_
 constructor
 · intro h;refine cast ?_ h;congr 1;funext x;congr 1;funext y;exact propext ⟨fun⟨a,b,c,d,e⟩=>⟨a,c,b,d,e⟩,fun⟨a,c,b,d,e⟩=>⟨a,b,c,d,e⟩⟩
 · intro h;refine cast ?_ h;congr 1;funext x;congr 1;funext y;exact propext ⟨fun⟨a,c,b,d,e⟩=>⟨a,b,c,d,e⟩,fun⟨a,b,c,d,e⟩=>⟨a,c,b,d,e⟩⟩
noncomputable def asFwD:List W->Option (List (EL×Fd)×Fd)
 | [.fw kvs,.d x]=>some (kvs,x)
 | _=>none
theorem asFwD_f(kvs:List (EL×Fd))(x:Fd):asFwD [.fw kvs,.d x]=some (kvs,x):=rfl
theorem qF{ws:List W}{z:List (EL×Fd)×Fd}:asFwD ws=some z↔ws=[.fw z.1,.d z.2]:=by
 constructor
 · intro h;unfold asFwD at h;split at h
   · cases h;rfl
   · cases h
 · rintro rfl;rfl
noncomputable def sP(fs:Eg):TV:=fun ρ Q=>fs ρ fun ws=>∃z:List (EL×Fd)×Fd,ws=[.fw z.1,.d z.2]/\Q (.dp z.1 z.2)
theorem qO{x1}(h:Ev X rl es fs):PV X rl (.Tuple es x1 pos) (sP fs):=by
 obtain⟨t,p,k⟩:=h
 refine⟨_,nc p,fun R Qd Q q h=>k R _ _ q fun vs ws F1 H1 g1 r1 ⟨z,ew,q1⟩=>?_⟩
 subst ew
 cases r1 with
 | cons ra rb =>
   cases rb with
   | @cons u2 _ _ _ rb rc =>
     cases rc
     obtain⟨b,us,o,rfl,hb,rk⟩:=ra
     refine⟨by rw[FG];show 2<=16777216;decide,fun p hp=>?_⟩
     have gd:=Grow.data (a:=p) (o:=.tup [.ref b,u2]) g1.sub g1.reel hp
     exact h _ (.dp z.1 z.2) _ _ (g1.trans gd) ⟨p,b,us,_,o,rfl,au,gd.fs _ _ hb,rk.mono gd.fs,Rep.mono gd.fs rb⟩ trivial q1
theorem m_vTupP:sP fs ρ=D4 (fs ρ) fun ws=>aG (asFwD ws) fun z=>ret (.dp z.1 z.2):=by
 refine ae fun Q=>?_
 simp only[sP,D4,ag,qF,ret]
noncomputable def yw:W->W->(W->Prop)->Prop:=fun x y Q=>∃z:List (EL×Fd)×Fd,x = .dp z.1 z.2/\y = .d (.int 1)/\Q (.d z.2)
theorem vK:Ec X rl (Du X.K) yw:=fun{F H x y wx wy} Qd Q s ra r1 r2 q k=>by
 obtain⟨z,rfl,rfl,q⟩:=q
 have ey:=aB r2
 subst ey
 obtain⟨a,b,us,u,o,rfl,h1,h2,rk,ru⟩:=r1
 exact .inr (.inl ⟨a,_,1,u,rfl,rfl,.inl (.inl (s _ _ h1)),rfl,k _ (.d _) _ _ (Grow.refl s ra) ru trivial q⟩)
theorem yM(ha:PV X rl a fa)(hb:PV X rl b fb)(hs:fV b:=by exact fun _ _=>rfl):PV X rl (.Subscript a b pos) (CU yw fa fb):=hZ vK ha hb fun _ _ p1 p2=>pB kr p1 p2 hs
noncomputable def isOne:W->Option Unit
 | .d (.int 1)=>some ()
 | _=>none
theorem isOne_1:isOne (.d (.int 1))=some ():=rfl
theorem m_gIxP(x y:W):yw x y=aG (asDp x) fun z=>aG (isOne y) fun _=>ret (.d z.2):=by
 have key:∀u,isOne y=some u↔y = .d (.int 1):=fun u=>by
  constructor
  · intro h;unfold isOne at h;split at h
    · rfl
    · cases h
  · rintro rfl;rfl
 refine ae fun Q=>?_
 simp only[yw,ag,oE,key,ret]
 exact exists_congr fun z=>and_congr_right fun _=>⟨fun h=>⟨(),h⟩,fun⟨_,h⟩=>h⟩
noncomputable def yO(i j:Nat)(fa:TV):Eh:=fun D ρ=>fa ρ fun w=>∃z:List (EL×Fd)×Fd,w = .dp z.1 z.2/\D.nx ((ρ.set i (some (.fw z.1))).set j (some (.d z.2)))
theorem vE(i j:Nat){x y:Str}{px py pt:Pos}{kt:Nat}(hc:X.calm=true)(hN:X.N.Nodup)(he:PV X rl e fa)(hi:X.N[i]?=some x:=by rfl)(hj:X.N[j]?=some y:=by rfl)
 (hx:Loc X.env.scope x:=by first|exact HJ rfl|exact G_ rfl)(hf:X.fn x=true\/X.env.scope.names.lookup x=some .local:=by first|exact .inl rfl|exact .inr rfl)
 (hy:Loc X.env.scope y:=by first|exact HJ rfl|exact G_ rfl)(hg:X.fn y=true\/X.env.scope.names.lookup y=some .local:=by first|exact .inl rfl|exact .inr rfl)
 (hs:IS [.Tuple [.Name x px,.Name y py] kt pt] e pos.line X.env=pure false:=by rfl)(hw:IT [.Tuple [.Name x px,.Name y py] kt pt] e X.env=pure none:=by rfl)
 (h1:(G8 [.Tuple [.Name x px,.Name y py] kt pt] X.env).map (·.2)=[Jg (.Tuple [.Name x px,.Name y py] kt pt) X.env]:=by rfl)
 (hn:(G8 [.Name x px,.Name y py] X.env).length=2:=by rfl)(hst:(G8 [.Name x px,.Name y py] X.env).findIdx? (·.1)=none:=by rfl)
 (hs1:(G8 [.Name x px,.Name y py] X.env).map (·.2)=Jg (.Name x px) X.env::(G8 [.Name y py] X.env).map (·.2):=by rfl)
 (hs2:(G8 [.Name y py] X.env).map (·.2)=Jg (.Name y py) X.env::(G8 [] X.env).map (·.2):=by rfl) :
 Ez X rl (.Assign [.Tuple [.Name x px,.Name y py] kt pt] e pos) (yO i j fa):=by
 obtain⟨t,p,k⟩:=he
 refine⟨_,mX p (rE hc (gX (jq hN hi hx hf) (gX (jq hN hj hy hg) na hs2) hs1) hn hst) hs hw h1,fun R Dv D ok q=>k R _ _ q fun v w F1 H1 g1 r1 n1 ⟨z,ew,q1⟩=>?_⟩
 subst ew
 obtain⟨a,b,us,u,o,rfl,h1,h2,rk,ru⟩:=r1
 have R1:=(R.grow g1).set (w:=.fw z.1) (Grow.refl g1.sub g1.reel) (v:=.ref b) ⟨b,us,o,rfl,h2,rk⟩ trivial (fun _ z=>by cases z) i
 have R2:=R1.set (w:=.d z.2) (Grow.refl g1.sub g1.reel) ru trivial (fun _ z=>by cases z) j
 exact⟨a,_,rfl,.inl (.inl (g1.sub _ _ h1)),rfl,_,_,rfl,_,_,rfl,rfl,ok.nx _ _ _ _ g1.fs R2 q1⟩
theorem s_unP(i j:Nat):mS (yO i j fa) ρ=D4 (fa ρ) fun w=>aG (asDp w) fun z=>ret (.nx ((ρ.set i (some (.fw z.1))).set j (some (.d z.2)))):=by
 refine ae fun Q=>?_
 simp only[mS,yO,D4,ag,oE,ret]
end
noncomputable def i9(fi:En->(List Fd->Prop)->Prop)(fr:List (Option Nat))(g:Ek)(ft:TB)(fk fe:TV):TV:=fun ρ Q=>fi ρ fun xs=>qT (eg fr ρ) g ft fk fe xs [] fun kvs=>Q (.mk kvs)
section
variable{X:Cx}{rl:RlT}{kx vx tg iter:Expr}{ifs:List Expr}{scope:Scope}{pos:Pos}{fi:En->(List Fd->Prop)->Prop}{g:Ek}{ft:TB}{fk fe:TV}
theorem qB{N':List Str}{wi:TI}(fr:List (Option Nat))(k0:∀{F₀ H₀ F H:Hp}{σ:St}{ρ:En},VR X.K rl F₀ H₀ F H σ ρ->∀(Qd:List Fd->Prop)(R:It->Hp->Prop),fi ρ Qd ->
 (∀J xs F' H',Grow rl F H F' H'->VIt X.K rl F' J xs->Qd xs->R J H')->wi σ H R)
 (hg:∀y,EF (blk X N' scope y) rl tg g)(ht:∀y,qK (blk X N' scope y) rl ifs ft)(hk:∀y,PV (blk X N' scope y) rl kx fk)(he:∀y,PV (blk X N' scope y) rl vx fe)
 (R:VR X.K rl F₀ H₀ F H σ ρ)(Qd:W->Prop)(Q:VK)(q:i9 fi fr g ft fk fe ρ Qd)
 (k:∀v w F' H',Grow rl F H F' H'->cZ X.K rl F' H' v w->dH H v w->Qd w->Q v H'):mD wi fr (fun y=>Gn (hg y)) (fun y=>Gn (ht y)) (fun y=>Gn (hk y)) (fun y=>Gn (he y)) σ H Q:=by
 refine k0 R _ _ q fun J xs F1 H1 g1 vi q1=>?_
 intro D hD
 have rD:rl.a≠some D:=fun e=>by obtain⟨o,z⟩:=g1.reel.live e;rw[hD]at z;cases z
 have FD:F1 D=none:=g1.sub.free hD
 have gD:Grow rl F1 H1 F1 (upd H1 D (.dK [])):=Grow.laid g1.sub g1.reel hD
 have R1:=R.grow g1
 have n0:lE (eg fr ρ):=eG
 refine⟨fun i m acc σc Hc=>m=xs.length-i/\i<=xs.length/\∃Fc ds,VR X.K rl F1 H1 Fc Hc σc (eg fr ρ)/\Hc D=some (.dK acc)/\Fc D=none/\EN X.K Fc acc ds/\qT (eg fr ρ) g ft fk fe (xs.drop i) ds (fun ds=>Qd (.mk ds)),
  ⟨xs.length,by simp,GW _,F1,[],gB R1 gD,au,FD,.nil,by simpa using q1⟩,?_⟩
 rintro z i m acc σc Hc ⟨rfl,hi,Fc,ds,Rc,hDc,fDc,rs,q2⟩
 have sH:bC F1 Hc:=Rc.g.fs.trans Rc.sub
 by_cases hlt:i<xs.length
 · have ei:xs[i]?=some xs[i]:=by simp[hlt]
   have ed:xs.drop i=xs[i]::xs.drop (i+1):=Ha hlt
   rw[ed]at q2
   refine .inr ⟨vi.go i Hc _ ei sH,fun v H' y=>?_⟩
   obtain⟨Fy,gy,rv⟩:=vi.yld i Hc v H' _ Fc ei Rc.g.fs Rc.sub Rc.reel y
   refine(Fw (hg z)).2 (Rc.grow gy) v _ _ _ rv q2 fun F3 H3 σ3 ρ3 g3 n3 R3 ⟨le3,q3⟩=>?_
   refine(Fw (ht z)).2 R3 _ _ q3 fun b F4 H4 g4 q4=>?_
   have R4:=R3.grow g4
   have g34:=(gy.trans g3).trans g4
   have keepD:∀{Fx Hx:Hp},Grow rl Fc Hc Fx Hx->Hx D=some (.dK acc)/\Fx D=none:=fun gx=>⟨gx.same D _ hDc rD,by rw[gx.old D _ hDc];exact fDc⟩
   cases b with
   | false=>exact⟨xs.length-(i+1),by omega,rfl,hlt,F4,ds,R4.le le3,(keepD g34).1,(keepD g34).2,rs.mono g34.fs,q4⟩
   | true =>
     refine(Fw (hk z)).2 R4 _ _ q4 fun vk wk Fk Hk gk rk nk ⟨kk,ekk,qk⟩=>?_
     have evk:=eY ekk rk
     have R5:=R4.grow gk
     refine(Fw (he z)).2 R5 _ _ qk fun v5 w5 F5 H5 g5 r5 n5 ⟨d,ed5,hl,q5⟩=>?_
     obtain⟨F6,g6,s6,r6⟩:=cZ.fz g5 r5 n5
     rw[ed5]at r6
     have g36:=(g34.trans gk).trans g6
     have lds:acc.length=ds.length:=G7 rs
     refine⟨kk,evk,(keepD g36).1,by rw[lds];exact hl,xs.length-(i+1),by omega,rfl,hlt,F6,putF ds kk d,((R5.grow g6).le le3).other n0 hD (keepD g36).2 rD,au,(keepD g36).2,(rs.mono g36.fs).put kk r6,q5⟩
 · have e:i=xs.length:=by omega
   subst e
   rw[IK]at q2
   refine .inl ⟨vi.stop _ Hc (FC _) sH,k _ (.mk ds) Fc Hc (g1.trans Rc.g) ⟨D,acc,rfl,fDc,rD,hDc,rs⟩ (fun a ea=>by cases ea;exact g1.freeB hD) q2⟩
theorem hX(i:Nat){b:Bool}{x:Str}{spos:Pos}(hN:X.N.Nodup)(N':List Str)(fr:List (Option Nat))(hc:X.calm=true)(hi:EC X rl tg iter fi)
 (hg:∀y,EF (blk X N' scope y) rl tg g)(ht:∀y,qK (blk X N' scope y) rl ifs ft)(hk:∀y,PV (blk X N' scope y) rl kx fk)(he:∀y,PV (blk X N' scope y) rl vx fe)
 (hsw:HL (.DictComp kx vx [⟨tg,iter,ifs,0⟩] scope pos) (some (.Name x px)) spos.line X.env=pure b:=by rfl)
 (hix:X.N[i]?=some x:=by rfl)(hx:Loc X.env.scope x:=by first|exact HJ rfl|exact G_ rfl)(hf:X.fn x=true\/X.env.scope.names.lookup x=some .local:=by first|exact .inl rfl|exact .inr rfl)
 (hfr:qx fr N' X.N scope X.env.scope=true:=by rfl)(hsc:rA scope X.env.scope=true:=by rfl)
 (hs:∀x,Gx iter X.env x=pure x:=by intro _;rfl):Ez X rl (.Assign [.Name x px] (.DictComp kx vx [⟨tg,iter,ifs,0⟩] scope pos) spos) (yR i (i9 fi fr g ft fk fe)):=by
 obtain⟨wi,p0,k0⟩:=hi
 refine⟨_,jo N' fr hc p0 hfr hsc (fun y=>(Fw (hg y)).1) (fun y=>(Fw (ht y)).1) (fun y=>(Fw (hk y)).1) (fun y=>(Fw (he y)).1) hN hix hx hf hsw hs,fun R Dv D ok q=>qB fr k0 hg ht hk he R _ _ q fun v w F1 H1 g1 r1 n1 ⟨hp,q1⟩=>?_⟩
 exact ok.nx _ _ _ _ g1.fs (R.set g1 r1 n1 (fun xs z=>by subst z;cases hp) i) q1
end
theorem m_compDK(fi:En->(List Fd->Prop)->Prop)(fr:List (Option Nat))(g:Ek)(ft:TB)(fk fe:TV)(ρ:En):i9 fi fr g ft fk fe ρ=D4 (fi ρ) fun xs=>D4 (d8 (DN (eg fr ρ) g ft fk fe) xs []) fun kvs=>ret (.mk kvs):=by
 refine ae fun Q=>?_
 show(fi ρ fun xs=>qT (eg fr ρ) g ft fk fe xs [] fun ds=>Q (.mk ds))↔_
 simp only[kG]
 exact Jo
abbrev E3:=List (EL×Fd)×Fd
noncomputable def BJ(K:W.Frag)(rl:RlT)(P:List W->(E3->Prop)->Prop):Sp:=fun vs H Q _=>∃F ws,bC F H/\Eu rl F H/\d9 K rl F H vs ws/\ws.all dG=true/\P ws fun z=>∀v F' H',Grow rl F H F' H'->cZ K rl F' H' v (.dp z.1 z.2)->Q v H'
noncomputable def ub(Q:E3->Prop):VEnds:=⟨fun _=>False,fun w=>∃z:E3,w = .dp z.1 z.2/\Q z,fun _=>False,fun _=>False⟩
structure DfnP (P:F0) (w:GD) (K:W.Frag) (mg:Str->Option Fm) (base:Heap) (rl:RlT) (x:Str) (ps:List Str) (k:Nat) (Pd:List W->(E3->Prop)->Prop):Prop where
 mono:∀ws Q Q',(∀d,Q d->Q' d)->Pd ws Q->Pd ws Q'
 ex:∃f fd,mg x=some (.ref f)/\W.keepIn K (.ref f)=true/\Binds K fd ps []/\FnOk P w K mg base E5 k f fd ps (BJ K rl Pd)
section
variable{P:F0}{w:GD}{K:W.Frag}{mg:Str->Option Fm}{base:Heap}{rl:RlT}{x:Str}{st:Stmt}{N ps:List Str}{k:Nat}{Pd:List W->(E3->Prop)->Prop}{t:Eh}
theorem DfnP.of(Fn:FnIn K mg x st ps)(S:FnScope N ps (defScope st))(mono:∀ws Q Q',(∀d,Q d->Q' d)->Pd ws Q->Pd ws Q')(len:∀ws Q,Pd ws Q->ws.length=ps.length)
 (hbody:∀{f:Addr}(cdv:Fm)(A:GN)(outer:List Env)(s:Ft)(H:Hp)(E:XK),Room k (A.deeper (J9 x (defScope st) s.heap.objs.size f cdv)) ->
  ly (lC E5 P w K mg base N x (defScope st) f cdv A outer s H E).nox rl (defBody st) t)
 (hread:∀ws Q,Pd ws Q->t (ub Q) (cY N ws)):DfnP P w K mg base rl x ps (k+1) Pd:=by
 obtain⟨f,fd,hm,F,hb⟩:=Fn.ex
 refine⟨mono,f,fd,hm,F.kp,hb,?_⟩
 refine F.ok S (fun vs H Q E ⟨F,ws,_,_,r,_,q⟩=>(G7 r).trans (len ws _ q)) fun cdv A outer s H vs Q E hr h=>?_
 obtain⟨F,ws,sm,ra,r,ok,q⟩:=h
 obtain⟨T,p,kk⟩:=hbody cdv A outer s H E hr
 refine⟨T,p,kk (dL sm ra r ok) (ub _) _ ⟨fun _ _ _ _ _ _ z=>GC z,?_,fun _ _ _ _ _ _ z=>GC z,fun _ _ _ _ _ _ z=>GC z⟩ (hread ws _ q)⟩
 rintro v w1 F1 H1 g1 r1 n1 ⟨z,rfl,q1⟩
 exact q1 v F1 H1 g1 r1
noncomputable def Bw(Q:E3->Prop):Fl->Prop
 | .rt w=>∃z:E3,w = .dp z.1 z.2/\Q z
 | _=>False
theorem pe{Q:E3->Prop}(h:mS t ρ (Bw Q)):t (ub Q) ρ:=h
theorem mK{Q:E3->Prop}{kvs:List (EL×Fd)}(h:Q (kvs,d)):ret (Fl.rt (.dp kvs d)) (Bw Q):=⟨(kvs,d),rfl,h⟩
end
section
variable{X:Cx}{rl:RlT}{e:Expr}{es:List Expr}{fs:Eg}{pos p:Pos}{ρ:En}
noncomputable def v6(Pd:List W->(E3->Prop)->Prop)(fs:Eg):TV:=fun ρ Q=>fs ρ fun ws=>ws.all dG=true/\Pd ws fun z=>Q (.dp z.1 z.2)
theorem lX{x:Str}{ps:List Str}{k:Nat}{Pd:List W->(E3->Prop)->Prop}(D:DfnP X.prog X.w X.K X.mg X.base rl x ps k Pd)(hr:Room k X.A)(ha:Ev X rl (e::es) fs)(hg:Gl X x:=by rfl)
 (hdb:(x==("__debug__" : Str))=false:=by decide)(he:FA (e::es) X.env=(false,eval e X.env)::FA es X.env:=by rfl)(hpl:(Hf pos (FA es X.env)).any (·.1)=false:=by rfl) :
 PV X rl (.Call (.Name x p) (e::es) [] pos) (v6 Pd fs):=by
 obtain⟨f,fd,hm,hk,hb,F⟩:=D.ex
 obtain⟨t,p1,kk⟩:=ha
 refine⟨_,gY F hr hg hm hk hb .nil pH p1 hdb he hpl,fun R Qd Q q h=>kk R _ _ q fun vs ws F1 H1 g1 r1 ⟨ok,q1⟩=>?_⟩
 refine⟨F1,ws,g1.sub,g1.reel,by rw[HM];exact r1,ok,?_⟩
 exact D.mono ws _ _ (fun z qd v F2 H2 g2 r2=>h v (.dp z.1 z.2) F2 H2 (g1.trans g2) r2 trivial qd) q1
theorem m_vUseP(Pd:List W->(E3->Prop)->Prop):v6 Pd fs ρ=D4 (fs ρ) fun ws=>DV (ws.all dG=true) (D4 (Pd ws) fun z=>ret (.dp z.1 z.2)):=nr rfl
end
theorem fz_fw(kvs:List (EL×Fd)):(W.fw kvs).fz = .fw kvs:=rfl
theorem pk_fw(kvs:List (EL×Fd)):(W.fw kvs).peek = .fw kvs:=rfl
theorem isPk_fw(kvs:List (EL×Fd)):(W.fw kvs).isPk=false:=rfl
theorem isPk_mk(kvs:List (EL×Fd)):(W.mk kvs).isPk=false:=rfl
theorem isPk_dp(kvs:List (EL×Fd))(x:Fd):(W.dp kvs x).isPk=false:=rfl
noncomputable def E_:=Ff @m_compDK (Ff @m_iWalk (Ff @m_vDGetW (Ff @m_vDInW (Ff @m_vDict0K (Ff @s_fzS (Ff @s_dputK (Ff @m_vTupP (Ff @m_gIxP (Ff @s_unP (Ff @m_vUseP (Ff @fz_fw (Ff @pk_fw (Ff @isPk_fw (Ff @isPk_mk (Ff @isPk_dp (Ff @asFw_f (Ff @asDp_f (Ff @asMk_m (Ff @asFwD_f (Ff @isOne_1 (Ff @keyW_i (@keyW_s))))))))))))))))))))))
end L2.VL
namespace L2.GA
noncomputable def Cg(p a b:Int):Prop:=∃t,a=b+p*t
theorem Cg.refl(a:Int):Cg p a a:=⟨0,by omega⟩
theorem Cg.of{a b:Int}(h:a=b):Cg p a b:=h ▸ .refl a
theorem Cg.symm{a b:Int}(h:Cg p a b):Cg p b a:=let ⟨t,e⟩:=h;⟨-t,by grind⟩
theorem Cg.trans{a b c:Int}(h:Cg p a b)(k:Cg p b c):Cg p a c:=let ⟨t,e⟩:=h;let ⟨u,f⟩:=k;⟨t+u,by grind⟩
theorem Cg.add{a b c d:Int}(h:Cg p a b)(k:Cg p c d):Cg p (a+c) (b+d):=let ⟨t,e⟩:=h;let ⟨u,f⟩:=k;⟨t+u,by grind⟩
theorem Cg.sub{a b c d:Int}(h:Cg p a b)(k:Cg p c d):Cg p (a-c) (b-d):=let ⟨t,e⟩:=h;let ⟨u,f⟩:=k;⟨t-u,by grind⟩
theorem Cg.mul{a b c d:Int}(h:Cg p a b)(k:Cg p c d):Cg p (a*c) (b*d):=let ⟨t,e⟩:=h;let ⟨u,f⟩:=k;⟨t*d+b*u+p*t*u,by grind⟩
theorem Cg.mod(a:Int):Cg p (a.fmod p) a:=⟨-(a.fdiv p),by have:=Int.fmod_add_fdiv_mul a p;grind⟩
theorem Cg.eq{a b:Int}(h:Cg p a b)(a0:0<=a)(a1:a<p)(b0:0<=b)(b1:b<p):a=b:=by
 obtain⟨t,e⟩:=h
 have:a%p=b%p:=by rw[e,JQ]
 rwa [Jq a0 a1,Jq b0 b1]at this
theorem Cg.iff{a b:Int}:Cg p a b↔a%p=b%p:=by
 constructor
 · rintro⟨t,e⟩;rw[e,JQ]
 · intro h
   refine⟨a / p-b / p,?_⟩
   have h1:=Ju a p
   have h2:=Ju b p
   grind
theorem xZ(hp:0<p)(a:Int):a.fmod p=a%p:=Int.fmod_eq_emod_of_nonneg _ (by omega)
theorem fm_in(hp:0<p)(a:Int):0<=a.fmod p/\a.fmod p<p:=by rw[xZ hp];exact⟨Int.emod_nonneg _ (by omega),Int.emod_lt_of_pos _ hp⟩
theorem jA{a:Int}(h0:0<=a)(h1:a<p):a.fmod p=a:=by rw[xZ (by omega)];exact Jq h0 h1
noncomputable def Sg(n:Nat)(f:Nat->Int):Int:=((FJ n).map f).sum
theorem cp(n:Nat)(f:Nat->Int):Sg (n+1) f=Sg n f+f n:=by unfold Sg;rw[JM,HP,KB];simp
theorem oH(n:Nat)(f g:Nat->Int):Sg n (fun k=>f k+g k)=Sg n f+Sg n g:=by
 induction n with
 | zero=>rfl
 | succ n ih=>rw[cp,cp,cp,ih];omega
theorem iS(n:Nat)(f:Nat->Int)(c:Int):Sg n (fun k=>c*f k)=c*Sg n f:=by
 induction n with
 | zero=>simp[Sg]
 | succ n ih=>rw[cp,cp,ih,Int.mul_add]
theorem hV(n:Nat):Sg n (fun _=>0)=0:=by
 induction n with
 | zero=>rfl
 | succ n ih=>rw[cp,ih];rfl
theorem u9(n m:Nat)(f:Nat->Nat->Int):Sg n (fun i=>Sg m fun k=>f i k)=Sg m fun k=>Sg n fun i=>f i k:=by
 induction n with
 | zero =>
   have e:(fun k=>Sg 0 fun i=>f i k)=fun _=>(0:Int):=by funext k;rfl
   rw[e,hV];rfl
 | succ n ih =>
   rw[cp,ih,<- oH]
   congr 1
   funext k
   rw[cp]
theorem Sg_eq(n:Nat){f g:Nat->Int}(h:∀k,k<n->f k=g k):Sg n f=Sg n g:=by
 unfold Sg
 congr 1
 exact Hr fun k mk=>h k (GR.mp mk)
theorem qJ(n:Nat){f g:Nat->Int}(h:∀k,k<n->Cg p (f k) (g k)):Cg p (Sg n f) (Sg n g):=by
 induction n with
 | zero=>exact .refl _
 | succ n ih=>rw[cp,cp];exact(ih fun k hk=>h k (by omega)).add (h n (by omega))
theorem oG(n:Nat){a:Nat}(ha:a<n)(v:Int):Sg n (fun k=>if k=a then v else 0)=v:=by
 induction n with
 | zero=>omega
 | succ n ih =>
   rw[cp]
   by_cases e:a=n
   · subst e
     rw[Sg_eq (g:=fun _=>0) a fun k hk=>by rw[if_neg (by omega)],hV,if_pos rfl];omega
   · rw[ih (by omega),if_neg (by omega)];omega
noncomputable def clr(p:Int)(r o:List Int)(c:Nat):List Int:=(r.zip o).map fun z=>(z.1-r.getD c 0*z.2).fmod p
noncomputable def scl(p:Int)(r:List Int)(k:Int):List Int:=r.map fun x=>(k*x).fmod p
noncomputable def uni(n a:Nat):List Int:=(FJ n).map fun k=>if k=a then 1 else 0
noncomputable def Fg(p:Int)(n:Nat)(r:List Int):Prop:=r.length=n/\∀k,k<n->0<=r.getD k 0/\r.getD k 0<p
theorem gD{xs:List Int}{k:Nat}(h:k<xs.length):xs.getD k 0=xs[k]:=by rw[Fi,Fp h];rfl
theorem clr_len(hr:r.length=n)(ho:o.length=n):(clr p r o c).length=n:=by unfold clr;simp[hr,ho]
theorem iN{k:Nat}(hr:r.length=n)(ho:o.length=n)(hk:k<n):(clr p r o c).getD k 0=(r.getD k 0-r.getD c 0*o.getD k 0).fmod p:=by
 rw[gD (by rw[clr_len hr ho];exact hk)]
 unfold clr
 rw[G5,Km,gD (xs:=r) (k:=k) (by omega),gD (xs:=o) (k:=k) (by omega)]
theorem rV(hp:0<p)(hr:r.length=n)(ho:o.length=n):Fg p n (clr p r o c):=⟨clr_len hr ho,fun k hk=>by rw[iN hr ho hk];exact fm_in hp _⟩
theorem kI{k:Nat}(hr:r.length=n)(ho:o.length=n)(hk:k<n):Cg p ((clr p r o c).getD k 0) (r.getD k 0-r.getD c 0*o.getD k 0):=by rw[iN hr ho hk];exact .mod _
theorem scl_len{a:Int}:(scl p r a).length=r.length:=by unfold scl;simp
theorem mI{a:Int}{k:Nat}(hk:k<r.length):(scl p r a).getD k 0=(a*r.getD k 0).fmod p:=by
 rw[gD (by rw[scl_len];exact hk)]
 unfold scl
 rw[G5,gD hk]
theorem uni_len(n a:Nat):(uni n a).length=n:=by unfold uni;simp
theorem uni_at{a k:Nat}(hk:k<n):(uni n a).getD k 0=if k=a then 1 else 0:=by
 rw[gD (by rw[uni_len];exact hk)];unfold uni;simp
theorem qI{xs:List Int}{k:Nat}(h:k<xs.length):(xs++ys).getD k 0=xs.getD k 0:=by
 rw[Fi,Fi,Ht h]
theorem qH{xs:List Int}{k:Nat}:(xs++ys).getD (xs.length+k) 0=ys.getD k 0:=by
 rw[Fi,Fi,HU (by omega)];congr 2;omega
theorem fM{xs:List Int}{k:Nat}:(xs.drop c).getD k 0=xs.getD (c+k) 0:=by
 rw[Fi,Fi,List.getElem?_drop]
abbrev Kp:=List (Nat×List Int)
noncomputable def KS(ks:Kp)(f:Nat×List Int->Int):Int:=(ks.map f).sum
theorem cq(z:Nat×List Int)(ks:Kp)(f:Nat×List Int->Int):KS (z::ks) f=f z+KS ks f:=by unfold KS;simp
theorem vb(z:Nat×List Int)(ks:Kp)(f:Nat×List Int->Int):KS (ks++[z]) f=KS ks f+f z:=by unfold KS;simp
theorem yf(ks:Kp)(g:Nat×List Int->Nat×List Int)(f:Nat×List Int->Int):KS (ks.map g) f=KS ks fun z=>f (g z):=by unfold KS;rw[Gu];rfl
theorem Aj{ks:Kp}{f g:Nat×List Int->Int}(h:∀z∈ks,Cg p (f z) (g z)):Cg p (KS ks f) (KS ks g):=by
 induction ks with
 | nil=>exact .refl _
 | cons z ks ih=>rw[cq,cq];exact(h z FB).add (ih fun y hy=>h y (Fv _ hy))
theorem yg(ks:Kp)(f g:Nat×List Int->Int):KS ks (fun z=>f z+g z)=KS ks f+KS ks g:=by
 induction ks with
 | nil=>rfl
 | cons z ks ih=>rw[cq,cq,cq,ih];omega
theorem se(ks:Kp)(f:Nat×List Int->Int)(c:Int):KS ks (fun z=>f z*c)=KS ks f*c:=by
 induction ks with
 | nil=>simp[KS]
 | cons z ks ih=>rw[cq,cq,ih,Int.add_mul]
theorem va{ks:Kp}{f:Nat×List Int->Int}(h:∀z∈ks,f z=0):KS ks f=0:=by
 induction ks with
 | nil=>rfl
 | cons z ks ih=>rw[cq,h z FB,ih fun y hy=>h y (Fv _ hy)];rfl
theorem vd{ks:Kp}{f:Nat×List Int->Int}(nd:(ks.map (·.1)).Nodup){y:Nat×List Int}(hy:y∈ks)(h:∀z∈ks,z.1≠y.1->f z=0):KS ks f=f y:=by
 induction ks with
 | nil=>cases hy
 | cons z ks ih =>
   rw[cq]
   rw[FV,Hy]at nd
   rcases GT.mp hy with rfl|hy'
   · rw[va fun x hx=>h x (Fv _ hx) fun e=>nd.1 (by rw[<- e];exact HQ hx)];omega
   · rw[h z FB fun e=>nd.1 (by rw[e];exact HQ hy'),ih nd.2 hy' fun x hx=>h x (Fv _ hx)];omega
noncomputable def clrs(p:Int)(r:List Int)(ks:Kp):List Int:=ks.foldl (fun r z=>clr p r z.2 z.1) r
noncomputable def Gd(p:Int)(C R:Nat)(T:List (List Int))(r:List Int):Prop:=∀c,c<C->Cg p (r.getD c 0) (Sg R fun k=>r.getD (C+k) 0*(T.getD k []).getD c 0)
structure GI (p:Int) (C R:Nat) (T:List (List Int)) (n:Nat) (ks:Kp):Prop where
 len:ks.length=n
 nd:(ks.map (·.1)).Nodup
 lt:∀z∈ks,z.1<C
 fg:∀z∈ks,Fg p (C+R) z.2
 pv:∀z∈ks,∀y∈ks,y.2.getD z.1 0=if y.1=z.1 then 1 else 0
 gd:∀z∈ks,Gd p C R T z.2
 su:∀z∈ks,∀k,n<=k->k<R->z.2.getD (C+k) 0=0
 jj:∀i,i<n->∀c,c<C+R->Cg p ((T.getD i []++uni R i).getD c 0) (KS ks fun z=>(T.getD i []).getD z.1 0*z.2.getD c 0)
theorem GI.nil(p:Int)(C R:Nat)(T:List (List Int)):GI p C R T 0 []:=⟨rfl,.nil,fun _ h=>(nomatch h),fun _ h=>(nomatch h),fun _ h=>(nomatch h),fun _ h=>(nomatch h),fun _ h=>(nomatch h),fun _ h=>by omega⟩
theorem Gd.clr{R:Nat}(hr:r.length=C+R)(ho:o.length=C+R)(g:Gd p C R T r)(g':Gd p C R T o):Gd p C R T (clr p r o c):=fun k hk=>by
 refine(kI hr ho (by omega)).trans ?_
 refine((g k hk).sub ((Cg.refl (r.getD c 0)).mul (g' k hk))).trans ?_
 rw[<- iS,Int.sub_eq_add_neg,<- Int.neg_one_mul,<- iS,<- oH]
 refine qJ R fun j hj=>?_
 refine Cg.symm ?_
 refine((kI hr ho (k:=C+j) (by omega)).mul (.refl _)).trans (.of ?_)
 grind
theorem Gd.scl{R:Nat}{a:Int}(hr:r.length=C+R)(g:Gd p C R T r):Gd p C R T (scl p r a):=fun k hk=>by
 rw[mI (by omega)]
 refine(Cg.mod _).trans (((Cg.refl a).mul (g k hk)).trans ?_)
 rw[<- iS]
 refine qJ R fun j hj=>?_
 rw[mI (by omega)]
 exact(((Cg.mod _).mul (.refl _)).trans (.of (by grind))).symm
theorem oj{p:Int}(hp:0<p){C R n:Nat}{T:List (List Int)}:∀{ks:Kp}{r:List Int},(ks.map (·.1)).Nodup->(∀z∈ks,z.1<C)->(∀z∈ks,Fg p (C+R) z.2)->(∀z∈ks,∀y∈ks,y.2.getD z.1 0=if y.1=z.1 then 1 else 0) ->
 (∀z∈ks,Gd p C R T z.2)->(∀z∈ks,∀k,n<=k->k<R->z.2.getD (C+k) 0=0)->Fg p (C+R) r->Gd p C R T r ->
 Fg p (C+R) (clrs p r ks)/\Gd p C R T (clrs p r ks)/\(∀c,c<C+R->Cg p ((clrs p r ks).getD c 0) (r.getD c 0-KS ks fun z=>r.getD z.1 0*z.2.getD c 0))/\∀k,n<=k->k<R->(clrs p r ks).getD (C+k) 0=r.getD (C+k) 0
 | [],r,_,_,_,_,_,_,fr,gr=>⟨fr,gr,fun c _=>.of (by simp[clrs,KS]),fun _ _ _=>rfl⟩
 | z::ks,r,nd,lt,fg,pv,gd,su,fr,gr=>by
   rw[FV,Hy]at nd
   have fz:=fg z FB
   have mm:∀{y},y∈ks->y∈z::ks:=fun h=>Fv _ h
   obtain⟨a1,a2,a3,a4⟩:=oj hp (C:=C) (R:=R) (n:=n) (T:=T) (ks:=ks) (r:=clr p r z.2 z.1) nd.2 (fun y hy=>lt y (mm hy)) (fun y hy=>fg y (mm hy)) (fun y hy x hx=>pv y (mm hy) x (mm hx)) (fun y hy=>gd y (mm hy)) (fun y hy=>su y (mm hy))
    (rV hp fr.1 fz.1) (Gd.clr fr.1 fz.1 gr (gd z FB))
   refine⟨a1,a2,fun c hc=>(a3 c hc).trans ?_,fun k h1 h2=>(a4 k h1 h2).trans ?_⟩
   · rw[cq]
     have e:∀y∈ks,(clr p r z.2 z.1).getD y.1 0=r.getD y.1 0:=fun y hy=>by
      have hl:=lt y (mm hy)
      rw[iN fr.1 fz.1 (by omega),pv y (mm hy) z FB,if_neg fun e=>nd.1 (by rw[e];exact HQ hy),Ii,KE]
      exact jA (fr.2 _ (by omega)).1 (fr.2 _ (by omega)).2
     have e2:(KS ks fun y=>(clr p r z.2 z.1).getD y.1 0*y.2.getD c 0)=KS ks fun y=>r.getD y.1 0*y.2.getD c 0:=by
      unfold KS;congr 1;exact Hr fun y hy=>by rw[e y hy]
     rw[e2]
     exact((kI fr.1 fz.1 hc).sub (.refl _)).trans (.of (by grind))
   · rw[iN fr.1 fz.1 (by omega),su z FB k h1 h2,Ii,KE]
     exact jA (fr.2 _ (by omega)).1 (fr.2 _ (by omega)).2
structure Hg (p:Int) (C:Nat) (T:List (List Int)) (h:List Int):Prop where
 fg:Fg p T.length h
 ne:∃k,k<T.length/\h.getD k 0≠0
 no:∀c,c<C->Cg p (Sg T.length fun k=>h.getD k 0*(T.getD k []).getD c 0) 0
noncomputable def row0(R n:Nat)(fs:List Int):List Int:=fs++uni R n
section
variable{p:Int}{C:Nat}{T:List (List Int)}{n:Nat}{ks:Kp}
theorem tI(p2:2<=p)(ht:∀t∈T,Fg p C t)(hn:n<T.length):Fg p (C+T.length) (row0 T.length n (T.getD n [])):=by
 have hT:Fg p C (T.getD n []):=by rw[Fi,Fp hn];exact ht _ (Gm hn)
 refine⟨by unfold row0;rw[GK,uni_len,hT.1],fun k hk=>?_⟩
 unfold row0
 by_cases h:k<C
 · rw[qI (by rw[hT.1];exact h)];exact hT.2 k h
 · obtain⟨j,rfl⟩:∃j,k=(T.getD n []).length+j:=⟨k-C,by rw[hT.1];omega⟩
   rw[qH,uni_at (by have:=hT.1;omega)]
   split<;>omega
theorem tH(ht:∀t∈T,Fg p C t)(hn:n<T.length):Gd p C T.length T (row0 T.length n (T.getD n [])):=fun c hc=>by
 have hT:(T.getD n []).length=C:=by rw[Fi,Fp hn];exact(ht _ (Gm hn)).1
 unfold row0
 rw[qI (by rw[hT];exact hc)]
 refine .of ?_
 have e:∀k,k<T.length->(T.getD n []++uni T.length n).getD (C+k) 0*(T.getD k []).getD c 0=if k=n then(T.getD n []).getD c 0 else 0:=fun k hk=>by
  rw[<- hT,qH,uni_at hk]
  by_cases e:k=n
  · subst e;simp
  · rw[if_neg e,if_neg e,Int.zero_mul]
 rw[Sg_eq _ e,oG _ hn]
theorem GI.row(p2:2<=p)(ht:∀t∈T,Fg p C t)(g:GI p C T.length T n ks)(hn:n<T.length) :
 Fg p (C+T.length) (clrs p (row0 T.length n (T.getD n [])) ks)/\Gd p C T.length T (clrs p (row0 T.length n (T.getD n [])) ks) /\
 (∀c,c<C+T.length->Cg p ((clrs p (row0 T.length n (T.getD n [])) ks).getD c 0) ((row0 T.length n (T.getD n [])).getD c 0-KS ks fun z=>(T.getD n []).getD z.1 0*z.2.getD c 0)) /\
 (∀z∈ks,(clrs p (row0 T.length n (T.getD n [])) ks).getD z.1 0=0)/\(clrs p (row0 T.length n (T.getD n [])) ks).getD (C+n) 0=1/\∀k,n<k->k<T.length->(clrs p (row0 T.length n (T.getD n [])) ks).getD (C+k) 0=0:=by
 have hT:(T.getD n []).length=C:=by rw[Fi,Fp hn];exact(ht _ (Gm hn)).1
 obtain⟨a1,a2,a3,a4⟩:=oj (by omega) (n:=n) g.nd g.lt g.fg g.pv g.gd g.su (tI p2 ht hn) (tH ht hn)
 have e0:∀z∈ks,(row0 T.length n (T.getD n [])).getD z.1 0=(T.getD n []).getD z.1 0:=fun z hz=>by unfold row0;exact qI (by rw[hT];exact g.lt z hz)
 have ek:∀c,(KS ks fun z=>(row0 T.length n (T.getD n [])).getD z.1 0*z.2.getD c 0)=KS ks fun z=>(T.getD n []).getD z.1 0*z.2.getD c 0:=fun c=>by
  unfold KS;congr 1;exact Hr fun z hz=>by rw[e0 z hz]
 have er:∀k,k<T.length->(row0 T.length n (T.getD n [])).getD (C+k) 0=if k=n then 1 else 0:=fun k hk=>by unfold row0;rw[<- hT,qH,uni_at hk]
 refine⟨a1,a2,fun c hc=>by have:=a3 c hc;rwa [ek c]at this,fun z hz=>?_,?_,fun k h1 h2=>?_⟩
 · have hl:=g.lt z hz
   have q:=a3 z.1 (by omega)
   rw[ek,e0 z hz,vd g.nd hz fun y hy ne=>by rw[g.pv z hz y hy,if_neg ne,Ii],g.pv z hz z hz,if_pos rfl,Kg,Int.sub_self]at q
   exact q.eq (a1.2 _ (by omega)).1 (a1.2 _ (by omega)).2 (by omega) (by omega)
 · rw[a4 n (FC _) hn,er n hn,if_pos rfl]
 · rw[a4 k (by omega) h2,er k h2,if_neg (by omega)]
theorem GI.hang(p2:2<=p)(ht:∀t∈T,Fg p C t)(g:GI p C T.length T n ks)(hn:n<T.length)(h0:∀c,c<C->(clrs p (row0 T.length n (T.getD n [])) ks).getD c 0=0) :
 Hg p C T ((clrs p (row0 T.length n (T.getD n [])) ks).drop C):=by
 obtain⟨a1,a2,a3,a4,a5,a6⟩:=g.row p2 ht hn
 refine⟨⟨by rw[HX,a1.1];omega,fun k hk=>by rw[fM];exact a1.2 _ (by omega)⟩,⟨n,hn,by rw[fM,a5];decide⟩,fun c hc=>?_⟩
 have q:=a2 c hc
 rw[h0 c hc]at q
 refine Cg.symm (q.trans (.of (Sg_eq _ fun k hk=>by rw[fM])))
theorem GI.step(p2:2<=p)(ht:∀t∈T,Fg p C t)(g:GI p C T.length T n ks)(hn:n<T.length){v:Nat}(hv:v<C){a:Int}
 (ha:Cg p (a*(clrs p (row0 T.length n (T.getD n [])) ks).getD v 0) 1) :
 (∀z∈ks,z.1≠v)/\GI p C T.length T (n+1) (ks.map (fun z=>(z.1,clr p z.2 (scl p (clrs p (row0 T.length n (T.getD n [])) ks) a) v))++[(v,scl p (clrs p (row0 T.length n (T.getD n [])) ks) a)]):=by
 obtain⟨a1,a2,a3,a4,a5,a6⟩:=g.row p2 ht hn
 have hTl:∀i,i<T.length->(T.getD i []).length=C:=fun i hi=>by rw[Fi,Fp hi];exact(ht _ (Gm hi)).1
 have a3':∀c,c<C+T.length->Cg p ((T.getD n []++uni T.length n).getD c 0) ((clrs p (row0 T.length n (T.getD n [])) ks).getD c 0+KS ks fun z=>(T.getD n []).getD z.1 0*z.2.getD c 0):=fun c hc =>
  Cg.symm (((a3 c hc).add (.refl _)).trans (.of (by unfold row0;grind)))
 generalize hw:clrs p (row0 T.length n (T.getD n [])) ks=w at *
 have sl:(scl p w a).length=C+T.length:=by rw[scl_len,a1.1]
 have sa:∀k,k<C+T.length->(scl p w a).getD k 0=(a*w.getD k 0).fmod p:=fun k hk=>mI (by rw[a1.1];exact hk)
 have sv:(scl p w a).getD v 0=1:=by
  rw[sa v (by omega)]
  exact((Cg.mod _).trans ha).eq (fm_in (by omega) _).1 (fm_in (by omega) _).2 (by omega) (by omega)
 have sz:∀z∈ks,(scl p w a).getD z.1 0=0:=fun z hz=>by
  have:=g.lt z hz
  rw[sa z.1 (by omega),a4 z hz,Ii];exact jA (by omega) (by omega)
 have ne:∀z∈ks,z.1≠v:=fun z hz e=>by
  have:=a4 z hz
  rw[e]at this
  rw[this,Ii]at ha
  have:=ha.eq (by omega) (by omega) (by omega) (by omega)
  omega
 have cl:∀z∈ks,∀k,k<C+T.length->(clr p z.2 (scl p w a) v).getD k 0=(z.2.getD k 0-z.2.getD v 0*(scl p w a).getD k 0).fmod p:=fun z hz k hk=>iN (g.fg z hz).1 sl hk
 have mem:∀y,y∈ks.map (fun z=>(z.1,clr p z.2 (scl p w a) v))++[(v,scl p w a)]->(∃z∈ks,y=(z.1,clr p z.2 (scl p w a) v))\/y=(v,scl p w a):=fun y hy=>by
  rcases IR.mp hy with h|h
  · obtain⟨z,hz,e⟩:=Gf.mp h;exact .inl ⟨z,hz,e.symm⟩
  · exact .inr (J1.mp h)
 refine⟨ne,by simp[g.len],?_,fun y hy=>?_,fun y hy=>?_,fun y hy x hx=>?_,fun y hy=>?_,fun y hy k h1 h2=>?_,fun i hi c hc=>?_⟩
 · rw[HP,Gu]
   refine List.nodup_append.mpr ⟨g.nd,by simp,fun x hx y hy=>?_⟩
   obtain⟨z,hz,rfl⟩:=Gf.mp hx
   simp at hy
   subst hy
   exact ne z hz
 · rcases mem y hy with⟨z,hz,rfl⟩|rfl
   · exact g.lt z hz
   · exact hv
 · rcases mem y hy with⟨z,hz,rfl⟩|rfl
   · exact rV (by omega) (g.fg z hz).1 sl
   · exact⟨sl,fun k hk=>by rw[sa k hk];exact fm_in (by omega) _⟩
 · rcases mem y hy with⟨z,hz,rfl⟩|rfl
   · have zl:=g.lt z hz
     rcases mem x hx with⟨u,hu,rfl⟩|rfl
     · show(clr p u.2 (scl p w a) v).getD z.1 0=_
       rw[cl u hu z.1 (by omega),sz z hz,Ii,KE,g.pv z hz u hu]
       show _=if u.1=z.1 then(1:Int)else 0
       split<;>exact jA (by omega) (by omega)
     · show(scl p w a).getD z.1 0=if v=z.1 then(1:Int)else 0
       rw[sz z hz,if_neg (Kf (ne z hz))]
   · rcases mem x hx with⟨u,hu,rfl⟩|rfl
     · show(clr p u.2 (scl p w a) v).getD v 0=if u.1=v then(1:Int)else 0
       rw[cl u hu v (by omega),sv,Kg,Int.sub_self,if_neg (ne u hu)];exact jA (by omega) (by omega)
     · show(scl p w a).getD v 0=if v=v then(1:Int)else 0
       rw[sv,if_pos rfl]
 · rcases mem y hy with⟨z,hz,rfl⟩|rfl
   · exact Gd.clr (g.fg z hz).1 sl (g.gd z hz) (Gd.scl a1.1 a2)
   · exact Gd.scl a1.1 a2
 · have s0:(scl p w a).getD (C+k) 0=0:=by rw[sa (C+k) (by omega),a6 k (by omega) h2,Ii];exact jA (by omega) (by omega)
   rcases mem y hy with⟨z,hz,rfl⟩|rfl
   · show(clr p z.2 (scl p w a) v).getD (C+k) 0=0
     rw[cl z hz (C+k) (by omega),s0,g.su z hz k (by omega) h2,Ii,KE];exact jA (by omega) (by omega)
   · exact s0
 · -- every row is told by the kept ones
   have hil:i<T.length:=by omega
   obtain⟨q,hq⟩:∃q:Int,∀c,c<C+T.length->Cg p ((T.getD i []++uni T.length i).getD c 0) (KS ks (fun z=>(T.getD i []).getD z.1 0*z.2.getD c 0)+q*(scl p w a).getD c 0):=by
    by_cases e:i<n
    · exact⟨0,fun c hc=>(g.jj i e c hc).trans (.of (by omega))⟩
    · have e:i=n:=by omega
      subst e
      refine⟨w.getD v 0,fun c hc=>(a3' c hc).trans ?_⟩
      rw[Int.add_comm]
      refine(Cg.refl _).add ?_
      rw[sa c hc]
      refine Cg.symm (((Cg.refl _).mul (Cg.mod _)).trans ?_)
      refine Cg.trans (.of (show w.getD v 0*(a*w.getD c 0)=a*w.getD v 0*w.getD c 0 by grind)) ((ha.mul (.refl _)).trans (.of (by omega)))
   have qv:=hq v (by omega)
   rw[qI (by rw[hTl i hil];exact hv),sv,Kg]at qv
   refine(hq c hc).trans ?_
   rw[vb,yf]
   show Cg p _ ((KS ks fun z=>(T.getD i []).getD z.1 0*(clr p z.2 (scl p w a) v).getD c 0)+(T.getD i []).getD v 0*(scl p w a).getD c 0)
   refine Cg.symm (((Aj (g:=fun z=>(T.getD i []).getD z.1 0*z.2.getD c 0 + -((T.getD i []).getD z.1 0*z.2.getD v 0)*(scl p w a).getD c 0) fun z hz=>?_).add (qv.mul (.refl _))).trans ?_)
   · exact((Cg.refl _).mul (kI (g.fg z hz).1 sl hc)).trans (.of (by grind))
   · rw[yg,se]
     refine .of ?_
     have:(KS ks fun z=>-((T.getD i []).getD z.1 0*z.2.getD v 0)) = -(KS ks fun z=>(T.getD i []).getD z.1 0*z.2.getD v 0):=by
      have:=se ks (fun z=>(T.getD i []).getD z.1 0*z.2.getD v 0) (-1)
      simp only[Int.mul_neg,Kg]at this
      exact this
     rw[this]
     grind
noncomputable def xrow(C R:Nat)(ks:Kp)(c:Nat):List Int:=match ks.find? (fun z=>decide (z.1=c))with
 | some z=>z.2.drop C
 | none=>FQ R 0
theorem mP(R k:Nat):(FQ R (0:Int)).getD k 0=0:=by
 rw[Fi,IV];split<;>rfl
theorem jJ{C R k:Nat}(f:Nat->Int):∀{ks:Kp},(ks.map (·.1)).Nodup->(∀z∈ks,z.1<C)->Sg C (fun c=>f c*(xrow C R ks c).getD k 0)=KS ks fun z=>f z.1*z.2.getD (C+k) 0
 | [],_,_=>by
   rw[Sg_eq (g:=fun _=>0) C fun c hc=>by show f c*(FQ R 0).getD k 0=0;rw[mP,Ii],hV];rfl
 | z::ks,nd,lt=>by
   rw[FV,Hy]at nd
   have lz:=lt z FB
   rw[cq,<- jJ f nd.2 fun y hy=>lt y (Fv _ hy)]
   rw[<- oG C lz (f z.1*z.2.getD (C+k) 0),<- oH]
   refine Sg_eq C fun c hc=>?_
   by_cases e:c=z.1
   · subst e
     rw[if_pos rfl]
     have e1:xrow C R (z::ks) z.1=z.2.drop C:=by unfold xrow;rw[GL];simp
     have e2:xrow C R ks z.1=FQ R 0:=by
      unfold xrow
      have:ks.find? (fun y=>decide (y.1=z.1))=none:=by
       rw[List.find?_eq_none]
       intro y hy h
       exact nd.1 (by rw[<- of_decide_eq_true h];exact HQ hy)
      rw[this]
     rw[e1,e2,mP,fM];omega
   · rw[if_neg e]
     have e1:xrow C R (z::ks) c=xrow C R ks c:=by unfold xrow;rw[GL];simp[Kf e]
     rw[e1];omega
noncomputable def IsRi(p:Int)(C:Nat)(T X:List (List Int)):Prop:=X.length=C/\(∀r∈X,Fg p T.length r)/\∀i,i<T.length->∀k,k<T.length->Cg p (Sg C fun c=>(T.getD i []).getD c 0*(X.getD c []).getD k 0) (if k=i then 1 else 0)
theorem GI.ri(p2:2<=p)(ht:∀t∈T,Fg p C t)(g:GI p C T.length T T.length ks):IsRi p C T ((FJ C).map fun c=>xrow C T.length ks c):=by
 refine⟨by simp,fun r hr=>?_,fun i hi k hk=>?_⟩
 · obtain⟨c,_,rfl⟩:=Gf.mp hr
   unfold xrow
   split
   · rename_i z e
     have fz:=g.fg z (J7 e)
     exact⟨by rw[HX,fz.1];omega,fun k hk=>by rw[fM];exact fz.2 _ (by omega)⟩
   · exact⟨by simp,fun k hk=>by rw[mP];omega⟩
 · have hT:(T.getD i []).length=C:=by rw[Fi,Fp hi];exact(ht _ (Gm hi)).1
   have e:∀c,c<C->(T.getD i []).getD c 0*(((FJ C).map fun c=>xrow C T.length ks c).getD c []).getD k 0=(T.getD i []).getD c 0*(xrow C T.length ks c).getD k 0:=fun c hc=>by
    congr 2
    rw[Fi,Fp (by simpa using hc)]
    simp
   rw[Sg_eq C e,jJ _ g.nd g.lt]
   have j:=g.jj i hi (C+k) (by omega)
   rw[<- hT,qH,uni_at hk,hT]at j
   exact j.symm
noncomputable def Ind(p:Int)(C:Nat)(T:List (List Int)):Prop:=∀f:Nat->Int,(∀c,c<C->Cg p (Sg T.length fun k=>f k*(T.getD k []).getD c 0) 0)->∀k,k<T.length->Cg p (f k) 0
theorem IsRi.ind{X:List (List Int)}(h:IsRi p C T X):Ind p C T:=fun f hf k hk=>by
 have e1:Cg p (Sg C fun c=>(Sg T.length fun i=>f i*(T.getD i []).getD c 0)*(X.getD c []).getD k 0) 0:=by
  refine(qJ (g:=fun _=>0) C fun c hc=>((hf c hc).mul (.refl _)).trans (.of (by omega))).trans (.of (hV C))
 have e2:(Sg C fun c=>(Sg T.length fun i=>f i*(T.getD i []).getD c 0)*(X.getD c []).getD k 0)=Sg T.length fun i=>f i*Sg C fun c=>(T.getD i []).getD c 0*(X.getD c []).getD k 0:=by
  have a1:(fun c=>(Sg T.length fun i=>f i*(T.getD i []).getD c 0)*(X.getD c []).getD k 0)=fun c=>Sg T.length fun i=>f i*((T.getD i []).getD c 0*(X.getD c []).getD k 0):=by
   funext c
   rw[LF,<- iS]
   congr 1
   funext i
   grind
  rw[a1,u9]
  congr 1
  funext i
  rw[iS]
 rw[e2]at e1
 have e3:Cg p (Sg T.length fun i=>f i*Sg C fun c=>(T.getD i []).getD c 0*(X.getD c []).getD k 0) (f k):=by
  refine(qJ (g:=fun i=>if i=k then f k else 0) T.length fun i hi=>((Cg.refl (f i)).mul (h.2.2 i hi k hk)).trans (.of ?_)).trans (.of (oG T.length hk (f k)))
  by_cases e:i=k
  · subst e;simp
  · rw[if_neg (Kf e),if_neg e];simp
 exact e3.symm.trans e1
theorem Hg.not{h:List Int}(a:Hg p C T h):¬Ind p C T:=fun i=>by
 obtain⟨k,hk,ne⟩:=a.ne
 have:=i (fun k=>h.getD k 0) a.no k hk
 exact ne (this.eq (a.fg.2 k hk).1 (a.fg.2 k hk).2 (by omega) (by have:=a.fg.2 k hk;omega))
theorem uo:∀(C:Nat)(l:List Nat),l.Nodup->(∀x∈l,x<C)->l.length<=C
 | 0,l,_,h=>by
   cases l with
   | nil=>exact FC _
   | cons x l=>exact absurd (h x FB) (by omega)
 | C+1,l,nd,h=>by
   by_cases m:C∈l
   · have:=uo C (l.erase C) (nd.erase C) fun x hx=>by
       rw[nd.mem_erase_iff]at hx
       have:=h x hx.2
       omega
     rw[List.length_erase_of_mem m]at this
     omega
   · have:=uo C l nd fun x hx=>by
       have h1:=h x hx
       have:x≠C:=fun e=>m (e▸hx)
       omega
     omega
theorem GI.le(g:GI p C T.length T n ks):n<=C:=by
 have:=uo C (ks.map (·.1)) g.nd fun x hx=>by
  obtain⟨z,hz,rfl⟩:=Gf.mp hx
  exact g.lt z hz
 rw[Fq,g.len]at this
 exact this
end
noncomputable def Ch(p:Int)(C:Nat)(T:List (List Int)):Prop:=∀cs:List (Int×List Int),cs.map (·.2)=T->(∀c,c<C->Cg p (cs.map fun z=>z.1*z.2.getD c 0).sum 0)->∀z∈cs,Cg p z.1 0
theorem u8(cs:List α)(d:α)(g:α->Int):Sg cs.length (fun k=>g (cs.getD k d))=(cs.map g).sum:=by
 unfold Sg
 congr 1
 refine Ip (by simp) fun k a b=>?_
 have hk:k<cs.length:=by simpa using b
 rw[G5,G5,HZ,Fi,Fp hk];rfl
theorem ind_iff:Ind p C T↔Ch p C T:=by
 constructor
 · intro h cs e hs z mz
   obtain⟨k,hk,rfl⟩:=Hs mz
   have hl:T.length=cs.length:=by rw[<- e,Fq]
   have eT:∀k,T.getD k []=(cs.getD k (0,[])).2:=fun k=>by
    rw[<- e,Fi,Fi,Gg];cases cs[k]?<;>rfl
   have q:=h (fun k=>(cs.getD k (0,[])).1) (fun c hc=>by
    have:=hs c hc
    rw[<- u8 cs (0,[]) fun z=>z.1*z.2.getD c 0]at this
    rw[hl]
    refine(Cg.of (Sg_eq _ fun k _=>?_)).trans this
    rw[eT]) k (by omega)
   have e1:cs.getD k (0,[])=cs[k]:=by rw[Fi,Fp hk];rfl
   have q:Cg p (cs.getD k (0,[])).1 0:=q
   rwa [e1]at q
 · intro h f hf k hk
   refine h ((FJ T.length).map fun k=>(f k,T.getD k [])) ?_ (fun c hc=>?_) (f k,T.getD k []) (Gf.mpr ⟨k,GR.mpr hk,rfl⟩)
   · rw[Gu]
     refine Ip (by simp) fun i a b=>?_
     have hi:i<T.length:=by simpa using a
     simp[Fi,Fp hi]
   · rw[Gu];exact hf c hc
theorem pP{T':List (List Int)}(h:T'.Sublist T):∀cs:List (Int×List Int),cs.map (·.2)=T'->∃cs':List (Int×List Int),cs'.map (·.2)=T/\(∀z∈cs,z∈cs')/\∀c,(cs'.map fun z=>z.1*z.2.getD c 0).sum=(cs.map fun z=>z.1*z.2.getD c 0).sum:=by
 induction h with
 | slnil=>intro cs e;exact⟨cs,e,fun z h=>h,fun _=>rfl⟩
 | cons a h ih =>
   intro cs e
   obtain⟨cs',h1,h2,h3⟩:=ih cs e
   exact⟨(0,a)::cs',by rw[FV,h1],fun z hz=>Fv _ (h2 z hz),fun c=>by rw[FV,Hd,h3];omega⟩
 | cons_cons a h ih =>
   intro cs e
   cases cs with
   | nil=>cases e
   | cons z cs =>
     rw[FV,G4]at e
     obtain⟨cs',h1,h2,h3⟩:=ih cs e.2
     refine⟨z::cs',by rw[FV,h1,e.1],fun y hy=>?_,fun c=>by rw[FV,FV,Hd,Hd,h3]⟩
     rcases GT.mp hy with rfl|hy
     · exact FB
     · exact Fv _ (h2 y hy)
theorem Ind.sub{T':List (List Int)}(h:T'.Sublist T)(i:Ind p C T):Ind p C T':=ind_iff.mpr fun cs e hs z mz=>by
 obtain⟨cs',h1,h2,h3⟩:=pP h cs e
 exact ind_iff.mp i cs' h1 (fun c hc=>by rw[h3];exact hs c hc) z (h2 z mz)
noncomputable def wV(ts:List (List (List Int)))(ks:List Int):List (List Int):=(ts.zip ks).flatMap fun z=>z.1.take z.2.toNat
noncomputable def Net(p:Int)(m:Nat)(ts:List (List (List Int)))(w:Int):Prop:=∀ks:List Int,ks.length=ts.length->(∀k∈ks,0<=k)->ks.sum=w->Ind p m (wV ts ks)
theorem Net.down{m:Nat}{w:Int}(t1:1<=ts.length)(h:Net p m ts (w+1)):Net p m ts w:=fun ks kl k0 ksum=>by
 cases ts with
 | nil=>simp at t1
 | cons t ts =>
   cases ks with
   | nil=>simp at kl
   | cons k ks =>
     have k0':=k0 k FB
     refine(h ((k+1)::ks) (by simpa using kl) (fun y hy=>?_) (by rw[Hd]at ksum ⊢;omega)).sub ?_
     · rcases GT.mp hy with rfl|hy
       · omega
       · exact k0 y (Fv _ hy)
     · unfold wV
       rw[J3,IF,J3,IF]
       refine List.Sublist.append ?_ (List.Sublist.refl _)
       show(t.take k.toNat).Sublist (t.take (k+1).toNat)
       have:t.take k.toNat=(t.take (k+1).toNat).take k.toNat:=by rw[List.take_take];congr 1;omega
       rw[this]
       exact List.take_sublist _ _
theorem Net.le{p:Int}{m:Nat}{ts:List (List (List Int))}(t1:1<=ts.length):∀(n:Nat){w:Int},Net p m ts (w+n)->Net p m ts w
 | 0,w,h=>by simpa using h
 | n+1,w,h=>Net.le t1 n (Net.down t1 (by rwa [show w+(n:Int)+1=w+((n+1:Nat):Int) by omega]))
structure Str (p:Int) (m:Nat) (ts:List (List (List Int))) (o:Int):Prop where
 o0:0<=o
 om:o<=m
 net:o≠0->Net p m ts o
 C5:∀w,o<w->w<=m->¬Net p m ts w
end L2.GA
namespace L2
section
variable{X:Cx}
end
end L2
namespace L2.VL
section
variable{X:Cx}{rl:RlT}{a e:Expr}{fs:Eg}{pos p:Pos}
end
end L2.VL
namespace L2.TM
end L2.TM
namespace L2
section
variable{X:Cx}
end
end L2
namespace L2.VL
section
variable{X:Cx}{rl:RlT}{a b:Expr}{fa fb:TV}{pos:Pos}
end
section
variable{X:Cx}{al:Option Addr}{c:Nat}{a:Expr}{lo hi:Option Expr}{fa:TV}{fl fh:Ei}{pos p2:Pos}{tg:Expr}
end
section
variable{X:Cx}{rl:RlT}{iter:Expr}{scope:Scope}{fi:En->(List Fd->Prop)->Prop}{xk xl xh f:Str}{ps:List Str}{k:Nat}{Pd:List W->(Fd->Prop)->Prop}{pk p1 p2 p3 p4 p5 p6 p7 p8 p9 p10 ap pc rp:Pos}
end
section
variable{X:Cx}{al:Option Addr}{c1 c2:Nat}{iter:Expr}{scope:Scope}{fi:En->(List Fd->Prop)->Prop}{xk xl xh f:Str}{ps:List Str}{k:Nat}{Pd:List W->(Fd->Prop)->Prop}{pk p1 p2 p3 p4 p5 p6 p7 p8 p9 p10 ap pc rp:Pos}
end
end L2.VL
namespace L2
noncomputable def EX(hi:Int)(n:Nat):It:=⟨fun i _=>i<n,fun i H x H'=>H'=H/\x = .int (hi-i),fun i _=>n<=i⟩
theorem mv{K:W.Frag}(it:Addr)(hi:Int)(n:Nat):Turn P w K tg (EX hi n) [it] it (fun i h=>KZ h it (hi+(i:Nat)*(-1)) ((n:Int)-(i:Nat)) (-1)) where
 mem:=by simp
 obj:=fun i h st b hb=>by
  have e:b=it:=by simpa using hb
  subst e
  exact⟨_,st,fun v z=>by
   have z':Data.fields _=Data.cell v:=z
   cases z'⟩
 keep:=fun i h h' st k=>k it (by simp) _ st
 item:=by
  intro X hP hw hK hc i pins s σ H E I hf st hg
  subst hP hw hK
  obtain⟨f0,f1,f2,f3,f4,f5⟩:=hf it (by simp)
  have W:=Walks.range (prog:=X.prog) (w:=X.w) (I.ok.hd hc) it hi (-1) n
  refine W.item i s _ _ hg st fun v h' tk hv st' kk=>?_
  obtain⟨t,rfl⟩:=hv
  have I1:Inv X pins σ H {s with heap:=h',toks:=tk}:=I.turned (fun b o hb e=>kk b o (by simpa using hb) e) f0 f1 f3 f4 f5
  refine⟨_,rfl,nP (s:={s with heap:=h',toks:=tk}) (n := "range_iterator") st' rfl rfl (by decide) ⟨.int (hi-i),H,I1,⟨t,?_⟩,⟨rfl,rfl⟩,st',fun b hb=>(hf b hb).1⟩⟩
  congr 1
  omega
 done:=by
  intro X hP hw hK hc i pins s σ H E I hf st hg
  subst hP hw hK
  obtain⟨f0,f1,f2,f3,f4,f5⟩:=hf it (by simp)
  exact Ko (I.ok.hd hc) st (by have:n<=i:=hg;omega) fun h' eb=>⟨rfl,I.turned (t':=s.toks) (fun b o hb e=>eb b o hb e) f0 f1 f3 f4 f5⟩
 self:=fun _ _ _ _ _ st h=>Kq st h
theorem rangeSize_down(a b:Int):Ik a b (-1)=if b<a then a-b else 0:=by
 unfold Ik
 rw[if_neg (by decide)]
 simp only[show(-(-1):Int)=1 by decide,LB]
 by_cases h:b<a
 · rw[if_pos h,if_pos h];omega
 · rw[if_neg h,if_neg h]
theorem small_down{a b:Int}(ha : -(2^61)<=a)(ha':a<2^61)(hb : -(2^61)<=b)(hb':b<2^61):K_ a b (-1)=true:=by
 unfold K_
 rw[rangeSize_down]
 simp only[Builtin.Range.rangeFitsLong,Jv,Bool.or_eq_true,decide_eq_true_eq,beq_iff_eq,show ¬((-1:Int)>0) by decide,if_false]
 split<;>omega
section
variable{X:Cx}{tg:Expr}
noncomputable def zS(ta:TA):TI:=fun σ H R=>ta σ H fun vs H1=>∃i j:Int,vs=[.int i,.int j,.int (-1)]/\(-(2^61)<=i/\i<2^61 /\ -(2^61)<=j/\j<2^61)/\R (EX i (i-j).toNat) H1
theorem m7{a b c:Expr}{ta:TA}{p:Pos}(hg:Gl X "range")(hm:X.mg "range" = none)(ha:PA X [a,b,c] ta)(hs:FA [a,b,c] X.env=(false,eval a X.env)::FA [b,c] X.env:=by rfl)(hpl:(Hf pos (FA [b,c] X.env)).any (·.1)=false:=by rfl) :
 PI X tg (.Call (.Name "range" p) [a,b,c] [] pos) (zS ta):=by
 intro pins s σ H R I h
 refine Call_ (dA I hg hm boot_range (Gz (C7 (ha pos pins s σ H _ I h) fun us s1 ⟨vs,H1,I1,r1,q1⟩=>?_) hs hpl))
 obtain⟨i,j,e,⟨h1,h2,h3,h4⟩,q⟩:=q1
 subst e
 cases r1 with
 | cons r rr =>
   cases rr with
   | cons r' rr =>
     cases rr with
     | cons r'' rr =>
       cases rr
       obtain⟨t,rfl⟩:=r
       obtain⟨u,rfl⟩:=r'
       obtain⟨v,rfl⟩:=r''
       refine call_range_3 (by decide) ?_
       refine wpAny_pyIter_range (IsRange.new ..) (small_down h1 h2 h3 h4) ?_
       have I2:Inv X pins σ H1 {s1 with heap:=s1.heap.push {cls:=.type "range", data:=.fields #[.int i t,.int j u,.int (-1) v]}}:=I1.kept (t':=s1.toks) fun b o e=>Fh _ e
       refine⟨(s1.heap.push {cls:=.type "range", data:=.fields #[.int i t,.int j u,.int (-1) v]}).objs.size,[(s1.heap.push {cls:=.type "range", data:=.fields #[.int i t,.int j u,.int (-1) v]}).objs.size],_,_,H1,rfl,
        I2.kept (t':=s1.toks) fun b o e=>Fh _ e,mv _ i (i-j).toNat,?_,fun b hb=>?_,q⟩
       · have e1:i+((0:Nat):Int)*(-1)=i:=by simp
         have e2:(((i-j).toNat:Nat):Int)-((0:Nat):Int)=Ik i j (-1):=by rw[rangeSize_down];split<;>omega
         show KZ _ _ (i+((0:Nat):Int)*(-1)) ((((i-j).toNat:Nat):Int)-((0:Nat):Int)) (-1)
         rw[e1,e2]
         exact FF _ rfl
       · have e:b=(s1.heap.push {cls:=.type "range", data:=.fields #[.int i t,.int j u,.int (-1) v]}).objs.size:=by simpa using hb
         subst e
         exact I2.fpOk (FC _) (I2.hok.fresh (FC _))
end
end L2
namespace L2.VL
section
variable{X:Cx}{rl:RlT}{a b c tg:Expr}{fs:Eg}{pos p:Pos}{ρ:En}
noncomputable def iJ(hi:Int)(n:Nat):List Fd:=(FJ n).map fun(i:Nat)=>.int (hi-i)
theorem iI{hi:Int}{x:Fd}(h:(iJ hi n)[i]?=some x):i<n/\x = .int (hi-i):=by
 unfold iJ at h
 rw[Gg]at h
 by_cases q:i<n
 · rw[IN q]at h;cases h;exact⟨q,rfl⟩
 · rw[Jt (by simpa using q)]at h;cases h
theorem iH(hi:Int)(n:Nat):(iJ hi n).length=n:=by unfold iJ;simp
theorem oQ{K:W.Frag}(hi:Int)(n:Nat):VIt K rl F (EX hi n) (iJ hi n) :=
 .of (fun i H x e s=>(iI e).1) (fun i H hl s=>by rw[iH]at hl;exact hl) (fun i H v H' x e s y=>by
  obtain⟨e1,e2⟩:=y
  subst e2
  rw[(iI e).2]
  exact⟨e1,.int _⟩)
noncomputable def DQ(fs:Eg):En->(List Fd->Prop)->Prop:=fun ρ Q=>fs ρ fun ws=>∃i j:Int,ws=[.d (.int i),.d (.int j),.d (.int (-1))]/\(-(2^61)<=i/\i<2^61 /\ -(2^61)<=j/\j<2^61)/\Q (iJ i (i-j).toNat)
theorem lR(hm:X.mg "range" = none)(ha:Ev X rl [a,b,c] fs)(hg:Gl X "range" := by rfl)(hs:FA [a,b,c] X.env=(false,eval a X.env)::FA [b,c] X.env:=by rfl)(hpl:(Hf pos (FA [b,c] X.env)).any (·.1)=false:=by rfl) :
 EC X rl tg (.Call (.Name "range" p) [a,b,c] [] pos) (DQ fs):=by
 obtain⟨t,p1,k⟩:=ha
 refine⟨_,m7 hg hm p1 hs hpl,fun R Qd Q q h=>k R _ _ q fun vs ws F1 H1 g1 r1 ⟨i,j,ew,b,q1⟩=>?_⟩
 subst ew
 cases r1 with
 | cons ra r1 =>
   obtain⟨v,u,rfl,rv,ru⟩:=vg r1
   have e:=aB ra
   have e':=aB rv
   have e'':=aB ru
   subst e e' e''
   exact⟨i,j,rfl,b,h _ _ F1 H1 g1 (oQ i _) q1⟩
noncomputable def zR(ws:List W):Option (Int×Int):=match ws with
 | [.d (.int i),.d (.int j),.d (.int (-1))]=>some (i,j)
 | _=>none
theorem xV(i j:Int):zR [.d (.int i),.d (.int j),.d (.int (-1))]=some (i,j):=rfl
theorem zJ:DQ fs ρ=D4 (fs ρ) fun ws=>aG (zR ws) fun z=>DV (-(2^61)<=z.1/\z.1<2^61 /\ -(2^61)<=z.2/\z.2<2^61) (ret (iJ z.1 (z.1-z.2).toNat)):=by
 show(D4 (fs ρ) fun ws=>fun(Q:List Fd->Prop)=>∃i j:Int,ws=[.d (.int i),.d (.int j),.d (.int (-1))]/\(-(2^61)<=i/\i<2^61 /\ -(2^61)<=j/\j<2^61)/\Q (iJ i (i-j).toNat))=_
 congr 1;funext ws
 refine ae fun Q=>?_
 simp only[ag,DV,ret]
 constructor
 · rintro⟨i,j,rfl,h,q⟩;exact⟨(i,j),rfl,h,q⟩
 · rintro⟨⟨i,j⟩,e,h,q⟩
   unfold zR at e
   split at e
   · cases e;exact⟨i,j,rfl,h,q⟩
   · cases e
end
section
variable{X:Cx}{rl:RlT}{a b c o e:Expr}{es:List Expr}{fa fb:TV}{fs:Eg}{pos p px apos cpos:Pos}{ρ:En}
end
end L2.VL
namespace L2
section
variable{X:Cx}{o e f:Expr}{apos cpos:Pos}{td ty tx:TE}
end
end L2
namespace L2.VL
section
variable{X:Cx}{rl:RlT}{a b c o e:Expr}{es:List Expr}{fa fb:TV}{fs:Eg}{pos p px apos cpos:Pos}{ρ:En}
end
end L2.VL
namespace L2
section
variable{P:F0}{w:GD}{A:GN}{E:Fm->Ft->Prop}{s:Ft}{d v it:Addr}{es:Array LJ}{ep i:Nat}
end
section
variable{X:Cx}{o:Expr}{tg:Expr}{te:TE}{apos cpos:Pos}
end
end L2
namespace L2.VL
section
variable{X:Cx}{rl:RlT}{a b e o i':Expr}{es:List Expr}{fa fb:TV}{fs:Eg}{pos p px apos cpos:Pos}{ρ:En}{st:Stmt}{t:Eh}
end
section
variable{X:Cx}{rl:RlT}{a b c o e:Expr}{es:List Expr}{fa fb:TV}{fs:Eg}{pos p apos cpos:Pos}{ρ:En}
end
end L2.VL
namespace PySem.SeqAt
open PySem.AutoSeq1 (wpAny_loadPart')
open MeetsSeq MeetsSeq2 MeetsSeq3 SeqRoads2
end PySem.SeqAt
namespace L2.VL
section
variable{X:Cx}{rl:RlT}{a e:Expr}{es:List Expr}{fs:Eg}{pos:Pos}{ρ:En}
end
end L2.VL
namespace L2.ZP
section
variable{prog:F0}{w:GD}{A:GN}{E:Fm->Ft->Prop}{s:Ft}{z ti to i1 i2 a1 a2:Addr}{k1 k2:Nat}{xs ys:Array Fm}{x y p q f0:Fm}{f1:Bool}
abbrev ZF(h:Heap)(z TI TO:Addr)(f0:Fm)(f1:Bool):Prop :=
 h.get? z=some {cls:=.type "zip", dict:=none,data:=.fields #[f0,.bool f1,.bool false,.ref TI,.ref TO],slots:=#[]}
noncomputable def ZG(h:Heap)(z TI TO:Addr):Prop:=∃f0 f1,(f0=H_\/∃a t,f0=JD a t)/\ZF h z TI TO f0 f1
theorem iY{Q:Option Obj->Ft->Prop}(h:Q (s.heap.get? a) s):FN (Gb prog w) A (loadIfAlive a) Q E s:=fun Γ p _=>by
 unfold loadIfAlive
 simpa using h
theorem lF{Q:Bool->Ft->Prop}(g:ZG s.heap z ti to)(yes:∀f0 f1,ZF s.heap z ti to f0 f1->Q true s)(no:∀g',ZG g' z ti to->Hu z s.heap g'->Q false {s with heap:=g' }) :
 FN (Gb prog w) A (FR (.ref z)) Q E s:=by
 obtain⟨f0,f1,c,oz⟩:=g
 unfold FR
 rcases c with rfl|⟨a,t,rfl⟩
 · exact Fb (F_ oz rfl (x:=H_) rfl (Fj (yes _ _ oz)))
 · refine Fb (F_ oz rfl (x:=JD a t) rfl ?_)
   refine Fb (iY ?_)
   cases e:s.heap.get? a.toNat with
   | none=>exact Fj (yes _ _ oz)
   | some ob =>
     refine Fb (F_ oz rfl (x:=JC f1) rfl ?_)
     cases f1 with
     | true=>exact Fj (no s.heap ⟨_,_,.inr ⟨a,t,rfl⟩,oz⟩ (Kd _ _))
     | false=>exact Fb (FX oz (by simp) fun g1 z1 b1=>Fj (no g1 ⟨.int a t,true,.inr ⟨a,t,rfl⟩,z1⟩ b1))
theorem sr(D:Ki z ti to i1 i2 a1 a2)(oz:ZG s.heap z ti to)(oi:HD s.heap ti (.ref i1) (.ref i2))(oo:HD s.heap to p q)
 (s1:EZ s.heap i1 a1 xs k1)(s2:EZ s.heap i2 a2 ys k2)(ex:xs[k1]?=some x)(ey:ys[k2]?=some y)
 (done:∀g,ZG g z ti to->((∃p q,HD g to p q))->EZ g i1 a1 xs (k1+1)->EZ g i2 a2 ys (k2+1)->HD g s.heap.objs.size x y->g.objs.size=s.heap.objs.size+1 ->
  (∀b o,b≠z->b≠to->b≠i1->b≠i2->s.heap.get? b=some o->g.get? b=some o)->Q (.ref s.heap.objs.size) {s with heap:=g}) :
 FN (Gb prog w) A (Builtin.«zip.__next__» ⟨[.ref z],[]⟩) (fun r s'=>∃u,r = .done (.ret u)/\Q u s') E s:=by
 obtain⟨f0,f1,c0,oz0⟩:=id oz
 show FN _ _ (do let c <- Kh (.ref z) 2;_) _ _ _
 refine Fb (F_ oz0 rfl (x:=.bool false) rfl ?_)
 show FN _ _ (do let c <- Kh (.ref z) 3;_) _ _ _
 refine Fb (F_ oz0 rfl (x:=.ref ti) rfl ?_)
 refine Fb (GY oi rfl ?_)
 show FN _ _ (do let c <- FR (.ref z);_) _ _ _
 refine Fb (lF oz (fun f0 f1 oz=>?_) fun g0 oz0 b0=>?_)
 · simp only[if_true]
   refine Fb (Ia (Fb (F_ oz rfl (x:=.ref to) rfl (Fb (FX oz (by simp) fun g1 z1 b1=>?_)))))
   have z1:ZF g1 z ti to .ellipsis f1:=z1
   refine Fb ?_
   simp only[Hz,IJ,Jx,JL]
   have s1a:EZ g1 i1 a1 xs k1:=s1.keep (SameBut.keep b1 D.i1z) (SameBut.keep b1 D.l1z)
   refine Fb (Fb (Im ?_))
   show FN _ _ (do let c <- FM (.ref i1);_) _ _ _
   refine Fb (s1a.item D.l1i1 ex fun g2 s1b b2=>Fj ?_)
   have o2:HD g2 to p q:=b2.extBut _ _ D.TOi1 (b1.extBut _ _ D.TOz oo)
   refine Fb (GY o2 rfl (Fb (HE o2 fun g3 o3 b3=>?_)))
   have o3:HD g3 to x q:=o3
   refine Fb (IM (Fj ?_))
   have s2a:EZ g3 i2 a2 ys k2:=((s2.keep (SameBut.keep b1 D.i2z) (SameBut.keep b1 D.l2z)).keep (SameBut.keep b2 D.i12.symm) (SameBut.keep b2 D.l2i1)).keep (SameBut.keep b3 D.TOi2.symm) (SameBut.keep b3 D.l2TO)
   refine Fb (Fb (Im ?_))
   show FN _ _ (do let c <- FM (.ref i2);_) _ _ _
   refine Fb (s2a.item D.l2i2 ey fun g4 s2b b4=>Fj ?_)
   have o4:HD g4 to x q:=b4.extBut _ _ D.TOi2 o3
   refine Fb (GY o4 rfl (Fb (HE o4 fun g5 o5 b5=>?_)))
   have o5:HD g5 to x y:=o5
   refine Fb (IM (Fj (Fj ?_)))
   refine Fb (GY o5 rfl (Fb (Js ?_)))
   have size:g5.objs.size=s.heap.objs.size:=by rw[b5.1,b4.1,b3.1,b2.1,b1.1]
   have z5:ZF g5 z ti to .ellipsis f1:=b5.extBut _ _ D.TOz.symm (b4.extBut _ _ D.i2z.symm (b3.extBut _ _ D.TOz.symm (b2.extBut _ _ D.i1z.symm z1)))
   have kp:∀b o,b≠z->b≠to->b≠i1->b≠i2->s.heap.get? b=some o->g5.get? b=some o:=fun b o n1 n2 n3 n4 e=>b5.extBut _ _ n2 (b4.extBut _ _ n4 (b3.extBut _ _ n2 (b2.extBut _ _ n3 (b1.extBut _ _ n1 e))))
   have s1c:EZ g5 i1 a1 xs (k1+1):=((s1b.keep (SameBut.keep b3 D.TOi1.symm) (SameBut.keep b3 D.l1TO)).keep (SameBut.keep b4 D.i12) (SameBut.keep b4 D.l1i2)).keep (SameBut.keep b5 D.TOi1.symm) (SameBut.keep b5 D.l1TO)
   have s2c:EZ g5 i2 a2 ys (k2+1):=s2b.keep (SameBut.keep b5 D.TOi2.symm) (SameBut.keep b5 D.l2TO)
   have zl:z<g5.objs.size:=Fz z5
   show FN _ _ (do Gh (.ref z) (.ref g5.objs.size);_) _ _ _
   refine Fb ?_
   unfold Gh
   have z6:ZF (g5.push {cls:=.type "tuple", data:=.seq #[x,y]}) z ti to .ellipsis f1:=Fh _ z5
   refine Fb (FX z6 (by simp) fun g7 z7 b7=>?_)
   have z7:ZF g7 z ti to (Kj g5.objs.size) f1:=z7
   refine FX z7 (by simp) fun g8 z8 b8=>?_
   have z8:ZF g8 z ti to (Kj g5.objs.size) false:=z8
   have up:∀b o,b≠z->g5.get? b=some o->g8.get? b=some o:=fun b o n e=>b8.extBut _ _ n (b7.extBut _ _ n (Fh _ e))
   have t8:HD g8 g5.objs.size x y:=b8.extBut _ _ (Hv zl) (b7.extBut _ _ (Hv zl) (FF _ rfl))
   have l8:g8.objs.size=g5.objs.size+1:=by rw[b8.1,b7.1,Gs]
   rw[size]at z8 t8 l8
   refine Fj ⟨_,rfl,?_⟩
   show Q (.ref g5.objs.size) _
   rw[size]
   exact done g8 ⟨_,_,.inr ⟨_,_,rfl⟩,z8⟩ ⟨_,_,(up _ _ D.TOz o5)⟩ (s1c.keep (fun o e=>up _ o D.i1z e) fun o e=>up _ o D.l1z e) (s2c.keep (fun o e=>up _ o D.i2z e) fun o e=>up _ o D.l2z e) t8 l8 fun b o n1 n2 n3 n4 e=>up b o n1 (kp b o n1 n2 n3 n4 e)
 · simp only[Iu,if_false]
   refine Fb ?_
   have s1a:EZ g0 i1 a1 xs k1:=s1.keep (SameBut.keep b0 D.i1z) (SameBut.keep b0 D.l1z)
   simp only[Hz,IJ,Jc,<- Jc]
   refine Fb (Fb (HH ?_))
   show FN _ _ (do let c <- FM (.ref i1);_) _ _ _
   refine Fb (s1a.item D.l1i1 ex fun g2 s1b b2=>Fj (Fj ?_))
   have s2a:EZ g2 i2 a2 ys k2:=(s2.keep (SameBut.keep b0 D.i2z) (SameBut.keep b0 D.l2z)).keep (SameBut.keep b2 D.i12.symm) (SameBut.keep b2 D.l2i1)
   refine Fb (Fb (HH ?_))
   show FN _ _ (do let c <- FM (.ref i2);_) _ _ _
   refine Fb (s2a.item D.l2i2 ey fun g4 s2b b4=>Fj (Fj ?_))
   refine Fj ?_
   have size:g4.objs.size=s.heap.objs.size:=by rw[b4.1,b2.1,b0.1]
   have up:∀b o,b≠z->b≠i1->b≠i2->s.heap.get? b=some o->(g4.push {cls:=.type "tuple", data:=.seq #[x,y]}).get? b=some o:=fun b o n1 n2 n3 e=>Fh _ (b4.extBut _ _ n3 (b2.extBut _ _ n2 (b0.extBut _ _ n1 e)))
   show FN _ _ (do let c <- newTuple [x,y];ret c) _ _ _
   refine Fb (Js (Fj ⟨_,rfl,?_⟩))
   show Q (.ref g4.objs.size) _
   have n1:(g4.push {cls:=.type "tuple", data:=.seq #[x,y]}).get? g4.objs.size=some _:=FF _ rfl
   rw[size]at n1 ⊢
   obtain⟨f0,f1,c1,z0⟩:=oz0
   refine done _ ⟨f0,f1,c1,Fh _ (b4.extBut _ _ D.i2z.symm (b2.extBut _ _ D.i1z.symm z0))⟩ ⟨p,q,up _ _ D.TOz D.TOi1 D.TOi2 oo⟩ ((s1b.keep (SameBut.keep b4 D.i12) (SameBut.keep b4 D.l1i2)).keep (fun o e=>Fh _ e) fun o e=>Fh _ e) (s2b.keep (fun o e=>Fh _ e) fun o e=>Fh _ e) n1 (by rw[Gs,size]) fun b o n1 _ n3 n4 e=>up b o n1 n3 n4 e
theorem vD{Q:Fin->Ft->Prop}(hd:A.handled=none)(D:Ki z ti to i1 i2 a1 a2)(oz:ZG s.heap z ti to)(oi:HD s.heap ti (.ref i1) (.ref i2))(oo:HD s.heap to p q)
 (s1:EZ s.heap i1 a1 xs k1)(s2:EZ s.heap i2 a2 ys k2)(e:xs[k1]?=none\/ys[k2]?=none)
 (q':∀g x,(∀b o,b≠z->b≠to->b≠i1->b≠i2->s.heap.get? b=some o->g.get? b=some o)->(∃o,g.get? x=some o/\o.cls = .type "StopIteration")->E (.ref x) {s with heap:=g}) :
 FN (Gb prog w) A (Builtin.«zip.__next__» ⟨[.ref z],[]⟩) Q E s:=by
 obtain⟨f0,f1,c0,oz0⟩:=id oz
 show FN _ _ (do let c <- Kh (.ref z) 2;_) _ _ _
 refine Fb (F_ oz0 rfl (x:=.bool false) rfl ?_)
 show FN _ _ (do let c <- Kh (.ref z) 3;_) _ _ _
 refine Fb (F_ oz0 rfl (x:=.ref ti) rfl ?_)
 refine Fb (GY oi rfl ?_)
 show FN _ _ (do let c <- FR (.ref z);_) _ _ _
 refine Fb (lF oz (fun f0 f1 oz=>?_) fun g0 oz0 b0=>?_)
 · simp only[if_true]
   refine Fb (Ia (Fb (F_ oz rfl (x:=.ref to) rfl (Fb (FX oz (by simp) fun g1 z1 b1=>?_)))))
   have z1:ZF g1 z ti to .ellipsis f1:=z1
   refine Fb ?_
   simp only[Hz,IJ,Jx,JL]
   have s1a:EZ g1 i1 a1 xs k1:=s1.keep (SameBut.keep b1 D.i1z) (SameBut.keep b1 D.l1z)
   refine Fb (Fb (Im ?_))
   show FN _ _ (do let c <- FM (.ref i1);_) _ _ _
   have last:∀(g g':Heap)(u:Addr)(o:Obj),g.get? u=some o->o.cls = .type "StopIteration" -> ZF g z ti to .ellipsis f1->Hu z g g'->∃o,g'.get? u=some o/\o.cls = .type "StopIteration" := fun g g' u o h1 h2 h3 sb=>by
    have ne:u≠z:=fun c=>by rw[c,h3]at h1;cases h1;simp at h2
    exact⟨o,sb.extBut _ _ ne h1,h2⟩
   cases ex:xs[k1]? with
   | none =>
     refine Fb (s1a.fin hd ex fun g2 u b2 ⟨o,ou,oc⟩=>?_)
     have z2:ZF g2 z ti to .ellipsis f1:=b2 _ _ D.i1z.symm z1
     exact FX z2 (by simp) fun g3 _ b3=>q' g3 u (fun b o n1 _ n3 _ e=>b3.extBut _ _ n1 (b2 _ _ n3 (b1.extBut _ _ n1 e))) (last g2 g3 u o ou oc z2 b3)
   | some x =>
     have ey:ys[k2]?=none:=e.elim (fun h=>by rw[ex]at h;cases h) id
     refine Fb (s1a.item D.l1i1 ex fun g2 s1b b2=>Fj ?_)
     have o2:HD g2 to p q:=b2.extBut _ _ D.TOi1 (b1.extBut _ _ D.TOz oo)
     refine Fb (GY o2 rfl (Fb (HE o2 fun g3 o3 b3=>?_)))
     refine Fb (IM (Fj ?_))
     have s2a:EZ g3 i2 a2 ys k2:=((s2.keep (SameBut.keep b1 D.i2z) (SameBut.keep b1 D.l2z)).keep (SameBut.keep b2 D.i12.symm) (SameBut.keep b2 D.l2i1)).keep (SameBut.keep b3 D.TOi2.symm) (SameBut.keep b3 D.l2TO)
     refine Fb (Fb (Im ?_))
     show FN _ _ (do let c <- FM (.ref i2);_) _ _ _
     refine Fb (s2a.fin hd ey fun g4 u b4 ⟨o,ou,oc⟩=>?_)
     have z4:ZF g4 z ti to .ellipsis f1:=b4 _ _ D.i2z.symm (b3.extBut _ _ D.TOz.symm (b2.extBut _ _ D.i1z.symm z1))
     exact FX z4 (by simp) fun g5 _ b5=>q' g5 u (fun b o n1 n2 n3 n4 e=>b5.extBut _ _ n1 (b4 _ _ n4 (b3.extBut _ _ n2 (b2.extBut _ _ n3 (b1.extBut _ _ n1 e))))) (last g4 g5 u o ou oc z4 b5)
 · simp only[Iu,if_false]
   refine Fb ?_
   have s1a:EZ g0 i1 a1 xs k1:=s1.keep (SameBut.keep b0 D.i1z) (SameBut.keep b0 D.l1z)
   simp only[Hz,IJ,Jc,<- Jc]
   refine Fb (Fb (HH ?_))
   show FN _ _ (do let c <- FM (.ref i1);_) _ _ _
   cases ex:xs[k1]? with
   | none=>exact Fb (s1a.fin hd ex fun g2 u b2 so=>q' g2 u (fun b o n1 _ n3 _ e=>b2 _ _ n3 (b0.extBut _ _ n1 e)) so)
   | some x =>
     have ey:ys[k2]?=none:=e.elim (fun h=>by rw[ex]at h;cases h) id
     refine Fb (s1a.item D.l1i1 ex fun g2 s1b b2=>Fj (Fj ?_))
     have s2a:EZ g2 i2 a2 ys k2:=(s2.keep (SameBut.keep b0 D.i2z) (SameBut.keep b0 D.l2z)).keep (SameBut.keep b2 D.i12.symm) (SameBut.keep b2 D.l2i1)
     refine Fb (Fb (HH ?_))
     show FN _ _ (do let c <- FM (.ref i2);_) _ _ _
     exact Fb (s2a.fin hd ey fun g4 u b4 so=>q' g4 u (fun b o n1 _ n3 n4 e=>b4 _ _ n4 (b2.extBut _ _ n3 (b0.extBut _ _ n1 e))) so)
end
section
variable{prog:F0}{w:GD}{A:GN}{E:Fm->Ft->Prop}{s:Ft}{e z ti to i1 i2 a1 a2:Addr}{k:Nat}{xs ys:Array Fm}{x y p q o1 o2:Fm}
abbrev e3(h:Heap)(z:Addr):Heap:=h.push {cls:=.type "enumerate", data:=.fields #[.none,.bool false,.ref z,Kj 0,.none,.none]}
theorem nT(z ti to:Addr) :
 Meets (Builtin.«enumerate.__new__» ⟨[.type "enumerate", .ref z],[]⟩) (fun _ R s=>KO s.heap z ti to .none/\R (.ok (.ret (.ref s.heap.objs.size))) {s with heap:=e3 s.heap z}) :=
 .of_wp fun prog w A R s h=>by
  obtain⟨hp,g,d,tk,os⟩:=s
  obtain⟨l0,h⟩:=h
  have hsub:=sub_enumerate
  have k1:KO (K8 ⟨hp,g,d,tk,os⟩) z ti to .none:=l0
  wp_walk using Hj l0
  refine wpAny_stack_any fun st=>Fj ?_
  split
  · rename_i c _ _ _ _ _
    cases(c==Lr "enumerate")<;>(wp_walk using Hj l0,Jy k1;exact⟨_,rfl,h⟩)
  · wp_walk using Hj l0,Jy k1
    exact⟨_,rfl,h⟩
theorem lw(oz:KO s.heap z ti to .none)(done:∀g,JA g s.heap.objs.size z 0 .none->g.objs.size=s.heap.objs.size+1->(∀c o,s.heap.get? c=some o->g.get? c=some o)->Q (.ref s.heap.objs.size) {s with heap:=g}) :
 FN (Gb prog w) A (call (.type "enumerate") [.ref z]) Q E s:=by
 refine LD F.called_enumerate (by decide) (F.typeCall_enumerate_1 _) (F.newCall_enumerate_1 _) (fun u=>F.args_object_init_2 u _) F.entry_enumerate_new (nT z ti to) ⟨oz,?_⟩
 have f2:(e3 s.heap z).get? s.heap.objs.size=some _:=FF _ rfl
 exact⟨⟨_,f2,rfl⟩,done _ f2 (Gs ..) fun c o h=>Fh _ h⟩
structure EzApart (e z ti to i1 i2 a1 a2:Addr):Prop where
 D:Ki z ti to i1 i2 a1 a2
 n:e≠z/\e≠ti/\e≠to/\e≠i1/\e≠i2/\a1≠e/\a2≠e
theorem uP(D:EzApart e z ti to i1 i2 a1 a2)(oe:JA s.heap e z k p)(oz:ZG s.heap z ti to)(oi:HD s.heap ti (.ref i1) (.ref i2))(oo:∃p q,HD s.heap to p q)
 (s1:EZ s.heap i1 a1 xs k)(s2:EZ s.heap i2 a2 ys k)(ex:xs[k]?=some x)(ey:ys[k]?=some y)
 (done:∀g,KC g e z ((k:Int)+1) (.ref s.heap.objs.size) (s.heap.objs.size+1)->ZG g z ti to->(∃p q,HD g to p q)->EZ g i1 a1 xs (k+1)->EZ g i2 a2 ys (k+1)->HD g s.heap.objs.size x y ->
  g.get? (s.heap.objs.size+1)=some {cls:=.type "tuple", data:=.seq #[.int k s.toks,.ref s.heap.objs.size]}->g.objs.size=s.heap.objs.size+2 ->
  (∀b o,b≠e->b≠z->b≠to->b≠i1->b≠i2->s.heap.get? b=some o->g.get? b=some o)->Q (.ref (s.heap.objs.size+1)) {s with heap:=g,toks:=s.toks+1}) :
 FN (Gb prog w) A (Builtin.«enumerate.__next__» ⟨[.ref e],[]⟩) (fun r s'=>∃u,r = .done (.ret u)/\Q u s') E s:=by
 obtain⟨p0,q0,oo⟩:=oo
 have tz:s.TypeIs (.ref z) "zip" := let ⟨_,_,_,h⟩:=oz;⟨_,h,rfl⟩
 show FN _ _ (do let c <- Kh (.ref e) 2;_) _ _ _
 refine Fb (F_ oe rfl (x:=.ref z) rfl ?_)
 refine Fb ?_
 unfold FM
 refine Fb (Ge (name:=Str.ofString "__next__") tz F.slot_zip_next (GF F.slot_zip_next tz F.entry_zip_next (sr D.D oz oi oo s1 s2 ex ey fun g1 zg1 oo1 s1a s2a t1 l1 b1=>Fj ?_) (F.args_zip_next_1 _)))
 have el:e<s.heap.objs.size:=Fz oe
 have z1:JA g1 e z k p:=b1 _ _ D.n.1 D.n.2.2.1 D.n.2.2.2.1 D.n.2.2.2.2.1 oe
 show FN _ _ (do let c <- Kh (.ref e) 3;_) _ _ _
 refine Fb (F_ z1 rfl (x:=Kj k) rfl ?_)
 show FN _ _ (do let c <- Kh (.ref e) 4;_) _ _ _
 refine Fb (F_ z1 rfl (x:=.none) rfl ?_)
 show FN _ _ (do let c <- mkInt k;_) _ _ _
 refine Fb (LV ?_)
 show FN _ _ (do setField (.ref e) 3 (Kj ((k:Int)+1));_) _ _ _
 refine Fb (FX z1 (by simp) fun g2 z2 b2=>?_)
 have z2:JA g2 e z ((k:Int)+1) p:=z2
 show FN _ _ (do setField (.ref e) 4 .none;_) _ _ _
 refine Fb (FX z2 (by simp) fun g3 z3 b3=>?_)
 have z3:JA g3 e z ((k:Int)+1) p:=z3
 have size:g3.objs.size=s.heap.objs.size+1:=by rw[b3.1,b2.1,l1]
 show FN _ _ (do let c <- newTuple [.int k s.toks,.ref s.heap.objs.size];_) _ _ _
 refine Fb (Js ?_)
 have z4:JA (g3.push {cls:=.type "tuple", data:=.seq #[.int k s.toks,.ref s.heap.objs.size]}) e z ((k:Int)+1) p:=Fh _ z3
 show FN _ _ (do let c <- FR (.ref e);_) _ _ _
 refine Fb ?_
 unfold FR
 refine Fb (F_ z4 rfl (x:=H_) rfl (Fj ?_))
 simp only[if_true]
 refine Fb (Ia (Fb (F_ z4 rfl (x:=p) rfl (Fb (FX z4 (by simp) fun g5 z5 b5=>?_)))))
 have z5:JA g5 e z ((k:Int)+1) (.ref s.heap.objs.size):=z5
 show FN _ _ (do Gh (.ref e) (.ref g3.objs.size);_) _ _ _
 refine Fb ?_
 unfold Gh
 refine Fb (FX z5 (by simp) fun g6 z6 b6=>?_)
 have z6:KC g6 e z ((k:Int)+1) (.ref s.heap.objs.size) g3.objs.size:=z6
 refine FX z6 (by simp) fun g7 z7 b7=>?_
 have z7:KC g7 e z ((k:Int)+1) (.ref s.heap.objs.size) g3.objs.size:=z7
 have up3:∀b o,b≠e->g3.get? b=some o->g7.get? b=some o:=fun b o n h=>b7.extBut _ _ n (b6.extBut _ _ n (b5.extBut _ _ n (Fh _ h)))
 have up:∀b o,b≠e->g1.get? b=some o->g7.get? b=some o:=fun b o n h=>up3 b o n (b3.extBut _ _ n (b2.extBut _ _ n h))
 have ne3:g3.objs.size≠e:=by rw[size];exact Hv (IE el)
 have t7:g7.get? g3.objs.size=some {cls:=.type "tuple", data:=.seq #[.int k s.toks,.ref s.heap.objs.size]} :=
  b7.extBut _ _ ne3 (b6.extBut _ _ ne3 (b5.extBut _ _ ne3 (FF _ rfl)))
 have l7:g7.objs.size=g3.objs.size+1:=by rw[b7.1,b6.1,b5.1,Gs]
 rw[size]at z7 t7 l7
 refine Fb (IM (Fj ⟨_,rfl,?_⟩))
 show Q (.ref g3.objs.size) _
 rw[size]
 obtain⟨nz,nti,nto,ni1,ni2,na1,na2⟩:=D.n
 obtain⟨f0,f1,c1,zf⟩:=zg1
 obtain⟨p1,q1,oo1⟩:=oo1
 exact done g7 z7 ⟨f0,f1,c1,up _ _ nz.symm zf⟩ ⟨p1,q1,up _ _ nto.symm oo1⟩ (s1a.keep (fun o h=>up _ o ni1.symm h) fun o h=>up _ o na1 h) (s2a.keep (fun o h=>up _ o ni2.symm h) fun o h=>up _ o na2 h) (up _ _ (Hv el) t1) t7 l7 fun b o m1 m2 m3 m4 m5 h=>up b o m1 (b1 b o m2 m3 m4 m5 h)
end
end L2.ZP
namespace L2
open PySem PySem.Spec PyProof.Rows L2.ZP
noncomputable def EO(K:W.Frag)(b1 b2:Bool)(a1 a2:Addr):It :=
 ⟨fun i H=>∃xs ys x y,Ep b1 K H a1 xs/\Ep b2 K H a2 ys/\xs[i]?=some x/\ys[i]?=some y,
  fun i H v H'=>∃x y p r,(∀xs,Ep b1 K H a1 xs->xs[i]?=some x)/\(∀ys,Ep b2 K H a2 ys->ys[i]?=some y)/\H p=none/\H r=none/\r≠p/\v = .ref r/\H'=upd (upd H p (.tup [x,y])) r (.tup [.int i,.ref p]),
  fun i H=>∃xs ys,Ep b1 K H a1 xs/\Ep b2 K H a2 ys/\(xs.length<=i\/ys.length<=i)⟩
noncomputable def Ea(b1 b2:Bool)(e z ti to i1 i2 a1 a2:Addr)(i:Nat)(h:Heap):Prop:=(∃p,JA h e z i p)/\ZG h z ti to/\HD h ti (.ref i1) (.ref i2)/\(∃p q,HD h to p q)/\E1 b1 h i1 a1 i/\E1 b2 h i2 a2 i
theorem oX{K:W.Frag}{elts:List Expr}{kt:Nat}{pt:Pos}(b1 b2:Bool)(e z ti to i1 i2 a1 a2:Addr)(D:EzApart e z ti to i1 i2 a1 a2) :
 Turn P w K (.Tuple elts kt pt) (EO K b1 b2 a1 a2) [e,z,ti,to,i1,i2] e (Ea b1 b2 e z ti to i1 i2 a1 a2) where
 mem:=by simp
 obj:=fun i h ⟨⟨p,h0⟩,⟨f0,f1,c1,h1⟩,h2,⟨p',q,h3⟩,h4,h5⟩ b hb=>by
  simp at hb
  rcases hb with rfl|rfl|rfl|rfl|rfl|rfl
  · exact⟨_,h0,fun v c=>by cases c⟩
  · exact⟨_,h1,fun v c=>by cases c⟩
  · exact⟨_,h2,fun v c=>by cases c⟩
  · exact⟨_,h3,fun v c=>by cases c⟩
  · exact h4.obj
  · exact h5.obj
 keep:=fun i h h' ⟨⟨p,h0⟩,⟨f0,f1,c1,h1⟩,h2,⟨p',q,h3⟩,h4,h5⟩ k=>⟨⟨p,k e (by simp) _ h0⟩,⟨f0,f1,c1,k z (by simp) _ h1⟩,k ti (by simp) _ h2,⟨p',q,k to (by simp) _ h3⟩,h4.keep fun o e=>k i1 (by simp) o e,h5.keep fun o e=>k i2 (by simp) o e⟩
 item:=by
  intro X hP hw hK hc i pins s σ H E I hf st hg
  subst hP hw hK
  obtain⟨⟨p,h0⟩,zg,h2,h3,h4,h5⟩:=st
  obtain⟨xs,ys,x,y,q1,q2,ex,ey⟩:=hg
  obtain⟨its,r1,t1⟩:=I.sqB q1
  obtain⟨jts,r2,t2⟩:=I.sqB q2
  obtain⟨u,hu,ru⟩:=r1.get ex
  obtain⟨v,hv,rv⟩:=r2.get ey
  have ty:s.TypeIs (.ref e) "enumerate" := ⟨_,h0,rfl⟩
  unfold J8
  refine Fb (Jb (Ge (name:=Str.ofString "__next__") ty F.slot_enumerate_next (GF F.slot_enumerate_next ty F.entry_enumerate_next
   (uP D h0 zg h2 h3 (h4.it1 t1) (h5.it1 t2) (by simpa using hu) (by simpa using hv) fun g e0 e1 e2 e3 e4 e5 e8 e6 e7=>Fj ?_) (F.args_enumerate_next_1 _))))
  refine⟨.ref (s.heap.objs.size+1),rfl,JP e0 fun g' f1 fb=>?_⟩
  have hp:H s.heap.objs.size=none:=I.hok.fresh (FC _)
  have hp2:H (s.heap.objs.size+1)=none:=I.hok.fresh (Nat.le_succ _)
  have I1:Inv X pins σ (upd H s.heap.objs.size (.tup [x,y])) {s with heap:=s.heap.push {cls:=.type "tuple", data:=.seq [u,v].toArray}} :=
   I.laid (t':=s.toks) (o:=.tup [x,y]) (fun b ob e=>Fh _ e) (FC _) ⟨(by show 2<=sizeLine;decide),[u,v],.cons ru (.cons rv .nil),oJ.new _ _⟩
  have sz1:(s.heap.push {cls:=.type "tuple", data:=.seq [u,v].toArray}).objs.size=s.heap.objs.size+1:=Gs ..
  have I1b:Inv X pins σ (upd (upd H s.heap.objs.size (.tup [x,y])) (s.heap.objs.size+1) (.tup [.int i,.ref s.heap.objs.size])) {s with heap:=(s.heap.push {cls:=.type "tuple", data:=.seq [u,v].toArray}).push {cls:=.type "tuple", data:=.seq [.int i s.toks,.ref s.heap.objs.size].toArray},toks:=s.toks+1}:=by
   have n:=oJ.new (s.heap.push {cls:=.type "tuple", data:=.seq [u,v].toArray}) [.int i s.toks,HC s.heap.objs.size].toArray
   rw[sz1]at n
   exact I1.laid (t':=s.toks+1) (a:=s.heap.objs.size+1) (o:=.tup [.int i,.ref s.heap.objs.size]) (fun b ob e=>Fh _ e) (by rw[sz1];exact FC _) ⟨(by show 2<=sizeLine;decide),[.int i s.toks,.ref s.heap.objs.size],.cons ⟨_,rfl⟩ (.cons rfl .nil),n⟩
  have lt:∀b∈[e,z,ti,to,i1,i2],b<s.heap.objs.size:=fun b hb=>by
   simp at hb
   rcases hb with rfl|rfl|rfl|rfl|rfl|rfl
   · exact Fz h0
   · obtain⟨_,_,_,h1⟩:=zg;exact Fz h1
   · exact Fz h2
   · obtain⟨_,_,h3⟩:=h3;exact Fz h3
   · obtain⟨o,ho,_⟩:=h4.obj;exact Fz ho
   · obtain⟨o,ho,_⟩:=h5.obj;exact Fz ho
  have kg:∀b o,b∉[e,z,ti,to,i1,i2]->((s.heap.push {cls:=.type "tuple", data:=.seq [u,v].toArray}).push {cls:=.type "tuple", data:=.seq [.int i s.toks,.ref s.heap.objs.size].toArray}).get? b=some o->g'.get? b=some o:=fun b o hb h=>by
   simp at hb
   obtain⟨n0,n1,n2,n3,n4,n5⟩:=hb
   refine fb.extBut _ _ n0 ?_
   by_cases hb1:b=s.heap.objs.size+1
   · subst hb1
     have n:=FF (s.heap.push {cls:=.type "tuple", data:=.seq [u,v].toArray}) (o:={cls:=.type "tuple", data:=.seq [.int i s.toks,.ref s.heap.objs.size].toArray}) rfl
     rw[sz1]at n
     rw[n]at h
     cases h
     exact e8
   · rw[Jn _ _ _ (by rw[sz1];exact hb1)]at h
     by_cases hbn:b=s.heap.objs.size
     · subst hbn
       rw[FF _ rfl]at h
       cases h
       exact e5
     · exact e7 b o n0 n1 n3 n4 n5 (by rw[Jn _ _ _ hbn]at h;exact h)
  have fp1:∀b∈[e,z,ti,to,i1,i2],iU X pins (upd (upd H s.heap.objs.size (.tup [x,y])) (s.heap.objs.size+1) (.tup [.int i,.ref s.heap.objs.size])) b:=fun b hb=>by
   obtain⟨f0,fr⟩:=hf b hb
   have l:=lt b hb
   exact⟨by rw[ak (Gj (IE l)),ak (Gj l)];exact f0,fr⟩
  have I2:Inv X pins σ (upd (upd H s.heap.objs.size (.tup [x,y])) (s.heap.objs.size+1) (.tup [.int i,.ref s.heap.objs.size])) {s with heap:=g',toks:=s.toks+1}:=I1b.turnedL (t':=s.toks+1) kg fp1
  have k8:∀b o,b≠e->g.get? b=some o->g'.get? b=some o:=fun b o n h=>fb.extBut _ _ n h
  obtain⟨nz,nti,nto,ni1,ni2,na1,na2⟩:=D.n
  have t1':Er b1 g a1 its.toArray:=Er.of t1 fun o h=>e7 _ o na1 D.D.l1z D.D.l1TO D.D.l1i1 D.D.l1i2 h
  have t2':Er b2 g a2 jts.toArray:=Er.of t2 fun o h=>e7 _ o na2 D.D.l2z D.D.l2TO D.D.l2i1 D.D.l2i2 h
  obtain⟨y0,y1,c1,zf⟩:=e1
  obtain⟨p1,p2,oo⟩:=e2
  refine⟨.ref (s.heap.objs.size+1),_,I2,rfl,⟨x,y,_,_,fun xs' q'=>by rw[I.sqB_inj q' q1];exact ex,fun ys' q'=>by rw[I.sqB_inj q' q2];exact ey,hp,hp2,by simp,rfl,rfl⟩,⟨⟨_,by simpa using f1⟩,⟨y0,y1,c1,k8 _ _ nz.symm zf⟩,k8 _ _ nti.symm (e7 _ _ nti.symm D.D.TIz D.D.TITO D.D.TIi1 D.D.TIi2 h2),⟨p1,p2,k8 _ _ nto.symm oo⟩,(EZ.ir e3 h4 t1').keep fun o h=>k8 _ o ni1.symm h,(EZ.ir e4 h5 t2').keep fun o h=>k8 _ o ni2.symm h⟩,fun b hb=>(fp1 b hb).1⟩
 done:=by
  intro X hP hw hK hc i pins s σ H E I hf st hg
  subst hP hw hK
  obtain⟨⟨p,h0⟩,zg,h2,⟨p',q',h3⟩,h4,h5⟩:=st
  obtain⟨xs,ys,q1,q2,ex⟩:=hg
  obtain⟨its,r1,t1⟩:=I.sqB q1
  obtain⟨jts,r2,t2⟩:=I.sqB q2
  have l1:=r1.length
  have l2:=r2.length
  have ty:s.TypeIs (.ref e) "enumerate" := ⟨_,h0,rfl⟩
  have tz:s.TypeIs (.ref z) "zip" := let ⟨_,_,_,h⟩:=zg;⟨_,h,rfl⟩
  unfold J8
  refine Fb (Jb (Ge (name:=Str.ofString "__next__") ty F.slot_enumerate_next (GF F.slot_enumerate_next ty F.entry_enumerate_next ?_ (F.args_enumerate_next_1 _))))
  show FN _ _ (do let c <- Kh (.ref e) 2;_) _ _ _
  refine Fb (F_ h0 rfl (x:=.ref z) rfl ?_)
  refine Fb ?_
  unfold FM
  refine Fb (Ge (name:=Str.ofString "__next__") tz F.slot_zip_next (GF F.slot_zip_next tz F.entry_zip_next
   (vD (I.ok.hd hc) D.D zg h2 h3 (h4.it1 t1) (h5.it1 t2) (by simp;omega) fun g x kg ⟨o,ho,hoc⟩=>?_) (F.args_zip_next_1 _)))
  refine Fb (Kk (T := "StopIteration") (b:=true) ⟨o,ho,hoc⟩ KR (Fj ⟨rfl,?_⟩))
  exact I.turnedL (t':=s.toks) (fun b o hb h=>by simp at hb;exact kg b o hb.2.1 hb.2.2.2.1 hb.2.2.2.2.1 hb.2.2.2.2.2 h) hf
 self:=fun _ _ _ _ _ st h=>by
  obtain⟨⟨p,h1⟩,_⟩:=st
  exact Jp h1 h
section
variable{X:Cx}{e1 e2:Expr}{ta:TA}{elts:List Expr}{kt:Nat}{pt p pos p2 pos2:Pos}
noncomputable def B6(K:W.Frag)(b1 b2:Bool)(t:TA):TI:=fun σ H R=>t σ H fun vs H1=>∃a1 a2 xs ys,vs=[.ref a1,.ref a2]/\Ep b1 K H1 a1 xs/\Ep b2 K H1 a2 ys/\R (EO K b1 b2 a1 a2) H1
theorem xt(b1 b2:Bool)(hg:Gl X "enumerate")(hm:X.mg "enumerate" = none)(hg2:Gl X "zip")(hm2:X.mg "zip" = none)(ha:PA X [e1,e2] ta)(hs:FA [e1,e2] X.env=(false,eval e1 X.env)::FA [e2] X.env:=by rfl)(hpl:(Hf pos2 (FA [e2] X.env)).any (·.1)=false:=by rfl)
 (hs1:FA [.Call (.Name "zip" p2) [e1,e2] [] pos2] X.env=(false,eval (.Call (.Name "zip" p2) [e1,e2] [] pos2) X.env)::FA [] X.env:=by rfl)(hpl1:(Hf pos (FA [] X.env)).any (·.1)=false:=by rfl) :
 PI X (.Tuple elts kt pt) (.Call (.Name "enumerate" p) [.Call (.Name "zip" p2) [e1,e2] [] pos2] [] pos) (B6 X.K b1 b2 ta):=by
 intro pins s σ H R I h
 refine Call_ (dA I hg hm (by rfl) (Gz ?_ hs1 hpl1) (by decide) (by decide))
 rw[hs1]
 show FN _ _ (spliced ((false,eval (.Call (.Name "zip" p2) [e1,e2] [] pos2) X.env)::Hf pos (FA [] X.env))) _ _ s
 refine Calls.spliced_cons (Call_ (dA I hg2 hm2 (by rfl) (Gz (C7 (ha pos2 pins s σ H _ I h) fun us s1 ⟨vs,H1,I1,r1,q1⟩=>?_) hs hpl) (by decide) (by decide)))
 obtain⟨a1,a2,xs,ys,ev,q1,q2,q⟩:=q1
 subst ev
 cases r1 with
 | cons r rr =>
   cases rr with
   | cons r' rr =>
     cases rr
     cases r
     cases r'
     obtain⟨its,v1,t1⟩:=I1.sqB q1
     obtain⟨jts,v2,t2⟩:=I1.sqB q2
     refine kM t1 t2 fun g0 f1 f2 f3 f4 f5 f6 kp0=>Calls.spliced_nil (lw f1 fun g z1 zn kpe=>Jp z1 ?_)
     have kp:∀c o,s1.heap.get? c=some o->g.get? c=some o:=fun c o h=>kpe c o (kp0 c o h)
     have f4:=f4.keep (kpe _) (kpe _)
     have f5:=f5.keep (kpe _) (kpe _)
     have hn0:g0.objs.size=s1.heap.objs.size+5:=f6
     have z1:JA g (s1.heap.objs.size+5) (s1.heap.objs.size+4) 0 .none:=by rw[<- hn0];exact z1
     rw[hn0]
     have lt1:a1<s1.heap.objs.size/\a2<s1.heap.objs.size:=by
      constructor
      · cases b1 with
        | true=>obtain⟨o,ho,_⟩:=(show s1.heap.IsTuple a1 _ from t1);exact Fz ho
        | false=>obtain⟨o,ho,_⟩:=(show s1.heap.IsList a1 _ from t1);exact Fz ho
      · cases b2 with
        | true=>obtain⟨o,ho,_⟩:=(show s1.heap.IsTuple a2 _ from t2);exact Fz ho
        | false=>obtain⟨o,ho,_⟩:=(show s1.heap.IsList a2 _ from t2);exact Fz ho
     obtain⟨l1,l2⟩:=lt1
     have ap:∀{n c:Nat},c<n->∀k:Nat,c≠n+k:=fun h k e=>by omega
     have D:Ki (s1.heap.objs.size+4) (s1.heap.objs.size+2) (s1.heap.objs.size+3) s1.heap.objs.size (s1.heap.objs.size+1) a1 a2:=by
      generalize hN:s1.heap.objs.size=N at l1 l2
      exact⟨by simp,by simp,by simp,by simp,by simp,by simp,by simp,by simp,by simp,by simp,ap l1 4,ap l1 3,ap l1 0,ap l1 1,ap l2 4,ap l2 3,ap l2 0,ap l2 1⟩
     have DE:EzApart (s1.heap.objs.size+5) (s1.heap.objs.size+4) (s1.heap.objs.size+2) (s1.heap.objs.size+3) s1.heap.objs.size (s1.heap.objs.size+1) a1 a2:=⟨D,by simp,by simp,by simp,by simp,by simp,ap l1 5,ap l2 5⟩
     have kg:∀b o,s1.heap.get? b=some o->g.get? b=some o:=kp
     have I2:Inv X pins σ H1 {s1 with heap:=g}:=I1.kept (t':=s1.toks) kg
     have ir:∀{b:Bool}{it a:Addr}{zs:Array Fm},EZ g it a zs 0->Er b s1.heap a zs->E1 b g it a 0:=fun{b it a zs} q r=>by
      have r':=Er.of r fun o e=>kg _ o e
      cases b with
      | true =>
        rcases q with⟨_,⟨o,e,c,_⟩⟩|⟨q,_⟩
        · obtain⟨o',e',c',_⟩:=(show g.IsTuple a zs from r')
          rw[e]at e';cases e';rw[c]at c';injection c' with z;exact absurd z (by decide)
        · exact q
      | false =>
        rcases q with⟨q,_⟩|⟨_,⟨o,e,c,_⟩⟩
        · exact q
        · obtain⟨o',e',c',_⟩:=(show g.IsList a zs from r')
          rw[e]at e';cases e';rw[c]at c';injection c' with z;exact absurd z (by decide)
     refine⟨_,[s1.heap.objs.size+5,s1.heap.objs.size+4,s1.heap.objs.size+2,s1.heap.objs.size+3,s1.heap.objs.size,s1.heap.objs.size+1],_,_,H1,rfl,I2,oX b1 b2 _ _ _ _ _ _ a1 a2 DE,⟨⟨_,z1⟩,⟨.none,false,.inl rfl,kpe _ _ f1⟩,kpe _ _ f2,⟨_,_,kpe _ _ f3⟩,ir f4 t1,ir f5 t2⟩,fun b hb=>?_,q⟩
     have hb':s1.heap.objs.size<=b:=by
      simp at hb
      rcases hb with rfl|rfl|rfl|rfl|rfl|rfl
      · exact Hb _ 5
      · exact Hb _ 4
      · exact Hb _ 2
      · exact Hb _ 3
      · exact FC _
      · exact Hb _ 1
     exact I1.fpOk hb' (I1.hok.fresh hb')
end
end L2
namespace L2.VL
section
variable{X:Cx}{rl:RlT}{a b:Expr}{elts:List Expr}{kt:Nat}{pt p pos p2 pos2:Pos}{fs:Eg}{ρ:En}
noncomputable def DT(fs:Eg):En->(List Fd->Prop)->Prop:=fun ρ Q=>fs ρ fun ws=>∃dx dy xs ys,ws=[.d dx,.d dy]/\eB dx=some xs/\eB dy=some ys/\du dx=false/\du dy=true/\Q (cD (fm xs ys))
theorem ib(hm:X.mg "enumerate" = none)(hm2:X.mg "zip" = none)(ha:Ev X rl [a,b] fs)(hg:Gl X "enumerate" := by rfl)(hg2:Gl X "zip" := by rfl)(hs:FA [a,b] X.env=(false,eval a X.env)::FA [b] X.env:=by rfl)(hpl:(Hf pos2 (FA [b] X.env)).any (·.1)=false:=by rfl)
 (hs1:FA [.Call (.Name "zip" p2) [a,b] [] pos2] X.env=(false,eval (.Call (.Name "zip" p2) [a,b] [] pos2) X.env)::FA [] X.env:=by rfl)(hpl1:(Hf pos (FA [] X.env)).any (·.1)=false:=by rfl) :
 EC X rl (.Tuple elts kt pt) (.Call (.Name "enumerate" p) [.Call (.Name "zip" p2) [a,b] [] pos2] [] pos) (DT fs):=by
 obtain⟨t,p1,k⟩:=ha
 refine⟨_,xt false true hg hm hg2 hm2 p1 hs hpl hs1 hpl1,fun R Qd Q q h=>k R _ _ q fun vs ws F1 H1 g1 r1 ⟨dx,dy,xs,ys,ew,e1,e2,kb1,kb2,q1⟩=>?_⟩
 subst ew
 obtain⟨v,u,rfl,rv,ru⟩:=vg r1
 obtain⟨a1,vs,rfl,rs,sq1⟩:=iy rv e1
 obtain⟨a2,us,rfl,rt,sq2⟩:=iy ru e2
 rw[kb1]at sq1
 rw[kb2]at sq2
 refine⟨a1,a2,vs,us,rfl,sq1 _ g1.sub,sq2 _ g1.sub,h _ (cD (fm xs ys)) F1 H1 g1 ⟨fun i H x e s=>?_,fun i H hl s=>?_,fun i H v H' x F2 e s s2 ra y=>?_⟩ q1⟩
 · obtain⟨z,ez,_⟩:=dZ e
   obtain⟨x1,y1,ex,ey,_⟩:=eW ez
   obtain⟨v1,ev1,_⟩:=rs.get ex
   obtain⟨u1,eu1,_⟩:=rt.get ey
   exact⟨vs,us,v1,u1,sq1 _ s,sq2 _ s,ev1,eu1⟩
 · refine⟨vs,us,sq1 _ s,sq2 _ s,?_⟩
   unfold cD fm at hl
   rw[Fq,HB,K9]at hl
   rw[rs.length,rt.length]
   omega
 · obtain⟨z,ez,ed0⟩:=dZ e
   obtain⟨x1,y1,ex,ey,ed⟩:=eW ez
   obtain⟨vx,vy,pp,rr,hx,hy,hp,hr,hne,ev,eH⟩:=y
   obtain⟨v1,ev1,rv1⟩:=rs.get ex
   obtain⟨u1,eu1,ru1⟩:=rt.get ey
   have h1:=hx vs (sq1 _ (s.trans s2))
   have h2:=hy us (sq2 _ (s.trans s2))
   rw[ev1]at h1
   rw[eu1]at h2
   cases h1
   cases h2
   subst ev eH ed0 ed
   have g:=Grow.data (a:=pp) (o:=.tup [vx,vy]) s2 ra hp
   have g2:=Grow.data (a:=rr) (o:=.tup [.int (i:Nat),.ref pp]) g.sub g.reel (by rw[ak hne];exact hr)
   have gg:=g.trans g2
   refine⟨_,gg,.tup (.inl (.inl au)) (.cons (.int _) (.cons (.tup (.inl (.inl (g2.fs _ _ au))) (.cons ((rv1.mono s).mono gg.fs) (.cons ((ru1.mono s).mono gg.fs) .nil))) .nil))⟩
theorem zK:DT fs ρ=D4 (fs ρ) fun ws=>aG (vB false true ws) fun zs=>ret (cD zs):=by
 have h:=fun(Q:List Fd->Prop)=>congrFun (m_iZb (ρ:=ρ) (fs:=fs) false true) fun zs=>Q (cD zs)
 refine ae fun Q=>?_
 show DP false true fs ρ (fun zs=>Q (cD zs))↔_
 rw[h Q]
 show(D4 (fs ρ) fun ws=>aG (vB false true ws) ret) (fun zs=>Q (cD zs))↔_
 simp only[D4,ag,ret]
end
end L2.VL
namespace L2.GA
variable{p:Int}{C:Nat}
end L2.GA
namespace L2.VL
section
variable{X:Cx}{rl:RlT}{elt tg iter:Expr}{ifs:List Expr}{scope:Scope}{pos px:Pos}{fi:En->(List Fd->Prop)->Prop}{g:Ek}{ft:TB}{fe:TV}{ρ:En}
end
end L2.VL
namespace K67
open PySem PySem.Spec PyProof.Rows L2 L2.VL
local macro_rules | `(tactic| simp_arith only [$xs,*])=>`(tactic| simp (maxSteps:=2000000) (disch:=(first | assumption | omega | decide)) only [Av,Ay,AB,AA,Az,Ar,Aq,Au,At,As,Ax,Aw,vB,Dr,Dp,du,cY,eg,W.cap,DI,List.replicate,id,↓reduceIte,if_true,Nat.reduceAdd,Nat.reduceSub,Nat.reduceLeDiff,Int.cast_ofNat_Int,Int.reduceBEq,Int.reduceSub,Int.reduceAdd,Int.reduceLT,Int.reduceLE,Int.reduceMul,Int.reduceNeg,reduceCtorEq,gq,$xs,*])
local macro_rules | `(tactic| simp_arith only [$xs,*] at $h:ident)=>`(tactic| simp only [List.cons.injEq,W.d.injEq,PyData.int.injEq,PyData.bool.injEq,PyData.str.injEq,PyData.list.injEq,PyData.tuple.injEq,jU,pN,oY,dD,and_true,true_and,reduceCtorEq,$xs,*] at $h:ident)
section
variable{P:F0}{w:GD}{K:Ij}{mg:Str->Option Fm}{base:Heap}{rl:RlT}{al:Option Addr}
noncomputable def yn(ws:List W):Prop:=∃(ns:List Int)(k:Int),ws=[.sc ns,.d (.int k)]/\ns.length<=63/\0<=k/\k<1000
theorem iq:FnScope ["_law_script", "_law_at", "_law_cell"] ["_law_script", "_law_at"] (defScope (C5 52)):=⟨rfl,rfl,rfl,by decide +kernel,rfl,by decide +kernel,by decide +kernel⟩
theorem d__law_tape(Fn:FnIn K mg "_law_tape" (C5 52) ["_law_script", "_law_at"])(Z:Bz mg):DfnR P w K mg base "_law_tape" ["_law_script", "_law_at"] 2 yn:=by
 have sc:=iq
 obtain⟨f,fd,hm,F,hb⟩:=Fn.ex
 refine⟨f,fd,hm,F.kp,hb,?_⟩
 refine F.ok (k:=1) sc (fun vs H Q E h=>?_) (fun cdv A outer s H vs Q E hr h=>?_)
 · obtain⟨F,ws,_,r,_,⟨ns,k,rfl,_⟩,_⟩:=h
   have:=G7 r
   simpa using this
 · obtain⟨F,ws,sm,r,ao,⟨ns,k,rfl,hn,k0,k1⟩,fin⟩:=h
   obtain⟨T,p,kk⟩:=mB (X:=(lC E5 P w K mg base ["_law_script", "_law_at", "_law_cell"] "_law_tape" (defScope (C5 52)) f cdv A outer s H E).nox) (aD 2 sc.nd (vn 1)) (bL (aO nq lO (aH _) (i6 Z.len_ (aa (vn 0) ab)) ah) (ai (aD 2 sc.nd (v_add (vZ (vn 0) (v_mod (vn 1) (i6 Z.len_ (aa (vn 0) ab)))) (v_div (vn 1) (i6 Z.len_ (aa (vn 0) ab)))))) a_) (vn 2) (vY Z.max_ (aa ah (aa (v_sub (vn 2) (v_pow ah ah)) ab))) ah
   refine⟨T,p,kk (dL sm (fun _ z=>by cases z) r ao) _ ?_ fin⟩
   simp_arith only[ac]
   by_cases h:(0:Int)<(ns.length:Int)
   · have hz:(ns.length:Int)≠0:=by omega
     obtain⟨z,hz'⟩:∃z,L2.atI ns (k.fmod (ns.length:Int))=some z:=by
      obtain⟨z,e,_⟩:=yc (xs:=ns) (HR k h) (Iw k h)
      exact⟨z,e⟩
     have cd:iV k (ns.length:Int):=iV.of hz (by omega)
     rw[if_pos (by simpa using h)]
     simp_arith only[af,ac,hz']
     refine⟨_,rfl,?_⟩
     simp_arith only[ac]
     refine⟨⟨by decide,by decide,by decide⟩,?_⟩
     exact⟨_,_,_,rfl,by omega,rfl⟩
   · rw[if_neg (by simpa using h)]
     refine⟨_,rfl,?_⟩
     simp_arith only[ac]
     refine⟨⟨by decide,by decide,by decide⟩,?_⟩
     exact⟨_,_,_,rfl,by omega,rfl⟩
noncomputable def bA:List W->(Fd->Prop)->Prop:=fun ws Q=>∃(m:Int),ws=[.reel,.d (.int m)]/\((0<m)/\(m<2^60))/\∀k:Int,(0<=k/\k<m)->Q (.int k)
theorem bA.mono:∀ws (Q Q':Fd->Prop),(∀d,Q d->Q' d)->bA ws Q->bA ws Q':=fun _ _ _ h_=>Fu fun _=>Fo (Fo fun q_ o_ ho_=>h_ _ (q_ o_ ho_))
theorem bA.len:∀ws (Q:Fd->Prop),bA ws Q->ws.length=2:=fun _ _ h_=>by obtain⟨_,e_,_⟩:=h_;subst e_;rfl
theorem bA.eq(m:Int)(hm:0<m)(hb:m<2^60):bA [.reel,.d (.int m)]=D4 (anyM fun k:Int=>0<=k/\k<m) fun k=>VL.ret (.int k:Fd):=by
 refine ae fun Q=>⟨?_,fun q_=>⟨m,rfl,⟨hm,hb⟩,q_⟩⟩
 rintro⟨m',e_,_,q_⟩
 simp_arith only[and_true]at e_
 obtain rfl:=e_
 exact q_
theorem iw:FnScope ["_law_tape_here", "_law_many", "_law_turn", "_law_found", "_law_stirred"] ["_law_tape_here", "_law_many"] (defScope (C5 53)):=⟨rfl,rfl,rfl,by decide +kernel,rfl,by decide +kernel,by decide +kernel⟩
theorem d__law_pick(Fn:FnIn K mg "_law_pick" (C5 53) ["_law_tape_here", "_law_many"])(Z:Bz mg)    : DfnC P w K mg base al 1 "_law_pick" ["_law_tape_here", "_law_many"] 1 bA:=by
 have sc:=iw
 refine DfnC.of Fn sc (bA.mono) (bA.len) (fun cdv A outer s H E hr=>(uZ 2 0 (hr.mono (GW _)) sc.nd (by decide) (ca (cs fun _=>(bL (aO nq lO (aH _) (lV (i:=0) (hr.mono (GW _)) (.inl rfl)) ah) (aj (aD 3 sc.nd (v_mod (lV (i:=0) (hr.mono (GW _)) (.inl rfl)) (vn 1)))
  (aj (sA (i:=0) (hr.mono (GW _)) (.inl rfl) (v_div (lV (i:=0) (hr.mono (GW _)) (.inl rfl)) (vn 1)))
  (ai (av (vn 3))))) a_))
  (ca (cs fun _=>(aD 4 sc.nd (v_mul (v_add (v_add (v_mod (sM (i:=0) (hr.mono (GW _))) ah) (v_mul (v_mul ah (vn 2)) (vn 2))) ah) ah)))
  (ca (cs fun _=>(aD 4 sc.nd (v_mul (v_add (v_mod (vn 4) ah) (v_mul ah (vn 2))) ah)))
  (og (cs fun _=>(av (v_mod (v_div (v_mod (vn 4) ah) ah) (vn 1)))))))))) (by decide) ?_
 rintro ws Q ⟨m,rfl,⟨hm,hb⟩,hQ⟩
 have hm0:m≠0:=by omega
 have hmd:∀i:Int,iV i m:=fun i=>iV.of hm0 (by omega)
 refine ay ?_
 simp_arith only[af,ac,cO,cP,bM,bO,cU,bN,bp,ar]
 refine aL fun n hn=>?_
 have h59:n.natAbs<2^59990:=by
  have h1:=hn.2
  rw[<- Int.natAbs_of_nonneg hn.1]at h1
  exact_mod_cast h1
 have bn:E8 n:=FU h59 (GP (by decide) (by decide))
 have c1:cA 31 n:=.lt (by decide)
 have bn2:E8 (31*n):=by
  unfold E8 at bn ⊢
  rw[Int.natAbs_mul]
  have h2:n.natAbs<2^59990:=h59
  have:(31:Int).natAbs*n.natAbs<2^5*2^59990:=Nat.mul_lt_mul'' (by decide) h2
  rw[<- Nat.pow_add]at this
  exact FU this (GP (by decide) (by decide))
 have c2:cA (31*n) n:=.bb bn2 bn
 have c3:cA 7 n:=.lt (by decide)
 have c4:∀z:Int,cA z 48271:=fun z=>.rt (by decide)
 have c5:∀z:Int,cA z 69621:=fun z=>.rt (by decide)
 have d7:∀z:Int,iV z 7:=fun z=>iV.of (by decide) (by decide)
 (with_reducible (first|refine aL fun l hl=>?_|refine bg fun l hl=>?_))
 rw[sq_ite]
 refine kw (fun _=>?_) fun _=>?_
 · simp_arith only[af,ac,cO,cP,bM,bO,cU,bN,bp,ar]
   (with_reducible (first|refine aL fun l2 hl2=>?_|refine bg fun l2 hl2=>?_))
   try simp_arith only[af,ac,cO,cP,bM,bO,cU,bN,bp,ar]
   (with_reducible (first|refine aL fun l3 hl3=>?_|refine bg fun l3 hl3=>?_))
   have h0:=Int.fdiv_nonneg hl3 (show 0<=m by omega)
   try simp_arith only[af,ac,cO,cP,bM,bO,cU,bN,bp,ar]
   exact cu (hmd _) (az (hQ _ ⟨HR _ hm,Iw _ hm⟩))
 · simp_arith only[af,ac,cO,cP,bM,bO,cU,bN,bp,ar]
   (with_reducible (first|refine aL fun z hz=>?_|refine bg fun z hz=>?_))
   try simp_arith only[af,ac,cO,cP,bM,bO,cU,bN,bp,ar]
   exact cu (c4 _) (cu (c5 _) (cu (d7 _) (az (hQ _ ⟨HR _ hm,Iw _ hm⟩))))
noncomputable def C9(t:List (List Int)):Fd:=.tuple (t.map aA)
noncomputable def Ak(p:Int)(r c:Nat)(t:List (List Int)):Prop:=t.length=r/\∀row∈t,row.length=c/\∀x∈row,0<=x/\x<p
theorem cC(xs:List Int):FY (xs.map FW)=aA xs:=rfl
noncomputable def bI:List W->(Fd->Prop)->Prop:=fun ws Q=>∃(d:Fd),ws=[.d d]/\(True)/\Q (.bool (bX d))
theorem bI.mono:∀ws (Q Q':Fd->Prop),(∀d,Q d->Q' d)->bI ws Q->bI ws Q':=fun _ _ _ h_=>Fu fun _=>Fo (Fo (h_ _))
theorem bI.len:∀ws (Q:Fd->Prop),bI ws Q->ws.length=1:=fun _ _ h_=>by obtain⟨_,e_,_⟩:=h_;subst e_;rfl
theorem bI.eq(d:Fd)  : bI [.d d]=VL.ret (.bool (bX d):Fd):=by
 refine ae fun Q=>⟨?_,fun q_=>⟨d,rfl,trivial,q_⟩⟩
 rintro⟨d',e_,_,q_⟩
 simp_arith only[and_true]at e_
 obtain rfl:=e_
 exact q_
theorem jd:FnScope ["thing"] ["thing"] (defScope (C5 7)):=⟨rfl,rfl,rfl,by decide +kernel,rfl,by decide +kernel,by decide +kernel⟩
theorem d_is_whole(Fn:FnIn K mg "is_whole" (C5 7) ["thing"])(Z:Bz mg)    : Dfn P w K mg base rl "is_whole" ["thing"] 1 bI:=by
 have sc:=jd
 refine Dfn.of Fn sc (bI.mono) (bI.len) (fun cdv A outer s H E hr=>(ai (av (v_and (gH Z.isinstance_ (aa (vn 0) (aa (gW Z.int_ (by rfl)) ab))) (kP (v_not (gH Z.isinstance_ (aa (vn 0) (aa (gW Z.bool_ (by rfl)) ab))))))))) ?_
 rintro ws Q ⟨d,rfl,_,hQ⟩
 refine ay ?_
 have tb:=qY
 have ti:=qX
 simp_arith only[af,ac,qY,qX]
 unfold bX at hQ
 cases h:fX d "int" <;> rw[h]at hQ<;>exact az hQ
noncomputable def bV:List W->(Fd->Prop)->Prop:=fun ws Q=>∃(d:Fd)(m:Int),ws=[.d d,.d (.int m)]/\(True)/\Q (.bool (fJ d m))
theorem bV.mono:∀ws (Q Q':Fd->Prop),(∀d,Q d->Q' d)->bV ws Q->bV ws Q':=fun _ _ _ h_=>Fu fun _=>Fu fun _=>Fo (Fo (h_ _))
theorem bV.len:∀ws (Q:Fd->Prop),bV ws Q->ws.length=2:=fun _ _ h_=>by obtain⟨_,_,e_,_⟩:=h_;subst e_;rfl
theorem bV.eq(d:Fd)(m:Int)  : bV [.d d,.d (.int m)]=VL.ret (.bool (fJ d m):Fd):=by
 refine ae fun Q=>⟨?_,fun q_=>⟨d,m,rfl,trivial,q_⟩⟩
 rintro⟨d',m',e_,_,q_⟩
 simp_arith only[and_true]at e_
 obtain⟨rfl,rfl⟩:=e_
 exact q_
theorem jh:FnScope ["thing", "many"] ["thing", "many"] (defScope (C5 8)):=⟨rfl,rfl,rfl,by decide +kernel,rfl,by decide +kernel,by decide +kernel⟩
theorem d_is_place(Fn:FnIn K mg "is_place" (C5 8) ["thing", "many"])(Z:Bz mg)(d_is_whole:∀rl,Dfn P w K mg base rl "is_whole" ["thing"] 1 bI)   : Dfn P w K mg base rl "is_place" ["thing", "many"] 2 bV:=by
 have sc:=jh
 refine Dfn.of Fn sc (bV.mono) (bV.len) (fun cdv A outer s H E hr=>(ai (av (v_and (aw (d_is_whole _) (hr.mono (by decide)) (aa (vn 0) ab)) (kP (sO pI ug ah (vn 0) (vn 1))))))) ?_
 rintro ws Q ⟨d,m,rfl,_,hQ⟩
 refine ay ?_
 simp_arith only[af,ac,bI.eq]
 cases h:bX d with
 | false=>rw[pY h]at hQ;exact az hQ
 | true =>
   obtain⟨i,rfl⟩:=rN.mp h
   simp_arith only[af,ac,bI.eq]
   exact az hQ
noncomputable def D2(xs ys:List Int):Int:=((xs.zip ys).map fun z=>z.1*z.2).sum
noncomputable def D_(p:Int)(t:List (List Int))(fs:List Int):List Int:=t.map fun row=>(D2 row fs).fmod p
noncomputable def eR(t:List (List Int)):List (List Int):=(FJ (t.getD 0 []).length).map fun k=>t.map fun row=>row.getD k 0
noncomputable def yp(p:Int)(one other:List (List Int)):List (List Int):=one.map fun row=>D_ p (eR other) row
noncomputable def dY(p m:Int)(d:Fd):Bool:=match d with
 | .tuple xs=>decide ((xs.length:Int)=m)&&xs.all fun x=>fJ x p
 | _=>false
noncomputable def iG(p r c:Int)(d:Fd):Bool:=match d with
 | .tuple xs=>decide ((xs.length:Int)=r)&&xs.all (dY p c)
 | _=>false
theorem pZ(h:fX d "tuple" = false):dY p m d=false:=by cases d<;>first|rfl|cases h
theorem pX{r c:Int}(h:fX d "tuple" = false):iG p r c d=false:=by cases d<;>first|rfl|cases h
theorem jI(xs ys:List Int):fm (xs.map FW) (ys.map FW)=(xs.zip ys).map fun z=>FY [.int z.1,.int z.2]:=by
 induction xs generalizing ys with
 | nil=>rfl
 | cons x xs ih=>cases ys with
   | nil=>rfl
   | cons y ys=>rw[FV,FV,J3,FV];show _::fm _ _=_;rw[ih]
noncomputable def oF(xs:List Int):Prop:=xs.length<=8/\∀x∈xs,0<=x/\x<10
theorem mG(xs:List Int):eB (aA xs)=some (xs.map .int):=rfl
theorem ck(xs:List Int):tupD (aA xs)=some (xs.map .int):=rfl
noncomputable def be:List W->(Fd->Prop)->Prop:=fun ws Q=>∃(p m:Int)(d:Fd),ws=[.d (.int p),.d (.int m),.d d]/\((∀xs,d = .tuple xs->xs.length<=60))/\Q (.bool (dY p m d))
theorem be.mono:∀ws (Q Q':Fd->Prop),(∀d,Q d->Q' d)->be ws Q->be ws Q':=fun _ _ _ h_=>Fu fun _=>Fu fun _=>Fu fun _=>Fo (Fo (h_ _))
theorem be.len:∀ws (Q:Fd->Prop),be ws Q->ws.length=3:=fun _ _ h_=>by obtain⟨_,_,_,e_,_⟩:=h_;subst e_;rfl
theorem be.eq(p m:Int)(d:Fd)(hz:∀xs,d = .tuple xs->xs.length<=60):be [.d (.int p),.d (.int m),.d d]=VL.ret (.bool (dY p m d):Fd):=by
 refine ae fun Q=>⟨?_,fun q_=>⟨p,m,d,rfl,hz,q_⟩⟩
 rintro⟨p',m',d',e_,_,q_⟩
 simp_arith only[and_true]at e_
 obtain⟨rfl,rfl,rfl⟩:=e_
 exact q_
theorem gP:FnScope ["p", "many", "thing"] ["p", "many", "thing"] (defScope (C5 16)):=⟨rfl,rfl,rfl,by decide +kernel,rfl,by decide +kernel,by decide +kernel⟩
theorem d_is_figures(Fn:FnIn K mg "is_figures" (C5 16) ["p", "many", "thing"])(Z:Bz mg)(d_is_place:∀rl,Dfn P w K mg base rl "is_place" ["thing", "many"] 2 bV)   : Dfn P w K mg base rl "is_figures" ["p", "many", "thing"] 3 be:=by
 have sc:=gP
 refine Dfn.of Fn sc (be.mono) (be.len) (fun cdv A outer s H E hr=>(aj (bL (EG.pb (fu (cW (de (gH Z.isinstance_ (aa (vn 2) (aa (gW Z.tuple_ (by rfl)) ab))))) (dM (aO (eP hr.units) ce (aH _) (cy Z.len_ (aa (vn 2) ab)) (vn 1))))) (ai (av c_)) a_)
  (ai (av (v_all Z.all_ (aa (aF ["figure", "p"] [none,some 0] rfl (cV (vn 2)) (fun _=>(aq 0 (show Gp (["figure", "p"]:List Str) by decide +kernel))) (fun _=>aU) (fun _=>(aw (d_is_place _) (hr.mono (by decide)) (aa (vn 0) (aa (vn 1) ab))))) ab)))))) ?_
 rintro ws Q ⟨p,m,d,rfl,hz,hQ⟩
 refine ay ?_
 have sz:=FG
 simp_arith only[af,ac,bV.eq,eL]
 cases ht:fX d "tuple" with
 | false=>rw[pZ ht]at hQ;exact az hQ
 | true =>
   obtain⟨xs,rfl⟩:=iE ht
   have h60:=hz xs rfl
   by_cases hl:(xs.length:Int)=m
   · have t:((xs.length:Int)==m)=true:=by simpa using hl
     simp_arith only[af,ac,t]
     refine cb (xs:=xs) (enc:=id) (fun x=>.bool (fJ x p)) (by simp) ?_ (by omega) ?_
     · intro x mx
       simp_arith only[af,ac,DM,bV.eq]
     · have e:xs.map (fun x=>Hq (fJ x p))=(xs.map fun x=>fJ x p).map .bool:=by rw[Gu];rfl
       rw[e]
       simp_arith only[af,ac]
       refine az ?_
       have e2:dY p m (.tuple xs)=xs.all fun x=>fJ x p:=by simp[dY,hl]
       rw[JZ]
       rw[e2]at hQ
       exact hQ
   · have t:((xs.length:Int)==m)=false:=by simpa using hl
     have e2:dY p m (.tuple xs)=false:=by simp[dY,hl]
     rw[e2]at hQ
     simp_arith only[af,ac,t]
     exact az hQ
noncomputable def bJ:List W->(Fd->Prop)->Prop:=fun ws Q=>∃(p r c:Int)(d:Fd),ws=[.d (.int p),.d (.int r),.d (.int c),.d d]/\((1<=r)/\(1<=c)/\(∀xs,d = .tuple xs->xs.length<=60/\∀x∈xs,∀ys,x = .tuple ys->ys.length<=60))/\Q (.bool (iG p r c d))
theorem bJ.mono:∀ws (Q Q':Fd->Prop),(∀d,Q d->Q' d)->bJ ws Q->bJ ws Q':=fun _ _ _ h_=>Fu fun _=>Fu fun _=>Fu fun _=>Fu fun _=>Fo (Fo (h_ _))
theorem bJ.len:∀ws (Q:Fd->Prop),bJ ws Q->ws.length=4:=fun _ _ h_=>by obtain⟨_,_,_,_,e_,_⟩:=h_;subst e_;rfl
theorem bJ.eq(p r c:Int)(d:Fd)(r1:1<=r)(c1:1<=c)(hz:∀xs,d = .tuple xs->xs.length<=60/\∀x∈xs,∀ys,x = .tuple ys->ys.length<=60):bJ [.d (.int p),.d (.int r),.d (.int c),.d d]=VL.ret (.bool (iG p r c d):Fd):=by
 refine ae fun Q=>⟨?_,fun q_=>⟨p,r,c,d,rfl,⟨r1,c1,hz⟩,q_⟩⟩
 rintro⟨p',r',c',d',e_,_,q_⟩
 simp_arith only[and_true]at e_
 obtain⟨rfl,rfl,rfl,rfl⟩:=e_
 exact q_
theorem jf:FnScope ["p", "rows", "columns", "thing"] ["p", "rows", "columns", "thing"] (defScope (C5 17)):=⟨rfl,rfl,rfl,by decide +kernel,rfl,by decide +kernel,by decide +kernel⟩
theorem d_is_table(Fn:FnIn K mg "is_table" (C5 17) ["p", "rows", "columns", "thing"])(Z:Bz mg)(d_is_figures:∀rl,Dfn P w K mg base rl "is_figures" ["p", "many", "thing"] 3 be)   : Dfn P w K mg base rl "is_table" ["p", "rows", "columns", "thing"] 4 bJ:=by
 have sc:=jf
 refine Dfn.of Fn sc (bJ.mono) (bJ.len) (fun cdv A outer s H E hr=>(aj (bL (EG.pb (fu (cW (de (gH Z.isinstance_ (aa (vn 3) (aa (gW Z.tuple_ (by rfl)) ab))))) (fu (aO (eP hr.units) ce (aH _) (cy Z.len_ (aa (vn 3) ab)) (vn 1)) (fu (aO ug vI (aH _) (vn 1) ah) (dM (aO ug vI (aH _) (vn 2) ah)))))) (ai (av c_)) a_)
  (ai (av (v_all Z.all_ (aa (aF ["row", "p", "columns"] [none,some 0,some 2] rfl (cV (vn 3)) (fun _=>(aq 0 (show Gp (["row", "p", "columns"]:List Str) by decide +kernel))) (fun _=>aU) (fun _=>(aw (d_is_figures _) (hr.mono (by decide)) (aa (vn 1) (aa (vn 2) (aa (vn 0) ab)))))) ab)))))) ?_
 rintro ws Q ⟨p,r,c,d,rfl,⟨r1,c1,hz⟩,hQ⟩
 refine ay ?_
 have sz:=FG
 have t1:decide (r<1)=false:=by simp;omega
 have t2:decide (c<1)=false:=by simp;omega
 simp_arith only[af,ac,be.eq,eL]
 cases ht:fX d "tuple" with
 | false=>rw[pX ht]at hQ;exact az hQ
 | true =>
   obtain⟨xs,rfl⟩:=iE ht
   obtain⟨h60,hin⟩:=hz xs rfl
   by_cases hl:(xs.length:Int)=r
   · have t:((xs.length:Int)==r)=true:=by simpa using hl
     simp_arith only[af,ac,t,t1,t2]
     refine cb (xs:=xs) (enc:=id) (fun x=>.bool (dY p c x)) (by simp) ?_ (by omega) ?_
     · intro x mx
       have hx:=hin x mx
       simp_arith only[af,ac,DM,be.eq]
     · have e:xs.map (fun x=>Hq (dY p c x))=(xs.map fun x=>dY p c x).map .bool:=by rw[Gu];rfl
       rw[e]
       simp_arith only[af,ac]
       refine az ?_
       have e2:iG p r c (.tuple xs)=xs.all fun x=>dY p c x:=by simp[iG,hl]
       rw[JZ]
       rw[e2]at hQ
       exact hQ
   · have t:((xs.length:Int)==r)=false:=by simpa using hl
     have e2:iG p r c (.tuple xs)=false:=by simp[iG,hl]
     rw[e2]at hQ
     simp_arith only[af,ac,t]
     exact az hQ
noncomputable def C8(k:Bool)(t:List (List Int)):Fd:=bif k then .tuple (t.map aA)else .list (t.map aA)
noncomputable def Ef(p:Int)(t:List (List Int)):Prop:=t.length<=8/\∀row∈t,oF row
theorem za{k k':Bool}{a b:List (List Int)}:C8 k a=C8 k' b↔k=k'/\a=b:=by
 have h:a.map aA=b.map aA↔a=b:=List.map_inj_right fun x y h=>jU.mp h
 cases k<;>cases k'
 · show JK _=JK _↔_
   rw[Kc,h];simp
 · show JK _=FY _↔_
   simp
 · show FY _=JK _↔_
   simp
 · show FY _=FY _↔_
   rw[Iv,h];simp
theorem gJ{a b:List (List Int)}:C9 a=C9 b↔a=b:=by
 have:=za (k:=true) (k':=true) (a:=a) (b:=b)
 show C8 true a=C8 true b↔_
 simpa using this
theorem rF{β:Type}{c:Prop}[Decidable c]{x:α}{k:α->Mo β}{Q:β->Prop}(h:c)(q:k x Q):aG (if c then some x else none) k Q:=by rw[if_pos h];exact q
theorem eh(t:List (List Int)):tupD (C9 t)=some (t.map aA):=rfl
theorem cr(l:List α)(f:α->Int):l.map (fun z=>FW (f z))=(l.map f).map .int:=by rw[Gu];rfl
theorem cN(l:List α)(f:α->List Int):l.map (fun z=>aA (f z))=(l.map f).map aA:=by rw[Gu];rfl
theorem jy(xs:List Int)(i:Int):VL.itemAt (aA xs) i=(atI xs i).map .int:=fT _ _ _
theorem jx(t:List (List Int))(i:Int):VL.itemAt (C9 t) i=(atI t i).map aA:=fT _ _ _
theorem g_(xs:List Int):uy (aA xs)=some xs.length:=by show some (xs.map FW).length=_;rw[Fq]
theorem dE(t:List (List Int)):uy (C9 t)=some t.length:=by show some (t.map aA).length=_;rw[Fq]
noncomputable def bi:List W->(Fd->Prop)->Prop:=fun ws Q=>∃(p:Int)(xs ys:List Int),ws=[.d (.int p),.d (aA xs),.d (aA ys)]/\((2<=p)/\(oF xs)/\(oF ys))/\Q (.int ((D2 xs ys).fmod p))
theorem bi.mono:∀ws (Q Q':Fd->Prop),(∀d,Q d->Q' d)->bi ws Q->bi ws Q':=fun _ _ _ h_=>Fu fun _=>Fu fun _=>Fu fun _=>Fo (Fo (h_ _))
theorem bi.len:∀ws (Q:Fd->Prop),bi ws Q->ws.length=3:=fun _ _ h_=>by obtain⟨_,_,_,e_,_⟩:=h_;subst e_;rfl
theorem bi.eq(p:Int)(xs ys:List Int)(p2:2<=p)(hx:oF xs)(hy:oF ys):bi [.d (.int p),.d (aA xs),.d (aA ys)]=VL.ret (.int ((D2 xs ys).fmod p):Fd):=by
 refine ae fun Q=>⟨?_,fun q_=>⟨p,xs,ys,rfl,⟨p2,hx,hy⟩,q_⟩⟩
 rintro⟨p',xs',ys',e_,_,q_⟩
 simp_arith only[and_true]at e_
 obtain⟨rfl,rfl,rfl⟩:=e_
 exact q_
theorem fZ:FnScope ["p", "one", "other"] ["p", "one", "other"] (defScope (C5 19)):=⟨rfl,rfl,rfl,by decide +kernel,rfl,by decide +kernel,by decide +kernel⟩
theorem d_product_sum(Fn:FnIn K mg "product_sum" (C5 19) ["p", "one", "other"])(Z:Bz mg)    : Dfn P w K mg base rl "product_sum" ["p", "one", "other"] 1 bi:=by
 have sc:=fZ
 refine Dfn.of Fn sc (bi.mono) (bi.len) (fun cdv A outer s H E hr=>(ai (av (v_mod (v_sum Z.sum_ (aa (aF ["x", "y"] [none,none] rfl (gE Z.zip_ (aa (vn 1) (aa (vn 2) ab))) (fun _=>(db (n:=2) rfl (aI (aq 0 (show Gp (["x", "y"]:List Str) by decide +kernel)) (aI (aq 1 (show Gp (["x", "y"]:List Str) by decide +kernel)) cj)))) (fun _=>aU) (fun _=>(v_mul (vn 0) (vn 1)))) ab)) (vn 0))))) ?_
 rintro ws Q ⟨p,xs,ys,rfl,⟨p2,hx,hy⟩,hQ⟩
 refine ay ?_
 have sz:=FG
 have p0:p≠0:=by omega
 simp_arith only[af,ac,mG,ck]
 refine rF (by exact⟨rfl,rfl⟩) ?_
 rw[jI]
 refine cb (xs:=xs.zip ys) (enc:=fun z=>FY [.int z.1,.int z.2]) (fun z=>.int (z.1*z.2)) rfl ?_ (by rw[JN];have:=hx.1;omega) ?_
 · rintro⟨a,b⟩ mz
   have ha:=hx.2 a (HN mz).1
   have cm:cA a b:=.lt (by omega)
   simp_arith only[af,ac,DM]
 · rw[cr]
   simp_arith only[af,ac,E9]
   exact az hQ
noncomputable def bZ:List W->(Fd->Prop)->Prop:=fun ws Q=>∃(p:Int)(t:List (List Int))(fs:List Int),ws=[.d (.int p),.d (C9 t),.d (aA fs)]/\((2<=p)/\(Ef p t)/\(oF fs))/\Q (aA (D_ p t fs))
theorem bZ.mono:∀ws (Q Q':Fd->Prop),(∀d,Q d->Q' d)->bZ ws Q->bZ ws Q':=fun _ _ _ h_=>Fu fun _=>Fu fun _=>Fu fun _=>Fo (Fo (h_ _))
theorem bZ.len:∀ws (Q:Fd->Prop),bZ ws Q->ws.length=3:=fun _ _ h_=>by obtain⟨_,_,_,e_,_⟩:=h_;subst e_;rfl
theorem bZ.eq(p:Int)(t:List (List Int))(fs:List Int)(p2:2<=p)(ht:Ef p t)(hf:oF fs):bZ [.d (.int p),.d (C9 t),.d (aA fs)]=VL.ret (aA (D_ p t fs):Fd):=by
 refine ae fun Q=>⟨?_,fun q_=>⟨p,t,fs,rfl,⟨p2,ht,hf⟩,q_⟩⟩
 rintro⟨p',t',fs',e_,_,q_⟩
 simp_arith only[gJ]at e_
 obtain⟨rfl,rfl,rfl⟩:=e_
 exact q_
theorem lf:FnScope ["p", "table", "figures"] ["p", "table", "figures"] (defScope (C5 20)):=⟨rfl,rfl,rfl,by decide +kernel,rfl,by decide +kernel,by decide +kernel⟩
theorem d_applied(Fn:FnIn K mg "applied" (C5 20) ["p", "table", "figures"])(Z:Bz mg)(d_product_sum:∀rl,Dfn P w K mg base rl "product_sum" ["p", "one", "other"] 1 bi)   : Dfn P w K mg base rl "applied" ["p", "table", "figures"] 2 bZ:=by
 have sc:=lf
 refine Dfn.of Fn sc (bZ.mono) (bZ.len) (fun cdv A outer s H E hr=>(ai (av (ba Z.tuple_ (aa (aF ["row", "p", "figures"] [none,some 0,some 2] rfl (cV (vn 1)) (fun _=>(aq 0 (show Gp (["row", "p", "figures"]:List Str) by decide +kernel))) (fun _=>aU) (fun _=>(aw (d_product_sum _) (hr.mono (by decide)) (aa (vn 1) (aa (vn 0) (aa (vn 2) ab)))))) ab))))) ?_
 rintro ws Q ⟨p,t,fs,rfl,⟨p2,ht,hf⟩,hQ⟩
 refine ay ?_
 have sz:=FG
 have t8:=ht.1
 simp_arith only[af,ac,eh]
 refine cb (xs:=t) (enc:=aA) (fun row=>.int ((D2 row fs).fmod p)) rfl ?_ (by omega) ?_
 · intro row mr
   have hr:=ht.2 row mr
   simp_arith only[af,ac,DM,bi.eq]
 · rw[cr]
   simp_arith only[af,ac,cC]
   exact az hQ
noncomputable def rZ(t:List (List Int)):Prop:=1<=t.length/\t.length<=8/\∃c:Nat,c<=8/\∀row∈t,row.length=c
theorem Ak.t8{r:Nat}{t:List (List Int)}(h:Ak p r c t)(p7:p<=7)(r8:r<=8)(c8:c<=8):Ef p t:=⟨by rw[h.1];exact r8,fun row mr=>⟨by rw[(h.2 row mr).1];exact c8,fun x mx=>by have:=(h.2 row mr).2 x mx;omega⟩⟩
theorem n_(xs:List Fd)(l u:Option Int):(VL.cutD xs l u).length<=xs.length:=by unfold VL.cutD;rw[GQ,HX];omega
noncomputable def S(n:Nat)(f:Nat->Int):Int:=((FJ n).map f).sum
theorem y8(ρ:En):CY (.nx ρ)=VL.ret (.nx (nR ρ)):=rfl
theorem y7(x:Fd):CY (.rt (.d x))=VL.ret (.rt (.d x)):=ae fun Q=>⟨fun⟨_,h⟩=>h,fun h=>⟨rfl,h⟩⟩
theorem yn.eq{k:Int}(h:ns.length<=63)(k0:0<=k)(k1:k<1000):yn [.sc ns,.d (.int k)]=True:=eq_true ⟨ns,k,rfl,h,k0,k1⟩
theorem zi{xs:List Int}(h:oF xs):Sm 2 8 (aA xs):=(Sm.seq (dp:=0) (bk:=0) (n:=8) (fun d md=>by
 obtain⟨x,mx,rfl⟩:=Gf.mp md
 have:=h.2 x mx
 exact Sm.int (FU (show x.natAbs<2^4 by omega) (GP (by decide) (by decide)))) (by rw[Fq];exact h.1)).1
theorem y_{t:List (List Int)}(h:Ef p t):Sm 4 72 (C9 t):=(Sm.seq (dp:=2) (bk:=8) (n:=8) (fun d md=>by
 obtain⟨x,mx,rfl⟩:=Gf.mp md
 exact zi (h.2 x mx)) (by rw[Fq];exact h.1)).1
noncomputable def bf:List W->(Fd->Prop)->Prop:=fun ws Q=>∃(t:List (List Int)),ws=[.d (C9 t)]/\((rZ t))/\Q (C9 (eR t))
theorem bf.mono:∀ws (Q Q':Fd->Prop),(∀d,Q d->Q' d)->bf ws Q->bf ws Q':=fun _ _ _ h_=>Fu fun _=>Fo (Fo (h_ _))
theorem bf.len:∀ws (Q:Fd->Prop),bf ws Q->ws.length=1:=fun _ _ h_=>by obtain⟨_,e_,_⟩:=h_;subst e_;rfl
theorem bf.eq(t:List (List Int))(ht:rZ t):bf [.d (C9 t)]=VL.ret (C9 (eR t):Fd):=by
 refine ae fun Q=>⟨?_,fun q_=>⟨t,rfl,ht,q_⟩⟩
 rintro⟨t',e_,_,q_⟩
 simp_arith only[gJ]at e_
 obtain rfl:=e_
 exact q_
theorem gR:FnScope ["table"] ["table"] (defScope (C5 18)):=⟨rfl,rfl,rfl,by decide +kernel,rfl,by decide +kernel,by decide +kernel⟩
theorem d_columns_of(Fn:FnIn K mg "columns_of" (C5 18) ["table"])(Z:Bz mg)    : Dfn P w K mg base rl "columns_of" ["table"] 1 bf:=by
 have sc:=gR
 refine Dfn.of Fn sc (bf.mono) (bf.len) (fun cdv A outer s H E hr=>(ai (av (ba Z.tuple_ (aa (aF ["column", "table"] [none,some 0] rfl (aS Z.range_ (aa (cy Z.len_ (aa (eX (vn 0) ah) ab)) ab)) (fun _=>(aq 0 (show Gp (["column", "table"]:List Str) by decide +kernel))) (fun _=>aU) (fun _=>(ba Z.tuple_ (aa (aF ["row", "column"] [none,some 0] rfl (cV (vn 1)) (fun _=>(aq 0 (show Gp (["row", "column"]:List Str) by decide +kernel))) (fun _=>aU) (fun _=>(eX (vn 0) (vn 1)))) ab)))) ab))))) ?_
 rintro ws Q ⟨t,rfl,ht,hQ⟩
 refine ay ?_
 have sz:=FG
 obtain⟨h0,t8,c,c8,hc⟩:=ht
 have e0:atI t 0=some (t.getD 0 []):=by rw[show(0:Int)=((0:Nat):Int)from rfl,bQ (Fp h0),Fi,Fp h0];rfl
 have l0:(t.getD 0 []).length=c:=by rw[Fi,Fp h0];exact hc _ (Gm h0)
 have g1 : -(2^62)<=((t.getD 0 []).length:Int)/\((t.getD 0 []).length:Int)<2^62:=by omega
 simp_arith only[af,ac,jx,e0,g_,eh]
 refine dq (fun k=>aA (t.map fun row=>row.getD k 0)) ?_ (by omega) ?_
 · intro k hk
   simp_arith only[af,ac,DM,eh]
   rw[comp_map (xs:=t) (enc:=aA) (fun row=>.int (row.getD k 0)) ?_ (by omega),bnd_ret,cr]
   · try simp_arith only[af,ac,cC]
   · intro row mr
     have hk2:k<row.length:=by have:=hc row mr;omega
     have e:VL.itemAt (aA row) (0+(k:Int))=some (.int (row.getD k 0)):=by rw[jy,rX (by omega) (by omega),Fi,Fp hk2];simp
     simp_arith only[af,ac,DM,e]
 · rw[cN]
   have gl:((FJ (t.getD 0 []).length).map fun k=>t.map fun row=>row.getD k 0).length<=sizeLine:=by rw[Fq,GZ];omega
   try simp_arith only[af,ac]
   exact az hQ
noncomputable def bh:List W->(Fd->Prop)->Prop:=fun ws Q=>∃(p:Int)(one other:List (List Int)),ws=[.d (.int p),.d (C9 one),.d (C9 other)]/\((2<=p)/\(Ef p one)/\(rZ other)/\(Ef p (eR other)))/\Q (C9 (yp p one other))
theorem bh.mono:∀ws (Q Q':Fd->Prop),(∀d,Q d->Q' d)->bh ws Q->bh ws Q':=fun _ _ _ h_=>Fu fun _=>Fu fun _=>Fu fun _=>Fo (Fo (h_ _))
theorem bh.len:∀ws (Q:Fd->Prop),bh ws Q->ws.length=3:=fun _ _ h_=>by obtain⟨_,_,_,e_,_⟩:=h_;subst e_;rfl
theorem bh.eq(p:Int)(one other:List (List Int))(p2:2<=p)(h1:Ef p one)(h2:rZ other)(h3:Ef p (eR other)):bh [.d (.int p),.d (C9 one),.d (C9 other)]=VL.ret (C9 (yp p one other):Fd):=by
 refine ae fun Q=>⟨?_,fun q_=>⟨p,one,other,rfl,⟨p2,h1,h2,h3⟩,q_⟩⟩
 rintro⟨p',one',other',e_,_,q_⟩
 simp_arith only[gJ]at e_
 obtain⟨rfl,rfl,rfl⟩:=e_
 exact q_
theorem fY:FnScope ["p", "one", "other", "columns"] ["p", "one", "other"] (defScope (C5 22)):=⟨rfl,rfl,rfl,by decide +kernel,rfl,by decide +kernel,by decide +kernel⟩
theorem d_table_times(Fn:FnIn K mg "table_times" (C5 22) ["p", "one", "other"])(Z:Bz mg)(d_columns_of:∀rl,Dfn P w K mg base rl "columns_of" ["table"] 1 bf)(d_applied:∀rl,Dfn P w K mg base rl "applied" ["p", "table", "figures"] 2 bZ)   : Dfn P w K mg base rl "table_times" ["p", "one", "other"] 3 bh:=by
 have sc:=fY
 refine Dfn.of Fn sc (bh.mono) (bh.len) (fun cdv A outer s H E hr=>(aj (aD 3 sc.nd (aw (d_columns_of _) (hr.mono (by decide)) (aa (vn 2) ab)))
  (ai (av (ba Z.tuple_ (aa (aF ["row", "p", "columns"] [none,some 0,some 3] rfl (cV (vn 1)) (fun _=>(aq 0 (show Gp (["row", "p", "columns"]:List Str) by decide +kernel))) (fun _=>aU) (fun _=>(aw (d_applied _) (hr.mono (by decide)) (aa (vn 1) (aa (vn 2) (aa (vn 0) ab)))))) ab)))))) ?_
 rintro ws Q ⟨p,one,other,rfl,⟨p2,h1,h2,h3⟩,hQ⟩
 refine ay ?_
 have sz:=FG
 have t8:=h1.1
 simp_arith only[af,ac,bf.eq,bZ.eq,eh]
 refine cb (xs:=one) (enc:=aA) (fun row=>aA (D_ p (eR other) row)) rfl ?_ (by omega) ?_
 · intro row mr
   have hr:=h1.2 row mr
   simp_arith only[af,ac,DM,bf.eq,bZ.eq]
 · rw[cN]
   try simp_arith only[af,ac]
   exact az hQ
noncomputable def Dh(p:Int):Int:=if p=2 then 5 else if p=3 then 3 else if p=5 then 2 else 1
theorem zM(h:p=2\/p=3\/p=5\/p=7):List.lookup p [((2:Int),(5:Int)),(3,3),(5,2),(7,1)]=some (Dh p):=by rcases h with rfl|rfl|rfl|rfl<;>rfl
theorem wE(h:p=2\/p=3\/p=5\/p=7):1<=Dh p/\Dh p<=5:=by rcases h with rfl|rfl|rfl|rfl<;>decide
noncomputable def Pm(p m:Int):Prop:=(p=2\/p=3\/p=5\/p=7)/\1<=m/\m<=Dh p
noncomputable def bG:List W->(Fd->Prop)->Prop:=fun ws Q=>ws=[.reel]/\(True)/\∀z:Int×Int,(Pm z.1 z.2)->Q (.tuple [.int z.1,.int z.2])
theorem bG.mono:∀ws (Q Q':Fd->Prop),(∀d,Q d->Q' d)->bG ws Q->bG ws Q':=fun _ _ _ h_=>Fo (Fo fun q_ o_ ho_=>h_ _ (q_ o_ ho_))
theorem bG.len:∀ws (Q:Fd->Prop),bG ws Q->ws.length=1:=fun _ _ h_=>by obtain⟨e_,_⟩:=h_;subst e_;rfl
theorem bG.eq   : bG [.reel]=D4 (anyM fun z:Int×Int=>Pm z.1 z.2) fun z=>VL.ret (.tuple [.int z.1,.int z.2]:Fd):=by
 refine ae fun Q=>⟨?_,fun q_=>⟨rfl,trivial,q_⟩⟩
 rintro⟨e_,_,q_⟩
 simp_arith only[and_true]at e_
 exact q_
theorem iu:FnScope ["_law_tape_here", "_law_p"] ["_law_tape_here"] (defScope (C5 54)):=⟨rfl,rfl,rfl,by decide +kernel,rfl,by decide +kernel,by decide +kernel⟩
theorem d__law_size(Fn:FnIn K mg "_law_size" (C5 54) ["_law_tape_here"])(Z:Bz mg)(d__law_pick:∀al,DfnC P w K mg base al 1 "_law_pick" ["_law_tape_here", "_law_many"] 1 bA)   : DfnC P w K mg base al 2 "_law_size" ["_law_tape_here"] 2 bG:=by
 have sc:=iu
 refine DfnC.of Fn sc (bG.mono) (bG.len) (fun cdv A outer s H E hr=>(ca (oa 1 sc.nd (Cd (cv fun _=>(lW (aa ah (aa ah (aa ah (aa ah (aa ah (aa ah (aa ah ab))))))))) (kN (d__law_pick _) (hr.mono (by decide)) (ci (cv fun _=>(vn 0)) (ci (cv fun _=>ah) fP)))))
  (og (x8 (Ad (ci (cv fun _=>(vn 1)) (ci (ya (cv fun _=>ah) (kN (d__law_pick _) (hr.mono (by decide)) (ci (cv fun _=>(vn 0)) (ci (cv fun _=>(sN (hr.mono (GW _)) (by decide) (vn 1))) fP)))) fP))))))) (by decide) ?_
 rintro ws Q ⟨rfl,_,hQ⟩
 refine ay ?_
 have sz:=FG
 simp_arith only[af,ac,cO,cP,bM,bO,cU,bN,bp,ar,bA.eq,gZ]
 (with_reducible (first|refine aL fun a ha=>?_|refine bg fun a ha=>?_))
 try simp_arith only[af,ac,cO,cP,bM,bO,cU,bN,bp,ar,bA.eq,gZ]
 refine Dl (ll (xs:=[2,2,2,3,3,5,7]) (enc:=FW) (fun p=>p=2\/p=3\/p=5\/p=7) rfl ha.1 (by show a<7;omega) (by intro z hz;simp at hz;omega) fun p hp=>?_)
 have e1:=zM hp
 obtain⟨s1,s5⟩:=wE hp
 have g1:0<Dh p:=by omega
 have g2:Dh p<2^60:=by omega
 simp_arith only[af,ac,cO,cP,bM,bO,cU,bN,bp,ar,bA.eq,gZ,e1]
 (with_reducible (first|refine aL fun m hm=>?_|refine bg fun m hm=>?_))
 exact az (hQ (p,1+m) ⟨hp,by show 1<=1+m;omega,by show 1+m<=Dh p;omega⟩)
theorem tF(xs:List Int):eB (lm xs)=some (xs.map .int):=rfl
theorem uC(xs:List Int)(i:Int):VL.itemAt (lm xs) i=(atI xs i).map .int:=fT _ _ _
noncomputable def bo:List W->(Fd->Prop)->Prop:=fun ws Q=>∃(m:Int),ws=[.d (.int m)]/\((1<=m)/\(m<=5))/\Q (C9 ((FJ m.toNat).map fun i:Nat=>(FJ m.toNat).map fun k:Nat=>if(i:Int)+k=m-1 then(1:Int)else 0))
theorem bo.mono:∀ws (Q Q':Fd->Prop),(∀d,Q d->Q' d)->bo ws Q->bo ws Q':=fun _ _ _ h_=>Fu fun _=>Fo (Fo (h_ _))
theorem bo.len:∀ws (Q:Fd->Prop),bo ws Q->ws.length=1:=fun _ _ h_=>by obtain⟨_,e_,_⟩:=h_;subst e_;rfl
theorem bo.eq(m:Int)(m1:1<=m)(m5:m<=5):bo [.d (.int m)]=VL.ret (C9 ((FJ m.toNat).map fun i:Nat=>(FJ m.toNat).map fun k:Nat=>if(i:Int)+k=m-1 then(1:Int)else 0):Fd):=by
 refine ae fun Q=>⟨?_,fun q_=>⟨m,rfl,⟨m1,m5⟩,q_⟩⟩
 rintro⟨m',e_,_,q_⟩
 simp_arith only[and_true]at e_
 obtain rfl:=e_
 exact q_
theorem gb:FnScope ["_law_m"] ["_law_m"] (defScope (C5 56)):=⟨rfl,rfl,rfl,by decide +kernel,rfl,by decide +kernel,by decide +kernel⟩
theorem d__law_mirror(Fn:FnIn K mg "_law_mirror" (C5 56) ["_law_m"])(Z:Bz mg)    : Dfn P w K mg base rl "_law_mirror" ["_law_m"] 1 bo:=by
 have sc:=gb
 refine Dfn.of Fn sc (bo.mono) (bo.len) (fun cdv A outer s H E hr=>(ai (av (ba Z.tuple_ (aa (aF ["_law_i", "_law_m"] [none,some 0] rfl (aS Z.range_ (aa (vn 0) ab)) (fun _=>(aq 0 (show Gp (["_law_i", "_law_m"]:List Str) by decide +kernel))) (fun _=>aU) (fun _=>(ba Z.tuple_ (aa (aF ["_law_k", "_law_i", "_law_m"] [none,some 0,some 1] rfl (aS Z.range_ (aa (vn 1) ab)) (fun _=>(aq 0 (show Gp (["_law_k", "_law_i", "_law_m"]:List Str) by decide +kernel))) (fun _=>aU) (fun _=>(qQ Z.int_ (aa (kQ (eQ hr.units) ce (aH _) (v_add (vn 1) (vn 0)) (v_sub (vn 2) ah)) ab)))) ab)))) ab))))) ?_
 rintro ws Q ⟨m,rfl,⟨m1,m5⟩,hQ⟩
 refine ay ?_
 have sz:=FG
 have g1 : -(2^62)<=m/\m<2^62:=by omega
 simp_arith only[af,ac]
 refine dq (fun i=>aA ((FJ m.toNat).map fun k:Nat=>if(i:Int)+k=m-1 then(1:Int)else 0)) ?_ (by omega) ?_
 · intro i hi
   simp_arith only[af,ac,DM]
   rw[di (fun k=>.int (if(i:Int)+k=m-1 then(1:Int)else 0)) ?_ (by omega),bnd_ret,cr]
   · try simp_arith only[af,ac,cC]
   · intro k hk
     simp_arith only[af,ac,DM]
     have e:(0+(i:Int)+(0+(k:Int))==m-1)=decide ((i:Int)+k=m-1):=by rw[Iy,beq_iff_eq,decide_eq_true_iff];omega
     rw[e]
     simp only[decide_eq_true_eq]
 · rw[cN]
   try simp_arith only[af,ac]
   exact az hQ
theorem iK(xs:List α)(f:α->Fd){k:Int}(h:0<=k):VL.cutD (xs.map f) none (some k)=(xs.take k.toNat).map f:=by
 unfold VL.cutD
 rw[HT.sIx_none,jl h,J6,Fq,J0,<- Jd]
 congr 1
 by_cases z:k.toNat<=xs.length
 · rw[Ja z]
 · rw[Jw (by omega),GO (by omega),GO (by omega)]
noncomputable def bK(ts:List (List (List Int))):Fd:=.tuple (ts.map C9)
noncomputable def dI(p:Int)(m:Nat)(ts:List (List (List Int))):Prop:=1<=ts.length/\ts.length<=4/\∀t∈ts,Ak p m m t
theorem gc(h:Pm p m):p^m.toNat<=40/\2<=p/\p<=7/\1<=m/\m<=5:=by
 obtain⟨hp,m1,ms⟩:=h
 rcases hp with rfl|rfl|rfl|rfl<;>simp[Dh]at ms
 · obtain rfl|rfl|rfl|rfl|rfl:m=1\/m=2\/m=3\/m=4\/m=5:=by omega
   all_goals decide
 · obtain rfl|rfl|rfl:m=1\/m=2\/m=3:=by omega
   all_goals decide
 · obtain rfl|rfl:m=1\/m=2:=by omega
   all_goals decide
 · obtain rfl:m=1:=by omega
   decide
theorem dX(ts:List (List (List Int)))(i:Int):VL.itemAt (bK ts) i=(atI ts i).map C9:=fT _ _ _
theorem dN(ts:List (List (List Int))):tupD (bK ts)=some (ts.map C9):=rfl
theorem dm(ts:List (List (List Int))):uy (bK ts)=some ts.length:=by show some (ts.map C9).length=_;rw[Fq]
theorem cX{a b:List (List (List Int))}:bK a=bK b↔a=b:=by
 unfold bK;rw[Iv];exact List.map_inj_right fun x y h=>gJ.mp h
theorem re{m:Nat}(p7:p<=7)(m8:m<=8)(h:dI p m ts):Sm 6 292 (bK ts):=(Sm.seq (dp:=4) (bk:=72) (n:=4) (fun d md=>by
 obtain⟨t,mt,rfl⟩:=Gf.mp md
 exact y_ ((h.2.2 t mt).t8 p7 m8 m8)) (by rw[Fq];exact h.2.1)).1
noncomputable def wT(k:Int):Nat->Int
 | 0=>1
 | n+1=>(wT k n*(k-n)).fdiv (n+1)
noncomputable def Ds(p j i k:Int):Int:=if k<i then 0 else(wT k i.toNat*j^(k-i).toNat).fmod p
noncomputable def jV(p m j:Int):List (List Int):=(FJ m.toNat).map fun i:Nat=>(FJ m.toNat).map fun k:Nat=>Ds p j i k
noncomputable def sumS(p m:Int)(s:Nat):List (List (List Int)):=(FJ s).map fun j:Nat=>jV p m j
noncomputable def Dk(p j:Int):Nat->Nat->Int
 | i,0=>if i=0 then 1 else 0
 | i,k+1=>((if 0<i then Dk p j (i-1) k else 0)+j*Dk p j i k).fmod p
theorem yH:∀k:Fin 5,∀i:Fin 5,0<=wT (k.val:Int) i.val/\wT (k.val:Int) i.val<=100:=by decide +kernel
theorem yG{i k:Int}(i0:0<=i)(i4:i<=4)(k0:0<=k)(k4:k<=4):0<=wT k i.toNat/\wT k i.toNat<=100:=by
 have h:=yH ⟨k.toNat,by omega⟩ ⟨i.toNat,by omega⟩
 have ek:((k.toNat:Nat):Int)=k:=by omega
 simp only[ek]at h
 exact h
theorem nA(l:List α)(f:α->List (List Int)):l.map (fun z=>C9 (f z))=(l.map f).map C9:=by rw[Gu];rfl
theorem zt:∀p∈[(2:Int),3,5,7],∀j:Fin 4,∀i:Fin 5,∀k:Fin 5,Dk p (j.val:Int) i.val k.val=Ds p (j.val:Int) (i.val:Int) (k.val:Int):=by decide +kernel
noncomputable def Dj(p j:Int)(n i:Nat):List Int:=(FJ n).map (Dk p j i)
noncomputable def Di(p m j:Int):List (List Int):=(FJ m.toNat).map (Dj p j m.toNat)
theorem mF(p j:Int)(n i:Nat):(Dj p j n i).length=n:=by unfold Dj;rw[Fq,GZ]
theorem rm{j:Int}{k:Nat}(h:k<n):(Dj p j n i)[k]?=some (Dk p j i k):=by unfold Dj;rw[Gg,IN h];rfl
theorem o7(p j:Int)(n i:Nat):Dj p j (n+1) i=Dj p j n i++[Dk p j i n]:=by unfold Dj;rw[JM,HP];rfl
theorem wJ{j:Int}(hp:p=2\/p=3\/p=5\/p=7)(m5:m<=5)(j0:0<=j)(j3:j<=3):Di p m j=jV p m j:=by
 unfold Di jV Dj
 refine Hr fun i hi=>Hr fun k hk=>?_
 rw[GR]at hi hk
 have h:=zt p (by simp;exact hp) ⟨j.toNat,by omega⟩ ⟨i,by omega⟩ ⟨k,by omega⟩
 have ej:((j.toNat:Nat):Int)=j:=by omega
 simp only[ej]at h
 exact h
noncomputable def df:List W->(Fd->Prop)->Prop:=fun ws Q=>∃(b k:Int),ws=[.d (.int b),.d (.int k)]/\((0<=b)/\(b<=7)/\(0<=k)/\(k<=40))/\Q (.int (b^k.toNat))
theorem df.mono:∀ws (Q Q':Fd->Prop),(∀d,Q d->Q' d)->df ws Q->df ws Q':=fun _ _ _ h_=>Fu fun _=>Fu fun _=>Fo (Fo (h_ _))
theorem df.len:∀ws (Q:Fd->Prop),df ws Q->ws.length=2:=fun _ _ h_=>by obtain⟨_,_,e_,_⟩:=h_;subst e_;rfl
theorem df.eq(b k:Int)(h0b:0<=b)(h7:b<=7)(h0:0<=k)(hk:k<=40):df [.d (.int b),.d (.int k)]=VL.ret (.int (b^k.toNat):Fd):=by
 refine ae fun Q=>⟨?_,fun q_=>⟨b,k,rfl,⟨h0b,h7,h0,hk⟩,q_⟩⟩
 rintro⟨b',k',e_,_,q_⟩
 simp_arith only[and_true]at e_
 obtain⟨rfl,rfl⟩:=e_
 exact q_
theorem o9:FnScope ["base", "exponent", "product", "step"] ["base", "exponent"] (defScope (C5 10)):=⟨rfl,rfl,rfl,by decide +kernel,rfl,by decide +kernel,by decide +kernel⟩
theorem d_power(Fn:FnIn K mg "power" (C5 10) ["base", "exponent"])(Z:Bz mg)    : Dfn P w K mg base rl "power" ["base", "exponent"] 1 df:=by
 have sc:=o9
 refine Dfn.of Fn sc (df.mono) (df.len) (fun cdv A outer s H E hr=>(aj (aD 2 sc.nd ah)
  (aj (bD [3] GB rfl (aS Z.range_ (aa (vn 1) ab)) (aq 3 sc.nd) (ai (vG 2 sc.nd uE (vn 0))))
  (ai (av (vn 2)))))) ?_
 rintro ws Q ⟨b,k,rfl,⟨h0b,h7,h0,hk⟩,hQ⟩
 refine ay ?_
 simp_arith only[af,ac]
 refine kE (fun i=>[some (.d (.int b)),some (.d (.int k)),some (.d (.int (b^i))),none]) (by rw[Int.pow_zero]) ?_ ?_
 · intro i hi
   have c:cA (b^i) b:=.rt (by omega)
   refine⟨_,by(simp_arith only[af,ac])<;>rfl,?_⟩
   simp_arith only[ac,Int.pow_succ]
 · simp_arith only[ac]
   exact az hQ
noncomputable def aW:List W->(Fd->Prop)->Prop:=fun ws Q=>∃(i k:Int),ws=[.d (.int i),.d (.int k)]/\((0<=i)/\(i<=4)/\(0<=k)/\(k<=4))/\Q (.int (wT k i.toNat))
theorem aW.mono:∀ws (Q Q':Fd->Prop),(∀d,Q d->Q' d)->aW ws Q->aW ws Q':=fun _ _ _ h_=>Fu fun _=>Fu fun _=>Fo (Fo (h_ _))
theorem aW.len:∀ws (Q:Fd->Prop),aW ws Q->ws.length=2:=fun _ _ h_=>by obtain⟨_,_,e_,_⟩:=h_;subst e_;rfl
theorem aW.eq(i k:Int)(i0:0<=i)(i4:i<=4)(k0:0<=k)(k4:k<=4):aW [.d (.int i),.d (.int k)]=VL.ret (.int (wT k i.toNat):Fd):=by
 refine ae fun Q=>⟨?_,fun q_=>⟨i,k,rfl,⟨i0,i4,k0,k4⟩,q_⟩⟩
 rintro⟨i',k',e_,_,q_⟩
 simp_arith only[and_true]at e_
 obtain⟨rfl,rfl⟩:=e_
 exact q_
theorem fy:FnScope ["i", "k", "ways", "taken"] ["i", "k"] (defScope (C5 1)):=⟨rfl,rfl,rfl,by decide +kernel,rfl,by decide +kernel,by decide +kernel⟩
theorem d_ways_to_take(Fn:FnIn K mg "ways_to_take" (C5 1) ["i", "k"])(Z:Bz mg)    : Dfn P w K mg base rl "ways_to_take" ["i", "k"] 1 aW:=by
 have sc:=fy
 refine Dfn.of Fn sc (aW.mono) (aW.len) (fun cdv A outer s H E hr=>(aj (aD 2 sc.nd ah)
  (aj (bD [3] GB rfl (aS Z.range_ (aa (vn 0) ab)) (aq 3 sc.nd) (ai (aD 2 sc.nd (v_div (v_mul (vn 2) (v_sub (vn 1) (vn 3))) (v_add (vn 3) ah)))))
  (ai (av (vn 2)))))) ?_
 rintro ws Q ⟨i,k,rfl,⟨i0,i4,k0,k4⟩,hQ⟩
 refine ay ?_
 simp_arith only[af,ac]
 refine kE (fun n=>[some (.d (.int i)),some (.d (.int k)),some (.d (.int (wT k n))),none]) rfl ?_ ?_
 · intro n hn
   have c:cA (wT k n) (k-(0+(n:Int))):=.rt (by omega)
   have z:iV (wT k n*(k-(0+(n:Int)))) (0+(n:Int)+1):=iV.of (by omega) (by omega)
   refine⟨_,by(simp_arith only[af,ac])<;>rfl,?_⟩
   simp_arith only[ac,IQ]
   rfl
 · simp_arith only[ac]
   exact az hQ
noncomputable def bv:List W->(Fd->Prop)->Prop:=fun ws Q=>∃(p j i k:Int),ws=[.d (.int p),.d (.int j),.d (.int i),.d (.int k)]/\((2<=p)/\(0<=j)/\(j<=7)/\(0<=i)/\(i<=4)/\(0<=k)/\(k<=4))/\Q (.int (Ds p j i k))
theorem bv.mono:∀ws (Q Q':Fd->Prop),(∀d,Q d->Q' d)->bv ws Q->bv ws Q':=fun _ _ _ h_=>Fu fun _=>Fu fun _=>Fu fun _=>Fu fun _=>Fo (Fo (h_ _))
theorem bv.len:∀ws (Q:Fd->Prop),bv ws Q->ws.length=4:=fun _ _ h_=>by obtain⟨_,_,_,_,e_,_⟩:=h_;subst e_;rfl
theorem bv.eq(p j i k:Int)(p2:2<=p)(j0:0<=j)(j7:j<=7)(i0:0<=i)(i4:i<=4)(k0:0<=k)(k4:k<=4):bv [.d (.int p),.d (.int j),.d (.int i),.d (.int k)]=VL.ret (.int (Ds p j i k):Fd):=by
 refine ae fun Q=>⟨?_,fun q_=>⟨p,j,i,k,rfl,⟨p2,j0,j7,i0,i4,k0,k4⟩,q_⟩⟩
 rintro⟨p',j',i',k',e_,_,q_⟩
 simp_arith only[and_true]at e_
 obtain⟨rfl,rfl,rfl,rfl⟩:=e_
 exact q_
theorem gO:FnScope ["p", "j", "i", "k"] ["p", "j", "i", "k"] (defScope (C5 41)):=⟨rfl,rfl,rfl,by decide +kernel,rfl,by decide +kernel,by decide +kernel⟩
theorem d_sum_figure(Fn:FnIn K mg "sum_figure" (C5 41) ["p", "j", "i", "k"])(Z:Bz mg)(d_ways_to_take:∀rl,Dfn P w K mg base rl "ways_to_take" ["i", "k"] 1 aW)(d_power:∀rl,Dfn P w K mg base rl "power" ["base", "exponent"] 1 df)   : Dfn P w K mg base rl "sum_figure" ["p", "j", "i", "k"] 2 bv:=by
 have sc:=gO
 refine Dfn.of Fn sc (bv.mono) (bv.len) (fun cdv A outer s H E hr=>(aj (bL (aO nq lO (aH _) (vn 2) (vn 3)) (ai (av ah)) a_)
  (ai (av (v_mod (v_mul (aw (d_ways_to_take _) (hr.mono (by decide)) (aa (vn 2) (aa (vn 3) ab))) (aw (d_power _) (hr.mono (by decide)) (aa (vn 1) (aa (v_sub (vn 3) (vn 2)) ab)))) (vn 0)))))) ?_
 rintro ws Q ⟨p,j,i,k,rfl,⟨p2,j0,j7,i0,i4,k0,k4⟩,hQ⟩
 refine ay ?_
 have p0:p≠0:=by omega
 by_cases c:k<i
 · have d:decide (k<i)=true:=by simp[c]
   have e:Ds p j i k=0:=by unfold Ds;rw[if_pos c]
   rw[e]at hQ
   simp_arith only[af,ac,d]
   exact az hQ
 · have d:decide (k<i)=false:=by simp[c]
   have e:Ds p j i k=(wT k i.toNat*j^(k-i).toNat).fmod p:=by unfold Ds;rw[if_neg c]
   have s0:0<=k-i:=by omega
   have s40:k-i<=40:=by omega
   have wb:0<=wT k i.toNat/\wT k i.toNat<=100:=yG i0 i4 k0 k4
   have cm:cA (wT k i.toNat) (j^(k-i).toNat):=.lt (by omega)
   simp_arith only[af,ac,d,aW.eq,df.eq]
   rw[e]at hQ
   exact az hQ
noncomputable def bd:List W->(Fd->Prop)->Prop:=fun ws Q=>∃(p m s:Int),ws=[.d (.int p),.d (.int m),.d (.int s)]/\((2<=p)/\(1<=m)/\(m<=5)/\(0<=s)/\(s<=4))/\Q (bK (sumS p m s.toNat))
theorem bd.mono:∀ws (Q Q':Fd->Prop),(∀d,Q d->Q' d)->bd ws Q->bd ws Q':=fun _ _ _ h_=>Fu fun _=>Fu fun _=>Fu fun _=>Fo (Fo (h_ _))
theorem bd.len:∀ws (Q:Fd->Prop),bd ws Q->ws.length=3:=fun _ _ h_=>by obtain⟨_,_,_,e_,_⟩:=h_;subst e_;rfl
theorem bd.eq(p m s:Int)(p2:2<=p)(m1:1<=m)(m5:m<=5)(s0:0<=s)(s4:s<=4):bd [.d (.int p),.d (.int m),.d (.int s)]=VL.ret (bK (sumS p m s.toNat):Fd):=by
 refine ae fun Q=>⟨?_,fun q_=>⟨p,m,s,rfl,⟨p2,m1,m5,s0,s4⟩,q_⟩⟩
 rintro⟨p',m',s',e_,_,q_⟩
 simp_arith only[and_true]at e_
 obtain⟨rfl,rfl,rfl⟩:=e_
 exact q_
theorem gN:FnScope ["p", "m", "s"] ["p", "m", "s"] (defScope (C5 42)):=⟨rfl,rfl,rfl,by decide +kernel,rfl,by decide +kernel,by decide +kernel⟩
theorem d_sum_tables(Fn:FnIn K mg "sum_tables" (C5 42) ["p", "m", "s"])(Z:Bz mg)(d_sum_figure:∀rl,Dfn P w K mg base rl "sum_figure" ["p", "j", "i", "k"] 2 bv)   : Dfn P w K mg base rl "sum_tables" ["p", "m", "s"] 3 bd:=by
 have sc:=gN
 refine Dfn.of Fn sc (bd.mono) (bd.len) (fun cdv A outer s H E hr=>(ai (av (ba Z.tuple_ (aa (aF ["j", "m", "p"] [none,some 1,some 0] rfl (aS Z.range_ (aa (vn 2) ab)) (fun _=>(aq 0 (show Gp (["j", "m", "p"]:List Str) by decide +kernel))) (fun _=>aU) (fun _=>(ba Z.tuple_ (aa (aF ["i", "m", "p", "j"] [none,some 1,some 2,some 0] rfl (aS Z.range_ (aa (vn 1) ab)) (fun _=>(aq 0 (show Gp (["i", "m", "p", "j"]:List Str) by decide +kernel))) (fun _=>aU) (fun _=>(ba Z.tuple_ (aa (aF ["k", "p", "j", "i"] [none,some 2,some 3,some 0] rfl (aS Z.range_ (aa (vn 1) ab)) (fun _=>(aq 0 (show Gp (["k", "p", "j", "i"]:List Str) by decide +kernel))) (fun _=>aU) (fun _=>(aw (d_sum_figure _) (hr.mono (by decide)) (aa (vn 1) (aa (vn 2) (aa (vn 3) (aa (vn 0) ab))))))) ab)))) ab)))) ab))))) ?_
 rintro ws Q ⟨p,m,s,rfl,⟨p2,m1,m5,s0,s4⟩,hQ⟩
 refine ay ?_
 have sz:=FG
 have g1 : -(2^62)<=m/\m<2^62:=by omega
 have g2 : -(2^62)<=s/\s<2^62:=by omega
 simp_arith only[af,ac]
 refine dq (fun j=>C9 (jV p m (j:Int))) ?_ (by omega) ?_
 · intro j hj
   simp_arith only[af,ac,DM]
   rw[di (fun i=>aA ((FJ m.toNat).map fun k:Nat=>Ds p (j:Int) (i:Int) k)) ?_ (by omega),bnd_ret,cN]
   · try simp_arith only[af,ac,cC]
     try rfl
   · intro i hi
     simp_arith only[af,ac,DM]
     rw[di (fun k=>.int (Ds p (j:Int) (i:Int) (k:Int))) ?_ (by omega),bnd_ret,cr]
     · try simp_arith only[af,ac,cC]
     · intro k hk
       have j0:0<=0+(j:Int):=by omega
       have j7:0+(j:Int)<=7:=by omega
       have i0:0<=0+(i:Int):=by omega
       have i4:0+(i:Int)<=4:=by omega
       have k0:0<=0+(k:Int):=by omega
       have k4:0+(k:Int)<=4:=by omega
       simp_arith only[af,ac,DM,bv.eq]
       simp only[IQ]
 · rw[nA]
   try simp_arith only[af,ac]
   exact az hQ
noncomputable def aN:List W->(Fd->Prop)->Prop:=fun ws Q=>∃(p m j:Int),ws=[.d (.int p),.d (.int m),.d (.int j)]/\((2<=p)/\(p<=7)/\(1<=m)/\(m<=5)/\(0<=j)/\(j<=7))/\Q (C9 (Di p m j))
theorem aN.mono:∀ws (Q Q':Fd->Prop),(∀d,Q d->Q' d)->aN ws Q->aN ws Q':=fun _ _ _ h_=>Fu fun _=>Fu fun _=>Fu fun _=>Fo (Fo (h_ _))
theorem aN.len:∀ws (Q:Fd->Prop),aN ws Q->ws.length=3:=fun _ _ h_=>by obtain⟨_,_,_,e_,_⟩:=h_;subst e_;rfl
theorem aN.eq(p m j:Int)(p2:2<=p)(p7:p<=7)(m1:1<=m)(m5:m<=5)(j0:0<=j)(j7:j<=7):aN [.d (.int p),.d (.int m),.d (.int j)]=VL.ret (C9 (Di p m j):Fd):=by
 refine ae fun Q=>⟨?_,fun q_=>⟨p,m,j,rfl,⟨p2,p7,m1,m5,j0,j7⟩,q_⟩⟩
 rintro⟨p',m',j',e_,_,q_⟩
 simp_arith only[gJ]at e_
 obtain⟨rfl,rfl,rfl⟩:=e_
 exact q_
theorem eE:FnScope ["_law_p", "_law_m", "_law_j", "_law_found", "_law_i", "_law_row", "_law_k", "_law_above"] ["_law_p", "_law_m", "_law_j"] (defScope (C5 55)):=⟨rfl,rfl,rfl,by decide +kernel,rfl,by decide +kernel,by decide +kernel⟩
theorem d__law_sum_table(Fn:FnIn K mg "_law_sum_table" (C5 55) ["_law_p", "_law_m", "_law_j"])(Z:Bz mg)    : Dfn P w K mg base rl "_law_sum_table" ["_law_p", "_law_m", "_law_j"] 1 aN:=by
 have sc:=eE
 refine Dfn.of Fn sc (aN.mono) (aN.len) (fun cdv A outer s H E hr=>(aj (jK 3 sc.nd (lW ab))
  (aj (bD [4,5,6,7] GB rfl (aS Z.range_ (aa (vn 1) ab)) (aq 4 sc.nd) (aj (jK 5 sc.nd (lW (aa (qQ Z.int_ (aa (kQ (eQ hr.units) ce (aH _) (vn 4) ah) ab)) ab)))
  (aj (bD [6,7] GB rfl (fq Z.range_ (aa ah (aa (vn 1) ab))) (aq 6 sc.nd) (aj (aD 7 sc.nd (i7 (aO nq lO (aH _) (vn 4) ah) (eX (eX (vn 3) (v_sub (vn 4) ah)) (v_sub (vn 6) ah)) ah))
  (ai (lL 5 (aa (v_mod (v_add (vn 7) (v_mul (vn 2) (eX (vn 5) (v_sub (vn 6) ah)))) (vn 0)) ab)))))
  (ai (qL 5 (lL 3 (aa (vn 5) ab)))))))
  (ai (qL 3 (av (ba Z.tuple_ (aa (aF ["_law_row"] [none] rfl (i3 (vn 3)) (fun _=>(aq 0 (show Gp (["_law_row"]:List Str) by decide +kernel))) (fun _=>aU) (fun _=>(ba Z.tuple_ (aa (vn 0) ab)))) ab)))))))) ?_
 rintro ws Q ⟨p,m,j,rfl,⟨p2,p7,m1,m5,j0,j7⟩,hQ⟩
 refine ay ?_
 have sz:=FG
 have g1 : -(2^62)<=m/\m<2^62:=by omega
 simp_arith only[af,ac]
 refine jz (fun i ρ=>ρ=[some (.d (.int p)),some (.d (.int m)),some (.d (.int j)),some (.ml (((FJ i).map (Dj p j m.toNat)).map lm)),none,none,none,none]) rfl ?_ ?_
 · rintro i hi ρ rfl K hK
   simp_arith only[af,ac]
   have p0:p≠0:=by omega
   have x0:(if(0+(i:Int)==0)=true then(1:Int)else 0)=Dk p j i 0:=by
    rw[IQ]
    cases i with
    | zero=>simp[Dk]
    | succ i=>rw[if_neg (by simp;omega)];simp[Dk]
   rw[x0]
   refine jz (fun n ρ=>ρ=[some (.d (.int p)),some (.d (.int m)),some (.d (.int j)),some (.ml (((FJ i).map (Dj p j m.toNat)).map lm)),some (.d (.int (0+(i:Int)))),some (.ml ((Dj p j (n+1) i).map .int)),none,none]) rfl ?_ ?_
   · rintro n hn ρ rfl K2 hK2
     have cm:∀x,cA j x:=fun x=>.lt (by omega)
     have hl:(Dj p j (n+1) i).length=n+1:=mF ..
     have a2:atI ((Dj p j (n+1) i).map FW) (1+(n:Int)-1)=some (.int (Dk p j i n)):=by
      rw[show 1+(n:Int)-1=(n:Int) by omega];exact bQ (by rw[Gg,rm (by omega)];rfl)
     have rl:((Dj p j (n+1) i).map FW).length<sizeLine:=by rw[Fq,hl];omega
     have fin:∀u z:Int,z=Dk p j i (n+1)->K2 (Fl.nx [some (.d (.int p)),some (.d (.int m)),some (.d (.int j)),some (.ml (((FJ i).map (Dj p j m.toNat)).map lm)),some (.d (.int (0+(i:Int)))),some (.ml ((Dj p j (n+1) i).map FW++[FW z])),some (.d (.int (1+(n:Int)))),some (.d (.int u))]):=fun u z hz =>
      hK2 _ (dg (by rw[hz,o7 p j (n+1) i];simp[fo,HP]))
     by_cases i0:i=0
     · have d0:decide ((0:Int)<0+(i:Int))=false:=by simp;omega
       simp_arith only[af,ac,d0,a2]
       exact cu (cm _) (fin _ _ (by subst i0;simp[Dk]))
     · have d0:decide ((0:Int)<0+(i:Int))=true:=by simp;omega
       have a1:atI (((FJ i).map (Dj p j m.toNat)).map lm) (0+(i:Int)-1)=some (lm (Dj p j m.toNat (i-1))):=by
        rw[show 0+(i:Int)-1=((i-1:Nat):Int) by omega];exact bQ (by rw[Gg,Gg,IN (by omega)];rfl)
       have a3:VL.itemAt (lm (Dj p j m.toNat (i-1))) (1+(n:Int)-1)=some (.int (Dk p j (i-1) n)):=by
        rw[uC,show 1+(n:Int)-1=(n:Int) by omega,bQ (rm (by omega))];rfl
       simp_arith only[af,ac,d0,a1,a2,a3]
       exact cu (cm _) (fin _ _ (by simp[Dk,Nat.pos_of_ne_zero i0]))
   · rintro ρ rfl
     have tz:(FJ i).length<sizeLine:=by rw[GZ];omega
     have em:(m-1).toNat+1=m.toNat:=by omega
     rw[em]
     simp_arith only[af,ac]
     refine hK _ (dg ?_)
     rw[JM]
     simp[fo,HP,lm]
 · rintro ρ rfl
   simp_arith only[af,ac]
   refine cb (xs:=(FJ m.toNat).map (Dj p j m.toNat)) (enc:=lm) aA rfl ?_ (by simp;omega) ?_
   · intro row mr
     have:row.length<=5:=by
      obtain⟨i,_,rfl⟩:=Gf.mp mr
      rw[mF];omega
     simp_arith only[af,ac,DM,tF,cC]
   · try simp_arith only[af,ac]
     exact az hQ
theorem kF{a:Int}(hp:p=2\/p=3\/p=5\/p=7)(a1:1<=a)(ap:a<p):∃u v:Int,u*a+v*p=1:=by
 rcases hp with rfl|rfl|rfl|rfl
 · obtain rfl:a=1:=by omega
   exact⟨1,0,by decide⟩
 · rcases(show a=1\/a=2 by omega)with rfl|rfl
   · exact⟨1,0,by decide⟩
   · exact⟨2,-1,by decide⟩
 · rcases(show a=1\/a=2\/a=3\/a=4 by omega)with rfl|rfl|rfl|rfl
   · exact⟨1,0,by decide⟩
   · exact⟨3,-1,by decide⟩
   · exact⟨2,-1,by decide⟩
   · exact⟨4,-3,by decide⟩
 · rcases(show a=1\/a=2\/a=3\/a=4\/a=5\/a=6 by omega)with rfl|rfl|rfl|rfl|rfl|rfl
   · exact⟨1,0,by decide⟩
   · exact⟨4,-1,by decide⟩
   · exact⟨5,-2,by decide⟩
   · exact⟨2,-1,by decide⟩
   · exact⟨3,-2,by decide⟩
   · exact⟨6,-5,by decide⟩
noncomputable def optN:Option Nat->Fd
 | none=>.none
 | some v=>.int (v:Int)
noncomputable def optT:Option (List Int)->Fd
 | none=>.none
 | some v=>aA v
noncomputable def optTb:Option (List (List Int))->Fd
 | none=>.none
 | some v=>C9 v
theorem uS(xs:List Int):uT [.d (aA xs)]=some (xs.zipIdx.map fun z=>FY [.int (z.2:Nat),.int z.1]):=by
 show some (cD (xs.map FW))=_
 rw[dh]
theorem uR(t:List (List Int)):uT [.d (C9 t)]=some (t.zipIdx.map fun z=>FY [.int (z.2:Nat),aA z.1]):=by
 show some (cD (t.map aA))=_
 rw[dh]
noncomputable def e9(ks:GA.Kp):List (EL×Fd):=ks.map fun z=>(Gw (z.1:Int),aA z.2)
theorem jP{ks:GA.Kp}(nd:(ks.map (·.1)).Nodup){z:Nat×List Int}(hz:z∈ks):lA (e9 ks) (Gw (z.1:Int))=some (aA z.2):=by
 unfold lA e9
 induction ks with
 | nil=>cases hz
 | cons y ks ih =>
   rw[FV,Hy]at nd
   rw[FV,GL]
   by_cases e:y.1=z.1
   · have:y=z:=by
       rcases GT.mp hz with h|h
       · exact h.symm
       · exact absurd (by rw[e];exact HQ h) nd.1
     subst this
     simp
   · have:decide ((Gw (y.1:Int):EL)=Gw (z.1:Int))=false:=decide_eq_false fun h=>e (by have:=Ke h;omega)
     rw[this]
     rcases GT.mp hz with h|h
     · exact absurd (by rw[h]) e
     · exact ih nd.2 h
theorem jY{kvs:List (EL×Fd)}{k:EL}{x:Fd}(h:∀kv∈kvs,kv.1≠k):VL.putF kvs k x=kvs++[(k,x)]:=by
 unfold VL.putF
 have:(kvs.any fun kv=>decide (kv.1=k))=false:=by
  rw[List.any_eq_false]
  intro kv hk
  simp[h kv hk]
 rw[this,if_neg (by decide)]
theorem kD:∀(ks:GA.Kp)(acc:List (EL×Fd)),(ks.map (·.1)).Nodup->(∀z∈ks,∀kv∈acc,kv.1≠(Gw (z.1:Int):EL))->(e9 ks).foldl (fun a p=>VL.putF a p.1 p.2) acc=acc++e9 ks
 | [],acc,_,_=>by simp[e9]
 | z::ks,acc,nd,h=>by
   rw[FV,Hy]at nd
   show(e9 ks).foldl _ (VL.putF acc _ _)=_
   rw[jY (h z FB),kD ks _ nd.2 fun y hy kv hk=>?_]
   · simp[e9]
   · rcases IR.mp hk with hk|hk
     · exact h y (Fv _ hy) kv hk
     · rw[J1.mp hk]
       intro e
       have:z.1=y.1:=by have:=Ke e;omega
       exact nd.1 (by rw[this];exact HQ hy)
theorem sf(h:GA.Fg p n r):∀x∈r,0<=x/\x<p:=fun x mx=>by
 obtain⟨k,hk,rfl⟩:=Hs mx
 have:=h.2 k (by have:=h.1;omega)
 rwa [GA.gD hk]at this
theorem Am(hl:r.length=n)(h:∀x∈r,0<=x/\x<p):GA.Fg p n r:=⟨hl,fun k hk=>by rw[GA.gD (by omega)];exact h _ (Gm _)⟩
noncomputable def bx:List W->(Fd->Prop)->Prop:=fun ws Q=>∃(a m:Int),ws=[.d (.int a),.d (.int m)]/\((1<=a)/\(a<m)/\(m<2^60)/\(∃u v:Int,u*a+v*m=1))/\∀o:Int,(GA.Cg m (o*a) 1)->Q (.int o)
theorem bx.mono:∀ws (Q Q':Fd->Prop),(∀d,Q d->Q' d)->bx ws Q->bx ws Q':=fun _ _ _ h_=>Fu fun _=>Fu fun _=>Fo (Fo fun q_ o_ ho_=>h_ _ (q_ o_ ho_))
theorem bx.len:∀ws (Q:Fd->Prop),bx ws Q->ws.length=2:=fun _ _ h_=>by obtain⟨_,_,e_,_⟩:=h_;subst e_;rfl
theorem bx.eq(a m:Int)(a1:1<=a)(am:a<m)(m60:m<2^60)(cop:∃u v:Int,u*a+v*m=1):bx [.d (.int a),.d (.int m)]=D4 (anyM fun o:Int=>GA.Cg m (o*a) 1) fun o=>VL.ret (.int o:Fd):=by
 refine ae fun Q=>⟨?_,fun q_=>⟨a,m,rfl,⟨a1,am,m60,cop⟩,q_⟩⟩
 rintro⟨a',m',e_,_,q_⟩
 simp_arith only[and_true]at e_
 obtain⟨rfl,rfl⟩:=e_
 exact q_
theorem gQ:FnScope ["one", "modulus", "former", "here", "rest", "divisor", "quotient"] ["one", "modulus"] (defScope (C5 14)):=⟨rfl,rfl,rfl,by decide +kernel,rfl,by decide +kernel,by decide +kernel⟩
theorem d_inverse_of(Fn:FnIn K mg "inverse_of" (C5 14) ["one", "modulus"])(Z:Bz mg)    : Dfn P w K mg base rl "inverse_of" ["one", "modulus"] 1 bx:=by
 have sc:=gQ
 refine Dfn.of Fn sc (bx.mono) (bx.len) (fun cdv A outer s H E hr=>(aj (vH (gG (aa ah (aa ah ab))) (db (n:=2) rfl (aI (aq 2 sc.nd) (aI (aq 3 sc.nd) cj))))
  (aj (lI 4 5 rfl sc.nd (aa (vn 0) (aa (vn 1) ab)))
  (aj (lH [6] GB (aO nq lO (aH _) (vn 4) ah) (aj (aD 6 sc.nd (v_div (vn 5) (vn 4)))
  (aj (lI 2 3 rfl sc.nd (aa (vn 3) (aa (v_sub (vn 2) (v_mul (vn 6) (vn 3))) ab)))
  (ai (lI 5 4 rfl sc.nd (aa (vn 4) (aa (v_sub (vn 5) (v_mul (vn 6) (vn 4))) ab)))))))
  (ai (av (vn 3))))))) ?_
 rintro ws Q ⟨a,m,rfl,⟨a1,am,m60,cop⟩,hQ⟩
 refine ay ?_
 simp_arith only[af,ac]
 refine oN (σ:=Int×Int×Int×Int) (fun s=>[some (.d (.int a)),some (.d (.int m)),some (.d (.int s.1)),some (.d (.int s.2.1)),some (.d (.int s.2.2.1)),some (.d (.int s.2.2.2)),none]) (fun s=>decide (1<s.2.2.1)) (fun s=>(s.2.1,s.1-s.2.2.2.fdiv s.2.2.1*s.2.1,s.2.2.2-s.2.2.2.fdiv s.2.2.1*s.2.2.1,s.2.2.1)) (fun s=>s.2.2.1.toNat)
  (fun s=>1<=s.2.2.1/\s.2.2.1<s.2.2.2/\s.2.2.2<2^60/\(∃u v:Int,u*s.2.2.1+v*s.2.2.2=1)/\GA.Cg m (s.2.1*a) s.2.2.1/\GA.Cg m (s.1*a) s.2.2.2) (0,1,a,m) rfl ⟨a1,am,m60,cop,.of (by show 1*a=a;omega),⟨-1,by show 0*a=m+m * -1;omega⟩⟩ ?_ ?_ ?_
 · intro s _
   simp_arith only[ac]
 · rintro⟨f,h,r,d⟩ ⟨r1,rd,d60,⟨u,v,bz⟩,c1,c2⟩ c
   dsimp only at *
   have r2:1<r:=by simpa using c
   have q0:0<=d.fdiv r:=by rw[IH _ (by omega)];exact Int.ediv_nonneg (by omega) (by omega)
   have q1:d.fdiv r<=d:=by rw[IH _ (by omega)];exact Int.ediv_le_self _ (by omega)
   have em:d-d.fdiv r*r=d%r:=by rw[IH _ (by omega)];have:=Ju d r;grind
   have m0:=Int.emod_nonneg d (show r≠0 by omega)
   have m1:=Int.emod_lt_of_pos d (show 0<r by omega)
   have cd:iV d r:=iV.of (by omega) (by omega)
   have cm1:cA (d.fdiv r) h:=.lt (by omega)
   have cm2:cA (d.fdiv r) r:=.lt (by omega)
   have mp:1<=d%r:=by
    rcases Int.lt_or_eq_of_le m0 with z|z
    · omega
    · exfalso
      have h1:(u*r+v*d)%r=0:=by rw[Int.add_emod,Int.mul_emod_left,Int.mul_emod,<- z];simp
      rw[bz,Jq (by omega) (by omega)]at h1
      omega
   refine⟨⟨by rw[em];exact mp,by rw[em];exact m1,by omega,⟨v,u+v*d.fdiv r,by grind⟩,?_,c1⟩,by rw[em];omega,[some (.d (.int a)),some (.d (.int m)),some (.d (.int h)),some (.d (.int (f-d.fdiv r*h))),some (.d (.int (d-d.fdiv r*r))),some (.d (.int r)),some (.d (.int (d.fdiv r)))],?_,rfl⟩
   · exact GA.Cg.trans (.of (by grind)) (c2.sub ((GA.Cg.refl (d.fdiv r)).mul c1))
   · simp_arith only[af,ac]
 · rintro⟨f,h,r,d⟩ ⟨r1,rd,d60,⟨u,v,bz⟩,c1,c2⟩ c
   dsimp only at *
   have r2:¬1<r:=by simpa using c
   have:r=1:=by omega
   subst this
   simp_arith only[ac]
   exact az (hQ h c1)
noncomputable def aP:List W->(Fd->Prop)->Prop:=fun ws Q=>∃(n a:Int),ws=[.d (.int n),.d (.int a)]/\((0<=n)/\(n<=16)/\(0<=a))/\Q (aA (GA.uni n.toNat a.toNat))
theorem aP.mono:∀ws (Q Q':Fd->Prop),(∀d,Q d->Q' d)->aP ws Q->aP ws Q':=fun _ _ _ h_=>Fu fun _=>Fu fun _=>Fo (Fo (h_ _))
theorem aP.len:∀ws (Q:Fd->Prop),aP ws Q->ws.length=2:=fun _ _ h_=>by obtain⟨_,_,e_,_⟩:=h_;subst e_;rfl
theorem aP.eq(n a:Int)(n0:0<=n)(n16:n<=16)(a0:0<=a):aP [.d (.int n),.d (.int a)]=VL.ret (aA (GA.uni n.toNat a.toNat):Fd):=by
 refine ae fun Q=>⟨?_,fun q_=>⟨n,a,rfl,⟨n0,n16,a0⟩,q_⟩⟩
 rintro⟨n',a',e_,_,q_⟩
 simp_arith only[and_true]at e_
 obtain⟨rfl,rfl⟩:=e_
 exact q_
theorem fA:FnScope ["many", "place"] ["many", "place"] (defScope (C5 23)):=⟨rfl,rfl,rfl,by decide +kernel,rfl,by decide +kernel,by decide +kernel⟩
theorem d_unit_figures(Fn:FnIn K mg "unit_figures" (C5 23) ["many", "place"])(Z:Bz mg)    : Dfn P w K mg base rl "unit_figures" ["many", "place"] 1 aP:=by
 have sc:=fA
 refine Dfn.of Fn sc (aP.mono) (aP.len) (fun cdv A outer s H E hr=>(ai (av (ba Z.tuple_ (aa (aF ["k", "place"] [none,some 1] rfl (aS Z.range_ (aa (vn 0) ab)) (fun _=>(aq 0 (show Gp (["k", "place"]:List Str) by decide +kernel))) (fun _=>aU) (fun _=>(i7 (aO (eQ hr.units) ce (aH _) (vn 0) (vn 1)) ah ah))) ab))))) ?_
 rintro ws Q ⟨n,a,rfl,⟨n0,n16,a0⟩,hQ⟩
 refine ay ?_
 have sz:=FG
 have g1 : -(2^62)<=n/\n<2^62:=by omega
 simp_arith only[af,ac]
 refine dq (fun k=>.int (if k=a.toNat then 1 else 0)) ?_ (by omega) ?_
 · intro k hk
   have e:((0+(k:Int))==a)=decide (k=a.toNat):=by rw[Iy];simp;omega
   simp_arith only[af,ac,DM,e]
   by_cases h:k=a.toNat
   · simp[h];try rfl
   · simp[h];try rfl
 · rw[cr]
   simp_arith only[af,ac,cC]
   exact az hQ
noncomputable def aQ:List W->(Fd->Prop)->Prop:=fun ws Q=>∃(xs:List Int),ws=[.d (aA xs)]/\((xs.length<=16))/\∀o:Option Nat,(match o with|none=>∀k,k<xs.length->xs.getD k 0=0|some v=>v<xs.length/\xs.getD v 0≠0)->Q (optN o)
theorem aQ.mono:∀ws (Q Q':Fd->Prop),(∀d,Q d->Q' d)->aQ ws Q->aQ ws Q':=fun _ _ _ h_=>Fu fun _=>Fo (Fo fun q_ o_ ho_=>h_ _ (q_ o_ ho_))
theorem aQ.len:∀ws (Q:Fd->Prop),aQ ws Q->ws.length=1:=fun _ _ h_=>by obtain⟨_,e_,_⟩:=h_;subst e_;rfl
theorem aQ.eq(xs:List Int)(hl:xs.length<=16):aQ [.d (aA xs)]=D4 (anyM fun o:Option Nat=>match o with|none=>∀k,k<xs.length->xs.getD k 0=0|some v=>v<xs.length/\xs.getD v 0≠0) fun o=>VL.ret (optN o:Fd):=by
 refine ae fun Q=>⟨?_,fun q_=>⟨xs,rfl,hl,q_⟩⟩
 rintro⟨xs',e_,_,q_⟩
 simp_arith only[and_true]at e_
 obtain rfl:=e_
 exact q_
theorem fC:FnScope ["figures", "place", "figure"] ["figures"] (defScope (C5 25)):=⟨rfl,rfl,rfl,by decide +kernel,rfl,by decide +kernel,by decide +kernel⟩
theorem d_first_filled(Fn:FnIn K mg "first_filled" (C5 25) ["figures"])(Z:Bz mg)    : Dfn P w K mg base rl "first_filled" ["figures"] 1 aQ:=by
 have sc:=fC
 refine Dfn.of Fn sc (aQ.mono) (aQ.len) (fun cdv A outer s H E hr=>(aj (bD [1,2] GB rfl (cf Z.enumerate_ (aa (vn 0) ab)) (db (n:=2) rfl (aI (aq 1 sc.nd) (aI (aq 2 sc.nd) cj))) (ai (bL (aO (eP hr.units) ce (aH _) (vn 2) ah) (ai (av (vn 1))) a_)))
  (ai (av eN)))) ?_
 rintro ws Q ⟨xs,rfl,hl,hQ⟩
 refine ay ?_
 have sz:=FG
 simp_arith only[af,ac,ke,uS]
 refine uO (xs:=xs.zipIdx) (enc:=fun z=>FY [.int (z.2:Nat),.int z.1]) (fun z=>z.1 != 0) (fun z=>.d (.int (z.2:Nat))) rfl ?_ ?_ ?_
 · rintro⟨x,k⟩ mz
   refine⟨fun h=>?_,fun h=>?_⟩
   · have e:(x==0)=false:=by simpa using h
     simp_arith only[af,ac,e]
   · have e:(x==0)=true:=by simpa using h
     refine⟨[some (.d (aA xs)),some (.d (.int (k:Nat))),some (.d (.int x))],?_,rfl⟩
     simp_arith only[af,ac,e]
 · rintro⟨x,k⟩ mz h
   have hk:=List.mem_zipIdx mz
   refine az (hQ (some k) ⟨by omega,?_⟩)
   rw[GA.gD (by omega)]
   have:x=xs[k]:=by have:=hk.2.2;simpa using this
   rw[<- this]
   simpa using h
 · intro h
   simp_arith only[ac]
   refine az (hQ none fun k hk=>?_)
   have:=h (xs[k],k) (by rw[Ix];simp[hk])
   rw[GA.gD hk]
   simpa using this
noncomputable def cL:List W->(Fd->Prop)->Prop:=fun ws Q=>∃(p:Int)(xs:List Int)(k:Int),ws=[.d (.int p),.d (aA xs),.d (.int k)]/\((2<=p)/\(xs.length<=16)/\(∀x∈xs,0<=x/\x<10))/\Q (aA (GA.scl p xs k))
theorem cL.mono:∀ws (Q Q':Fd->Prop),(∀d,Q d->Q' d)->cL ws Q->cL ws Q':=fun _ _ _ h_=>Fu fun _=>Fu fun _=>Fu fun _=>Fo (Fo (h_ _))
theorem cL.len:∀ws (Q:Fd->Prop),cL ws Q->ws.length=3:=fun _ _ h_=>by obtain⟨_,_,_,e_,_⟩:=h_;subst e_;rfl
theorem cL.eq(p:Int)(xs:List Int)(k:Int)(p2:2<=p)(hl:xs.length<=16)(hx:∀x∈xs,0<=x/\x<10):cL [.d (.int p),.d (aA xs),.d (.int k)]=VL.ret (aA (GA.scl p xs k):Fd):=by
 refine ae fun Q=>⟨?_,fun q_=>⟨p,xs,k,rfl,⟨p2,hl,hx⟩,q_⟩⟩
 rintro⟨p',xs',k',e_,_,q_⟩
 simp_arith only[and_true]at e_
 obtain⟨rfl,rfl,rfl⟩:=e_
 exact q_
theorem mJ:FnScope ["p", "row", "often"] ["p", "row", "often"] (defScope (C5 26)):=⟨rfl,rfl,rfl,by decide +kernel,rfl,by decide +kernel,by decide +kernel⟩
theorem d_scaled(Fn:FnIn K mg "scaled" (C5 26) ["p", "row", "often"])(Z:Bz mg)    : Dfn P w K mg base rl "scaled" ["p", "row", "often"] 1 cL:=by
 have sc:=mJ
 refine Dfn.of Fn sc (cL.mono) (cL.len) (fun cdv A outer s H E hr=>(ai (av (ba Z.tuple_ (aa (aF ["x", "often", "p"] [none,some 2,some 0] rfl (cV (vn 1)) (fun _=>(aq 0 (show Gp (["x", "often", "p"]:List Str) by decide +kernel))) (fun _=>aU) (fun _=>(v_mod (v_mul (vn 1) (vn 0)) (vn 2)))) ab))))) ?_
 rintro ws Q ⟨p,xs,k,rfl,⟨p2,hl,hx⟩,hQ⟩
 refine ay ?_
 have sz:=FG
 have p0:p≠0:=by omega
 simp_arith only[af,ac,ck]
 refine cb (xs:=xs) (enc:=FW) (fun x=>.int ((k*x).fmod p)) rfl ?_ (by omega) ?_
 · intro x mx
   have:=hx x mx
   have cm:cA k x:=.rt (by omega)
   simp_arith only[af,ac,DM]
 · rw[cr]
   simp_arith only[af,ac,cC]
   exact az hQ
noncomputable def cn:List W->(Fd->Prop)->Prop:=fun ws Q=>∃(p:Int)(xs ys:List Int)(c:Int),ws=[.d (.int p),.d (aA xs),.d (aA ys),.d (.int c)]/\((2<=p)/\(xs.length<=16)/\(ys.length<=16)/\(0<=c)/\(c<xs.length)/\(∀y∈ys,0<=y/\y<10))/\Q (aA (GA.clr p xs ys c.toNat))
theorem cn.mono:∀ws (Q Q':Fd->Prop),(∀d,Q d->Q' d)->cn ws Q->cn ws Q':=fun _ _ _ h_=>Fu fun _=>Fu fun _=>Fu fun _=>Fu fun _=>Fo (Fo (h_ _))
theorem cn.len:∀ws (Q:Fd->Prop),cn ws Q->ws.length=4:=fun _ _ h_=>by obtain⟨_,_,_,_,e_,_⟩:=h_;subst e_;rfl
theorem cn.eq(p:Int)(xs ys:List Int)(c:Int)(p2:2<=p)(xl:xs.length<=16)(yl:ys.length<=16)(c0:0<=c)(cl:c<xs.length)(hy:∀y∈ys,0<=y/\y<10):cn [.d (.int p),.d (aA xs),.d (aA ys),.d (.int c)]=VL.ret (aA (GA.clr p xs ys c.toNat):Fd):=by
 refine ae fun Q=>⟨?_,fun q_=>⟨p,xs,ys,c,rfl,⟨p2,xl,yl,c0,cl,hy⟩,q_⟩⟩
 rintro⟨p',xs',ys',c',e_,_,q_⟩
 simp_arith only[and_true]at e_
 obtain⟨rfl,rfl,rfl,rfl⟩:=e_
 exact q_
theorem lc:FnScope ["p", "row", "other", "column", "often"] ["p", "row", "other", "column"] (defScope (C5 27)):=⟨rfl,rfl,rfl,by decide +kernel,rfl,by decide +kernel,by decide +kernel⟩
theorem d_cleared(Fn:FnIn K mg "cleared" (C5 27) ["p", "row", "other", "column"])(Z:Bz mg)    : Dfn P w K mg base rl "cleared" ["p", "row", "other", "column"] 1 cn:=by
 have sc:=lc
 refine Dfn.of Fn sc (cn.mono) (cn.len) (fun cdv A outer s H E hr=>(aj (aD 4 sc.nd (eX (vn 1) (vn 3)))
  (ai (av (ba Z.tuple_ (aa (aF ["x", "y", "often", "p"] [none,none,some 4,some 0] rfl (gE Z.zip_ (aa (vn 1) (aa (vn 2) ab))) (fun _=>(db (n:=2) rfl (aI (aq 0 (show Gp (["x", "y", "often", "p"]:List Str) by decide +kernel)) (aI (aq 1 (show Gp (["x", "y", "often", "p"]:List Str) by decide +kernel)) cj)))) (fun _=>aU) (fun _=>(v_mod (v_sub (vn 0) (v_mul (vn 2) (vn 1))) (vn 3)))) ab)))))) ?_
 rintro ws Q ⟨p,xs,ys,c,rfl,⟨p2,xl,yl,c0,cl,hy⟩,hQ⟩
 refine ay ?_
 have sz:=FG
 have p0:p≠0:=by omega
 have e:VL.itemAt (aA xs) c=some (.int (xs.getD c.toNat 0)):=by rw[jy,rX c0 cl,GA.gD (by omega)];rfl
 simp_arith only[af,ac,e,mG]
 refine rF (by exact⟨rfl,rfl⟩) ?_
 rw[jI]
 refine cb (xs:=xs.zip ys) (enc:=fun z=>FY [.int z.1,.int z.2]) (fun z=>.int ((z.1-xs.getD c.toNat 0*z.2).fmod p)) rfl ?_ (by rw[JN];omega) ?_
 · rintro⟨x,y⟩ mz
   have:=hy y (HN mz).2
   have cm:cA (xs.getD c.toNat 0) y:=.rt (by omega)
   simp_arith only[af,ac,DM]
 · rw[cr]
   simp_arith only[af,ac,cC]
   exact az hQ
theorem rK:optN none = .none:=rfl
theorem rJ(v:Nat):optN (some v) = .int (v:Int):=rfl
theorem rH:optT none = .none:=rfl
theorem rG(v:List Int):optT (some v)=aA v:=rfl
theorem x_(xs ys:List Int):FY (xs.map FW++ys.map FW)=aA (xs++ys):=by unfold aA;rw[HP]
theorem Cb(xs:List α)(f:α->Fd)(k:Nat):VL.cutD (xs.map f) none (some (k:Int))=(xs.take k).map f:=by
 unfold VL.cutD
 rw[HT.sIx_none,HT.sIx_nat,J6,Fq,J0,<- Jd]
 congr 1
 by_cases z:k<=xs.length
 · rw[Ja z]
 · rw[Jw (by omega),GO (by omega),GO (by omega)]
theorem Bx(xs:List α)(f:α->Fd)(k:Nat):VL.cutD (xs.map f) (some (k:Int)) none=(xs.drop k).map f:=by
 unfold VL.cutD
 rw[HT.sIx_none,HT.sIx_nat,Fq,<- List.map_drop,<- Jd]
 congr 1
 by_cases z:k<=xs.length
 · rw[Ja z,GO (by rw[HX];omega)]
 · rw[Jw (by omega),Jh (by omega),Jh (by omega)];simp
noncomputable def rY(p:Int)(t:List (List Int)):Prop:=1<=t.length/\t.length<=8/\(t.getD 0 []).length<=8/\∀r∈t,GA.Fg p (t.getD 0 []).length r
noncomputable def Ah(p:Int)(t:List (List Int))(z:GA.Kp×Option (List Int)):Prop:=match z.2 with
 | none=>GA.GI p (t.getD 0 []).length t.length t t.length z.1
 | some h=>GA.Hg p (t.getD 0 []).length t h
noncomputable def bY:List W->(E3->Prop)->Prop:=fun ws Q=>∃(p:Int)(t:List (List Int)),ws=[.d (.int p),.d (C9 t)]/\((p=2\/p=3\/p=5\/p=7)/\(rY p t))/\∀z:GA.Kp×Option (List Int),(Ah p t z)->Q ((e9 z.1,optT z.2))
theorem bY.mono:∀ws (Q Q':E3->Prop),(∀d,Q d->Q' d)->bY ws Q->bY ws Q':=fun _ _ _ h_=>Fu fun _=>Fu fun _=>Fo (Fo fun q_ o_ ho_=>h_ _ (q_ o_ ho_))
theorem bY.len:∀ws (Q:E3->Prop),bY ws Q->ws.length=2:=fun _ _ h_=>by obtain⟨_,_,e_,_⟩:=h_;subst e_;rfl
theorem bY.eq(p:Int)(t:List (List Int))(hp:p=2\/p=3\/p=5\/p=7)(ht:rY p t):bY [.d (.int p),.d (C9 t)]=D4 (anyM fun z:GA.Kp×Option (List Int)=>Ah p t z) fun z=>VL.ret ((e9 z.1,optT z.2):E3):=by
 refine ae fun Q=>⟨?_,fun q_=>⟨p,t,rfl,⟨hp,ht⟩,q_⟩⟩
 rintro⟨p',t',e_,_,q_⟩
 simp_arith only[gJ]at e_
 obtain⟨rfl,rfl⟩:=e_
 exact q_
theorem la:FnScope ["p", "table", "columns", "kept", "number", "figures", "row", "column", "pivot"] ["p", "table"] (defScope (C5 28)):=⟨rfl,rfl,rfl,by decide +kernel,rfl,by decide +kernel,by decide +kernel⟩
theorem d_reduced(Fn:FnIn K mg "reduced" (C5 28) ["p", "table"])(Z:Bz mg)(d_first_filled:∀rl,Dfn P w K mg base rl "first_filled" ["figures"] 1 aQ)(d_scaled:∀rl,Dfn P w K mg base rl "scaled" ["p", "row", "often"] 1 cL)(d_unit_figures:∀rl,Dfn P w K mg base rl "unit_figures" ["many", "place"] 1 aP)(d_cleared:∀rl,Dfn P w K mg base rl "cleared" ["p", "row", "other", "column"] 1 cn)(d_inverse_of:∀rl,Dfn P w K mg base rl "inverse_of" ["one", "modulus"] 1 bx)   : DfnP P w K mg base rl "reduced" ["p", "table"] 2 bY:=by
 have sc:=la
 refine DfnP.of Fn sc (bY.mono) (bY.len) (fun cdv A outer s H E hr=>(aj (aD 2 sc.nd (cy Z.len_ (aa (eX (vn 1) ah) ab)))
  (aj (lJ 3 (jK 3 sc.nd oS))
  (aj (bD [4,5,6,7,8] GB rfl (cf Z.enumerate_ (aa (vn 1) ab)) (db (n:=2) rfl (aI (aq 4 sc.nd) (aI (aq 5 sc.nd) cj))) (aj (aD 6 sc.nd (jS (vn 5) (aw (d_unit_figures _) (hr.mono (by decide)) (aa (cy Z.len_ (aa (vn 1) ab)) (aa (vn 4) ab)))))
  (aj (bD [7] GB rfl (lQ (vn 3)) (aq 7 sc.nd) (ai (aD 6 sc.nd (aw (d_cleared _) (hr.mono (by decide)) (aa (vn 0) (aa (vn 6) (aa (i8 hr.un1 (vn 3) (vn 7)) (aa (vn 7) ab))))))))
  (aj (aD 8 sc.nd (aw (d_first_filled _) (hr.mono (by decide)) (aa (ie (vn 6) cH (cG (vn 2))) ab)))
  (aj (bL (aO rL qM (aH _) (vn 8) eN) (ai (av (qO (aa (vn 3) (aa (ie (vn 6) (cG (vn 2)) cH) ab))))) a_)
  (aj (aD 6 sc.nd (aw (d_scaled _) (hr.mono (by decide)) (aa (vn 0) (aa (vn 6) (aa (aw (d_inverse_of _) (hr.mono (by decide)) (aa (eX (vn 6) (vn 8)) (aa (vn 0) ab))) ab)))))
  (aj (hX 3 sc.nd ["column", "p", "kept", "row", "pivot"] [none,some 0,some 3,some 6,some 8] rfl (lQ (vn 3)) (fun _=>(aq 0 (show Gp (["column", "p", "kept", "row", "pivot"]:List Str) by decide +kernel))) (fun _=>aU) (fun _=>(vn 0)) (fun _=>(aw (d_cleared _) (hr.mono (by decide)) (aa (vn 1) (aa (i8 hr.un1 (vn 2) (vn 0)) (aa (vn 3) (aa (vn 4) ab)))))))
  (ai (lJ 3 (oP 3 hr.un1 (vn 8) (vn 6)))))))))))
  (ai (av (qO (aa (vn 3) (aa eN ab))))))))) ?_
 rintro ws Q ⟨p,t,rfl,⟨hp,ht⟩,hQ⟩
 refine pe ?_
 have sz:=FG
 have p2:2<=p:=by omega
 have p7:p<=7:=by omega
 obtain⟨t1,t8,c8,hf⟩:=ht
 generalize hC:(t.getD 0 []).length=C at *
 have e0:atI t 0=some (t.getD 0 []):=by rw[show(0:Int)=((0:Nat):Int)from rfl,bQ (Fp t1),Fi,Fp t1];rfl
 simp_arith only[af,ac,E_,Dq,jx,e0,g_,hC,ke,uR]
 refine gt (xs:=t.zipIdx) (enc:=fun z=>FY [.int (z.2:Nat),aA z.1]) (fun i ρ=>∃ks,ρ=[some (.d (.int p)),some (.d (C9 t)),some (.d (.int (C:Int))),some (.fw (e9 ks)),none,none,none,none,none]/\GA.GI p C t.length t i ks) rfl ⟨[],rfl,GA.GI.nil p C t.length t⟩ ?_ ?_
 · rintro i hi ρ ⟨ks,rfl,g⟩ K hK
   have it:i<t.length:=by rw[HB]at hi;exact hi
   have ez:t.zipIdx[i]=(t[i],i):=by simp
   rw[ez]
   have hti:=hf _ (Gm it)
   have eti:t.getD i []=t[i]:=by rw[Fi,Fp it];rfl
   have gl:t[i].length+(GA.uni t.length i).length<=sizeLine:=by rw[GA.uni_len,hti.1];omega
   simp_arith only[af,ac,E_,Dq,dE,aP.eq,ck,x_,Gy]
   have hk:(e9 ks).map (fun p=>oK p.1)=ks.map fun z=>FW (z.1:Int):=by unfold e9;rw[Gu];rfl
   refine uN (xs:=ks) (enc:=fun z=>FW (z.1:Int)) (fun r:List Int=>[some (.d (.int p)),some (.d (C9 t)),some (.d (.int (C:Int))),some (.fw (e9 ks)),some (.d (.int (i:Int))),some (.d (aA t[i])),some (.d (aA r)),none,none]) (fun r z=>GA.clr p r z.2 z.1) (t[i]++GA.uni t.length i) (fun r=>r.length=C+t.length) rfl hk (by rw[GK,GA.uni_len,hti.1]) ?_ ?_
   · intro z hz r hr
     have fz:=g.fg z hz
     have lz:=g.lt z hz
     have vz:=jP g.nd hz
     have q1:r.length<=16:=by omega
     have q2:z.2.length<=16:=by have:=fz.1;omega
     have q3:(z.1:Int)<(r.length:Int):=by omega
     have q4:∀y∈z.2,0<=y/\y<10:=fun y my=>by have:=sf fz y my;omega
     refine⟨GA.clr_len hr fz.1,[some (.d (.int p)),some (.d (C9 t)),some (.d (.int (C:Int))),some (.fw (e9 ks)),some (.d (.int (i:Int))),some (.d (aA t[i])),some (.d (aA (GA.clr p r z.2 z.1))),some (.d (.int (z.1:Int))),none],?_,rfl⟩
     simp_arith only[af,ac,E_,Dq,vz,cn.eq,Gy]
   have er:ks.foldl (fun r z=>GA.clr p r z.2 z.1) (t[i]++GA.uni t.length i)=GA.clrs p (GA.row0 t.length i (t.getD i [])) ks:=by rw[eti];rfl
   rw[er]
   obtain⟨a1,a2,a3,a4,a5,a6⟩:=g.row p2 hf it
   have gh:=g.hang p2 hf it
   have gs:=fun(v:Nat)(hv:v<C)(a:Int)=>g.step p2 hf it (v:=v) hv (a:=a)
   generalize GA.clrs p (GA.row0 t.length i (t.getD i [])) ks=w at *
   have wt:(w.take C).length<=16:=by rw[GQ];omega
   have tl:(w.take C).length=C:=by rw[GQ,a1.1];omega
   have tk:∀k,k<C->(w.take C).getD k 0=w.getD k 0:=fun k hk=>by rw[Fi,Fi,J_ hk]
   simp_arith only[af,ac,E_,Dq,aQ.eq,ck,Cb,cC]
   (with_reducible (first|refine aL fun o ho=>?_|refine bg fun o ho=>?_))
   cases o with
   | none =>
     simp_arith only[af,ac,E_,Dq,rK,ck,Bx,cC]
     refine hK _ (nB (mK (hQ (ks,some (w.drop C)) ?_)))
     show GA.Hg p (t.getD 0 []).length t _
     rw[hC]
     exact gh fun c hc=>by rw[<- tk c hc];exact ho c (by omega)
   | some v =>
     have hv:v<C:=by have:=ho.1;omega
     have hw:w.getD v 0≠0:=by have:=ho.2;rwa [tk v hv]at this
     have wv:=a1.2 v (by omega)
     have ev:VL.itemAt (aA w) (v:Int)=some (.int (w.getD v 0)):=by rw[jy,bQ (Fp (by have:=a1.1;omega)),GA.gD (by have:=a1.1;omega)];rfl
     have b1:1<=w.getD v 0:=by omega
     have b2:w.getD v 0<p:=wv.2
     have b3:p<2^60:=by omega
     have b4:=kF hp b1 b2
     have wl:w.length<=16:=by have:=a1.1;omega
     have wx:∀x∈w,0<=x/\x<10:=fun x mx=>by have:=sf a1 x mx;omega
     simp_arith only[af,ac,E_,Dq,rJ,ev,bx.eq]
     (with_reducible (first|refine aL fun a ha=>?_|refine bg fun a ha=>?_))
     obtain⟨ne,g2⟩:=gs v hv a ha
     have sl:(GA.scl p w a).length=C+t.length:=by rw[GA.scl_len,a1.1]
     have s16:(GA.scl p w a).length<=16:=by omega
     have sx:∀x∈GA.scl p w a,0<=x/\x<10:=fun x mx=>by
      obtain⟨y,_,rfl⟩:=Gf.mp mx
      have:=GA.fm_in (show 0<p by omega) (a*y);omega
     simp_arith only[af,ac,E_,Dq,cL.eq]
     refine Dm (uV (xs:=ks) (enc:=fun z=>FW (z.1:Int)) (fun z=>(Gw (z.1:Int),aA (GA.clr p z.2 (GA.scl p w a) v))) hk ?_ (by have:=g.len;omega) ?_)
     · intro z hz
       have fz:=g.fg z hz
       have vz:=jP g.nd hz
       have q2:z.2.length<=16:=by have:=fz.1;omega
       have q3:(v:Int)<(z.2.length:Int):=by have:=fz.1;omega
       simp_arith only[af,ac,E_,Dq,DN,vz,cn.eq,Gy]
     have ec:(ks.map fun z=>((Gw (z.1:Int):EL),aA (GA.clr p z.2 (GA.scl p w a) v)))=e9 (ks.map fun z=>(z.1,GA.clr p z.2 (GA.scl p w a) v)):=by unfold e9;rw[Gu];rfl
     have nd2:((ks.map fun z=>(z.1,GA.clr p z.2 (GA.scl p w a) v)).map (·.1)).Nodup:=by rw[Gu];exact g.nd
     rw[ec,kD _ [] nd2 (fun _ _ _ h=>nomatch h),KA]
     have el:(e9 (ks.map fun z=>(z.1,GA.clr p z.2 (GA.scl p w a) v))).length<sizeLine:=by unfold e9;rw[Fq,Fq,g.len];omega
     have ep:VL.putF (e9 (ks.map fun z=>(z.1,GA.clr p z.2 (GA.scl p w a) v))) (Gw (v:Int)) (aA (GA.scl p w a))=e9 (ks.map (fun z=>(z.1,GA.clr p z.2 (GA.scl p w a) v))++[(v,GA.scl p w a)]):=by
      rw[jY]
      · unfold e9;rw[HP];rfl
      · intro kv hk
        unfold e9 at hk
        obtain⟨y,my,rfl⟩:=Gf.mp hk
        obtain⟨z,mz,rfl⟩:=Gf.mp my
        intro e
        exact ne z mz (by have:=Ke e;omega)
     simp_arith only[af,ac,E_,Dq,ep]
     exact hK _ (dg ⟨_,rfl,g2⟩)
 · rintro ρ ⟨ks,rfl,g⟩
   rw[HB]at g
   simp_arith only[af,ac,E_,Dq]
   exact mK (hQ (ks,none) (by show GA.GI p (t.getD 0 []).length _ _ _ _;rw[hC];exact g))
theorem lU(ks:GA.Kp)(c:Nat):lA (e9 ks) (Gw (c:Int))=(ks.find? fun z=>decide (z.1=c)).map fun z=>aA z.2:=by
 unfold lA e9
 induction ks with
 | nil=>rfl
 | cons y ks ih =>
   rw[FV,GL,GL]
   have:decide ((Gw (y.1:Int):EL)=Gw (c:Int))=decide (y.1=c):=by
    by_cases e:y.1=c
    · rw[decide_eq_true e,decide_eq_true (by rw[e])]
    · rw[decide_eq_false e,decide_eq_false fun h=>e (by have:=Ke h;omega)]
   dsimp only
   rw[this]
   cases decide (y.1=c)with
   | true=>rfl
   | false=>exact ih
noncomputable def Al(p:Int)(t:List (List Int))(o:Option (List (List Int))):Prop:=match o with
 | none=>∃h,GA.Hg p (t.getD 0 []).length t h
 | some x=>GA.IsRi p (t.getD 0 []).length t x/\t.length<=(t.getD 0 []).length
noncomputable def Ap(p:Int)(t:List (List Int))(o:Option (List Int)):Prop:=match o with
 | none=>∃x,GA.IsRi p (t.getD 0 []).length t x
 | some h=>GA.Hg p (t.getD 0 []).length t h
theorem tL{t:List (List Int)}{z:GA.Kp×Option (List Int)}(p2:2<=p)(ht:rY p t)(h:Ah p t z):Ap p t z.2:=by
 obtain⟨ks,o⟩:=z
 cases o with
 | none=>exact⟨_,GA.GI.ri p2 ht.2.2.2 (show GA.GI p _ t.length t t.length ks from h)⟩
 | some x=>exact h
theorem wW(n:Nat):FY (FQ n (FW 0))=aA (FQ n 0):=by unfold aA;rw[List.map_replicate]
noncomputable def bj:List W->(Fd->Prop)->Prop:=fun ws Q=>∃(p:Int)(t:List (List Int)),ws=[.d (.int p),.d (C9 t)]/\((p=2\/p=3\/p=5\/p=7)/\(rY p t))/\∀o:Option (List Int),(Ap p t o)->Q (optT o)
theorem bj.mono:∀ws (Q Q':Fd->Prop),(∀d,Q d->Q' d)->bj ws Q->bj ws Q':=fun _ _ _ h_=>Fu fun _=>Fu fun _=>Fo (Fo fun q_ o_ ho_=>h_ _ (q_ o_ ho_))
theorem bj.len:∀ws (Q:Fd->Prop),bj ws Q->ws.length=2:=fun _ _ h_=>by obtain⟨_,_,e_,_⟩:=h_;subst e_;rfl
theorem bj.eq(p:Int)(t:List (List Int))(hp:p=2\/p=3\/p=5\/p=7)(ht:rY p t):bj [.d (.int p),.d (C9 t)]=D4 (anyM fun o:Option (List Int)=>Ap p t o) fun o=>VL.ret (optT o:Fd):=by
 refine ae fun Q=>⟨?_,fun q_=>⟨p,t,rfl,⟨hp,ht⟩,q_⟩⟩
 rintro⟨p',t',e_,_,q_⟩
 simp_arith only[gJ]at e_
 obtain⟨rfl,rfl⟩:=e_
 exact q_
theorem f_:FnScope ["p", "table"] ["p", "table"] (defScope (C5 30)):=⟨rfl,rfl,rfl,by decide +kernel,rfl,by decide +kernel,by decide +kernel⟩
theorem d_combination(Fn:FnIn K mg "combination" (C5 30) ["p", "table"])(Z:Bz mg)(d_reduced:∀rl,DfnP P w K mg base rl "reduced" ["p", "table"] 2 bY)   : Dfn P w K mg base rl "combination" ["p", "table"] 3 bj:=by
 have sc:=f_
 refine Dfn.of Fn sc (bj.mono) (bj.len) (fun cdv A outer s H E hr=>(ai (av (yM (lX (d_reduced _) (hr.mono (by decide)) (aa (vn 0) (aa (vn 1) ab))) ah)))) ?_
 rintro ws Q ⟨p,t,rfl,⟨hp,ht⟩,hQ⟩
 refine ay ?_
 simp_arith only[af,ac,E_,Dq,bY.eq]
 (with_reducible (first|refine aL fun z hz=>?_|refine bg fun z hz=>?_))
 try simp_arith only[af,ac,E_,Dq]
 exact az (hQ z.2 (tL (by omega) ht hz))
noncomputable def aT:List W->(Fd->Prop)->Prop:=fun ws Q=>∃(p:Int)(t:List (List Int)),ws=[.d (.int p),.d (C9 t)]/\((p=2\/p=3\/p=5\/p=7)/\(rY p t))/\∀o:Option (List (List Int)),(Al p t o)->Q (optTb o)
theorem aT.mono:∀ws (Q Q':Fd->Prop),(∀d,Q d->Q' d)->aT ws Q->aT ws Q':=fun _ _ _ h_=>Fu fun _=>Fu fun _=>Fo (Fo fun q_ o_ ho_=>h_ _ (q_ o_ ho_))
theorem aT.len:∀ws (Q:Fd->Prop),aT ws Q->ws.length=2:=fun _ _ h_=>by obtain⟨_,_,e_,_⟩:=h_;subst e_;rfl
theorem aT.eq(p:Int)(t:List (List Int))(hp:p=2\/p=3\/p=5\/p=7)(ht:rY p t):aT [.d (.int p),.d (C9 t)]=D4 (anyM fun o:Option (List (List Int))=>Al p t o) fun o=>VL.ret (optTb o:Fd):=by
 refine ae fun Q=>⟨?_,fun q_=>⟨p,t,rfl,⟨hp,ht⟩,q_⟩⟩
 rintro⟨p',t',e_,_,q_⟩
 simp_arith only[gJ]at e_
 obtain⟨rfl,rfl⟩:=e_
 exact q_
theorem eV:FnScope ["p", "table", "kept", "hanging", "columns", "noughts"] ["p", "table"] (defScope (C5 29)):=⟨rfl,rfl,rfl,by decide +kernel,rfl,by decide +kernel,by decide +kernel⟩
theorem d_right_inverse(Fn:FnIn K mg "right_inverse" (C5 29) ["p", "table"])(Z:Bz mg)(d_reduced:∀rl,DfnP P w K mg base rl "reduced" ["p", "table"] 2 bY)   : Dfn P w K mg base rl "right_inverse" ["p", "table"] 3 aT:=by
 have sc:=eV
 refine Dfn.of Fn sc (aT.mono) (aT.len) (fun cdv A outer s H E hr=>(aj (vE 2 3 rfl sc.nd (lX (d_reduced _) (hr.mono (by decide)) (aa (vn 0) (aa (vn 1) ab))))
  (aj (bL (aO jr iZ (aH _) (vn 3) eN) (ai (av eN)) a_)
  (aj (aD 4 sc.nd (cy Z.len_ (aa (eX (vn 1) ah) ab)))
  (aj (aD 5 sc.nd (vX (gG (aa ah ab)) (cy Z.len_ (aa (vn 1) ab))))
  (ai (av (ba Z.tuple_ (aa (aF ["column", "kept", "columns", "noughts"] [none,some 2,some 4,some 5] rfl (aS Z.range_ (aa (vn 4) ab)) (fun _=>(aq 0 (show Gp (["column", "kept", "columns", "noughts"]:List Str) by decide +kernel))) (fun _=>aU) (fun _=>(i7 (sK hr.un1 (vn 0) (vn 1)) (ie (i8 hr.un1 (vn 1) (vn 0)) (cG (vn 2)) cH) (vn 3)))) ab))))))))) ?_
 rintro ws Q ⟨p,t,rfl,⟨hp,ht⟩,hQ⟩
 refine ay ?_
 have sz:=FG
 have p2:2<=p:=by omega
 simp_arith only[af,ac,E_,Dq,bY.eq]
 (with_reducible (first|refine aL fun z hz=>?_|refine bg fun z hz=>?_))
 obtain⟨ks,o⟩:=z
 cases o with
 | some h =>
   simp_arith only[af,ac,E_,Dq,rG]
   exact az (hQ none ⟨h,hz⟩)
 | none =>
   obtain⟨t1,t8,c8,hf⟩:=ht
   have g:GA.GI p (t.getD 0 []).length t.length t t.length ks:=hz
   have ri:Al p t (some ((FJ (t.getD 0 []).length).map fun c=>GA.xrow (t.getD 0 []).length t.length ks c)):=⟨GA.GI.ri p2 hf g,g.le⟩
   generalize hC:(t.getD 0 []).length=C at *
   have e0:atI t 0=some (t.getD 0 []):=by rw[show(0:Int)=((0:Nat):Int)from rfl,bQ (Fp t1),Fi,Fp t1];rfl
   have g1 : -(2^62)<=(C:Int)/\(C:Int)<2^62:=by omega
   simp_arith only[af,ac,E_,Dq,rH,jx,e0,g_,dE,hC]
   have rf:FY (FQ t.length [FW 0]).flatten=aA (FQ t.length 0):=by
    rw[<- wW];congr 1
    generalize t.length=n
    induction n with
    | zero=>rfl
    | succ n ih=>rw[GV,GV,HK,ih];rfl
   rw[rf]
   refine cu ⟨by simp,by omega,by omega⟩ ?_
   refine dq (fun c=>aA (GA.xrow C t.length ks c)) ?_ (by omega) ?_
   · intro c hc
     have ek:(0+(c:Int))=(c:Int):=IQ _
     have vf:=lU ks c
     cases hf:ks.find? (fun z=>decide (z.1=c))with
     | none =>
       rw[hf]at vf
       have ex:GA.xrow C t.length ks c=FQ t.length 0:=by unfold GA.xrow;rw[hf]
       simp_arith only[af,ac,E_,Dq,DM,ek,vf,Option.map_none,Option.isSome_none,ex]
     | some z =>
       rw[hf]at vf
       have ex:GA.xrow C t.length ks c=z.2.drop C:=by unfold GA.xrow;rw[hf]
       simp_arith only[af,ac,E_,Dq,DM,ek,vf,Option.map_some,JX,ex,ck,Bx,cC]
   · rw[cN]
     exact az (hQ _ ri)
noncomputable def shp:Nat->Nat->List (List Int)
 | 0,_=>[]
 | 1,w=>[[(w:Int)]]
 | m+2,w=>(FJ (w+1)).flatMap fun f=>(shp (m+1) (w-f)).map fun r=>(f:Int)::r
theorem wI{f:Nat->Nat}(h:∀i,i<n->f i<=c):((FJ n).map f).sum<=n*c:=by
 induction n with
 | zero=>simp
 | succ n ih =>
   rw[JM,HP,KB]
   have h1:=ih fun i hi=>h i (by omega)
   have h2:=h n (by omega)
   simp[LC]
   omega
theorem eA:∀(m w:Nat),w<=5->(shp (m+1) w).length<=6^m
 | 0,w,_=>by simp[shp]
 | m+1,w,h=>by
   rw[shp,La]
   refine Gq (wI (c:=6^m) fun f _=>?_) ?_
   · rw[Fq];exact eA m (w-f) (by omega)
   · rw[Nat.pow_succ,Nat.mul_comm];exact K4 _ (by omega)
theorem gL:∀(m w:Nat)(r:List Int),r∈shp (m+1) w->r.length=m+1/\(∀k∈r,0<=k)/\r.sum=w
 | 0,w,r,h=>by
   simp[shp]at h
   subst h
   simp
 | m+1,w,r,h=>by
   rw[shp,Jz]at h
   obtain⟨f,hf,h⟩:=h
   rw[GR]at hf
   obtain⟨q,mq,rfl⟩:=Gf.mp h
   obtain⟨a,b,c⟩:=gL m (w-f) q mq
   refine⟨by rw[Hm,a],fun k mk=>?_,?_⟩
   · rcases GT.mp mk with rfl|mk
     · omega
     · exact b k mk
   · rw[Hd,c];omega
noncomputable def ax:Nat->List W->(Fd->Prop)->Prop
 | 0,_,_=>False
 | n+1,ws,Q=>∃m w:Int,ws=[.d (.int m),.d (.int w)]/\(1<=m/\m<=n+1/\n<=3/\0<=w/\w<=5)/\Q (.list ((shp m.toNat w.toNat).map aA))
theorem ax.mono:∀n ws (Q Q':Fd->Prop),(∀d,Q d->Q' d)->ax n ws Q->ax n ws Q'
 | 0,_,_,_,_,z=>z
 | _+1,_,_,_,h,⟨m,w,e,p,q⟩=>⟨m,w,e,p,h _ q⟩
theorem ax.len:∀n ws (Q:Fd->Prop),ax n ws Q->ws.length=2
 | 0,_,_,z=>z.elim
 | _+1,_,_,⟨_,_,e,_⟩=>by subst e;rfl
theorem ax.eqn(n:Nat)(m w:Int)(h:1<=m/\m<=n+1/\n<=3/\0<=w/\w<=5):ax (n+1) [.d (.int m),.d (.int w)]=VL.ret (JK ((shp m.toNat w.toNat).map aA)):=by
 refine ae fun Q=>⟨?_,fun q=>⟨m,w,rfl,h,q⟩⟩
 rintro⟨m',w',e,_,q⟩
 simp only[G4,W.d.injEq,FW.injEq,and_true]at e
 obtain⟨rfl,rfl⟩:=e
 exact q
theorem il:FnScope ["many", "w"] ["many", "w"] (defScope (C5 33)):=⟨rfl,rfl,rfl,by decide +kernel,rfl,by decide +kernel,by decide +kernel⟩
theorem cg(n:Nat)(Fn:FnIn K mg "shapes_of" (C5 33) ["many", "w"])(Z:Bz mg)(d_shapes_of:∀rl,Dfn P w K mg base rl "shapes_of" ["many", "w"] (0+n) (ax n)):Dfn P w K mg base rl "shapes_of" ["many", "w"] (0+n+1) (ax (n+1)):=by
 have sc:=il
 refine Dfn.of Fn sc (ax.mono _) (ax.len _) (fun cdv A outer s H E hr=>(aj (bL (aO (eQ hr.units) ce (aH _) (vn 0) ah) (ai (av (lW (aa (gG (aa (vn 1) ab)) ab)))) a_)
  (ai (av (jR ["first", "rest", "many", "w"] [none,none,some 0,some 1] rfl (aS Z.range_ (aa (v_add (vn 1) ah) ab)) (fun _=>(aq 0 (show Gp (["first", "rest", "many", "w"]:List Str) by decide +kernel))) (fun _=>aU) (fun _=>(i3 (aw (d_shapes_of _) (hr.mono (by omega)) (aa (v_sub (vn 2) ah) (aa (v_sub (vn 3) (vn 0)) ab))))) (fun _=>(aq 1 (show Gp (["first", "rest", "many", "w"]:List Str) by decide +kernel))) (fun _=>aU) (fun _=>(jS (gG (aa (vn 0) ab)) (vn 1)))))))) ?_
 rintro ws Q ⟨m,w,rfl,⟨m1,mn,n3,w0,w5⟩,hQ⟩
 refine ay ?_
 have sz:=FG
 by_cases h1:m=1
 · subst h1
   have e:(shp (Int.toNat 1) w.toNat).map aA=[FY [.int w]]:=by
    show [aA [((w.toNat:Nat):Int)]]=_
    rw[IP w0];rfl
   rw[e]at hQ
   simp_arith only[af,ac]
   exact mL hQ
 · have t1:(m==1)=false:=by simpa using h1
   obtain⟨n',rfl⟩:∃n',n=n'+1:=⟨n-1,by omega⟩
   obtain⟨j,ej⟩:∃j:Nat,m.toNat=j+2:=⟨m.toNat-2,by omega⟩
   have g1 : -(2^62)<=w+1/\w+1<2^62:=by omega
   have lb:=eA (j+1) w.toNat (by omega)
   have j2:j<=2:=by omega
   have l216:(shp (j+1+1) w.toNat).length<=216:=Gq lb (Gq (GP (by decide) (show j+1<=3 by omega)) (by decide))
   have eF:(FJ (w+1).toNat).flatMap (fun k:Nat=>(shp (j+1) (w.toNat-k)).map fun r=>aA ((k:Int)::r))=(shp m.toNat w.toNat).map aA:=by
    rw[ej,shp,Kn,show(w+1).toNat=w.toNat+1 by omega]
    congr 1
    funext f
    rw[Gu]
    rfl
   simp_arith only[af,ac,Fa,t1]
   refine yb (xs:=FJ (w+1).toNat) (enc:=fun k:Nat=>FW (0+(k:Int))) (fun k=>(shp (j+1) (w.toNat-k)).map fun r=>aA ((k:Int)::r)) rfl ?_ ?_ ?_
   · intro k mk acc hl
     have hk:k<(w+1).toNat:=GR.mp mk
     have en:=ax.eqn n' (m-1) (w-(0+(k:Int))) (by omega)
     rw[show(m-1).toNat=j+1 by omega,show(w-(0+(k:Int))).toNat=w.toNat-k by omega]at en
     have ml:=gL j (w.toNat-k)
     simp_arith only[af,ac,pW,en]
     rw[Fq]at hl
     have hc:=dj (b:=DM [some (W.d (FW (0+(k:Int)))),none,some (W.d (FW m)),some (W.d (FW w))] (qj 1) (fun x Q=>Q true) (CU nQ (v7 (oV (v4 0) yi)) (v4 1))) (enc:=aA) (fun r=>some (aA ((k:Int)::r))) (shp (j+1) (w.toNat-k)) acc ?_ hl
     · rw[hc,Ji]
     · intro r mr
       obtain⟨r1,_⟩:=ml r mr
       have ek:(0+(k:Int))=(k:Int):=IQ _
       have rz:1+r.length<=sizeLine:=by omega
       simp_arith only[af,ac,DM,ck]
       rw[ek]
       rfl
   · rw[eF,Fq,ej];show(shp (j+1+1) w.toNat).length<=_;omega
   · rw[eF]
     exact mL hQ
theorem d_shapes_of(Fn:FnIn K mg "shapes_of" (C5 33) ["many", "w"])(Z:Bz mg)    : Dfn P w K mg base rl "shapes_of" ["many", "w"] 4 (ax 4):=by
 have d0:∀rl,Dfn P w K mg base rl "shapes_of" ["many", "w"] 0 (ax 0):=fun rl=>Dfn.never Fn
 have d1:∀rl,Dfn P w K mg base rl "shapes_of" ["many", "w"] 1 (ax 1):=fun rl=>cg 0 Fn Z    d0
 have d2:∀rl,Dfn P w K mg base rl "shapes_of" ["many", "w"] 2 (ax 2):=fun rl=>cg 1 Fn Z    d1
 have d3:∀rl,Dfn P w K mg base rl "shapes_of" ["many", "w"] 3 (ax 3):=fun rl=>cg 2 Fn Z    d2
 have d4:∀rl,Dfn P w K mg base rl "shapes_of" ["many", "w"] 4 (ax 4):=fun rl=>cg 3 Fn Z    d3
 exact d4 rl
noncomputable def rowsT(ts:List (List (List Int)))(ks:List Int):List (List Int):=(ts.zip ks).flatMap fun z=>z.1.take z.2.toNat
theorem vA(ts:List (List (List Int)))(ks:List Int):fm (ts.map C9) (ks.map FW)=(ts.zip ks).map fun z=>FY [C9 z.1,.int z.2]:=gA C9 FW ts ks
theorem wH(h:∀x∈ks,0<=x):0<=ks.sum:=by
 induction ks with
 | nil=>simp
 | cons a l ihl=>rw[Hd];have:=ihl fun y my=>h y (Fv _ my);have:=h a FB;omega
theorem x6(f:α->Fd)(xs:List α){k:Int}(h:0<=k):VL.cutD (xs.map f) none (some k)=(xs.take k.toNat).map f:=by
 unfold VL.cutD
 rw[jl h,Fq]
 show(((xs.map f).drop 0).take (min k.toNat xs.length-0))=_
 rw[J6,J0,<- Jd]
 congr 1
 rw[List.take_eq_take_iff]
 omega
theorem gj{β:Type}{o:Option α}{a:α}{k:α->Mo β}{Q:β->Prop}(e:o=some a)(h:k a Q):aG o k Q:=by rw[e,opt_some];exact h
noncomputable def bP:List W->(Fd->Prop)->Prop:=fun ws Q=>∃(ts:List (List (List Int)))(ks:List Int),ws=[.d (bK ts),.d (aA ks)]/\((ts.length<=4)/\(∀t∈ts,t.length<=8)/\(∀k∈ks,0<=k))/\Q (C9 (rowsT ts ks))
theorem bP.mono:∀ws (Q Q':Fd->Prop),(∀d,Q d->Q' d)->bP ws Q->bP ws Q':=fun _ _ _ h_=>Fu fun _=>Fu fun _=>Fo (Fo (h_ _))
theorem bP.len:∀ws (Q:Fd->Prop),bP ws Q->ws.length=2:=fun _ _ h_=>by obtain⟨_,_,e_,_⟩:=h_;subst e_;rfl
theorem bP.eq(ts:List (List (List Int)))(ks:List Int)(t4:ts.length<=4)(t8:∀t∈ts,t.length<=8)(hk:∀k∈ks,0<=k):bP [.d (bK ts),.d (aA ks)]=VL.ret (C9 (rowsT ts ks):Fd):=by
 refine ae fun Q=>⟨?_,fun q_=>⟨ts,ks,rfl,⟨t4,t8,hk⟩,q_⟩⟩
 rintro⟨ts',ks',e_,_,q_⟩
 simp_arith only[cX]at e_
 obtain⟨rfl,rfl⟩:=e_
 exact q_
theorem k_:FnScope ["tables", "shape", "rows", "table", "k"] ["tables", "shape"] (defScope (C5 34)):=⟨rfl,rfl,rfl,by decide +kernel,rfl,by decide +kernel,by decide +kernel⟩
theorem d_rows_of(Fn:FnIn K mg "rows_of" (C5 34) ["tables", "shape"])(Z:Bz mg)    : Dfn P w K mg base rl "rows_of" ["tables", "shape"] 1 bP:=by
 have sc:=k_
 refine Dfn.of Fn sc (bP.mono) (bP.len) (fun cdv A outer s H E hr=>(aj (aD 2 sc.nd (gG ab))
  (aj (bD [3,4] GB rfl (gE Z.zip_ (aa (vn 0) (aa (vn 1) ab))) (db (n:=2) rfl (aI (aq 3 sc.nd) (aI (aq 4 sc.nd) cj))) (ai (sB 2 sc.nd (ie (vn 3) cH (cG (vn 4))))))
  (ai (av (vn 2)))))) ?_
 rintro ws Q ⟨ts,ks,rfl,⟨t4,t8,hk⟩,hQ⟩
 refine ay ?_
 have sz:=FG
 have zo:(if(match bK ts with|FY xs=>true|x=>false)=true/\(match aA ks with|FY xs=>true|x=>false)=true then(eB (bK ts)).bind fun xs=>Option.map (fun ys=>fm xs ys) (eB (aA ks))else none)=some ((ts.zip ks).map fun z=>FY [C9 z.1,.int z.2]):=by
  show some (fm (ts.map C9) (ks.map FW))=_
  rw[vA]
 simp_arith only[af,ac,rB,Do]
 refine Dl (gj zo ?_)
 have zl:(ts.zip ks).length<=4:=by rw[JN];omega
 refine gt (xs:=ts.zip ks) (enc:=fun z=>FY [C9 z.1,.int z.2]) (fun i ρ=>ρ=[some (.d (bK ts)),some (.d (aA ks)),some (.d (.tuple (((ts.zip ks).take i).flatMap fun z=>(z.1.take z.2.toNat).map aA))),none,none]) rfl rfl ?_ ?_
 · rintro i hi ρ rfl K hK
   obtain⟨m1,m2⟩:((ts.zip ks)[i]).1∈ts/\((ts.zip ks)[i]).2∈ks:=HN (Gm hi)
   have k0:=hk _ m2
   have l8:=t8 _ m1
   have ec:VL.cutD (((ts.zip ks)[i]).1.map aA) none (some ((ts.zip ks)[i]).2)=(((ts.zip ks)[i]).1.take ((ts.zip ks)[i]).2.toNat).map aA:=x6 aA _ k0
   have lb:(((ts.zip ks).take i).flatMap fun z=>(z.1.take z.2.toNat).map aA).length<=32:=by
    rw[La]
    have hs:∀n (l:List (List (List Int)×Int)),(∀z∈l,z.1.length<=8)->l.length<=n->(l.map fun z=>((z.1.take z.2.toNat).map aA).length).sum<=8*n:=by
     intro n l
     induction l generalizing n with
     | nil=>intro _ _;simp
     | cons a l ih =>
       intro h1 h2
       rw[Hm]at h2
       obtain⟨n',rfl⟩:∃n',n=n'+1:=⟨n-1,by omega⟩
       have q1:=ih n' (fun z mz=>h1 z (Fv _ mz)) (by omega)
       have q2:=h1 a FB
       rw[FV,Hd,Fq,GQ]
       omega
    exact hs 4 _ (fun z mz=>t8 _ (HN (KP mz)).1) (by rw[GQ];omega)
   have eT:C9 ((ts.zip ks)[i]).1 = .tuple (((ts.zip ks)[i]).1.map aA):=rfl
   have es:(((ts.zip ks).take i).flatMap fun z=>(z.1.take z.2.toNat).map aA)++(((ts.zip ks)[i]).1.take ((ts.zip ks)[i]).2.toNat).map aA=((ts.zip ks).take (i+1)).flatMap fun z=>(z.1.take z.2.toNat).map aA:=by
    rw[Je hi,List.flatMap_append]
    simp
   have l2:((((ts.zip ks)[i]).1.take ((ts.zip ks)[i]).2.toNat).map aA).length<=8:=by rw[Fq,GQ];omega
   have lz:(((ts.zip ks).take i).flatMap fun z=>(z.1.take z.2.toNat).map aA).length+(((ts.zip ks)[i]).1.take ((ts.zip ks)[i]).2.toNat).length<=sizeLine:=by rw[GQ];omega
   simp_arith only[af,ac,rB,Do,eT,ec,es]
   exact hK _ (dg rfl)
 · rintro ρ rfl
   rw[GO (FC _)]
   have er:FY ((ts.zip ks).flatMap fun z=>(z.1.take z.2.toNat).map aA)=C9 (rowsT ts ks):=by
    unfold C9 rowsT;rw[Kn]
   simp_arith only[af,ac,er]
   exact az hQ
theorem nG:∀{ks:List Int},(∀x∈ks,0<=x)->∀k∈ks,k<=ks.sum
 | [],_,k,mk=>by simp at mk
 | a::l,h,k,mk=>by
   rw[Hd]
   have s0:0<=l.sum:=wH fun x mx=>h x (Fv _ mx)
   have a0:=h a FB
   rcases GT.mp mk with rfl|mk
   · omega
   · have:=nG (fun x mx=>h x (Fv _ mx)) k mk
     omega
theorem gS:∀(ts:List (List (List Int)))(ks:List Int)(m:Nat),(∀t∈ts,t.length=m)->ks.length=ts.length->(∀k∈ks,0<=k/\k<=m)->((rowsT ts ks).length:Int)=ks.sum
 | [],[],m,_,_,_=>rfl
 | [],_::_,_,_,h,_=>by simp at h
 | _::_,[],_,_,h,_=>by simp at h
 | t::ts,k::ks,m,ht,hl,hk=>by
   have ih:=gS ts ks m (fun u mu=>ht u (Fv _ mu)) (by simpa using hl) (fun x mx=>hk x (Fv _ mx))
   obtain⟨k0,km⟩:=hk k FB
   have tl:=ht t FB
   show((t.take k.toNat++rowsT ts ks).length:Int)=_
   rw[GK,GQ,Hd]
   omega
theorem pd{row:List Int}(h:row∈rowsT ts ks):∃t∈ts,row∈t:=by
 obtain⟨z,mz,hr⟩:=Jz.mp h
 exact⟨z.1,(HN mz).1,KP hr⟩
theorem ja:∀(n w:Nat)(r:List Int),r.length=n+1->(∀k∈r,0<=k)->r.sum=w->r∈shp (n+1) w
 | 0,w,r,hl,h0,hs=>by
   obtain⟨a,rfl⟩:∃a,r=[a]:=by cases r with|nil=>simp at hl|cons a r=>cases r with|nil=>exact⟨a,rfl⟩|cons b r=>simp at hl
   simp at hs
   subst hs
   simp[shp]
 | n+1,w,r,hl,h0,hs=>by
   cases r with
   | nil=>simp at hl
   | cons a r =>
     rw[Hd]at hs
     have a0:=h0 a FB
     have r0:∀k∈r,0<=k:=fun k hk=>h0 k (Fv _ hk)
     have s0:0<=r.sum:=by
      clear hl hs h0
      induction r with
      | nil=>exact Int.le_refl _
      | cons x r ih=>rw[Hd];have:=r0 x FB;have:=ih (fun k hk=>r0 k (Fv _ hk));omega
     rw[shp,Jz]
     refine⟨a.toNat,GR.mpr (by omega),Gf.mpr ⟨r,ja n (w-a.toNat) r (by simpa using hl) r0 (by omega),?_⟩⟩
     rw[IP a0]
abbrev hdM(ts:List (List (List Int))):Nat:=(ts.headD []).length
theorem jm{m:Nat}(ht:dI p m ts)(m5:m<=5)(kl:ks.length=ts.length)(k0:∀k∈ks,0<=k)(w1:1<=ks.sum)(wm:ks.sum<=m):rY p (rowsT ts ks)/\((rowsT ts ks).getD 0 []).length=m:=by
 have km:∀k∈ks,0<=k/\k<=(m:Int):=fun k mk=>⟨k0 k mk,by have:=nG k0 k mk;omega⟩
 have rl:=gS ts ks m (fun t mt=>(ht.2.2 t mt).1) kl km
 have al:∀r∈rowsT ts ks,GA.Fg p m r:=fun r mr=>by
  obtain⟨t,mt,hr⟩:=pd mr
  exact Am ((ht.2.2 t mt).2 r hr).1 ((ht.2.2 t mt).2 r hr).2
 have l0:0<(rowsT ts ks).length:=by omega
 have e0:((rowsT ts ks).getD 0 []).length=m:=by rw[Fi,Fp l0];exact(al _ (Gm l0)).1
 exact⟨⟨l0,by omega,by omega,by rw[e0];exact al⟩,e0⟩
noncomputable def Cf(p:Int)(ts:List (List (List Int)))(w:Int)(d:Fd):Prop:=(GA.Net p (hdM ts) ts w/\∃x,d = .tuple [.str "net", x])\/(¬GA.Net p (hdM ts) ts w/\∃x y,d = .tuple [.str "none", x,y])
theorem Pm.pr(h:Pm p m):p=2\/p=3\/p=5\/p=7:=h.1
noncomputable def u_(p:Int)(ts:List (List (List Int)))(w:Int)(d:Fd):Prop :=
 (GA.Net p (hdM ts) ts w/\∃xs:List (List (List Int)),d = .tuple [.str "net", bK xs]/\xs.length=(shp ts.length w.toNat).length/\∀j (h:j<(shp ts.length w.toNat).length),GA.IsRi p (hdM ts) (rowsT ts (shp ts.length w.toNat)[j]) (xs.getD j [])) \/
 (¬GA.Net p (hdM ts) ts w/\∃ks h:List Int,d = .tuple [.str "none", aA ks,aA h]/\ks∈shp ts.length w.toNat/\GA.Hg p (hdM ts) (rowsT ts ks) h)
theorem u_.D{w:Int}(h:u_ p ts w d):Cf p ts w d:=by
 rcases h with⟨a,xs,e,_⟩|⟨a,ks,h,e,_⟩
 · exact .inl ⟨a,_,e⟩
 · exact .inr ⟨a,_,_,e⟩
theorem tq{xs:List α}{y d:α}(hl:xs.length=i)(h:j<i+1):(xs++[y]).getD j d=if j=i then y else xs.getD j d:=by
 by_cases e:j=i
 · subst e
   rw[if_pos rfl,Fi,HU (by omega),hl,Nat.sub_self];rfl
 · rw[if_neg e,Fi,Ht (by omega),Fi]
noncomputable def bw:List W->(Fd->Prop)->Prop:=fun ws Q=>∃(p:Int)(ts:List (List (List Int)))(w:Int),ws=[.d (.int p),.d (bK ts),.d (.int w)]/\((∃m:Int,Pm p m/\dI p m.toNat ts/\m.toNat=hdM ts/\1<=w/\w<=m))/\∀d:Fd,(u_ p ts w d)->Q (d)
theorem bw.mono:∀ws (Q Q':Fd->Prop),(∀d,Q d->Q' d)->bw ws Q->bw ws Q':=fun _ _ _ h_=>Fu fun _=>Fu fun _=>Fu fun _=>Fo (Fo fun q_ o_ ho_=>h_ _ (q_ o_ ho_))
theorem bw.len:∀ws (Q:Fd->Prop),bw ws Q->ws.length=3:=fun _ _ h_=>by obtain⟨_,_,_,e_,_⟩:=h_;subst e_;rfl
theorem bw.eq(p:Int)(ts:List (List (List Int)))(w:Int)(hm:∃m:Int,Pm p m/\dI p m.toNat ts/\m.toNat=hdM ts/\1<=w/\w<=m):bw [.d (.int p),.d (bK ts),.d (.int w)]=D4 (anyM fun d:Fd=>u_ p ts w d) fun d=>VL.ret (d:Fd):=by
 refine ae fun Q=>⟨?_,fun q_=>⟨p,ts,w,rfl,hm,q_⟩⟩
 rintro⟨p',ts',w',e_,_,q_⟩
 simp_arith only[cX]at e_
 obtain⟨rfl,rfl,rfl⟩:=e_
 exact q_
theorem im:FnScope ["p", "tables", "w", "inverses", "shape", "rows", "hanging"] ["p", "tables", "w"] (defScope (C5 36)):=⟨rfl,rfl,rfl,by decide +kernel,rfl,by decide +kernel,by decide +kernel⟩
theorem d_net_paper(Fn:FnIn K mg "net_paper" (C5 36) ["p", "tables", "w"])(Z:Bz mg)(d_shapes_of:∀rl,Dfn P w K mg base rl "shapes_of" ["many", "w"] 4 (ax 4))(d_rows_of:∀rl,Dfn P w K mg base rl "rows_of" ["tables", "shape"] 1 bP)(d_combination:∀rl,Dfn P w K mg base rl "combination" ["p", "table"] 3 bj)(d_right_inverse:∀rl,Dfn P w K mg base rl "right_inverse" ["p", "table"] 3 aT)   : Dfn P w K mg base rl "net_paper" ["p", "tables", "w"] 5 bw:=by
 have sc:=im
 refine Dfn.of Fn sc (bw.mono) (bw.len) (fun cdv A outer s H E hr=>(aj (jK 3 sc.nd (lW ab))
  (aj (bD [4,5,6] GB rfl (i3 (aw (d_shapes_of _) (hr.mono (by decide)) (aa (cy Z.len_ (aa (vn 1) ab)) (aa (vn 2) ab)))) (aq 4 sc.nd) (aj (aD 5 sc.nd (aw (d_rows_of _) (hr.mono (by decide)) (aa (vn 1) (aa (vn 4) ab))))
  (aj (aD 6 sc.nd (aw (d_combination _) (hr.mono (by decide)) (aa (vn 0) (aa (vn 5) ab))))
  (aj (bL (aO jr iZ (aH _) (vn 6) eN) (ai (av (gG (aa fF (aa (vn 4) (aa (vn 6) ab)))))) a_)
  (ai (lL 3 (aa (aw (d_right_inverse _) (hr.mono (by decide)) (aa (vn 0) (aa (vn 5) ab))) ab)))))))
  (ai (av (gG (aa fF (aa (ba Z.tuple_ (aa (vn 3) ab)) ab)))))))) ?_
 rintro ws Q ⟨p,ts,w,rfl,hm,hQ⟩
 refine ay ?_
 have sz:=FG
 obtain⟨m,pm,ht,hh,w1,wm⟩:=hm
 obtain⟨w40,p2,p7,m1,m5⟩:=gc pm
 have hp:=pm.pr
 obtain⟨t1,t4,htt⟩:=id ht
 have t8:∀t∈ts,t.length<=8:=fun t mt=>by have:=(htt t mt).1;omega
 have en:ax 4 [.d (.int (ts.length:Int)),.d (.int w)]=_:=ax.eqn 3 (ts.length:Int) w (by omega)
 rw[Gy]at en
 have en0:ts.length=(ts.length-1)+1:=by omega
 have sm:∀ks∈shp ts.length w.toNat,ks.length=ts.length/\(∀k∈ks,0<=k)/\ks.sum=w:=fun ks mk=>by
  rw[en0]at mk
  obtain⟨a,b,c⟩:=gL _ _ ks mk
  exact⟨by omega,b,by omega⟩
 have l216:(shp ts.length w.toNat).length<=216:=by
  rw[en0]
  exact Gq (eA (ts.length-1) w.toNat (by omega)) (Gq (GP (by decide) (show ts.length-1<=3 by omega)) (by decide))
 simp_arith only[af,ac,dm,en]
 refine gt (xs:=shp ts.length w.toNat) (enc:=aA) (fun i ρ=>∃xs:List (List (List Int)),(xs.length=i/\∀j (h:j<(shp ts.length w.toNat).length),j<i->GA.IsRi p (hdM ts) (rowsT ts (shp ts.length w.toNat)[j]) (xs.getD j []))/\ρ=[some (.d (.int p)),some (.d (bK ts)),some (.d (.int w)),some (.ml (xs.map C9)),none,none,none]) rfl ⟨[],⟨rfl,fun j _ h=>by omega⟩,rfl⟩ ?_ ?_
 · rintro i hi ρ ⟨xs,⟨xl,hx⟩,rfl⟩ K hK
   have mks:=Gm hi
   obtain⟨kl,k0,ksum⟩:=sm _ mks
   generalize hks:(shp ts.length w.toNat)[i]=ks at *
   obtain⟨ok,c0⟩:=jm ht (by omega) kl k0 (by omega) (by omega)
   have xz:(xs.map C9).length<sizeLine:=by rw[Fq];omega
   simp_arith only[af,ac,bP.eq,bj.eq]
   (with_reducible (first|refine aL fun o ho=>?_|refine bg fun o ho=>?_))
   cases o with
   | some h =>
     have ho:GA.Hg p _ (rowsT ts ks) h:=ho
     simp_arith only[af,ac,rG]
     refine kw (fun _=>?_) fun z=>absurd (show(!false)=true from rfl) z
     rw[c0,hh]at ho
     refine hK _ (nB (az (hQ _ (.inr ⟨fun n=>?_,_,_,rfl,mks,ho⟩))))
     exact ho.not (n ks kl k0 ksum)
   | none =>
     obtain⟨x,hx'⟩:=ho
     simp_arith only[af,ac,rH,aT.eq]
     (with_reducible (first|refine aL fun q hq=>?_|refine bg fun q hq=>?_))
     cases q with
     | none =>
       obtain⟨h0,hh0⟩:=(show ∃h,GA.Hg p _ (rowsT ts ks) h from hq)
       exact absurd hx'.ind hh0.not
     | some q =>
       have hq:GA.IsRi p _ (rowsT ts ks) q:=hq.1
       rw[c0,hh]at hq
       refine hK _ (dg ⟨xs++[q],⟨by simp;omega,fun j hj hji=>?_⟩,by simp[fo,optTb]⟩)
       rw[tq xl (by omega)]
       by_cases e:j=i
       · subst e
         rw[if_pos rfl,hks]
         exact hq
       · rw[if_neg e]
         exact hx j hj (by omega)
 · rintro ρ ⟨xs,⟨xl,hx⟩,rfl⟩
   simp_arith only[af,ac]
   refine az (hQ _ (.inl ⟨fun ks kl k0 ksum=>?_,xs,rfl,xl,fun j hj=>hx j hj hj⟩))
   have mk:ks∈shp ts.length w.toNat:=by rw[en0];exact ja _ _ ks (by omega) k0 (by omega)
   obtain⟨j,hj,rfl⟩:=Hs mk
   exact(hx j hj hj).ind
noncomputable def bR:List W->(Fd->Prop)->Prop:=fun ws Q=>∃(p:Int)(ts:List (List (List Int))),ws=[.d (.int p),.d (bK ts)]/\((∃m:Int,Pm p m/\dI p m.toNat ts/\m.toNat=hdM ts))/\∀o:Int,(GA.Str p (hdM ts) ts o)->Q (.int o)
theorem bR.mono:∀ws (Q Q':Fd->Prop),(∀d,Q d->Q' d)->bR ws Q->bR ws Q':=fun _ _ _ h_=>Fu fun _=>Fu fun _=>Fo (Fo fun q_ o_ ho_=>h_ _ (q_ o_ ho_))
theorem bR.len:∀ws (Q:Fd->Prop),bR ws Q->ws.length=2:=fun _ _ h_=>by obtain⟨_,_,e_,_⟩:=h_;subst e_;rfl
theorem bR.eq(p:Int)(ts:List (List (List Int)))(hm:∃m:Int,Pm p m/\dI p m.toNat ts/\m.toNat=hdM ts):bR [.d (.int p),.d (bK ts)]=D4 (anyM fun o:Int=>GA.Str p (hdM ts) ts o) fun o=>VL.ret (.int o:Fd):=by
 refine ae fun Q=>⟨?_,fun q_=>⟨p,ts,rfl,hm,q_⟩⟩
 rintro⟨p',ts',e_,_,q_⟩
 simp_arith only[cX]at e_
 obtain⟨rfl,rfl⟩:=e_
 exact q_
theorem jb:FnScope ["p", "tables", "w"] ["p", "tables"] (defScope (C5 38)):=⟨rfl,rfl,rfl,by decide +kernel,rfl,by decide +kernel,by decide +kernel⟩
theorem d_strength(Fn:FnIn K mg "strength" (C5 38) ["p", "tables"])(Z:Bz mg)(d_net_paper:∀rl,Dfn P w K mg base rl "net_paper" ["p", "tables", "w"] 5 bw)   : Dfn P w K mg base rl "strength" ["p", "tables"] 6 bR:=by
 have sc:=jb
 refine Dfn.of Fn sc (bR.mono) (bR.len) (fun cdv A outer s H E hr=>(aj (bD [2] GB rfl (lR Z.range_ (aa (cy Z.len_ (aa (eX (vn 1) ah) ab)) (aa ah (aa (yL ah) ab)))) (aq 2 sc.nd) (ai (bL (aO pK jL (aH _) (eX (aw (d_net_paper _) (hr.mono (by decide)) (aa (vn 0) (aa (vn 1) (aa (vn 2) ab)))) ah) fF) (ai (av (vn 2))) a_)))
  (ai (av ah)))) ?_
 rintro ws Q ⟨p,ts,rfl,hm,hQ⟩
 refine ay ?_
 have sz:=FG
 obtain⟨m,pm,ht,hh⟩:=hm
 obtain⟨w40,p2,p7,m1,m5⟩:=gc pm
 obtain⟨t1,t4,htt⟩:=id ht
 have e0:atI ts 0=some (ts.headD []):=by
  cases ts with
  | nil=>simp at t1
  | cons a l=>exact bQ (j:=0) rfl
 have g1 : -(2^61)<=((hdM ts:Nat):Int)/\((hdM ts:Nat):Int)<2^61 /\ -(2^61)<=(0:Int)/\(0:Int)<2^61:=by omega
 simp_arith only[af,ac,zJ,xV,dX,e0,dE]
 have hM:(m.toNat:Nat)=hdM ts:=hh
 refine gt (xs:=FJ (((hdM ts:Nat):Int)-0).toNat) (enc:=fun i:Nat=>FW (((hdM ts:Nat):Int)-(i:Int))) (fun i ρ=>(∀j:Nat,j<i->¬GA.Net p (hdM ts) ts (((hdM ts:Nat):Int)-(j:Int)))/\ρ=[some (.d (.int p)),some (.d (bK ts)),none]) rfl ⟨fun j h=>by omega,rfl⟩ ?_ ?_
 · rintro i hi ρ ⟨hn,rfl⟩ K hK
   rw[GZ]at hi
   rw[HZ]
   have hm':∃m:Int,Pm p m/\dI p m.toNat ts/\m.toNat=hdM ts/\1<=((hdM ts:Nat):Int)-(i:Int)/\((hdM ts:Nat):Int)-(i:Int)<=m:=⟨m,pm,ht,hh,by omega,by omega⟩
   simp_arith only[af,ac,bw.eq]
   (with_reducible (first|refine aL fun d hd=>?_|refine bg fun d hd=>?_))
   have hd:=u_.D hd
   rcases hd with⟨hnet,x,rfl⟩|⟨hnet,x,y,rfl⟩
   · simp_arith only[af,ac]
     try rw[if_pos (by decide)]
     refine hK _ (nB (az (hQ _ ⟨by omega,by omega,fun _=>hnet,fun w h1 h2=>?_⟩)))
     have:=hn ((hdM ts:Int)-w).toNat (by omega)
     rwa [show((hdM ts:Nat):Int)-((((hdM ts:Nat):Int)-w).toNat:Int)=w by omega]at this
   · simp_arith only[af,ac]
     try rw[if_neg (by decide)]
     refine hK _ (dg ⟨fun j hj=>?_,rfl⟩)
     by_cases e:j=i
     · subst e;exact hnet
     · exact hn j (by omega)
 · rintro ρ ⟨hn,rfl⟩
   rw[GZ]at hn
   simp_arith only[af,ac]
   refine az (hQ 0 ⟨Int.le_refl _,by omega,fun h=>absurd rfl h,fun w h1 h2=>?_⟩)
   have:=hn ((hdM ts:Int)-w).toNat (by omega)
   rwa [show((hdM ts:Nat):Int)-((((hdM ts:Nat):Int)-w).toNat:Int)=w by omega]at this
noncomputable def bc:List W->(Fd->Prop)->Prop:=fun ws Q=>∃(n:Int),ws=[.d (.int n)]/\((0<=n)/\(n<=8))/\Q (C9 ((FJ n.toNat).map fun i=>GA.uni n.toNat i))
theorem bc.mono:∀ws (Q Q':Fd->Prop),(∀d,Q d->Q' d)->bc ws Q->bc ws Q':=fun _ _ _ h_=>Fu fun _=>Fo (Fo (h_ _))
theorem bc.len:∀ws (Q:Fd->Prop),bc ws Q->ws.length=1:=fun _ _ h_=>by obtain⟨_,e_,_⟩:=h_;subst e_;rfl
theorem bc.eq(n:Int)(n0:0<=n)(n8:n<=8):bc [.d (.int n)]=VL.ret (C9 ((FJ n.toNat).map fun i=>GA.uni n.toNat i):Fd):=by
 refine ae fun Q=>⟨?_,fun q_=>⟨n,rfl,⟨n0,n8⟩,q_⟩⟩
 rintro⟨n',e_,_,q_⟩
 simp_arith only[and_true]at e_
 obtain rfl:=e_
 exact q_
theorem gM:FnScope ["many"] ["many"] (defScope (C5 24)):=⟨rfl,rfl,rfl,by decide +kernel,rfl,by decide +kernel,by decide +kernel⟩
theorem d_unit_table(Fn:FnIn K mg "unit_table" (C5 24) ["many"])(Z:Bz mg)(d_unit_figures:∀rl,Dfn P w K mg base rl "unit_figures" ["many", "place"] 1 aP)   : Dfn P w K mg base rl "unit_table" ["many"] 2 bc:=by
 have sc:=gM
 refine Dfn.of Fn sc (bc.mono) (bc.len) (fun cdv A outer s H E hr=>(ai (av (ba Z.tuple_ (aa (aF ["place", "many"] [none,some 0] rfl (aS Z.range_ (aa (vn 0) ab)) (fun _=>(aq 0 (show Gp (["place", "many"]:List Str) by decide +kernel))) (fun _=>aU) (fun _=>(aw (d_unit_figures _) (hr.mono (by decide)) (aa (vn 1) (aa (vn 0) ab))))) ab))))) ?_
 rintro ws Q ⟨n,rfl,⟨n0,n8⟩,hQ⟩
 refine ay ?_
 have sz:=FG
 have g1 : -(2^62)<=n/\n<2^62:=by omega
 simp_arith only[af,ac]
 refine dq (fun i=>aA (GA.uni n.toNat i)) ?_ (by omega) ?_
 · intro i hi
   have h1:n<=16:=by omega
   have h2:0<=0+(i:Int):=by omega
   have e:(0+(i:Int)).toNat=i:=by omega
   simp_arith only[af,ac,DM,aP.eq,e]
 · rw[cN]
   try simp_arith only[af,ac]
   exact az hQ
noncomputable def bW:List W->(Fd->Prop)->Prop:=fun ws Q=>∃(p:Int)(t:List (List Int))(fs:List Int),ws=[.d (.int p),.d (C9 t),.d (aA fs)]/\((2<=p)/\(rZ t)/\(Ef p (eR t))/\(oF fs))/\Q (aA (D_ p (eR t) fs))
theorem bW.mono:∀ws (Q Q':Fd->Prop),(∀d,Q d->Q' d)->bW ws Q->bW ws Q':=fun _ _ _ h_=>Fu fun _=>Fu fun _=>Fu fun _=>Fo (Fo (h_ _))
theorem bW.len:∀ws (Q:Fd->Prop),bW ws Q->ws.length=3:=fun _ _ h_=>by obtain⟨_,_,_,e_,_⟩:=h_;subst e_;rfl
theorem bW.eq(p:Int)(t:List (List Int))(fs:List Int)(p2:2<=p)(ht:rZ t)(h3:Ef p (eR t))(hf:oF fs):bW [.d (.int p),.d (C9 t),.d (aA fs)]=VL.ret (aA (D_ p (eR t) fs):Fd):=by
 refine ae fun Q=>⟨?_,fun q_=>⟨p,t,fs,rfl,⟨p2,ht,h3,hf⟩,q_⟩⟩
 rintro⟨p',t',fs',e_,_,q_⟩
 simp_arith only[gJ]at e_
 obtain⟨rfl,rfl,rfl⟩:=e_
 exact q_
theorem ji:FnScope ["p", "table", "figures"] ["p", "table", "figures"] (defScope (C5 21)):=⟨rfl,rfl,rfl,by decide +kernel,rfl,by decide +kernel,by decide +kernel⟩
theorem d_combined(Fn:FnIn K mg "combined" (C5 21) ["p", "table", "figures"])(Z:Bz mg)(d_applied:∀rl,Dfn P w K mg base rl "applied" ["p", "table", "figures"] 2 bZ)(d_columns_of:∀rl,Dfn P w K mg base rl "columns_of" ["table"] 1 bf)   : Dfn P w K mg base rl "combined" ["p", "table", "figures"] 3 bW:=by
 have sc:=ji
 refine Dfn.of Fn sc (bW.mono) (bW.len) (fun cdv A outer s H E hr=>(ai (av (aw (d_applied _) (hr.mono (by decide)) (aa (vn 0) (aa (aw (d_columns_of _) (hr.mono (by decide)) (aa (vn 1) ab)) (aa (vn 2) ab))))))) ?_
 rintro ws Q ⟨p,t,fs,rfl,⟨p2,ht,h3,hf⟩,hQ⟩
 refine ay ?_
 simp_arith only[af,ac,bf.eq,bZ.eq]
 exact az hQ
noncomputable def bU:List W->(Fd->Prop)->Prop:=fun ws Q=>∃(s w:Int)(ks:List Int),ws=[.d (.int s),.d (.int w),.d (aA ks)]/\(((ks.length:Int)=s)/\(∀k∈ks,0<=k)/\(ks.sum=w)/\(ks.length<=8))/\Q (.bool true)
theorem bU.mono:∀ws (Q Q':Fd->Prop),(∀d,Q d->Q' d)->bU ws Q->bU ws Q':=fun _ _ _ h_=>Fu fun _=>Fu fun _=>Fu fun _=>Fo (Fo (h_ _))
theorem bU.len:∀ws (Q:Fd->Prop),bU ws Q->ws.length=3:=fun _ _ h_=>by obtain⟨_,_,_,e_,_⟩:=h_;subst e_;rfl
theorem bU.eq(s w:Int)(ks:List Int)(kl:(ks.length:Int)=s)(k0:∀k∈ks,0<=k)(hs:ks.sum=w)(l4:ks.length<=8):bU [.d (.int s),.d (.int w),.d (aA ks)]=VL.ret (.bool true:Fd):=by
 refine ae fun Q=>⟨?_,fun q_=>⟨s,w,ks,rfl,⟨kl,k0,hs,l4⟩,q_⟩⟩
 rintro⟨s',w',ks',e_,_,q_⟩
 simp_arith only[and_true]at e_
 obtain⟨rfl,rfl,rfl⟩:=e_
 exact q_
theorem jg:FnScope ["s", "w", "thing"] ["s", "w", "thing"] (defScope (C5 45)):=⟨rfl,rfl,rfl,by decide +kernel,rfl,by decide +kernel,by decide +kernel⟩
theorem d_is_shape(Fn:FnIn K mg "is_shape" (C5 45) ["s", "w", "thing"])(Z:Bz mg)(d_is_whole:∀rl,Dfn P w K mg base rl "is_whole" ["thing"] 1 bI)   : Dfn P w K mg base rl "is_shape" ["s", "w", "thing"] 2 bU:=by
 have sc:=jg
 refine Dfn.of Fn sc (bU.mono) (bU.len) (fun cdv A outer s H E hr=>(aj (bL (EG.pb (fu (cW (de (gH Z.isinstance_ (aa (vn 2) (aa (gW Z.tuple_ (by rfl)) ab))))) (dM (aO (eP hr.units) ce (aH _) (cy Z.len_ (aa (vn 2) ab)) (vn 0))))) (ai (av c_)) a_)
  (ai (av (v_and (v_all Z.all_ (aa (aF ["k"] [none] rfl (cV (vn 2)) (fun _=>(aq 0 (show Gp (["k"]:List Str) by decide +kernel))) (fun _=>aU) (fun _=>(v_and (aw (d_is_whole _) (hr.mono (by decide)) (aa (vn 0) ab)) (kP (kQ zG yJ (aH _) (vn 0) ah))))) ab)) (kP (kQ (eQ hr.units) ce (aH _) (vU Z.sum_ (aa (vn 2) ab)) (vn 1)))))))) ?_
 rintro ws Q ⟨s,w,ks,rfl,⟨kl,k0,hs,l4⟩,hQ⟩
 refine ay ?_
 have sz:=FG
 simp_arith only[af,ac,bI.eq,eL,g_,kl,ck]
 rw[if_neg (by rw[show fX (aA ks) "tuple" = true from rfl];simp)]
 refine cb (xs:=ks) (enc:=FW) (fun _=>.bool true) rfl ?_ (by omega) ?_
 · intro k mk
   have t1:bX (.int k)=true:=rfl
   have t2:decide (0<=k)=true:=decide_eq_true (k0 k mk)
   simp_arith only[af,ac,DM,bI.eq,t1,t2]
 · have e:ks.map (fun _=>Hq true)=(ks.map fun _=>true).map .bool:=by rw[Gu];rfl
   have ea:(ks.map fun _=>true).all id=true:=by simp
   rw[e]
   simp_arith only[af,ac,ea,uu,ck]
   refine gj (uG ks) ?_
   rw[show(ks.sum==w)=true by rw[hs];exact beq_self_eq_true w]
   exact az hQ
theorem kA(h:GA.Fg p n r):dY p n (aA r)=true:=by
 show(decide (((r.map FW).length:Int)=n)&&(r.map FW).all fun x=>fJ x p)=true
 rw[Fq,h.1,JZ]
 simp only[decide_true,Lq,GH]
 intro x mx
 obtain⟨i,hi,rfl⟩:=Hs mx
 have:=h.2 i (by rw[<- h.1];exact hi)
 rw[GA.gD hi]at this
 show fJ (.int r[i]) p=true
 simp[fJ,bX,fX,this]
theorem kz{r:Nat}{X:List (List Int)}(hl:X.length=r)(h:∀x∈X,GA.Fg p c x):iG p r c (C9 X)=true:=by
 show(decide (((X.map aA).length:Int)=r)&&(X.map aA).all (dY p c))=true
 rw[Fq,hl,JZ]
 simp only[decide_true,Lq,GH]
 intro x mx
 exact kA (h x mx)
noncomputable def aY:List W->(Fd->Prop)->Prop:=fun ws Q=>∃(p:Int)(ts:List (List (List Int)))(w:Int)(xs:List (List (List Int))),ws=[.d (.int p),.d (bK ts),.d (.int w),.d (bK xs)]/\((∃m:Int,Pm p m/\dI p m.toNat ts/\m.toNat=hdM ts/\1<=w/\w<=m)/\(xs.length=(shp ts.length w.toNat).length)/\(∀x∈xs,x.length=hdM ts/\∀r∈x,GA.Fg p w.toNat r))/\Q (.bool true)
theorem aY.mono:∀ws (Q Q':Fd->Prop),(∀d,Q d->Q' d)->aY ws Q->aY ws Q':=fun _ _ _ h_=>Fu fun _=>Fu fun _=>Fu fun _=>Fu fun _=>Fo (Fo (h_ _))
theorem aY.len:∀ws (Q:Fd->Prop),aY ws Q->ws.length=4:=fun _ _ h_=>by obtain⟨_,_,_,_,e_,_⟩:=h_;subst e_;rfl
theorem aY.eq(p:Int)(ts:List (List (List Int)))(w:Int)(xs:List (List (List Int)))(hm:∃m:Int,Pm p m/\dI p m.toNat ts/\m.toNat=hdM ts/\1<=w/\w<=m)(xl:xs.length=(shp ts.length w.toNat).length)(xi:∀x∈xs,x.length=hdM ts/\∀r∈x,GA.Fg p w.toNat r):aY [.d (.int p),.d (bK ts),.d (.int w),.d (bK xs)]=VL.ret (.bool true:Fd):=by
 refine ae fun Q=>⟨?_,fun q_=>⟨p,ts,w,xs,rfl,⟨hm,xl,xi⟩,q_⟩⟩
 rintro⟨p',ts',w',xs',e_,_,q_⟩
 simp_arith only[cX]at e_
 obtain⟨rfl,rfl,rfl,rfl⟩:=e_
 exact q_
theorem fD:FnScope ["p", "tables", "w", "thing"] ["p", "tables", "w", "thing"] (defScope (C5 46)):=⟨rfl,rfl,rfl,by decide +kernel,rfl,by decide +kernel,by decide +kernel⟩
theorem d_are_inverses(Fn:FnIn K mg "are_inverses" (C5 46) ["p", "tables", "w", "thing"])(Z:Bz mg)(d_is_table:∀rl,Dfn P w K mg base rl "is_table" ["p", "rows", "columns", "thing"] 4 bJ)(d_shapes_of:∀rl,Dfn P w K mg base rl "shapes_of" ["many", "w"] 4 (ax 4))   : Dfn P w K mg base rl "are_inverses" ["p", "tables", "w", "thing"] 5 aY:=by
 have sc:=fD
 refine Dfn.of Fn sc (aY.mono) (aY.len) (fun cdv A outer s H E hr=>(aj (bL (EG.pb (fu (cW (de (gH Z.isinstance_ (aa (vn 3) (aa (gW Z.tuple_ (by rfl)) ab))))) (dM (aO (eP hr.units) ce (aH _) (cy Z.len_ (aa (vn 3) ab)) (cy Z.len_ (aa (aw (d_shapes_of _) (hr.mono (by decide)) (aa (cy Z.len_ (aa (vn 1) ab)) (aa (vn 2) ab))) ab)))))) (ai (av c_)) a_)
  (ai (av (v_all Z.all_ (aa (aF ["inverse", "p", "tables", "w"] [none,some 0,some 1,some 2] rfl (cV (vn 3)) (fun _=>(aq 0 (show Gp (["inverse", "p", "tables", "w"]:List Str) by decide +kernel))) (fun _=>aU) (fun _=>(aw (d_is_table _) (hr.mono (by decide)) (aa (vn 1) (aa (cy Z.len_ (aa (eX (vn 2) ah) ab)) (aa (vn 3) (aa (vn 0) ab))))))) ab)))))) ?_
 rintro ws Q ⟨p,ts,w,xs,rfl,⟨hm,xl,xi⟩,hQ⟩
 refine ay ?_
 have sz:=FG
 obtain⟨m,pm,ht,hh,w1,wm⟩:=hm
 obtain⟨w40,p2,p7,m1,m5⟩:=gc pm
 obtain⟨t1,t4,htt⟩:=id ht
 have en:ax 4 [.d (.int (ts.length:Int)),.d (.int w)]=_:=ax.eqn 3 (ts.length:Int) w (by omega)
 rw[Gy]at en
 have en0:ts.length=(ts.length-1)+1:=by omega
 have l216:(shp ts.length w.toNat).length<=216:=by
  rw[en0]
  exact Gq (eA (ts.length-1) w.toNat (by omega)) (Gq (GP (by decide) (show ts.length-1<=3 by omega)) (by decide))
 have e0:atI ts 0=some (ts.headD []):=by
  cases ts with
  | nil=>simp at t1
  | cons a l=>exact bQ (j:=0) rfl
 simp_arith only[af,ac,bJ.eq,eL,dm,en,e0,dX,dE,xl]
 rw[if_neg (by rw[show fX (bK xs) "tuple" = true from rfl];simp)]
 refine gj (dN xs) (cb (xs:=xs) (enc:=C9) (fun _=>.bool true) rfl ?_ (by omega) ?_)
 · intro x mx
   obtain⟨xl',xr⟩:=xi x mx
   have wc:((w.toNat:Nat):Int)=w:=IP (by omega)
   have q1:=kz xl' xr
   rw[wc]at q1
   have r1:1<=((hdM ts:Nat):Int):=by omega
   have hz:∀ys,C9 x = .tuple ys->ys.length<=60/\∀y∈ys,∀zs,y = .tuple zs->zs.length<=60:=by
    intro ys e
    cases e
    refine⟨by rw[Fq];omega,fun y my zs e=>?_⟩
    obtain⟨r,mr,rfl⟩:=Gf.mp my
    cases e
    rw[Fq,(xr r mr).1]
    omega
   simp_arith only[af,ac,DM,e0,dX,dE,bJ.eq,q1]
 · have e:xs.map (fun _=>Hq true)=(xs.map fun _=>true).map .bool:=by rw[Gu];rfl
   have ea:(xs.map fun _=>true).all id=true:=by simp
   rw[e]
   simp_arith only[af,ac,ea]
   exact az hQ
theorem gT{m:Nat}{w:Int}(ht:dI p m ts)(kl:ks.length=ts.length)(k0:∀k∈ks,0<=k)(hs:ks.sum=w)(wm:w<=m):((rowsT ts ks).length:Int)=w:=by
 rw[gS ts ks m (fun t mt=>(ht.2.2 t mt).1) kl (fun k mk=>⟨k0 k mk,by have:=nG k0 k mk;omega⟩),hs]
theorem jW{w:Int}(n1:1<=n)(w0:0<=w)(mk:ks∈shp n w.toNat):ks.length=n/\(∀k∈ks,0<=k)/\ks.sum=w:=by
 have e:n=(n-1)+1:=by omega
 rw[e]at mk
 obtain⟨a,b,c⟩:=gL _ _ ks mk
 exact⟨by omega,b,by omega⟩
theorem getD_mem{xs:List α}{d:α}(h:j<xs.length):xs.getD j d∈xs:=by rw[Fi,Fp h];exact Gm h
theorem nJ(t:List (List Int)):Ig (t.map aA)=true:=by
 induction t with
 | nil=>rfl
 | cons r t ih=>rw[FV];show(GS (.tuple (r.map .int))&&_)=true;simp[GS,ih,fS]
theorem rR(t:List (List Int)):HA (t.map aA)<=1:=by
 induction t with
 | nil=>simp[HA]
 | cons r t ih=>rw[FV];show max (HY (.tuple (r.map .int))) _<=1;simp[HY,gu];omega
theorem wQ(t:List (List Int)):G3 (C9 t)=true:=by
 have h:=rR t
 have l:=nJ t
 show G3 (.tuple (t.map aA))=true
 simp[G3,GS,HY,l]
 omega
theorem x5(t:List (List Int)):IC (C9 t) (C9 t)=true:=SeqAt.eqv_refl _ (by show GS (.tuple (t.map aA))=true;simp[GS,nJ])
theorem rQ{xs:List Int}(hx:xs.length=n)(hy:ys.length=n):D2 xs ys=GA.Sg n fun c=>xs.getD c 0*ys.getD c 0:=by
 unfold D2 GA.Sg
 congr 1
 refine Ip (by simp[hx,hy]) fun i h1 h2=>?_
 have hi:i<n:=by simp[hx,hy]at h1;exact h1
 rw[G5,G5,Km,HZ,GA.gD (show i<xs.length by omega),GA.gD (show i<ys.length by omega)]
theorem rT{X:List (List Int)}{w k:Nat}(hl:X.length=c)(c1:1<=c)(hr:∀r∈X,r.length=w)(hk:k<w):(eR X).getD k []=X.map fun r=>r.getD k 0:=by
 have e:(X.getD 0 []).length=w:=hr _ (getD_mem (by omega))
 unfold eR
 rw[e,Fi,Gg,IN hk]
 rfl
theorem pM{w:Nat}{X:List (List Int)}(p2:2<=p)(C1:1<=C)(hT:T.length=w)(ht:∀t∈T,t.length=C)(h:GA.IsRi p C T X):yp p T X=(FJ w).map fun i=>GA.uni w i:=by
 obtain⟨xl,xf,xr⟩:=h
 rw[hT]at xf xr
 have hr:∀r∈X,r.length=w:=fun r mr=>(xf r mr).1
 have cl:(eR X).length=w:=by unfold eR;rw[Fq,GZ];exact hr _ (getD_mem (by omega))
 unfold yp
 refine Ip (by simp[hT]) fun i h1 h2=>?_
 have hi:i<w:=by simpa using h2
 rw[G5,G5,HZ]
 unfold D_
 refine Ip (by rw[Fq,cl,GA.uni_len]) fun k g1 g2=>?_
 have hk:k<w:=by rw[GA.uni_len]at g2;exact g2
 rw[G5]
 have e1:(eR X)[k]'(by rw[cl];exact hk)=X.map fun r=>r.getD k 0:=by
  have:=rT xl C1 hr hk
  rw[Fi,Fp (by rw[cl];exact hk)]at this
  exact this
 have e2:(GA.uni w i)[k]'(by rw[GA.uni_len];exact hk)=if k=i then 1 else 0:=by
  have:=GA.uni_at (n:=w) (a:=i) hk
  rwa [GA.gD (by rw[GA.uni_len];exact hk)]at this
 have eT:T[i]'(by omega)=T.getD i []:=by rw[Fi,Fp (by omega)];rfl
 rw[e1,e2,rQ (n:=C) (by rw[Fq,xl]) (by rw[eT];exact ht _ (getD_mem (by omega))),eT]
 have q:=xr i hi k hk
 have e3:(GA.Sg C fun c=>(X.map fun r=>r.getD k 0).getD c 0*(T.getD i []).getD c 0)=GA.Sg C fun c=>(T.getD i []).getD c 0*(X.getD c []).getD k 0:=GA.Sg_eq _ fun c hc=>by
  rw[LF]
  congr 1
  rw[Fi,Gg,Fp (show c<X.length by omega),Fi (l:=X),Fp (show c<X.length by omega)];rfl
 rw[e3]
 have fi:=GA.fm_in (show 0<p by omega) (GA.Sg C fun c=>(T.getD i []).getD c 0*(X.getD c []).getD k 0)
 refine((GA.Cg.mod _).trans q).eq fi.1 fi.2 ?_ ?_
 · split<;>decide
 · split<;>omega
theorem u_.xi{m:Nat}{w:Int}(ht:dI p m ts)(hh:m=hdM ts)(w1:1<=w)(wm:w<=m){xs:List (List (List Int))}(xl:xs.length=(shp ts.length w.toNat).length)(h:∀j (h:j<(shp ts.length w.toNat).length),GA.IsRi p (hdM ts) (rowsT ts (shp ts.length w.toNat)[j]) (xs.getD j [])) :
 ∀x∈xs,x.length=hdM ts/\∀r∈x,GA.Fg p w.toNat r:=fun x mx=>by
 obtain⟨j,hj,rfl⟩:=Hs mx
 have q:=h j (by omega)
 have ex:xs.getD j []=xs[j]:=by rw[Fi,Fp hj];rfl
 rw[ex]at q
 obtain⟨kl,k0,ks⟩:=jW ht.1 (by omega) (Gm (show j<(shp ts.length w.toNat).length by omega))
 have rl:=gT ht kl k0 ks wm
 refine⟨q.1,fun r mr=>?_⟩
 have:=q.2.1 r mr
 rwa [show(rowsT ts (shp ts.length w.toNat)[j]).length=w.toNat by omega]at this
noncomputable def aX:List W->(Fd->Prop)->Prop:=fun ws Q=>∃(p:Int)(ts:List (List (List Int)))(w:Int)(d:Fd),ws=[.d (.int p),.d (bK ts),.d (.int w),.d d]/\((∃m:Int,Pm p m/\dI p m.toNat ts/\m.toNat=hdM ts/\1<=w/\w<=m)/\(u_ p ts w d))/\Q (.bool true)
theorem aX.mono:∀ws (Q Q':Fd->Prop),(∀d,Q d->Q' d)->aX ws Q->aX ws Q':=fun _ _ _ h_=>Fu fun _=>Fu fun _=>Fu fun _=>Fu fun _=>Fo (Fo (h_ _))
theorem aX.len:∀ws (Q:Fd->Prop),aX ws Q->ws.length=4:=fun _ _ h_=>by obtain⟨_,_,_,_,e_,_⟩:=h_;subst e_;rfl
theorem aX.eq(p:Int)(ts:List (List (List Int)))(w:Int)(d:Fd)(hm:∃m:Int,Pm p m/\dI p m.toNat ts/\m.toNat=hdM ts/\1<=w/\w<=m)(hd:u_ p ts w d):aX [.d (.int p),.d (bK ts),.d (.int w),.d d]=VL.ret (.bool true:Fd):=by
 refine ae fun Q=>⟨?_,fun q_=>⟨p,ts,w,d,rfl,⟨hm,hd⟩,q_⟩⟩
 rintro⟨p',ts',w',d',e_,_,q_⟩
 simp_arith only[cX]at e_
 obtain⟨rfl,rfl,rfl,rfl⟩:=e_
 exact q_
theorem fB:FnScope ["p", "tables", "w", "thing"] ["p", "tables", "w", "thing"] (defScope (C5 47)):=⟨rfl,rfl,rfl,by decide +kernel,rfl,by decide +kernel,by decide +kernel⟩
theorem d_is_net_paper(Fn:FnIn K mg "is_net_paper" (C5 47) ["p", "tables", "w", "thing"])(Z:Bz mg)(d_are_inverses:∀rl,Dfn P w K mg base rl "are_inverses" ["p", "tables", "w", "thing"] 5 aY)(d_is_shape:∀rl,Dfn P w K mg base rl "is_shape" ["s", "w", "thing"] 2 bU)(d_is_figures:∀rl,Dfn P w K mg base rl "is_figures" ["p", "many", "thing"] 3 be)   : Dfn P w K mg base rl "is_net_paper" ["p", "tables", "w", "thing"] 6 aX:=by
 have sc:=fB
 refine Dfn.of Fn sc (aX.mono) (aX.len) (fun cdv A outer s H E hr=>(aj (bL (cW (de (gH Z.isinstance_ (aa (vn 3) (aa (gW Z.tuple_ (by rfl)) ab))))) (ai (av c_)) a_)
  (aj (bL (EG.pb (qN (aO (eQ hr.units) ce (aH _) (cy Z.len_ (aa (vn 3) ab)) ah) (lS (aO pK jL (aH _) (eX (vn 3) ah) fF)))) (ai (av (aw (d_are_inverses _) (hr.mono (by decide)) (aa (vn 0) (aa (vn 1) (aa (vn 2) (aa (eX (vn 3) ah) ab))))))) a_)
  (aj (bL (EG.pb (qN (aO (eQ hr.units) ce (aH _) (cy Z.len_ (aa (vn 3) ab)) ah) (lS (aO pK jL (aH _) (eX (vn 3) ah) fF)))) (ai (av (v_and (aw (d_is_shape _) (hr.mono (by decide)) (aa (cy Z.len_ (aa (vn 1) ab)) (aa (vn 2) (aa (eX (vn 3) ah) ab)))) (kP (aw (d_is_figures _) (hr.mono (by decide)) (aa (vn 0) (aa (vn 2) (aa (eX (vn 3) ah) ab)))))))) a_)
  (ai (av c_)))))) ?_
 rintro ws Q ⟨p,ts,w,d,rfl,⟨hm,hd⟩,hQ⟩
 refine ay ?_
 have hm0:=hm
 have sz:=FG
 obtain⟨m,pm,ht,hh,w1,wm⟩:=hm
 obtain⟨w40,p2,p7,m1,m5⟩:=gc pm
 obtain⟨t1,t4,htt⟩:=id ht
 have en:ax 4 [.d (.int (ts.length:Int)),.d (.int w)]=_:=ax.eqn 3 (ts.length:Int) w (by omega)
 rw[Gy]at en
 have en0:ts.length=(ts.length-1)+1:=by omega
 have l216:(shp ts.length w.toNat).length<=216:=by
  rw[en0]
  exact Gq (eA (ts.length-1) w.toNat (by omega)) (Gq (GP (by decide) (show ts.length-1<=3 by omega)) (by decide))
 have e0:atI ts 0=some (ts.headD []):=by
  cases ts with
  | nil=>simp at t1
  | cons a l=>exact bQ (j:=0) rfl
 rcases hd with⟨hnet,xs,rfl,xl,hx⟩|⟨hnet,ks,h,rfl,mk,hg⟩
 · have xi:=u_.xi ht hh w1 (by omega) xl hx
   simp_arith only[af,ac,aY.eq,bU.eq,be.eq,eL,aY.eq]
   rw[show fX (FY [Jm (Str.ofString "net"),bK xs]) "tuple" = true from rfl]
   exact az hQ
 · obtain⟨kl,k0,ksum⟩:=jW t1 (by omega) mk
   have rl:=gT ht kl k0 ksum (by omega)
   have kl':(ks.length:Int)=(ts.length:Int):=by omega
   have l8:ks.length<=8:=by omega
   have f1:=kA hg.fg
   rw[rl]at f1
   have hz:∀xs,aA h = .tuple xs->xs.length<=60:=by
    intro xs e
    cases e
    rw[Fq,hg.fg.1]
    omega
   simp_arith only[af,ac,aY.eq,bU.eq,be.eq,eL,dm]
   rw[show fX (FY [Jm (Str.ofString "none"),aA ks,aA h]) "tuple" = true from rfl,if_neg (by decide),if_neg (by decide)]
   have ea2:atI [Jm (Str.ofString "none"),aA ks,aA h] 2=some (aA h):=rfl
   simp_arith only[af,ac,ea2,be.eq,f1]
   exact az hQ
theorem wL{m:Mo Fl}{Q:Fl->Prop}(h:sq m (fun ρ=>VL.ret (.nx ρ)) Q):m Q:=by
 have h:m (fun r=>(match r with | .nx ρ=>VL.ret (.nx ρ) | .rt w=>VL.ret (.rt w) | .bk ρ=>VL.ret (.bk ρ) | .ct ρ=>VL.ret (.ct ρ):Mo Fl) Q):=h
 have e:(fun r=>(match r with | .nx ρ=>VL.ret (.nx ρ) | .rt w=>VL.ret (.rt w) | .bk ρ=>VL.ret (.bk ρ) | .ct ρ=>VL.ret (.ct ρ):Mo Fl) Q)=Q:=funext fun r=>by cases r<;>rfl
 rwa [e]at h
theorem qG{h:List Int}{v:Nat}(p2:2<=p)(T1:1<=T.length)(hT:∀t∈T,t.length=C)(g:GA.Hg p C T h)(hv:v<C):(D_ p (eR T) h).getD v 0=0:=by
 have e0:(T.getD 0 []).length=C:=hT _ (getD_mem T1)
 have cl:(eR T).length=C:=by unfold eR;rw[Fq,GZ,e0]
 have ec:=rT rfl T1 hT hv
 unfold D_
 rw[GA.gD (by rw[Fq,cl];exact hv),G5]
 have e1:(eR T)[v]'(by rw[cl];exact hv)=T.map fun r=>r.getD v 0:=by
  rw[Fi,Fp (by rw[cl];exact hv)]at ec
  exact ec
 rw[e1,rQ (n:=T.length) (by rw[Fq]) g.fg.1]
 have q:=g.no v hv
 have e3:(GA.Sg T.length fun c=>(T.map fun r=>r.getD v 0).getD c 0*h.getD c 0)=GA.Sg T.length fun k=>h.getD k 0*(T.getD k []).getD v 0:=GA.Sg_eq _ fun c hc=>by
  rw[LF]
  congr 1
  rw[Fi,Gg,Fp hc,Fi (l:=T),Fp hc];rfl
 rw[e3]
 have fi:=GA.fm_in (show 0<p by omega) (GA.Sg T.length fun k=>h.getD k 0*(T.getD k []).getD v 0)
 exact((GA.Cg.mod _).trans q).eq fi.1 fi.2 (by decide) (by omega)
theorem D1(S:List (List Int))(xs:List (List (List Int))):cD (fm (S.map aA) (xs.map C9))=((S.zip xs).zipIdx).map fun z=>FY [.int (z.2:Nat),.tuple [aA z.1.1,C9 z.1.2]]:=by
 rw[gA aA C9 S xs,dh]
noncomputable def aM:List W->(Fd->Prop)->Prop:=fun ws Q=>∃(p:Int)(ts:List (List (List Int)))(w:Int)(xs:List (List (List Int))),ws=[.d (.int p),.d (bK ts),.d (.int w),.d (bK xs)]/\((∃m:Int,Pm p m/\dI p m.toNat ts/\m.toNat=hdM ts/\1<=w/\w<=m)/\(xs.length=(shp ts.length w.toNat).length)/\(∀j (h:j<(shp ts.length w.toNat).length),GA.IsRi p (hdM ts) (rowsT ts (shp ts.length w.toNat)[j]) (xs.getD j [])))/\Q (.none)
theorem aM.mono:∀ws (Q Q':Fd->Prop),(∀d,Q d->Q' d)->aM ws Q->aM ws Q':=fun _ _ _ h_=>Fu fun _=>Fu fun _=>Fu fun _=>Fu fun _=>Fo (Fo (h_ _))
theorem aM.len:∀ws (Q:Fd->Prop),aM ws Q->ws.length=4:=fun _ _ h_=>by obtain⟨_,_,_,_,e_,_⟩:=h_;subst e_;rfl
theorem aM.eq(p:Int)(ts:List (List (List Int)))(w:Int)(xs:List (List (List Int)))(hm:∃m:Int,Pm p m/\dI p m.toNat ts/\m.toNat=hdM ts/\1<=w/\w<=m)(xl:xs.length=(shp ts.length w.toNat).length)(hx:∀j (h:j<(shp ts.length w.toNat).length),GA.IsRi p (hdM ts) (rowsT ts (shp ts.length w.toNat)[j]) (xs.getD j [])):aM [.d (.int p),.d (bK ts),.d (.int w),.d (bK xs)]=VL.ret (.none:Fd):=by
 refine ae fun Q=>⟨?_,fun q_=>⟨p,ts,w,xs,rfl,⟨hm,xl,hx⟩,q_⟩⟩
 rintro⟨p',ts',w',xs',e_,_,q_⟩
 simp_arith only[cX]at e_
 obtain⟨rfl,rfl,rfl,rfl⟩:=e_
 exact q_
theorem eC:FnScope ["p", "tables", "w", "inverses", "shapes", "number", "shape", "inverse"] ["p", "tables", "w", "inverses"] (defScope (C5 48)):=⟨rfl,rfl,rfl,by decide +kernel,rfl,by decide +kernel,by decide +kernel⟩
theorem d_check_inverses(Fn:FnIn K mg "check_inverses" (C5 48) ["p", "tables", "w", "inverses"])(Z:Bz mg)(d_shapes_of:∀rl,Dfn P w K mg base rl "shapes_of" ["many", "w"] 4 (ax 4))(d_table_times:∀rl,Dfn P w K mg base rl "table_times" ["p", "one", "other"] 3 bh)(d_unit_table:∀rl,Dfn P w K mg base rl "unit_table" ["many"] 2 bc)(d_rows_of:∀rl,Dfn P w K mg base rl "rows_of" ["tables", "shape"] 1 bP)   : Dfn P w K mg base rl "check_inverses" ["p", "tables", "w", "inverses"] 5 aM:=by
 have sc:=eC
 refine Dfn.of Fn sc (aM.mono) (aM.len) (fun cdv A outer s H E hr=>(aj (aD 4 sc.nd (aw (d_shapes_of _) (hr.mono (by decide)) (aa (cy Z.len_ (aa (vn 1) ab)) (aa (vn 2) ab))))
  (ai (bD [5,6,7] GB rfl (ib Z.enumerate_ Z.zip_ (aa (vn 4) (aa (vn 3) ab))) (db (n:=2) rfl (aI (aq 5 sc.nd) (aI (db (n:=2) rfl (aI (aq 6 sc.nd) (aI (aq 7 sc.nd) cj))) cj))) (ai (bL (aO (eP hr.units) ce (aH _) (aw (d_table_times _) (hr.mono (by decide)) (aa (vn 0) (aa (aw (d_rows_of _) (hr.mono (by decide)) (aa (vn 1) (aa (vn 6) ab))) (aa (vn 7) ab)))) (aw (d_unit_table _) (hr.mono (by decide)) (aa (vn 2) ab))) (ai dJ) a_)))))) ?_
 rintro ws Q ⟨p,ts,w,xs,rfl,⟨hm,xl,hx⟩,hQ⟩
 refine ay ?_
 have sz:=FG
 obtain⟨m,pm,ht,hh,w1,wm⟩:=hm
 obtain⟨w40,p2,p7,m1,m5⟩:=gc pm
 obtain⟨t1,t4,htt⟩:=id ht
 have en:ax 4 [.d (.int (ts.length:Int)),.d (.int w)]=_:=ax.eqn 3 (ts.length:Int) w (by omega)
 rw[Gy]at en
 have en0:ts.length=(ts.length-1)+1:=by omega
 have l216:(shp ts.length w.toNat).length<=216:=by
  rw[en0]
  exact Gq (eA (ts.length-1) w.toNat (by omega)) (Gq (GP (by decide) (show ts.length-1<=3 by omega)) (by decide))
 have e0:atI ts 0=some (ts.headD []):=by
  cases ts with
  | nil=>simp at t1
  | cons a l=>exact bQ (j:=0) rfl
 simp_arith only[af,ac,bh.eq,bc.eq,bP.eq,dm,en,zK]
 refine gj (a:=fm ((shp ts.length w.toNat).map aA) (xs.map C9)) rfl ?_
 rw[D1]
 refine wL ?_
 refine gt (xs:=((shp ts.length w.toNat).zip xs).zipIdx) (enc:=fun z=>FY [.int (z.2:Nat),.tuple [aA z.1.1,C9 z.1.2]]) (fun _ ρ=>ρ=[some (.d (.int p)),some (.d (bK ts)),some (.d (.int w)),some (.d (bK xs)),some (.d (.list ((shp ts.length w.toNat).map aA))),none,none,none]) rfl rfl ?_ ?_
 · rintro i hi ρ rfl K hK
   have hz:i<((shp ts.length w.toNat).zip xs).length:=by rw[HB]at hi;exact hi
   have hs:i<(shp ts.length w.toNat).length:=by rw[JN]at hz;omega
   have ez:(((shp ts.length w.toNat).zip xs).zipIdx)[i]=(((shp ts.length w.toNat)[i],xs.getD i []),i):=by
    rw[Lb,Km,Fi,Fp (show i<xs.length by omega)];simp
   rw[ez]
   have q:=hx i hs
   obtain⟨kl,k0,ksum⟩:=jW t1 (by omega) (Gm hs)
   generalize (shp ts.length w.toNat)[i]=ks at *
   generalize xs.getD i []=x at *
   have rl:=gT ht kl k0 ksum (by omega)
   obtain⟨ok,c0⟩:=jm ht (by omega) kl k0 (by omega) (by omega)
   have t8:∀t∈ts,t.length<=8:=fun t mt=>by have:=(htt t mt).1;omega
   have rt8:Ef p (rowsT ts ks):=⟨ok.2.1,fun r mr=>by
    have f:=ok.2.2.2 r mr
    have f1:=f.1
    refine⟨by omega,fun y my=>?_⟩
    obtain⟨j,hj,rfl⟩:=Hs my
    have:=f.2 j (by omega)
    rw[GA.gD hj]at this
    omega⟩
   have xl8:x.length=m.toNat:=by rw[q.1,<- hh]
   have xw:∀r∈x,r.length=w.toNat:=fun r mr=>by have:=(q.2.1 r mr).1;omega
   have x0:(x.getD 0 []).length=w.toNat:=xw _ (getD_mem (by omega))
   have rx:rZ x:=⟨by omega,by omega,w.toNat,by omega,xw⟩
   have cx:Ef p (eR x):=by
    refine⟨by unfold eR;rw[Fq,GZ,x0];omega,fun row mr=>?_⟩
    obtain⟨k,mk',rfl⟩:=Gf.mp mr
    refine⟨by rw[Fq];omega,fun y my=>?_⟩
    obtain⟨r,mr,rfl⟩:=Gf.mp my
    have hk:k<(x.getD 0 []).length:=GR.mp mk'
    have:=(q.2.1 r mr).2 k (by omega)
    omega
   have w8:w<=8:=by omega
   have w0:0<=w:=by omega
   have mu:=pM (w:=w.toNat) p2 (by omega) (by omega) (fun t mt=>by have:=(ok.2.2.2 t mt).1;omega) q
   have s1:=wQ ((FJ w.toNat).map fun i=>GA.uni w.toNat i)
   have s2:=x5 ((FJ w.toNat).map fun i=>GA.uni w.toNat i)
   simp_arith only[af,ac,bP.eq,bh.eq,bc.eq,mu,s1,s2]
   exact hK _ (dg (by simp[fo]))
 · rintro ρ rfl
   exact hQ
noncomputable def aE:List W->(Fd->Prop)->Prop:=fun ws Q=>∃(p:Int)(ts:List (List (List Int)))(ks h:List Int),ws=[.d (.int p),.d (bK ts),.d (aA ks),.d (aA h)]/\((∃m w:Int,Pm p m/\dI p m.toNat ts/\m.toNat=hdM ts/\1<=w/\w<=m/\ks∈shp ts.length w.toNat)/\(GA.Hg p (hdM ts) (rowsT ts ks) h))/\Q (.none)
theorem aE.mono:∀ws (Q Q':Fd->Prop),(∀d,Q d->Q' d)->aE ws Q->aE ws Q':=fun _ _ _ h_=>Fu fun _=>Fu fun _=>Fu fun _=>Fu fun _=>Fo (Fo (h_ _))
theorem aE.len:∀ws (Q:Fd->Prop),aE ws Q->ws.length=4:=fun _ _ h_=>by obtain⟨_,_,_,_,e_,_⟩:=h_;subst e_;rfl
theorem aE.eq(p:Int)(ts:List (List (List Int)))(ks h:List Int)(hm:∃m w:Int,Pm p m/\dI p m.toNat ts/\m.toNat=hdM ts/\1<=w/\w<=m/\ks∈shp ts.length w.toNat)(hg:GA.Hg p (hdM ts) (rowsT ts ks) h):aE [.d (.int p),.d (bK ts),.d (aA ks),.d (aA h)]=VL.ret (.none:Fd):=by
 refine ae fun Q=>⟨?_,fun q_=>⟨p,ts,ks,h,rfl,⟨hm,hg⟩,q_⟩⟩
 rintro⟨p',ts',ks',h',e_,_,q_⟩
 simp_arith only[cX]at e_
 obtain⟨rfl,rfl,rfl,rfl⟩:=e_
 exact q_
theorem dr:FnScope ["p", "tables", "shape", "figures", "column"] ["p", "tables", "shape", "figures"] (defScope (C5 49)):=⟨rfl,rfl,rfl,by decide +kernel,rfl,by decide +kernel,by decide +kernel⟩
theorem d_check_combination(Fn:FnIn K mg "check_combination" (C5 49) ["p", "tables", "shape", "figures"])(Z:Bz mg)(d_first_filled:∀rl,Dfn P w K mg base rl "first_filled" ["figures"] 1 aQ)(d_combined:∀rl,Dfn P w K mg base rl "combined" ["p", "table", "figures"] 3 bW)(d_rows_of:∀rl,Dfn P w K mg base rl "rows_of" ["tables", "shape"] 1 bP)   : Dfn P w K mg base rl "check_combination" ["p", "tables", "shape", "figures"] 4 aE:=by
 have sc:=dr
 refine Dfn.of Fn sc (aE.mono) (aE.len) (fun cdv A outer s H E hr=>(aj (bL (aO rL qM (aH _) (aw (d_first_filled _) (hr.mono (by decide)) (aa (vn 3) ab)) eN) (ai dJ) a_)
  (aj (aD 4 sc.nd (aw (d_first_filled _) (hr.mono (by decide)) (aa (aw (d_combined _) (hr.mono (by decide)) (aa (vn 0) (aa (aw (d_rows_of _) (hr.mono (by decide)) (aa (vn 1) (aa (vn 2) ab))) (aa (vn 3) ab)))) ab)))
  (ai (bL (aO jr iZ (aH _) (vn 4) eN) (ai dJ) a_))))) ?_
 rintro ws Q ⟨p,ts,ks,h,rfl,⟨hm,hg⟩,hQ⟩
 refine ay ?_
 have sz:=FG
 obtain⟨m,w,pm,ht,hh,w1,wm,mk⟩:=hm
 obtain⟨w40,p2,p7,m1,m5⟩:=gc pm
 obtain⟨t1,t4,htt⟩:=id ht
 obtain⟨kl,k0,ksum⟩:=jW t1 (by omega) mk
 have rl:=gT ht kl k0 ksum (by omega)
 have hl:h.length<=16:=by rw[hg.fg.1];omega
 simp_arith only[af,ac,aQ.eq]
 (with_reducible (first|refine aL fun o ho=>?_|refine bg fun o ho=>?_))
 cases o with
 | none =>
   obtain⟨k,hk,ne⟩:=hg.ne
   exact absurd (ho k (by rw[hg.fg.1];exact hk)) ne
 | some v =>
   obtain⟨ok,c0⟩:=jm ht (by omega) kl k0 (by omega) (by omega)
   have t8:∀t∈ts,t.length<=8:=fun t mt=>by have:=(htt t mt).1;omega
   have r8:∀r∈rowsT ts ks,r.length=m.toNat:=fun r mr=>by have:=(ok.2.2.2 r mr).1;omega
   have rc:rZ (rowsT ts ks):=⟨ok.1,ok.2.1,m.toNat,by omega,r8⟩
   have hf:oF h:=⟨by rw[hg.fg.1];omega,fun x mx=>by
    obtain⟨i,hi,rfl⟩:=Hs mx
    have:=hg.fg.2 i (by rw[<- hg.fg.1];exact hi)
    rw[GA.gD hi]at this
    omega⟩
   have h3:Ef p (eR (rowsT ts ks)):=by
    refine⟨by unfold eR;rw[Fq,GZ,c0];omega,fun row mr=>?_⟩
    obtain⟨k,mk',rfl⟩:=Gf.mp mr
    refine⟨by rw[Fq];exact ok.2.1,fun x mx=>?_⟩
    obtain⟨r,mr,rfl⟩:=Gf.mp mx
    have hk:k<(rowsT ts ks |>.getD 0 []).length:=GR.mp mk'
    have:=(ok.2.2.2 r mr).2 k hk
    omega
   have hl2:(D_ p (eR (rowsT ts ks)) h).length<=16:=by unfold D_ eR;rw[Fq,Fq,GZ,c0];omega
   simp_arith only[af,ac,rJ,bP.eq,bW.eq,aQ.eq]
   (with_reducible (first|refine aL fun o2 ho2=>?_|refine bg fun o2 ho2=>?_))
   cases o2 with
   | some v2 =>
     have hv:v2<m.toNat:=by
      have:=ho2.1
      unfold D_ eR at this
      rw[Fq,Fq,GZ,c0]at this
      exact this
     exact absurd (qG p2 ok.1 r8 (by rw[hh];exact hg) hv) ho2.2
   | none =>
     simp_arith only[af,ac,rK]
     exact hQ
noncomputable def bS:List W->(Fd->Prop)->Prop:=fun ws Q=>∃(p:Int)(ts:List (List (List Int)))(w:Int)(d:Fd),ws=[.d (.int p),.d (bK ts),.d (.int w),.d d]/\((∃m:Int,Pm p m/\dI p m.toNat ts/\m.toNat=hdM ts/\1<=w/\w<=m)/\(u_ p ts w d))/\Q (.bool true)
theorem bS.mono:∀ws (Q Q':Fd->Prop),(∀d,Q d->Q' d)->bS ws Q->bS ws Q':=fun _ _ _ h_=>Fu fun _=>Fu fun _=>Fu fun _=>Fu fun _=>Fo (Fo (h_ _))
theorem bS.len:∀ws (Q:Fd->Prop),bS ws Q->ws.length=4:=fun _ _ h_=>by obtain⟨_,_,_,_,e_,_⟩:=h_;subst e_;rfl
theorem bS.eq(p:Int)(ts:List (List (List Int)))(w:Int)(d:Fd)(hm:∃m:Int,Pm p m/\dI p m.toNat ts/\m.toNat=hdM ts/\1<=w/\w<=m)(hd:u_ p ts w d):bS [.d (.int p),.d (bK ts),.d (.int w),.d d]=VL.ret (.bool true:Fd):=by
 refine ae fun Q=>⟨?_,fun q_=>⟨p,ts,w,d,rfl,⟨hm,hd⟩,q_⟩⟩
 rintro⟨p',ts',w',d',e_,_,q_⟩
 simp_arith only[cX]at e_
 obtain⟨rfl,rfl,rfl,rfl⟩:=e_
 exact q_
theorem jc:FnScope ["p", "tables", "w", "thing"] ["p", "tables", "w", "thing"] (defScope (C5 50)):=⟨rfl,rfl,rfl,by decide +kernel,rfl,by decide +kernel,by decide +kernel⟩
theorem d_lets_net(Fn:FnIn K mg "lets_net" (C5 50) ["p", "tables", "w", "thing"])(Z:Bz mg)(d_is_net_paper:∀rl,Dfn P w K mg base rl "is_net_paper" ["p", "tables", "w", "thing"] 6 aX)(d_check_inverses:∀rl,Dfn P w K mg base rl "check_inverses" ["p", "tables", "w", "inverses"] 5 aM)(d_check_combination:∀rl,Dfn P w K mg base rl "check_combination" ["p", "tables", "shape", "figures"] 4 aE)   : Dfn P w K mg base rl "lets_net" ["p", "tables", "w", "thing"] 7 bS:=by
 have sc:=jc
 refine Dfn.of Fn sc (bS.mono) (bS.len) (fun cdv A outer s H E hr=>(aj (bL (cW (de (aw (d_is_net_paper _) (hr.mono (by decide)) (aa (vn 0) (aa (vn 1) (aa (vn 2) (aa (vn 3) ab))))))) (ai dJ) a_)
  (aj (bL (aO pK jL (aH _) (eX (vn 3) ah) fF) (ai (lK (aw (d_check_inverses _) (hr.mono (by decide)) (aa (vn 0) (aa (vn 1) (aa (vn 2) (aa (eX (vn 3) ah) ab))))))) (ai (lK (aw (d_check_combination _) (hr.mono (by decide)) (aa (vn 0) (aa (vn 1) (aa (eX (vn 3) ah) (aa (eX (vn 3) ah) ab))))))))
  (ai (av c_))))) ?_
 rintro ws Q ⟨p,ts,w,d,rfl,⟨hm,hd⟩,hQ⟩
 refine ay ?_
 have hm0:=hm
 obtain⟨m,pm,ht,hh,w1,wm⟩:=hm
 have hd0:=hd
 simp_arith only[af,ac,aX.eq]
 rcases hd with⟨hnet,xs,rfl,xl,hx⟩|⟨hnet,ks,h,rfl,mk,hg⟩
 · simp_arith only[af,ac,aM.eq]
   exact az hQ
 · have hm2:∃m w:Int,Pm p m/\dI p m.toNat ts/\m.toNat=hdM ts/\1<=w/\w<=m/\ks∈shp ts.length w.toNat:=⟨m,w,pm,ht,hh,w1,wm,mk⟩
   simp_arith only[af,ac]
   rw[if_neg (by decide)]
   have ea2:atI [Jm (Str.ofString "none"),aA ks,aA h] 2=some (aA h):=rfl
   simp_arith only[af,ac,ea2,aE.eq]
   exact az hQ
theorem Ab(h:r.length=n/\∀x∈r,0<=x/\x<p):GA.Fg p n r:=⟨h.1,fun k hk=>by rw[GA.gD (by rw[h.1];exact hk)];exact h.2 _ (Gm _)⟩
noncomputable def Ed(t:List (List Int)):Prop:=t.length<=5/\(∀r∈t,r.length<=5)/\∀i (h:i<t.length),∀x∈t[i].take i,x=0
theorem kj{α β:Type}{n:Nat}{f:α->List β}:∀{l:List α},(∀x∈l,(f x).length<=n)->(l.flatMap f).length<=l.length*n
 | [],_=>by simp
 | x::l,h=>by
   have h1:=h x FB
   have h2:=kj (l:=l) fun y my=>h y (Fv _ my)
   rw[IF,GK,Hm,LC];omega
theorem tJ(l:List (List Int)):FY ((l.map aA).reverse)=C9 l.reverse:=by rw[<- List.map_reverse];rfl
noncomputable def yK(p:Nat):Nat->List (List Int)
 | 0=>[[]]
 | n+1=>(FJ p).flatMap fun x:Nat=>(yK p n).map fun v=>Int.ofNat x::v
theorem jM(p:Nat):∀v:List Int,(∀x∈v,0<=x/\x<p)->v∈yK p v.length
 | [],_=>J1.mpr rfl
 | x::v,h=>by
   have h1:=h x FB
   refine Jz.mpr ⟨x.toNat,GR.mpr (by omega),Gf.mpr ⟨v,jM p v fun y my=>h y (Fv _ my),?_⟩⟩
   rw[show Int.ofNat x.toNat=x from IP h1.1]
noncomputable def Bu(p C:Nat)(T:List (List Int)):Bool:=(yK p T.length).all fun v=>v.all (· == 0)||(FJ C).any fun c=>((v.zip T).map fun z=>z.1*z.2.getD c 0).sum%(p:Int) != 0
theorem rW{α:Type}{p:Int}{f g:α->Int}:∀{l:List α},(∀x∈l,GA.Cg p (f x) (g x))->GA.Cg p (l.map f).sum (l.map g).sum
 | [],_=>.refl _
 | x::l,h=>by
   rw[FV,FV,Hd,Hd]
   exact(h x FB).add (rW fun y my=>h y (Fv _ my))
theorem qf{p:Nat}(p1:1<=p)(h:Bu p C T=true):GA.Ind (p:Int) C T:=by
 refine GA.ind_iff.mpr fun cs e hs z mz=>?_
 subst e
 have hv:∀x∈cs.map (fun z=>z.1.fmod p),0<=x/\x<(p:Int):=fun x mx=>by
  obtain⟨y,_,rfl⟩:=Gf.mp mx
  exact⟨HR _ (by omega),Iw _ (by omega)⟩
 have hm:=jM p _ hv
 rw[Fq]at hm
 have hb:=GH.mp h _ (by rw[Fq];exact hm)
 rcases Gc.mp hb with z0|z0
 · have:=GH.mp z0 _ (Gf.mpr ⟨z,mz,rfl⟩)
   have e0:z.1.fmod p=0:=by simpa using this
   exact(GA.Cg.mod z.1).symm.trans (.of e0)
 · obtain⟨c,mc,hc⟩:=List.any_eq_true.mp z0
   exfalso
   have q:=hs c (GR.mp mc)
   have ez:((cs.map fun z=>z.1.fmod p).zip (cs.map (·.2))).map (fun z=>z.1*z.2.getD c 0)=cs.map fun z=>z.1.fmod p*z.2.getD c 0:=by
    rw[List.zip_map',Gu];rfl
   rw[ez]at hc
   have q2:GA.Cg (p:Int) (cs.map fun z=>z.1.fmod p*z.2.getD c 0).sum 0:=(rW fun x _=>(GA.Cg.mod x.1).mul (.refl _)).trans q
   have q3:=GA.Cg.iff.mp q2
   rw[Int.zero_emod]at q3
   rw[q3]at hc
   simp at hc
noncomputable def zH(p m:Nat)(ts:List (List (List Int))):Bool:=(shp ts.length m).all fun ks=>Bu p m (rowsT ts ks)
theorem ka{p m:Nat}(p1:1<=p)(t1:1<=ts.length)(h:zH p m ts=true):GA.Net (p:Int) m ts (m:Int):=fun ks kl k0 ksum=>by
 have mk:ks∈shp ts.length m:=by
  have e:ts.length=(ts.length-1)+1:=by omega
  rw[e];exact ja _ _ ks (by omega) k0 (by omega)
 exact qf p1 (GH.mp h ks mk)
noncomputable def li(p m:Int)(s:Nat):List (List (List Int)):=((FJ m.toNat).map fun i=>GA.uni m.toNat i).reverse::sumS p m s
noncomputable def Dz:List (Nat×Nat):=[(2,1),(2,2),(2,3),(2,4),(2,5),(3,1),(3,2),(3,3),(5,1),(5,2),(7,1)]
theorem um:(Dz.all fun z=>(FJ (min 4 z.1)).all fun s=>zH z.1 z.2 (sumS z.1 z.2 (s+1))&&(decide (2<s)||zH z.1 z.2 (li z.1 z.2 (s+1))))=true:=by decide +kernel
noncomputable def bE:List W->(Fd->Prop)->Prop:=fun ws Q=>∃(p:Int)(ts:List (List (List Int))),ws=[.d (.int p),.d (bK ts)]/\((∃m:Int,Pm p m/\dI p m.toNat ts/\m.toNat=hdM ts))/\Q (.bool true)
theorem bE.mono:∀ws (Q Q':Fd->Prop),(∀d,Q d->Q' d)->bE ws Q->bE ws Q':=fun _ _ _ h_=>Fu fun _=>Fu fun _=>Fo (Fo (h_ _))
theorem bE.len:∀ws (Q:Fd->Prop),bE ws Q->ws.length=2:=fun _ _ h_=>by obtain⟨_,_,e_,_⟩:=h_;subst e_;rfl
theorem bE.eq(p:Int)(ts:List (List (List Int)))(hm:∃m:Int,Pm p m/\dI p m.toNat ts/\m.toNat=hdM ts):bE [.d (.int p),.d (bK ts)]=VL.ret (.bool true:Fd):=by
 refine ae fun Q=>⟨?_,fun q_=>⟨p,ts,rfl,hm,q_⟩⟩
 rintro⟨p',ts',e_,_,q_⟩
 simp_arith only[cX]at e_
 obtain⟨rfl,rfl⟩:=e_
 exact q_
theorem io:FnScope ["p", "thing", "m"] ["p", "thing"] (defScope (C5 32)):=⟨rfl,rfl,rfl,by decide +kernel,rfl,by decide +kernel,by decide +kernel⟩
theorem d_is_tables(Fn:FnIn K mg "is_tables" (C5 32) ["p", "thing"])(Z:Bz mg)(d_power:∀rl,Dfn P w K mg base rl "power" ["base", "exponent"] 1 df)(d_is_table:∀rl,Dfn P w K mg base rl "is_table" ["p", "rows", "columns", "thing"] 4 bJ)(gl_MOST_POINTS:GlD K mg "MOST_POINTS" (.int 40))(gl_MOST_SIDES:GlD K mg "MOST_SIDES" (.int 4))  : Dfn P w K mg base rl "is_tables" ["p", "thing"] 5 bE:=by
 have sc:=io
 refine Dfn.of Fn sc (bE.mono) (bE.len) (fun cdv A outer s H E hr=>(aj (bL (EG.pb (fu (cW (de (gH Z.isinstance_ (aa (vn 1) (aa (gW Z.tuple_ (by rfl)) ab))))) (dM (cW (oR pI pI ah (cy Z.len_ (aa (vn 1) ab)) (qR gl_MOST_SIDES)))))) (ai (av c_)) a_)
  (aj (bL (cW (de (gH Z.isinstance_ (aa (eX (vn 1) ah) (aa (gW Z.tuple_ (by rfl)) ab))))) (ai (av c_)) a_)
  (aj (aD 2 sc.nd (cy Z.len_ (aa (eX (vn 1) ah) ab)))
  (ai (av (v_and (kQ pI yI (aH _) (aw (d_power _) (hr.mono (by decide)) (aa (vn 0) (aa (vn 2) ab))) (qR gl_MOST_POINTS)) (kP (v_all Z.all_ (aa (aF ["table", "p", "m"] [none,some 0,some 2] rfl (cV (vn 1)) (fun _=>(aq 0 (show Gp (["table", "p", "m"]:List Str) by decide +kernel))) (fun _=>aU) (fun _=>(aw (d_is_table _) (hr.mono (by decide)) (aa (vn 1) (aa (vn 2) (aa (vn 2) (aa (vn 0) ab))))))) ab)))))))))) ?_
 rintro ws Q ⟨p,ts,rfl,hm,hQ⟩
 refine ay ?_
 have sz:=FG
 obtain⟨m,pm,ht,hh⟩:=hm
 obtain⟨w40,p2,p7,m1,m5⟩:=gc pm
 obtain⟨t1,t4,htt⟩:=id ht
 have h0b:0<=p:=by omega
 have e0:atI ts 0=some (ts.headD []):=by
  cases ts with
  | nil=>simp at t1
  | cons t l=>exact bQ (j:=0) rfl
 have k0:(0:Int)<=((hdM ts:Nat):Int):=by omega
 have k40:((hdM ts:Nat):Int)<=40:=by omega
 have w1:decide (p^hdM ts<=40)=true:=by rw[<- hh];simpa using w40
 have s1:(decide ((1:Int)<=((ts.length:Nat):Int))&&decide (((ts.length:Nat):Int)<=4))=true:=by simp;omega
 simp_arith only[af,ac,df.eq,bJ.eq,eL,dm,e0,dX,dE,df.eq,Gy]
 try rw[if_neg (by rw[show fX (bK ts) "tuple" = true from rfl];simp;omega)]
 try simp_arith only[af,ac,df.eq,bJ.eq,eL,dm,e0,dX,dE,df.eq,Gy]
 rw[if_neg (by rw[show fX (C9 (ts.headD [])) "tuple" = true from rfl];simp),if_pos w1]
 refine gj (dN ts) (cb (xs:=ts) (enc:=C9) (fun _=>.bool true) rfl ?_ (by omega) ?_)
 · intro x mx
   obtain⟨xl',xr⟩:=htt x mx
   rw[hh]at xl' xr
   have q1:=kz xl' (fun r mr=>Ab (xr r mr))
   have r1:1<=((hdM ts:Nat):Int):=by omega
   have hz:∀ys,C9 x = .tuple ys->ys.length<=60/\∀y∈ys,∀zs,y = .tuple zs->zs.length<=60:=by
    intro ys e
    cases e
    refine⟨by rw[Fq];omega,fun y my zs e=>?_⟩
    obtain⟨r,mr,rfl⟩:=Gf.mp my
    cases e
    rw[Fq,(xr r mr).1]
    omega
   simp_arith only[af,ac,DM,bJ.eq,q1]
 · have e:ts.map (fun _=>Hq true)=(ts.map fun _=>true).map .bool:=by rw[Gu];rfl
   have ea:(ts.map fun _=>true).all id=true:=by simp
   rw[e]
   simp_arith only[af,ac,ea]
   exact az hQ
noncomputable def bT:List W->(Fd->Prop)->Prop:=fun ws Q=>∃(t:List (List Int)),ws=[.d (C9 t)]/\((Ed t))/\Q (.bool true)
theorem bT.mono:∀ws (Q Q':Fd->Prop),(∀d,Q d->Q' d)->bT ws Q->bT ws Q':=fun _ _ _ h_=>Fu fun _=>Fo (Fo (h_ _))
theorem bT.len:∀ws (Q:Fd->Prop),bT ws Q->ws.length=1:=fun _ _ h_=>by obtain⟨_,e_,_⟩:=h_;subst e_;rfl
theorem bT.eq(t:List (List Int))(hu:Ed t):bT [.d (C9 t)]=VL.ret (.bool true:Fd):=by
 refine ae fun Q=>⟨?_,fun q_=>⟨t,rfl,hu,q_⟩⟩
 rintro⟨t',e_,_,q_⟩
 simp_arith only[gJ]at e_
 obtain rfl:=e_
 exact q_
theorem je:FnScope ["table"] ["table"] (defScope (C5 39)):=⟨rfl,rfl,rfl,by decide +kernel,rfl,by decide +kernel,by decide +kernel⟩
theorem d_is_upper(Fn:FnIn K mg "is_upper" (C5 39) ["table"])(Z:Bz mg)    : Dfn P w K mg base rl "is_upper" ["table"] 1 bT:=by
 have sc:=je
 refine Dfn.of Fn sc (bT.mono) (bT.len) (fun cdv A outer s H E hr=>(ai (av (v_all Z.all_ (aa (jR ["number", "row", "figure"] [none,none,none] rfl (cf Z.enumerate_ (aa (vn 0) ab)) (fun _=>(db (n:=2) rfl (aI (aq 0 (show Gp (["number", "row", "figure"]:List Str) by decide +kernel)) (aI (aq 1 (show Gp (["number", "row", "figure"]:List Str) by decide +kernel)) cj)))) (fun _=>aU) (fun _=>(cV (ie (vn 1) cH (cG (vn 0))))) (fun _=>(aq 2 (show Gp (["number", "row", "figure"]:List Str) by decide +kernel))) (fun _=>aU) (fun _=>(kQ (eQ hr.units) ce (aH _) (vn 2) ah))) ab))))) ?_
 rintro ws Q ⟨t,rfl,hu,hQ⟩
 refine ay ?_
 have sz:=FG
 obtain⟨u1,u2,u3⟩:=hu
 have ee:uT [.d (C9 t)]=some (t.zipIdx.map fun z=>FY [.int (z.2:Nat),aA z.1]):=(rP _).trans (congrArg some (dh t aA))
 simp_arith only[af,ac,ke,m_comp2,ee]
 refine yb (xs:=t.zipIdx) (enc:=fun z=>FY [.int (z.2:Nat),aA z.1]) (fun z=>(z.1.take z.2).map fun _=>Hq true) rfl ?_ ?_ ?_
 · rintro⟨r,i⟩ mz acc hl
   obtain⟨hi,er⟩:=FK.mp (Ix.mp mz)
   have hz:=u3 i hi
   rw[er]at hz
   simp_arith only[af,ac,pW,ck]
   rw[iK r FW (k:=(i:Int)) (by omega),Gy]
   rw[Fq]at hl
   have hc:=dj (b:=DM [some (W.d (FW (i:Nat))),some (W.d (aA r)),none] (qj 2) (fun x Q=>Q true) (CU (fun{wx wy}=>aG wx.dat fun dx=>aG wy.dat fun dy=>DV (G3 dx=true) (DV (G3 dy=true) (VL.ret (W.d (Hq (dx.eqv dy)))))) (v4 2) (vC (FW 0)))) (enc:=FW) (fun _=>some (Hq true)) (r.take i) acc ?_ hl
   · rw[hc,Ji]
   · intro x mx
     cases hz x mx
     simp_arith only[af,ac,DM]
 · refine Gq (kj (n:=5) (fun z mz=>?_)) (by rw[HB];omega)
   obtain⟨hi,er⟩:=FK.mp (Ix.mp mz)
   have:=u2 z.1 (er▸Gm hi)
   simp;omega
 · have e:t.zipIdx.flatMap (fun z=>(z.1.take z.2).map fun _=>Hq true)=((t.zipIdx.flatMap fun z=>z.1.take z.2).map fun _=>true).map .bool:=by rw[Gu,Kn];rfl
   have ea:((t.zipIdx.flatMap fun z=>z.1.take z.2).map fun _=>true).all id=true:=by simp
   rw[e]
   simp_arith only[af,ac,ea]
   exact az hQ
noncomputable def bF:List W->(Fd->Prop)->Prop:=fun ws Q=>∃(ts:List (List (List Int)))(k:Int),ws=[.d (bK ts),.d (.int k)]/\((ts.length<=4)/\(∀t∈ts,Ed t)/\(0<=k)/\(k<=5))/\Q (bK (ts.map fun t=>(t.take k.toNat).map fun r=>r.take k.toNat))
theorem bF.mono:∀ws (Q Q':Fd->Prop),(∀d,Q d->Q' d)->bF ws Q->bF ws Q':=fun _ _ _ h_=>Fu fun _=>Fu fun _=>Fo (Fo (h_ _))
theorem bF.len:∀ws (Q:Fd->Prop),bF ws Q->ws.length=2:=fun _ _ h_=>by obtain⟨_,_,e_,_⟩:=h_;subst e_;rfl
theorem bF.eq(ts:List (List (List Int)))(k:Int)(hl:ts.length<=4)(hu:∀t∈ts,Ed t)(k0:0<=k)(k5:k<=5):bF [.d (bK ts),.d (.int k)]=VL.ret (bK (ts.map fun t=>(t.take k.toNat).map fun r=>r.take k.toNat):Fd):=by
 refine ae fun Q=>⟨?_,fun q_=>⟨ts,k,rfl,⟨hl,hu,k0,k5⟩,q_⟩⟩
 rintro⟨ts',k',e_,_,q_⟩
 simp_arith only[cX]at e_
 obtain⟨rfl,rfl⟩:=e_
 exact q_
theorem ip:FnScope ["tables", "k", "number", "table"] ["tables", "k"] (defScope (C5 40)):=⟨rfl,rfl,rfl,by decide +kernel,rfl,by decide +kernel,by decide +kernel⟩
theorem d_beginning(Fn:FnIn K mg "beginning" (C5 40) ["tables", "k"])(Z:Bz mg)(d_is_upper:∀rl,Dfn P w K mg base rl "is_upper" ["table"] 1 bT)   : Dfn P w K mg base rl "beginning" ["tables", "k"] 2 bF:=by
 have sc:=ip
 refine Dfn.of Fn sc (bF.mono) (bF.len) (fun cdv A outer s H E hr=>(aj (bD [2,3] GB rfl (cf Z.enumerate_ (aa (vn 0) ab)) (db (n:=2) rfl (aI (aq 2 sc.nd) (aI (aq 3 sc.nd) cj))) (ai (bL (cW (de (aw (d_is_upper _) (hr.mono (by decide)) (aa (vn 3) ab)))) (ai dJ) a_)))
  (ai (av (ba Z.tuple_ (aa (aF ["table", "k"] [none,some 1] rfl (cV (vn 0)) (fun _=>(aq 0 (show Gp (["table", "k"]:List Str) by decide +kernel))) (fun _=>aU) (fun _=>(ba Z.tuple_ (aa (aF ["row", "k"] [none,some 1] rfl (cV (ie (vn 0) cH (cG (vn 1)))) (fun _=>(aq 0 (show Gp (["row", "k"]:List Str) by decide +kernel))) (fun _=>aU) (fun _=>(ie (vn 0) cH (cG (vn 1))))) ab)))) ab)))))) ?_
 rintro ws Q ⟨ts,k,rfl,⟨hl,hu,k0,k5⟩,hQ⟩
 refine ay ?_
 have sz:=FG
 have ee:uT [.d (bK ts)]=some (ts.zipIdx.map fun z=>FY [.int (z.2:Nat),C9 z.1]):=(rP _).trans (congrArg some (dh ts C9))
 simp_arith only[af,ac,ke,ee]
 refine gt (xs:=ts.zipIdx) (enc:=fun z=>FY [.int (z.2:Nat),C9 z.1]) (fun _ ρ=>ρ=[some (.d (bK ts)),some (.d (.int k)),none,none]) rfl rfl ?_ ?_
 · rintro i hi ρ rfl K hK
   have hi':i<ts.length:=by rw[HB]at hi;exact hi
   have ez:ts.zipIdx[i]=(ts[i],i):=by rw[Lb];simp
   rw[ez]
   have hu:=hu _ (Gm hi')
   simp_arith only[af,ac,bT.eq]
   exact hK _ (dg (by simp[fo]))
 · rintro ρ rfl
   simp_arith only[af,ac]
   refine gj (dN ts) (cb (xs:=ts) (enc:=C9) (fun t=>C9 ((t.take k.toNat).map fun r=>r.take k.toNat)) rfl ?_ (by omega) ?_)
   · intro t mt
     obtain⟨u1,u2,_⟩:=hu t mt
     simp_arith only[af,ac,DM,eh]
     rw[iK t aA k0,comp_map (xs:=t.take k.toNat) (enc:=aA) (fun r=>aA (r.take k.toNat)) ?_ (by rw[GQ];omega),bnd_ret,cN]
     · try simp_arith only[af,ac,cC]
       rfl
     · intro r mr
       simp_arith only[af,ac,DM,ck]
       rw[iK r FW k0]
       rfl
   · rw[nA]
     try simp_arith only[af,ac]
     exact az hQ
noncomputable def aJ:List W->(Fd->Prop)->Prop:=fun ws Q=>∃(p m s:Int),ws=[.d (.int p),.d (.int m),.d (.int s)]/\((2<=p)/\(1<=m)/\(m<=5)/\(1<=s)/\(s<=4))/\Q (bK (li p m (s-1).toNat))
theorem aJ.mono:∀ws (Q Q':Fd->Prop),(∀d,Q d->Q' d)->aJ ws Q->aJ ws Q':=fun _ _ _ h_=>Fu fun _=>Fu fun _=>Fu fun _=>Fo (Fo (h_ _))
theorem aJ.len:∀ws (Q:Fd->Prop),aJ ws Q->ws.length=3:=fun _ _ h_=>by obtain⟨_,_,_,e_,_⟩:=h_;subst e_;rfl
theorem aJ.eq(p m s:Int)(p2:2<=p)(m1:1<=m)(m5:m<=5)(s1:1<=s)(s4:s<=4):aJ [.d (.int p),.d (.int m),.d (.int s)]=VL.ret (bK (li p m (s-1).toNat):Fd):=by
 refine ae fun Q=>⟨?_,fun q_=>⟨p,m,s,rfl,⟨p2,m1,m5,s1,s4⟩,q_⟩⟩
 rintro⟨p',m',s',e_,_,q_⟩
 simp_arith only[cX]at e_
 obtain⟨rfl,rfl,rfl⟩:=e_
 exact q_
theorem dP:FnScope ["p", "m", "s"] ["p", "m", "s"] (defScope (C5 43)):=⟨rfl,rfl,rfl,by decide +kernel,rfl,by decide +kernel,by decide +kernel⟩
theorem d_mirrored_tables(Fn:FnIn K mg "mirrored_tables" (C5 43) ["p", "m", "s"])(Z:Bz mg)(d_sum_tables:∀rl,Dfn P w K mg base rl "sum_tables" ["p", "m", "s"] 3 bd)(d_unit_table:∀rl,Dfn P w K mg base rl "unit_table" ["many"] 2 bc)   : Dfn P w K mg base rl "mirrored_tables" ["p", "m", "s"] 4 aJ:=by
 have sc:=dP
 refine Dfn.of Fn sc (aJ.mono) (aJ.len) (fun cdv A outer s H E hr=>(ai (av (jS (gG (aa (vW (aw (d_unit_table _) (hr.mono (by decide)) (aa (vn 1) ab))) ab)) (aw (d_sum_tables _) (hr.mono (by decide)) (aa (vn 0) (aa (vn 1) (aa (v_sub (vn 2) ah) ab)))))))) ?_
 rintro ws Q ⟨p,m,s,rfl,⟨p2,m1,m5,s1,s4⟩,hQ⟩
 refine ay ?_
 have sz:=FG
 have n0:0<=m:=by omega
 have n8:m<=8:=by omega
 have s0:0<=s-1:=by omega
 have s4':s-1<=4:=by omega
 simp_arith only[af,ac,bc.eq,bd.eq,eh,dN]
 refine cu (by simp[sumS];omega) ?_
 rw[tJ]
 exact az hQ
theorem Net.le{p:Int}{m:Nat}{ts:List (List (List Int))}(t1:1<=ts.length):∀(n:Nat){w:Int},GA.Net p m ts (w+n)->GA.Net p m ts w
 | 0,w,h=>by rw[show w+((0:Nat):Int)=w by omega]at h;exact h
 | n+1,w,h=>Net.le t1 n (GA.Net.down t1 (by rw[show w+(n:Int)+1=w+((n+1:Nat):Int) by omega];exact h))
noncomputable def bm:List W->(Fd->Prop)->Prop:=fun ws Q=>∃(p m:Int)(ts:List (List (List Int))),ws=[.d (.int p),.d (.int m),.d (bK ts)]/\((Pm p m)/\(dI p m.toNat ts)/\(m.toNat=hdM ts)/\(GA.Net p (hdM ts) ts m))/\Q (.bool true)
theorem bm.mono:∀ws (Q Q':Fd->Prop),(∀d,Q d->Q' d)->bm ws Q->bm ws Q':=fun _ _ _ h_=>Fu fun _=>Fu fun _=>Fu fun _=>Fo (Fo (h_ _))
theorem bm.len:∀ws (Q:Fd->Prop),bm ws Q->ws.length=3:=fun _ _ h_=>by obtain⟨_,_,_,e_,_⟩:=h_;subst e_;rfl
theorem bm.eq(p m:Int)(ts:List (List (List Int)))(pm:Pm p m)(ht:dI p m.toNat ts)(hh:m.toNat=hdM ts)(net:GA.Net p (hdM ts) ts m):bm [.d (.int p),.d (.int m),.d (bK ts)]=VL.ret (.bool true:Fd):=by
 refine ae fun Q=>⟨?_,fun q_=>⟨p,m,ts,rfl,⟨pm,ht,hh,net⟩,q_⟩⟩
 rintro⟨p',m',ts',e_,_,q_⟩
 simp_arith only[cX]at e_
 obtain⟨rfl,rfl,rfl⟩:=e_
 exact q_
theorem ga:FnScope ["_law_p", "_law_m", "_law_tables", "_law_w", "_law_paper"] ["_law_p", "_law_m", "_law_tables"] (defScope (C5 57)):=⟨rfl,rfl,rfl,by decide +kernel,rfl,by decide +kernel,by decide +kernel⟩
theorem d__law_strong(Fn:FnIn K mg "_law_strong" (C5 57) ["_law_p", "_law_m", "_law_tables"])(Z:Bz mg)(d_net_paper:∀rl,Dfn P w K mg base rl "net_paper" ["p", "tables", "w"] 5 bw)(d_is_tables:∀rl,Dfn P w K mg base rl "is_tables" ["p", "thing"] 5 bE)(d_strength:∀rl,Dfn P w K mg base rl "strength" ["p", "tables"] 6 bR)(d_lets_net:∀rl,Dfn P w K mg base rl "lets_net" ["p", "tables", "w", "thing"] 7 bS)   : Dfn P w K mg base rl "_law_strong" ["_law_p", "_law_m", "_law_tables"] 8 bm:=by
 have sc:=ga
 refine Dfn.of Fn sc (bm.mono) (bm.len) (fun cdv A outer s H E hr=>(aj (bL (EG.pb (fu (aO nn lM (aH _) (aw (d_is_tables _) (hr.mono (by decide)) (aa (vn 0) (aa (vn 2) ab))) c_) (dM (aO (eP hr.units) ce (aH _) (aw (d_strength _) (hr.mono (by decide)) (aa (vn 0) (aa (vn 2) ab))) (vn 1))))) (ai (av c_)) a_)
  (aj (bD [3,4] GB rfl (fq Z.range_ (aa ah (aa (v_add (vn 1) ah) ab))) (aq 3 sc.nd) (aj (aD 4 sc.nd (aw (d_net_paper _) (hr.mono (by decide)) (aa (vn 0) (aa (vn 2) (aa (vn 3) ab)))))
  (ai (bL (EG.pb (fu (aO ud lN (aH _) (eX (vn 4) ah) fF) (dM (aO nn lM (aH _) (aw (d_lets_net _) (hr.mono (by decide)) (aa (vn 0) (aa (vn 2) (aa (vn 3) (aa (vn 4) ab))))) c_)))) (ai (av c_)) a_))))
  (ai (av c_))))) ?_
 rintro ws Q ⟨p,m,ts,rfl,⟨pm,ht,hh,net⟩,hQ⟩
 refine ay ?_
 have sz:=FG
 obtain⟨w40,p2,p7,m1,m5⟩:=gc pm
 obtain⟨t1,t4,htt⟩:=id ht
 have hm:∃m:Int,Pm p m/\dI p m.toNat ts/\m.toNat=hdM ts:=⟨m,pm,ht,hh⟩
 have g1 : -(2^62)<=m+1/\m+1<2^62:=by omega
 simp_arith only[af,ac,bE.eq,bR.eq]
 rw[if_neg (by decide)]
 (with_reducible (first|refine aL fun s hs=>?_|refine bg fun s hs=>?_))
 have e:s=m:=by
  obtain⟨a1,a2,a3,a4⟩:=hs
  rcases Int.lt_trichotomy s m with z|z|z
  · exact absurd net (a4 m z (by omega))
  · exact z
  · omega
 subst e
 try simp_arith only[af,ac]
 rw[if_neg (by simp)]
 refine hJ ?_ ?_
 · intro i hi K hK
   have hn:GA.Net p (hdM ts) ts (1+(i:Int)):=Net.le t1 (s-(1+(i:Int))).toNat (by rw[show 1+(i:Int)+((s-(1+(i:Int))).toNat:Int)=s by omega];exact net)
   have hm:∃m:Int,Pm p m/\dI p m.toNat ts/\m.toNat=hdM ts/\1<=1+(i:Int)/\1+(i:Int)<=m:=⟨s,pm,ht,hh,by omega,by omega⟩
   simp_arith only[af,ac,bw.eq]
   (with_reducible (first|refine aL fun d hd=>?_|refine bg fun d hd=>?_))
   try simp_arith only[af,ac,bS.eq]
   have hd0:=hd
   rcases hd with⟨hnet,xs,rfl,_⟩|⟨hnet,ks,h,rfl,_⟩
   · have i0:VL.itemAt (FY [Jm (Str.ofString "net"),bK xs]) 0=some (.str (Str.ofString "net")):=rfl
     simp_arith only[af,ac,i0]
     try rw[if_neg (by simp)]
     exact hK _ (dg (by simp[fo]))
   · exact absurd hn hnet
 · simp_arith only[af,ac]
   exact az hQ
theorem nI(ts:List (List (List Int))):Ig (ts.map C9)=true:=by
 induction ts with
 | nil=>rfl
 | cons t ts ih=>rw[FV];show(GS (.tuple (t.map aA))&&_)=true;simp[GS,ih,nJ]
theorem uX(ts:List (List (List Int))):HA (ts.map C9)<=2:=by
 induction ts with
 | nil=>simp[HA]
 | cons t ts ih=>have h:=rR t;rw[FV];show max (HY (.tuple (t.map aA))) _<=2;simp[HY];omega
theorem tE(ts:List (List (List Int))):G3 (bK ts)=true:=by
 have h:=uX ts
 have l:=nI ts
 show G3 (.tuple (ts.map C9))=true
 simp[G3,GS,HY,l]
 omega
theorem uQ(ts:List (List (List Int))):IC (bK ts) (bK ts)=true:=SeqAt.eqv_refl _ (by show GS (.tuple (ts.map C9))=true;simp[GS,nI])
theorem ur(p m:Int)(n:Nat):(FJ n).map (fun j:Nat=>C9 (jV p m j))=(sumS p m n).map C9:=by unfold sumS;rw[Gu];rfl
theorem sY(ts:List (List (List Int))):FY (ts.map C9)=bK ts:=rfl
theorem xY(h:dI p n ts):n=hdM ts:=by
 obtain⟨t1,_,ht⟩:=h
 cases ts with
 | nil=>simp at t1
 | cons t l=>exact(ht t FB).1.symm
theorem po(pm:Pm p m):(p.toNat,m.toNat)∈Dz/\(p.toNat:Int)=p/\(m.toNat:Int)=m:=by
 obtain⟨w40,p2,p7,m1,m5⟩:=gc pm
 refine⟨?_,by omega,by omega⟩
 obtain⟨hp,h1,h2⟩:=pm
 have hm:m=1\/m=2\/m=3\/m=4\/m=5:=by omega
 rcases hp with rfl|rfl|rfl|rfl<;>rcases hm with rfl|rfl|rfl|rfl|rfl<;>first|decide|(exact absurd h2 (by decide))
theorem nv{s:Nat}(pm:Pm p m)(s1:1<=s)(s4:s<=4)(sp:(s:Int)<=p):GA.Net p m.toNat (sumS p m s) m/\(s<=3->GA.Net p m.toNat (li p m s) m):=by
 obtain⟨h,ep,em⟩:=po pm
 have q:=GH.mp (GH.mp um _ h) (s-1) (GR.mpr (by show s-1<min 4 p.toNat;omega))
 have es:s-1+1=s:=by omega
 rw[Jv,es]at q
 have p1:1<=p.toNat:=by omega
 refine⟨?_,fun s3=>?_⟩
 · have q3:=ka p1 (by simp[sumS];omega) q.1
   simp only[ep,em]at q3
   exact q3
 · have q4:=(Gc.mp q.2).resolve_left (by simp;omega)
   have q3:=ka p1 (by simp[li]) q4
   simp only[ep,em]at q3
   exact q3
theorem zu{j i k:Int}(p2:2<=p):0<=Ds p j i k/\Ds p j i k<p:=by
 unfold Ds
 split
 · omega
 · exact⟨HR _ (by omega),Iw _ (by omega)⟩
theorem mE{j:Int}(p2:2<=p):Ak p m.toNat m.toNat (jV p m j):=by
 unfold jV
 refine⟨by simp,fun r mr=>?_⟩
 obtain⟨i,_,rfl⟩:=Gf.mp mr
 refine⟨by simp,fun x mx=>?_⟩
 obtain⟨k,_,rfl⟩:=Gf.mp mx
 exact zu p2
theorem wG{s:Nat}(p2:2<=p)(s1:1<=s)(s4:s<=4):dI p m.toNat (sumS p m s):=by
 refine⟨by simp[sumS];omega,by simp[sumS];omega,fun t mt=>?_⟩
 obtain⟨j,_,rfl⟩:=Gf.mp mt
 exact mE p2
theorem xK{s:Nat}(p2:2<=p)(s3:s<=3):dI p m.toNat (li p m s):=by
 refine⟨by simp[li],by simp[li,sumS];omega,fun t mt=>?_⟩
 rcases GT.mp mt with rfl|mt
 · refine⟨by simp,fun r mr=>?_⟩
   obtain⟨i,_,rfl⟩:=Gf.mp (List.mem_reverse.mp mr)
   refine⟨by simp[GA.uni],fun x mx=>?_⟩
   obtain⟨k,_,rfl⟩:=Gf.mp mx
   split<;>omega
 · obtain⟨j,_,rfl⟩:=Gf.mp mt
   exact mE p2
theorem wF{s:Nat}(m5:m<=5):∀t∈sumS p m s,Ed t:=fun t mt=>by
 obtain⟨j,_,rfl⟩:=Gf.mp mt
 refine⟨by simp[jV];omega,fun r mr=>?_,fun i hi x mx=>?_⟩
 · obtain⟨i,_,rfl⟩:=Gf.mp mr
   simp;omega
 · have hi':i<m.toNat:=by simpa[jV]using hi
   simp only[jV,G5,HZ]at mx
   rw[<- Jd,List.take_range]at mx
   obtain⟨k,mk,rfl⟩:=Gf.mp mx
   have:=GR.mp mk
   unfold Ds
   rw[if_pos (by omega)]
theorem i_(f:Nat->α){k:Nat}(h:k<=n):((FJ n).map f).take k=(FJ k).map f:=by rw[<- Jd,List.take_range,Ja h]
theorem tj{k:Int}{s:Nat}(h:k<=m):((sumS p m s).map fun t=>(t.take k.toNat).map fun r=>r.take k.toNat)=sumS p k s:=by
 unfold sumS
 rw[Gu]
 refine Hr fun j _=>?_
 show((jV p m j).take k.toNat).map (fun r=>r.take k.toNat)=jV p k j
 unfold jV
 rw[i_ _ (by omega),Gu]
 refine Hr fun i _=>?_
 exact i_ _ (by omega)
theorem oZ{s k:Nat}(h:k<=s):(sumS p m s).take k=sumS p m k:=i_ _ h
theorem xL:∀m:Fin 6,((FJ m.val).map fun i:Nat=>(FJ m.val).map fun k:Nat=>if(i:Int)+k=(m.val:Int)-1 then(1:Int)else 0)=((FJ m.val).map fun i=>GA.uni m.val i).reverse:=by decide +kernel
theorem uq(m1:1<=m)(m5:m<=5):((FJ m.toNat).map fun i:Nat=>(FJ m.toNat).map fun k:Nat=>if(i:Int)+k=m-1 then(1:Int)else 0)=((FJ m.toNat).map fun i=>GA.uni m.toNat i).reverse:=by
 have h:=xL ⟨m.toNat,by omega⟩
 have em:((m.toNat:Nat):Int)=m:=by omega
 simp only[em]at h
 exact h
theorem wR:FnScope ["_law_script", "_law_k", "_law_tape_here", "_law_p", "_law_m", "_law_s", "_law_due", "_law_found", "_law_many"] ["_law_script"] (defScope (C5 58)):=⟨rfl,rfl,rfl,by decide +kernel,rfl,by decide +kernel,by decide +kernel⟩
theorem pU(Z:Bz mg)(d__law_tape:DfnR P w K mg base "_law_tape" ["_law_script", "_law_at"] 2 yn)(d__law_size:∀al,DfnC P w K mg base al 2 "_law_size" ["_law_tape_here"] 2 bG)(d_sum_tables:∀rl,Dfn P w K mg base rl "sum_tables" ["p", "m", "s"] 3 bd)(d_mirrored_tables:∀rl,Dfn P w K mg base rl "mirrored_tables" ["p", "m", "s"] 4 aJ)(d__law_pick:∀al,DfnC P w K mg base al 1 "_law_pick" ["_law_tape_here", "_law_many"] 1 bA)(d__law_sum_table:∀rl,Dfn P w K mg base rl "_law_sum_table" ["_law_p", "_law_m", "_law_j"] 1 aN)(d__law_strong:∀rl,Dfn P w K mg base rl "_law_strong" ["_law_p", "_law_m", "_law_tables"] 8 bm)(d_beginning:∀rl,Dfn P w K mg base rl "beginning" ["tables", "k"] 2 bF)(d__law_mirror:∀rl,Dfn P w K mg base rl "_law_mirror" ["_law_m"] 1 bo)(F:Fun K "law" "law" (C5 58) f fd):FnOk P w K mg base E5 10 f fd ["_law_script"] (gf K):=by
 have sc:=wR
 refine uk F sc (fun cdv A outer s H E hr=>(aj (bD [1,2,3,4,5,6,7,8] GB rfl (aS Z.range_ (aa (v_add ah (cy Z.len_ (aa (vV (vn 0) cH (cG ah)) ab))) ab)) (aq 1 sc.nd) (uY 2 d__law_tape (hr.mono (by decide)) sc.nd (aa (vn 0) (aa (vn 1) ab)) (fun r=>(ca (x9 (kN (d__law_size _) (hr.mono (by decide)) (ci (cv fun _=>(vn 2)) fP)) (fun _=>(db (n:=2) rfl (aI (aq 3 sc.nd) (aI (aq 4 sc.nd) cj)))))
  (ca (oa 5 sc.nd (ya (cv fun _=>ah) (kN (d__law_pick _) (hr.mono (by decide)) (ci (cv fun _=>(vn 2)) (ci (cv fun _=>(qP Z.min_ (aa ah (aa (vn 3) ab)))) fP)))))
  (ca (cs fun _=>(aD 6 sc.nd (ba Z.tuple_ (aa (aF ["_law_j", "_law_p", "_law_m"] [none,some 3,some 4] rfl (aS Z.range_ (aa (vn 5) ab)) (fun _=>(aq 0 (show Gp (["_law_j", "_law_p", "_law_m"]:List Str) by decide +kernel))) (fun _=>aU) (fun _=>(aw (d__law_sum_table _) (hr.mono (by decide)) (aa (vn 1) (aa (vn 2) (aa (vn 0) ab)))))) ab))))
  (ca (cs fun _=>(aD 7 sc.nd (aw (d_sum_tables _) (hr.mono (by decide)) (aa (vn 3) (aa (vn 4) (aa (vn 5) ab))))))
  (ca (cs fun _=>(bL (EG.pb (fu (aO ud lN (aH _) (jQ (hr.mono (GW _)) Z.repr_ (aa (vn 7) ab)) (jQ (hr.mono (GW _)) Z.repr_ (aa (vn 6) ab))) (dM (cW (de (aw (d__law_strong _) (hr.mono (by decide)) (aa (vn 3) (aa (vn 4) (aa (vn 7) ab))))))))) (ai (av c_)) a_))
  (ca (cs fun _=>(bD [8] GB rfl (fq Z.range_ (aa ah (aa (v_add (vn 4) ah) ab))) (aq 8 sc.nd) (ai (bL (aO (eP hr.units) ce (aH _) (aw (d_beginning _) (hr.mono (by decide)) (aa (vn 7) (aa (vn 8) ab))) (aw (d_sum_tables _) (hr.mono (by decide)) (aa (vn 3) (aa (vn 8) (aa (vn 5) ab))))) (ai (av c_)) a_))))
  (ca (cs fun _=>(aD 5 sc.nd (qP Z.min_ (aa (vn 5) (aa ah ab)))))
  (ca (cs fun _=>(aD 7 sc.nd (aw (d_mirrored_tables _) (hr.mono (by decide)) (aa (vn 3) (aa (vn 4) (aa (v_add (vn 5) ah) ab))))))
  (og (cs fun _=>(bL (EG.pb (fu (aO ud lN (aH _) (jQ (hr.mono (GW _)) Z.repr_ (aa (vn 7) ab)) (jQ (hr.mono (GW _)) Z.repr_ (aa (jS (gG (aa (aw (d__law_mirror _) (hr.mono (by decide)) (aa (vn 4) ab)) ab)) (ie (vn 6) cH (cG (vn 5)))) ab))) (dM (cW (de (aw (d__law_strong _) (hr.mono (by decide)) (aa (vn 3) (aa (vn 4) (aa (vn 7) ab))))))))) (ai (av c_)) a_)))))))))))) (by decide +kernel)))
  (ai (av c_)))) ?_
 intro ns hn
 have sz:=FG
 have cl:(VL.cutD (ns.map FW) none (some 2)).length<=63:=Gq (n_ _ _ _) (by rw[Fq];exact hn)
 have g0 : -(2^62)<=1+((VL.cutD (ns.map FW) none (some 2)).length:Int)/\1+((VL.cutD (ns.map FW) none (some 2)).length:Int)<2^62:=by omega
 simp_arith only[af,ac,cO,cP,bM,bO,cU,bN,bp,ar]
 refine hJ ?_ ?_
 · intro i hi K hK
   have pt:=yn.eq hn (show 0<=0+(i:Int) by omega) (show 0+(i:Int)<1000 by omega)
   simp_arith only[af,ac,cO,cP,bM,bO,cU,bN,bp,ar,pt,bG.eq,y8,y7]
   refine(show sq _ _ (fun fl=>CY fl K)from ?_)
   have hend:∀ρ,fo [1,2,3,4,5,6,7,8] (nR ρ)=[some (.sc ns),none,none,none,none,none,none,none,none]->(fun fl=>CY fl K) (.nx ρ):=fun ρ e=>hK _ (dg e)
   generalize (fun fl=>CY fl K)=K' at hend ⊢
   (with_reducible (first|refine aL fun z pm=>?_|refine bg fun z pm=>?_))
   obtain⟨p,m⟩:=z
   have pm:Pm p m:=pm
   obtain⟨w40,p2,p7,m1,m5⟩:=gc pm
   have k1:0<min 4 p:=by omega
   have k2:min 4 p<2^60:=by omega
   try simp_arith only[af,ac,cO,cP,bM,bO,cU,bN,bp,ar,bA.eq]
   (with_reducible (first|refine aL fun a ha=>?_|refine bg fun a ha=>?_))
   have s0:0<=1+a:=by omega
   have s4:1+a<=4:=by omega
   have g2 : -(2^62)<=1+a/\1+a<2^62:=by omega
   try simp_arith only[af,ac,cO,cP,bM,bO,cU,bN,bp,ar]
   rw[di (fun j=>C9 (jV p m (j:Int))) ?_ (by omega),bnd_ret,ur]
   · have ht:dI p m.toNat (sumS p m (1+a).toNat):=wG p2 (by omega) (by omega)
     have sw:Et (bK (sumS p m (1+a).toNat)):=(re p7 (by omega) ht).shw (by decide) (by decide)
     have hh:=xY ht
     obtain⟨n1,n2⟩:=nv (s:=(1+a).toNat) pm (by omega) (by omega) (by omega)
     have net:GA.Net p (hdM (sumS p m (1+a).toNat)) (sumS p m (1+a).toNat) m:=hh▸n1
     have g3 : -(2^61)<=(1:Int)/\(1:Int)<2^61 /\ -(2^61)<=m+1/\m+1<2^61:=by omega
     have g4 : -(2^62)<=m+1/\m+1<2^62:=by omega
     try simp_arith only[af,ac,cO,cP,bM,bO,cU,bN,bp,ar,sY,bd.eq]
     try rw[if_neg (by simp)]
     simp_arith only[af,ac,cO,cP,bM,bO,cU,bN,bp,ar,bm.eq]
     refine hJ ?_ ?_
     · intro k hk K2 hK2
       have hl:(sumS p m (1+a).toNat).length<=4:=ht.2.1
       have hu:=wF (p:=p) (s:=(1+a).toNat) m5
       have k0:0<=1+(k:Int):=by omega
       have k1:1<=1+(k:Int):=by omega
       have k5:1+(k:Int)<=5:=by omega
       have eb:=tj (p:=p) (m:=m) (k:=1+(k:Int)) (s:=(1+a).toNat) (by omega)
       have c1:=tE (sumS p (1+(k:Int)) (1+a).toNat)
       have c2:=uQ (sumS p (1+(k:Int)) (1+a).toNat)
       simp_arith only[af,ac,cO,cP,bM,bO,cU,bN,bp,ar,bF.eq,bd.eq,eb,c1,c2]
       exact hK2 _ (dg (by simp[fo]))
     · have mn:min (1+a) 3=((min (1+a) 3).toNat:Int):=by omega
       have q1:1<=min (1+a) 3+1:=by omega
       have q4:min (1+a) 3+1<=4:=by omega
       have em:=uq m1 m5
       have ht2:dI p m.toNat (li p m (min (1+a) 3).toNat):=xK p2 (by omega)
       have sw2:Et (bK (li p m (min (1+a) 3).toNat)):=(re p7 (by omega) ht2).shw (by decide) (by decide)
       have hh2:=xY ht2
       have net2:GA.Net p (hdM (li p m (min (1+a) 3).toNat)) (li p m (min (1+a) 3).toNat) m:=hh2▸(nv (s:=(min (1+a) 3).toNat) pm (by omega) (by omega) (by omega)).2 (by omega)
       have e1:(min (1+a) 3+1-1).toNat=(min (1+a) 3).toNat:=by omega
       have ec:VL.cutD ((sumS p m (1+a).toNat).map C9) none (some (min (1+a) 3))=(sumS p m (min (1+a) 3).toNat).map C9:=by rw[iK _ C9 (by omega),oZ (by omega)]
       have et:FY (C9 ((FJ m.toNat).map fun i=>GA.uni m.toNat i).reverse::(sumS p m (min (1+a) 3).toNat).map C9)=bK (li p m (min (1+a) 3).toNat):=rfl
       have lz:1+(sumS p m (min (1+a) 3).toNat).length<=sizeLine:=by simp[sumS];omega
       simp_arith only[af,ac,cO,cP,bM,bO,cU,bN,bp,ar,aJ.eq,bo.eq,em,e1,dN,ec,et]
       try rw[if_neg (by simp)]
       try simp_arith only[af,ac,cO,cP,bM,bO,cU,bN,bp,ar,bm.eq]
       exact hend _ rfl
   · intro j hj
     have j0:0<=0+(j:Int):=by omega
     have j7:0+(j:Int)<=7:=by omega
     have ej:=wJ (p:=p) (m:=m) (j:=0+(j:Int)) pm.1 m5 j0 (by omega)
     simp_arith only[af,ac,DM,aN.eq,ej]
     rw[IQ]
 · simp_arith only[ac,cO,cP,bM,bO,cU,bN,bp,ar]
   exact uz
structure Txt (K:Ij) (mg:Str->Option Fm):Prop where
 bz:Bz mg
 f__law_tape:FnIn K mg "_law_tape" (C5 52) ["_law_script", "_law_at"]
 f__law_pick:FnIn K mg "_law_pick" (C5 53) ["_law_tape_here", "_law_many"]
 f_is_whole:FnIn K mg "is_whole" (C5 7) ["thing"]
 f_is_place:FnIn K mg "is_place" (C5 8) ["thing", "many"]
 f_is_figures:FnIn K mg "is_figures" (C5 16) ["p", "many", "thing"]
 f_is_table:FnIn K mg "is_table" (C5 17) ["p", "rows", "columns", "thing"]
 f_product_sum:FnIn K mg "product_sum" (C5 19) ["p", "one", "other"]
 f_applied:FnIn K mg "applied" (C5 20) ["p", "table", "figures"]
 f_columns_of:FnIn K mg "columns_of" (C5 18) ["table"]
 f_table_times:FnIn K mg "table_times" (C5 22) ["p", "one", "other"]
 f__law_size:FnIn K mg "_law_size" (C5 54) ["_law_tape_here"]
 f__law_mirror:FnIn K mg "_law_mirror" (C5 56) ["_law_m"]
 f_power:FnIn K mg "power" (C5 10) ["base", "exponent"]
 f_ways_to_take:FnIn K mg "ways_to_take" (C5 1) ["i", "k"]
 f_sum_figure:FnIn K mg "sum_figure" (C5 41) ["p", "j", "i", "k"]
 f_sum_tables:FnIn K mg "sum_tables" (C5 42) ["p", "m", "s"]
 f__law_sum_table:FnIn K mg "_law_sum_table" (C5 55) ["_law_p", "_law_m", "_law_j"]
 f_inverse_of:FnIn K mg "inverse_of" (C5 14) ["one", "modulus"]
 f_unit_figures:FnIn K mg "unit_figures" (C5 23) ["many", "place"]
 f_first_filled:FnIn K mg "first_filled" (C5 25) ["figures"]
 f_scaled:FnIn K mg "scaled" (C5 26) ["p", "row", "often"]
 f_cleared:FnIn K mg "cleared" (C5 27) ["p", "row", "other", "column"]
 f_reduced:FnIn K mg "reduced" (C5 28) ["p", "table"]
 f_combination:FnIn K mg "combination" (C5 30) ["p", "table"]
 f_right_inverse:FnIn K mg "right_inverse" (C5 29) ["p", "table"]
 f_shapes_of:FnIn K mg "shapes_of" (C5 33) ["many", "w"]
 f_rows_of:FnIn K mg "rows_of" (C5 34) ["tables", "shape"]
 f_net_paper:FnIn K mg "net_paper" (C5 36) ["p", "tables", "w"]
 f_strength:FnIn K mg "strength" (C5 38) ["p", "tables"]
 f_unit_table:FnIn K mg "unit_table" (C5 24) ["many"]
 f_combined:FnIn K mg "combined" (C5 21) ["p", "table", "figures"]
 f_is_shape:FnIn K mg "is_shape" (C5 45) ["s", "w", "thing"]
 f_are_inverses:FnIn K mg "are_inverses" (C5 46) ["p", "tables", "w", "thing"]
 f_is_net_paper:FnIn K mg "is_net_paper" (C5 47) ["p", "tables", "w", "thing"]
 f_check_inverses:FnIn K mg "check_inverses" (C5 48) ["p", "tables", "w", "inverses"]
 f_check_combination:FnIn K mg "check_combination" (C5 49) ["p", "tables", "shape", "figures"]
 f_lets_net:FnIn K mg "lets_net" (C5 50) ["p", "tables", "w", "thing"]
 f_is_tables:FnIn K mg "is_tables" (C5 32) ["p", "thing"]
 f_is_upper:FnIn K mg "is_upper" (C5 39) ["table"]
 f_beginning:FnIn K mg "beginning" (C5 40) ["tables", "k"]
 f_mirrored_tables:FnIn K mg "mirrored_tables" (C5 43) ["p", "m", "s"]
 f__law_strong:FnIn K mg "_law_strong" (C5 57) ["_law_p", "_law_m", "_law_tables"]
 g_MOST_POINTS:GlD K mg "MOST_POINTS" (.int 40)
 g_MOST_SIDES:GlD K mg "MOST_SIDES" (.int 4)
theorem xI(F:Fun K "law" "law" (C5 58) f fd)(T:Txt K mg)  : FnOk P w K mg base E5 10 f fd ["_law_script"] (gf K):=by
 have d__law_tape:DfnR P w K mg base "_law_tape" ["_law_script", "_law_at"] 2 yn:=K67.d__law_tape T.f__law_tape T.bz   
 have d__law_pick:∀al,DfnC P w K mg base al 1 "_law_pick" ["_law_tape_here", "_law_many"] 1 bA:=fun rl=>K67.d__law_pick T.f__law_pick T.bz   
 have d_is_whole:∀rl,Dfn P w K mg base rl "is_whole" ["thing"] 1 bI:=fun rl=>K67.d_is_whole T.f_is_whole T.bz   
 have d_is_place:∀rl,Dfn P w K mg base rl "is_place" ["thing", "many"] 2 bV:=fun rl=>K67.d_is_place T.f_is_place T.bz d_is_whole  
 have d_is_figures:∀rl,Dfn P w K mg base rl "is_figures" ["p", "many", "thing"] 3 be:=fun rl=>K67.d_is_figures T.f_is_figures T.bz d_is_place  
 have d_is_table:∀rl,Dfn P w K mg base rl "is_table" ["p", "rows", "columns", "thing"] 4 bJ:=fun rl=>K67.d_is_table T.f_is_table T.bz d_is_figures  
 have d_product_sum:∀rl,Dfn P w K mg base rl "product_sum" ["p", "one", "other"] 1 bi:=fun rl=>K67.d_product_sum T.f_product_sum T.bz   
 have d_applied:∀rl,Dfn P w K mg base rl "applied" ["p", "table", "figures"] 2 bZ:=fun rl=>K67.d_applied T.f_applied T.bz d_product_sum  
 have d_columns_of:∀rl,Dfn P w K mg base rl "columns_of" ["table"] 1 bf:=fun rl=>K67.d_columns_of T.f_columns_of T.bz   
 have d_table_times:∀rl,Dfn P w K mg base rl "table_times" ["p", "one", "other"] 3 bh:=fun rl=>K67.d_table_times T.f_table_times T.bz d_columns_of d_applied  
 have d__law_size:∀al,DfnC P w K mg base al 2 "_law_size" ["_law_tape_here"] 2 bG:=fun rl=>K67.d__law_size T.f__law_size T.bz d__law_pick  
 have d__law_mirror:∀rl,Dfn P w K mg base rl "_law_mirror" ["_law_m"] 1 bo:=fun rl=>K67.d__law_mirror T.f__law_mirror T.bz   
 have d_power:∀rl,Dfn P w K mg base rl "power" ["base", "exponent"] 1 df:=fun rl=>K67.d_power T.f_power T.bz   
 have d_ways_to_take:∀rl,Dfn P w K mg base rl "ways_to_take" ["i", "k"] 1 aW:=fun rl=>K67.d_ways_to_take T.f_ways_to_take T.bz   
 have d_sum_figure:∀rl,Dfn P w K mg base rl "sum_figure" ["p", "j", "i", "k"] 2 bv:=fun rl=>K67.d_sum_figure T.f_sum_figure T.bz d_ways_to_take d_power  
 have d_sum_tables:∀rl,Dfn P w K mg base rl "sum_tables" ["p", "m", "s"] 3 bd:=fun rl=>K67.d_sum_tables T.f_sum_tables T.bz d_sum_figure  
 have d__law_sum_table:∀rl,Dfn P w K mg base rl "_law_sum_table" ["_law_p", "_law_m", "_law_j"] 1 aN:=fun rl=>K67.d__law_sum_table T.f__law_sum_table T.bz   
 have d_inverse_of:∀rl,Dfn P w K mg base rl "inverse_of" ["one", "modulus"] 1 bx:=fun rl=>K67.d_inverse_of T.f_inverse_of T.bz   
 have d_unit_figures:∀rl,Dfn P w K mg base rl "unit_figures" ["many", "place"] 1 aP:=fun rl=>K67.d_unit_figures T.f_unit_figures T.bz   
 have d_first_filled:∀rl,Dfn P w K mg base rl "first_filled" ["figures"] 1 aQ:=fun rl=>K67.d_first_filled T.f_first_filled T.bz   
 have d_scaled:∀rl,Dfn P w K mg base rl "scaled" ["p", "row", "often"] 1 cL:=fun rl=>K67.d_scaled T.f_scaled T.bz   
 have d_cleared:∀rl,Dfn P w K mg base rl "cleared" ["p", "row", "other", "column"] 1 cn:=fun rl=>K67.d_cleared T.f_cleared T.bz   
 have d_reduced:∀rl,DfnP P w K mg base rl "reduced" ["p", "table"] 2 bY:=fun rl=>K67.d_reduced T.f_reduced T.bz d_first_filled d_scaled d_unit_figures d_cleared d_inverse_of  
 have d_combination:∀rl,Dfn P w K mg base rl "combination" ["p", "table"] 3 bj:=fun rl=>K67.d_combination T.f_combination T.bz d_reduced  
 have d_right_inverse:∀rl,Dfn P w K mg base rl "right_inverse" ["p", "table"] 3 aT:=fun rl=>K67.d_right_inverse T.f_right_inverse T.bz d_reduced  
 have d_shapes_of:∀rl,Dfn P w K mg base rl "shapes_of" ["many", "w"] 4 (ax 4):=fun rl=>K67.d_shapes_of T.f_shapes_of T.bz   
 have d_rows_of:∀rl,Dfn P w K mg base rl "rows_of" ["tables", "shape"] 1 bP:=fun rl=>K67.d_rows_of T.f_rows_of T.bz   
 have d_net_paper:∀rl,Dfn P w K mg base rl "net_paper" ["p", "tables", "w"] 5 bw:=fun rl=>K67.d_net_paper T.f_net_paper T.bz d_shapes_of d_rows_of d_combination d_right_inverse  
 have d_strength:∀rl,Dfn P w K mg base rl "strength" ["p", "tables"] 6 bR:=fun rl=>K67.d_strength T.f_strength T.bz d_net_paper  
 have d_unit_table:∀rl,Dfn P w K mg base rl "unit_table" ["many"] 2 bc:=fun rl=>K67.d_unit_table T.f_unit_table T.bz d_unit_figures  
 have d_combined:∀rl,Dfn P w K mg base rl "combined" ["p", "table", "figures"] 3 bW:=fun rl=>K67.d_combined T.f_combined T.bz d_applied d_columns_of  
 have d_is_shape:∀rl,Dfn P w K mg base rl "is_shape" ["s", "w", "thing"] 2 bU:=fun rl=>K67.d_is_shape T.f_is_shape T.bz d_is_whole  
 have d_are_inverses:∀rl,Dfn P w K mg base rl "are_inverses" ["p", "tables", "w", "thing"] 5 aY:=fun rl=>K67.d_are_inverses T.f_are_inverses T.bz d_is_table d_shapes_of  
 have d_is_net_paper:∀rl,Dfn P w K mg base rl "is_net_paper" ["p", "tables", "w", "thing"] 6 aX:=fun rl=>K67.d_is_net_paper T.f_is_net_paper T.bz d_are_inverses d_is_shape d_is_figures  
 have d_check_inverses:∀rl,Dfn P w K mg base rl "check_inverses" ["p", "tables", "w", "inverses"] 5 aM:=fun rl=>K67.d_check_inverses T.f_check_inverses T.bz d_shapes_of d_table_times d_unit_table d_rows_of  
 have d_check_combination:∀rl,Dfn P w K mg base rl "check_combination" ["p", "tables", "shape", "figures"] 4 aE:=fun rl=>K67.d_check_combination T.f_check_combination T.bz d_first_filled d_combined d_rows_of  
 have d_lets_net:∀rl,Dfn P w K mg base rl "lets_net" ["p", "tables", "w", "thing"] 7 bS:=fun rl=>K67.d_lets_net T.f_lets_net T.bz d_is_net_paper d_check_inverses d_check_combination  
 have d_is_tables:∀rl,Dfn P w K mg base rl "is_tables" ["p", "thing"] 5 bE:=fun rl=>K67.d_is_tables T.f_is_tables T.bz d_power d_is_table T.g_MOST_POINTS T.g_MOST_SIDES 
 have d_is_upper:∀rl,Dfn P w K mg base rl "is_upper" ["table"] 1 bT:=fun rl=>K67.d_is_upper T.f_is_upper T.bz   
 have d_beginning:∀rl,Dfn P w K mg base rl "beginning" ["tables", "k"] 2 bF:=fun rl=>K67.d_beginning T.f_beginning T.bz d_is_upper  
 have d_mirrored_tables:∀rl,Dfn P w K mg base rl "mirrored_tables" ["p", "m", "s"] 4 aJ:=fun rl=>K67.d_mirrored_tables T.f_mirrored_tables T.bz d_sum_tables d_unit_table  
 have d__law_strong:∀rl,Dfn P w K mg base rl "_law_strong" ["_law_p", "_law_m", "_law_tables"] 8 bm:=fun rl=>K67.d__law_strong T.f__law_strong T.bz d_net_paper d_is_tables d_strength d_lets_net  
 exact pU T.bz d__law_tape d__law_size d_sum_tables d_mirrored_tables d__law_pick d__law_sum_table d__law_strong d_beginning d__law_mirror   F
end
theorem BK(hl:us.length=0):us=[]:=List.eq_nil_of_length_eq_zero hl
theorem qV(hl:us.length=1):∃a0,us=[a0]:=by
 cases us with
 | nil=>cases hl
 | cons a0 t=>cases BK (KF hl);exact⟨a0,rfl⟩
theorem iW(hl:us.length=2):∃a0 a1,us=[a0,a1]:=by
 cases us with
 | nil=>cases hl
 | cons a0 t=>obtain⟨a1,rfl⟩:=qV (KF hl);exact⟨a0,a1,rfl⟩
theorem kX(hl:us.length=3):∃a0 a1 a2,us=[a0,a1,a2]:=by
 cases us with
 | nil=>cases hl
 | cons a0 t=>obtain⟨a1,a2,rfl⟩:=iW (KF hl);exact⟨a0,a1,a2,rfl⟩
theorem qU(hl:us.length=4):∃a0 a1 a2 a3,us=[a0,a1,a2,a3]:=by
 cases us with
 | nil=>cases hl
 | cons a0 t=>obtain⟨a1,a2,a3,rfl⟩:=kX (KF hl);exact⟨a0,a1,a2,a3,rfl⟩
theorem aC{K:Ij}{mg:Str->Option Fm}(X:K.In h)(G:h.Ns GE mg){x:Str}{st:Stmt}{ps:List Str}{oc kV dc pm cd ct:Fm}{od an:Option Addr}{sl:Array (Option Fm)}(a:LG K GE x=some (some (.ref f)))(l:K.lookup f=some ⟨oc,od,.func (LH x x (defArgs st) (defBody st) (defScope st) .none kV dc pm an cd ct),sl⟩)(c:FH K cd x=true)(k:FI K (.ref f)=true)(hb:∀(kV doc pm:Fm)(an:Option Addr)(cdv ct:Fm)(us:List Fm),us.length=ps.length->bindArgs (LH x x (defArgs st) (defBody st) (defScope st) .none kV doc pm an cdv ct) ⟨us,[]⟩=pure (ps.zip us)):FnIn K mg x st ps:=⟨⟨f,_,PySem.W.mg_of X G a,nS l c k,(nS l c k).binds hb⟩⟩
abbrev NI(K:Ij)(x:Str)(f:Addr):Prop:=LG K GE x=some (some (.ref f))
abbrev NZ(K:Ij)(x:Str):Prop:=LG K GE x=some none
abbrev LK(K:Ij)(x:Str)(st:Stmt)(f:Addr)(oc:Fm)(od:Option Addr)(kV dc pm:Fm)(an:Option Addr)(cd ct:Fm)(sl:Array (Option Fm)):Prop:=K.lookup f=some ⟨oc,od,.func (LH x x (defArgs st) (defBody st) (defScope st) .none kV dc pm an cd ct),sl⟩
theorem all_mk{l:KG}{K:Ij}{mg:Str->Option Fm}{fa:Addr}(X:K.In h)(G:h.Ns GE mg)(hfa:mg "law" = some (.ref fa))
 {f1 f2 f3 f4 f5 f6 f7 f8 f9 f10 f11 f12 f13 f14 f15 f16 f17 f18 f19 f20 f21 f22 f23 f24 f25 f26 f27 f28 f29 f30 f31 f32 f33 f34 f35 f36 f37 f38 f39 f40 f41 f42 f43:Addr}{od1 an1 od2 an2 od3 an3 od4 an4 od5 an5 od6 an6 od7 an7 od8 an8 od9 an9 od10 an10 od11 an11 od12 an12 od13 an13 od14 an14 od15 an15 od16 an16 od17 an17 od18 an18 od19 an19 od20 an20 od21 an21 od22 an22 od23 an23 od24 an24 od25 an25 od26 an26 od27 an27 od28 an28 od29 an29 od30 an30 od31 an31 od32 an32 od33 an33 od34 an34 od35 an35 od36 an36 od37 an37 od38 an38 od39 an39 od40 an40 od41 an41 od42 an42 od43 an43:Option Addr}{sl1 sl2 sl3 sl4 sl5 sl6 sl7 sl8 sl9 sl10 sl11 sl12 sl13 sl14 sl15 sl16 sl17 sl18 sl19 sl20 sl21 sl22 sl23 sl24 sl25 sl26 sl27 sl28 sl29 sl30 sl31 sl32 sl33 sl34 sl35 sl36 sl37 sl38 sl39 sl40 sl41 sl42 sl43:Array (Option Fm)}{oc1 kV1 dc1 pm1 cd1 ct1 oc2 kV2 dc2 pm2 cd2 ct2 oc3 kV3 dc3 pm3 cd3 ct3 oc4 kV4 dc4 pm4 cd4 ct4 oc5 kV5 dc5 pm5 cd5 ct5 oc6 kV6 dc6 pm6 cd6 ct6 oc7 kV7 dc7 pm7 cd7 ct7 oc8 kV8 dc8 pm8 cd8 ct8 oc9 kV9 dc9 pm9 cd9 ct9 oc10 kV10 dc10 pm10 cd10 ct10 oc11 kV11 dc11 pm11 cd11 ct11 oc12 kV12 dc12 pm12 cd12 ct12 oc13 kV13 dc13 pm13 cd13 ct13 oc14 kV14 dc14 pm14 cd14 ct14 oc15 kV15 dc15 pm15 cd15 ct15 oc16 kV16 dc16 pm16 cd16 ct16 oc17 kV17 dc17 pm17 cd17 ct17 oc18 kV18 dc18 pm18 cd18 ct18 oc19 kV19 dc19 pm19 cd19 ct19 oc20 kV20 dc20 pm20 cd20 ct20 oc21 kV21 dc21 pm21 cd21 ct21 oc22 kV22 dc22 pm22 cd22 ct22 oc23 kV23 dc23 pm23 cd23 ct23 oc24 kV24 dc24 pm24 cd24 ct24 oc25 kV25 dc25 pm25 cd25 ct25 oc26 kV26 dc26 pm26 cd26 ct26 oc27 kV27 dc27 pm27 cd27 ct27 oc28 kV28 dc28 pm28 cd28 ct28 oc29 kV29 dc29 pm29 cd29 ct29 oc30 kV30 dc30 pm30 cd30 ct30 oc31 kV31 dc31 pm31 cd31 ct31 oc32 kV32 dc32 pm32 cd32 ct32 oc33 kV33 dc33 pm33 cd33 ct33 oc34 kV34 dc34 pm34 cd34 ct34 oc35 kV35 dc35 pm35 cd35 ct35 oc36 kV36 dc36 pm36 cd36 ct36 oc37 kV37 dc37 pm37 cd37 ct37 oc38 kV38 dc38 pm38 cd38 ct38 oc39 kV39 dc39 pm39 cd39 ct39 oc40 kV40 dc40 pm40 cd40 ct40 oc41 kV41 dc41 pm41 cd41 ct41 oc42 kV42 dc42 pm42 cd42 ct42 oc43 kV43 dc43 pm43 cd43 ct43:Fm}
 (a1:NI K "_law_tape" f1)(l1:LK K "_law_tape" (C5 52) f1 oc1 od1 kV1 dc1 pm1 an1 cd1 ct1 sl1)(c1:FH K cd1 "_law_tape" = true)(k1:FI K (.ref f1)=true)(a2:NI K "_law_pick" f2)(l2:LK K "_law_pick" (C5 53) f2 oc2 od2 kV2 dc2 pm2 an2 cd2 ct2 sl2)(c2:FH K cd2 "_law_pick" = true)(k2:FI K (.ref f2)=true)(a3:NI K "is_whole" f3)(l3:LK K "is_whole" (C5 7) f3 oc3 od3 kV3 dc3 pm3 an3 cd3 ct3 sl3)(c3:FH K cd3 "is_whole" = true)(k3:FI K (.ref f3)=true)(a4:NI K "is_place" f4)(l4:LK K "is_place" (C5 8) f4 oc4 od4 kV4 dc4 pm4 an4 cd4 ct4 sl4)(c4:FH K cd4 "is_place" = true)(k4:FI K (.ref f4)=true)(a5:NI K "is_figures" f5)(l5:LK K "is_figures" (C5 16) f5 oc5 od5 kV5 dc5 pm5 an5 cd5 ct5 sl5)(c5:FH K cd5 "is_figures" = true)(k5:FI K (.ref f5)=true)(a6:NI K "is_table" f6)(l6:LK K "is_table" (C5 17) f6 oc6 od6 kV6 dc6 pm6 an6 cd6 ct6 sl6)(c6:FH K cd6 "is_table" = true)(k6:FI K (.ref f6)=true)(a7:NI K "product_sum" f7)(l7:LK K "product_sum" (C5 19) f7 oc7 od7 kV7 dc7 pm7 an7 cd7 ct7 sl7)(c7:FH K cd7 "product_sum" = true)(k7:FI K (.ref f7)=true)(a8:NI K "applied" f8)(l8:LK K "applied" (C5 20) f8 oc8 od8 kV8 dc8 pm8 an8 cd8 ct8 sl8)(c8:FH K cd8 "applied" = true)(k8:FI K (.ref f8)=true)(a9:NI K "columns_of" f9)(l9:LK K "columns_of" (C5 18) f9 oc9 od9 kV9 dc9 pm9 an9 cd9 ct9 sl9)(c9:FH K cd9 "columns_of" = true)(k9:FI K (.ref f9)=true)(a10:NI K "table_times" f10)(l10:LK K "table_times" (C5 22) f10 oc10 od10 kV10 dc10 pm10 an10 cd10 ct10 sl10)(c10:FH K cd10 "table_times" = true)(k10:FI K (.ref f10)=true)(a11:NI K "_law_size" f11)(l11:LK K "_law_size" (C5 54) f11 oc11 od11 kV11 dc11 pm11 an11 cd11 ct11 sl11)(c11:FH K cd11 "_law_size" = true)(k11:FI K (.ref f11)=true)(a12:NI K "_law_mirror" f12)(l12:LK K "_law_mirror" (C5 56) f12 oc12 od12 kV12 dc12 pm12 an12 cd12 ct12 sl12)(c12:FH K cd12 "_law_mirror" = true)(k12:FI K (.ref f12)=true)(a13:NI K "power" f13)(l13:LK K "power" (C5 10) f13 oc13 od13 kV13 dc13 pm13 an13 cd13 ct13 sl13)(c13:FH K cd13 "power" = true)(k13:FI K (.ref f13)=true)(a14:NI K "ways_to_take" f14)(l14:LK K "ways_to_take" (C5 1) f14 oc14 od14 kV14 dc14 pm14 an14 cd14 ct14 sl14)(c14:FH K cd14 "ways_to_take" = true)(k14:FI K (.ref f14)=true)(a15:NI K "sum_figure" f15)(l15:LK K "sum_figure" (C5 41) f15 oc15 od15 kV15 dc15 pm15 an15 cd15 ct15 sl15)(c15:FH K cd15 "sum_figure" = true)(k15:FI K (.ref f15)=true)(a16:NI K "sum_tables" f16)(l16:LK K "sum_tables" (C5 42) f16 oc16 od16 kV16 dc16 pm16 an16 cd16 ct16 sl16)(c16:FH K cd16 "sum_tables" = true)(k16:FI K (.ref f16)=true)(a17:NI K "_law_sum_table" f17)(l17:LK K "_law_sum_table" (C5 55) f17 oc17 od17 kV17 dc17 pm17 an17 cd17 ct17 sl17)(c17:FH K cd17 "_law_sum_table" = true)(k17:FI K (.ref f17)=true)(a18:NI K "inverse_of" f18)(l18:LK K "inverse_of" (C5 14) f18 oc18 od18 kV18 dc18 pm18 an18 cd18 ct18 sl18)(c18:FH K cd18 "inverse_of" = true)(k18:FI K (.ref f18)=true)(a19:NI K "unit_figures" f19)(l19:LK K "unit_figures" (C5 23) f19 oc19 od19 kV19 dc19 pm19 an19 cd19 ct19 sl19)(c19:FH K cd19 "unit_figures" = true)(k19:FI K (.ref f19)=true)(a20:NI K "first_filled" f20)(l20:LK K "first_filled" (C5 25) f20 oc20 od20 kV20 dc20 pm20 an20 cd20 ct20 sl20)(c20:FH K cd20 "first_filled" = true)(k20:FI K (.ref f20)=true)(a21:NI K "scaled" f21)(l21:LK K "scaled" (C5 26) f21 oc21 od21 kV21 dc21 pm21 an21 cd21 ct21 sl21)(c21:FH K cd21 "scaled" = true)(k21:FI K (.ref f21)=true)(a22:NI K "cleared" f22)(l22:LK K "cleared" (C5 27) f22 oc22 od22 kV22 dc22 pm22 an22 cd22 ct22 sl22)(c22:FH K cd22 "cleared" = true)(k22:FI K (.ref f22)=true)(a23:NI K "reduced" f23)(l23:LK K "reduced" (C5 28) f23 oc23 od23 kV23 dc23 pm23 an23 cd23 ct23 sl23)(c23:FH K cd23 "reduced" = true)(k23:FI K (.ref f23)=true)(a24:NI K "combination" f24)(l24:LK K "combination" (C5 30) f24 oc24 od24 kV24 dc24 pm24 an24 cd24 ct24 sl24)(c24:FH K cd24 "combination" = true)(k24:FI K (.ref f24)=true)(a25:NI K "right_inverse" f25)(l25:LK K "right_inverse" (C5 29) f25 oc25 od25 kV25 dc25 pm25 an25 cd25 ct25 sl25)(c25:FH K cd25 "right_inverse" = true)(k25:FI K (.ref f25)=true)(a26:NI K "shapes_of" f26)(l26:LK K "shapes_of" (C5 33) f26 oc26 od26 kV26 dc26 pm26 an26 cd26 ct26 sl26)(c26:FH K cd26 "shapes_of" = true)(k26:FI K (.ref f26)=true)(a27:NI K "rows_of" f27)(l27:LK K "rows_of" (C5 34) f27 oc27 od27 kV27 dc27 pm27 an27 cd27 ct27 sl27)(c27:FH K cd27 "rows_of" = true)(k27:FI K (.ref f27)=true)(a28:NI K "net_paper" f28)(l28:LK K "net_paper" (C5 36) f28 oc28 od28 kV28 dc28 pm28 an28 cd28 ct28 sl28)(c28:FH K cd28 "net_paper" = true)(k28:FI K (.ref f28)=true)(a29:NI K "strength" f29)(l29:LK K "strength" (C5 38) f29 oc29 od29 kV29 dc29 pm29 an29 cd29 ct29 sl29)(c29:FH K cd29 "strength" = true)(k29:FI K (.ref f29)=true)(a30:NI K "unit_table" f30)(l30:LK K "unit_table" (C5 24) f30 oc30 od30 kV30 dc30 pm30 an30 cd30 ct30 sl30)(c30:FH K cd30 "unit_table" = true)(k30:FI K (.ref f30)=true)(a31:NI K "combined" f31)(l31:LK K "combined" (C5 21) f31 oc31 od31 kV31 dc31 pm31 an31 cd31 ct31 sl31)(c31:FH K cd31 "combined" = true)(k31:FI K (.ref f31)=true)(a32:NI K "is_shape" f32)(l32:LK K "is_shape" (C5 45) f32 oc32 od32 kV32 dc32 pm32 an32 cd32 ct32 sl32)(c32:FH K cd32 "is_shape" = true)(k32:FI K (.ref f32)=true)(a33:NI K "are_inverses" f33)(l33:LK K "are_inverses" (C5 46) f33 oc33 od33 kV33 dc33 pm33 an33 cd33 ct33 sl33)(c33:FH K cd33 "are_inverses" = true)(k33:FI K (.ref f33)=true)(a34:NI K "is_net_paper" f34)(l34:LK K "is_net_paper" (C5 47) f34 oc34 od34 kV34 dc34 pm34 an34 cd34 ct34 sl34)(c34:FH K cd34 "is_net_paper" = true)(k34:FI K (.ref f34)=true)(a35:NI K "check_inverses" f35)(l35:LK K "check_inverses" (C5 48) f35 oc35 od35 kV35 dc35 pm35 an35 cd35 ct35 sl35)(c35:FH K cd35 "check_inverses" = true)(k35:FI K (.ref f35)=true)(a36:NI K "check_combination" f36)(l36:LK K "check_combination" (C5 49) f36 oc36 od36 kV36 dc36 pm36 an36 cd36 ct36 sl36)(c36:FH K cd36 "check_combination" = true)(k36:FI K (.ref f36)=true)(a37:NI K "lets_net" f37)(l37:LK K "lets_net" (C5 50) f37 oc37 od37 kV37 dc37 pm37 an37 cd37 ct37 sl37)(c37:FH K cd37 "lets_net" = true)(k37:FI K (.ref f37)=true)(a38:NI K "is_tables" f38)(l38:LK K "is_tables" (C5 32) f38 oc38 od38 kV38 dc38 pm38 an38 cd38 ct38 sl38)(c38:FH K cd38 "is_tables" = true)(k38:FI K (.ref f38)=true)(a39:NI K "is_upper" f39)(l39:LK K "is_upper" (C5 39) f39 oc39 od39 kV39 dc39 pm39 an39 cd39 ct39 sl39)(c39:FH K cd39 "is_upper" = true)(k39:FI K (.ref f39)=true)(a40:NI K "beginning" f40)(l40:LK K "beginning" (C5 40) f40 oc40 od40 kV40 dc40 pm40 an40 cd40 ct40 sl40)(c40:FH K cd40 "beginning" = true)(k40:FI K (.ref f40)=true)(a41:NI K "mirrored_tables" f41)(l41:LK K "mirrored_tables" (C5 43) f41 oc41 od41 kV41 dc41 pm41 an41 cd41 ct41 sl41)(c41:FH K cd41 "mirrored_tables" = true)(k41:FI K (.ref f41)=true)(a42:NI K "_law_strong" f42)(l42:LK K "_law_strong" (C5 57) f42 oc42 od42 kV42 dc42 pm42 an42 cd42 ct42 sl42)(c42:FH K cd42 "_law_strong" = true)(k42:FI K (.ref f42)=true)(a43:NI K "law" f43)(l43:LK K "law" (C5 58) f43 oc43 od43 kV43 dc43 pm43 an43 cd43 ct43 sl43)(c43:FH K cd43 "law" = true)(k43:FI K (.ref f43)=true)
 (z_int:NZ K "int")(z_bool:NZ K "bool")(z_str:NZ K "str")(z_list:NZ K "list")(z_tuple:NZ K "tuple")(z_dict:NZ K "dict")(z_isinstance:NZ K "isinstance")(z_len:NZ K "len")(z_abs:NZ K "abs")(z_repr:NZ K "repr")(z_range:NZ K "range")(z_all:NZ K "all")(z_any:NZ K "any")(z_sum:NZ K "sum")(z_min:NZ K "min")(z_max:NZ K "max")(z_sorted:NZ K "sorted")(z_zip:NZ K "zip")(z_enumerate:NZ K "enumerate")(z_reversed:NZ K "reversed")(z_divmod:NZ K "divmod")(z_set:NZ K "set")(g_MOST_POINTS:GlK K "MOST_POINTS" (.int 40))(g_MOST_SIDES:GlK K "MOST_SIDES" (.int 4))  :
 ∃fd:Il,(∀(s:Ft)(v:Fm),LQ s fd ⟨[v],[]⟩ [("_law_script", v)])/\∀base:Heap,K.In base->base.Ns GE mg->FnOk l.prog w K mg base E5 10 fa fd ["_law_script"] (gf K):=by
 have e:=hfa.symm.trans (PySem.W.mg_of X G a43)
 cases e
 have B:Bz mg:=⟨FZ X G z_int,FZ X G z_bool,FZ X G z_str,FZ X G z_list,FZ X G z_tuple,FZ X G z_dict,FZ X G z_isinstance,FZ X G z_len,FZ X G z_abs,FZ X G z_repr,FZ X G z_range,FZ X G z_all,FZ X G z_any,FZ X G z_sum,FZ X G z_min,FZ X G z_max,FZ X G z_sorted,FZ X G z_zip,FZ X G z_enumerate,FZ X G z_reversed,FZ X G z_divmod,FZ X G z_set⟩
 have T:Txt K mg:=⟨B,(aC X G a1 l1 c1 k1 fun _ _ _ _ _ _ us hl=>(by obtain⟨_,_,rfl⟩:=iW hl;exact rfl)),(aC X G a2 l2 c2 k2 fun _ _ _ _ _ _ us hl=>(by obtain⟨_,_,rfl⟩:=iW hl;exact rfl)),(aC X G a3 l3 c3 k3 fun _ _ _ _ _ _ us hl=>(by obtain⟨_,rfl⟩:=qV hl;exact rfl)),(aC X G a4 l4 c4 k4 fun _ _ _ _ _ _ us hl=>(by obtain⟨_,_,rfl⟩:=iW hl;exact rfl)),(aC X G a5 l5 c5 k5 fun _ _ _ _ _ _ us hl=>(by obtain⟨_,_,_,rfl⟩:=kX hl;exact rfl)),(aC X G a6 l6 c6 k6 fun _ _ _ _ _ _ us hl=>(by obtain⟨_,_,_,_,rfl⟩:=qU hl;exact rfl)),(aC X G a7 l7 c7 k7 fun _ _ _ _ _ _ us hl=>(by obtain⟨_,_,_,rfl⟩:=kX hl;exact rfl)),(aC X G a8 l8 c8 k8 fun _ _ _ _ _ _ us hl=>(by obtain⟨_,_,_,rfl⟩:=kX hl;exact rfl)),(aC X G a9 l9 c9 k9 fun _ _ _ _ _ _ us hl=>(by obtain⟨_,rfl⟩:=qV hl;exact rfl)),(aC X G a10 l10 c10 k10 fun _ _ _ _ _ _ us hl=>(by obtain⟨_,_,_,rfl⟩:=kX hl;exact rfl)),(aC X G a11 l11 c11 k11 fun _ _ _ _ _ _ us hl=>(by obtain⟨_,rfl⟩:=qV hl;exact rfl)),(aC X G a12 l12 c12 k12 fun _ _ _ _ _ _ us hl=>(by obtain⟨_,rfl⟩:=qV hl;exact rfl)),(aC X G a13 l13 c13 k13 fun _ _ _ _ _ _ us hl=>(by obtain⟨_,_,rfl⟩:=iW hl;exact rfl)),(aC X G a14 l14 c14 k14 fun _ _ _ _ _ _ us hl=>(by obtain⟨_,_,rfl⟩:=iW hl;exact rfl)),(aC X G a15 l15 c15 k15 fun _ _ _ _ _ _ us hl=>(by obtain⟨_,_,_,_,rfl⟩:=qU hl;exact rfl)),(aC X G a16 l16 c16 k16 fun _ _ _ _ _ _ us hl=>(by obtain⟨_,_,_,rfl⟩:=kX hl;exact rfl)),(aC X G a17 l17 c17 k17 fun _ _ _ _ _ _ us hl=>(by obtain⟨_,_,_,rfl⟩:=kX hl;exact rfl)),(aC X G a18 l18 c18 k18 fun _ _ _ _ _ _ us hl=>(by obtain⟨_,_,rfl⟩:=iW hl;exact rfl)),(aC X G a19 l19 c19 k19 fun _ _ _ _ _ _ us hl=>(by obtain⟨_,_,rfl⟩:=iW hl;exact rfl)),(aC X G a20 l20 c20 k20 fun _ _ _ _ _ _ us hl=>(by obtain⟨_,rfl⟩:=qV hl;exact rfl)),(aC X G a21 l21 c21 k21 fun _ _ _ _ _ _ us hl=>(by obtain⟨_,_,_,rfl⟩:=kX hl;exact rfl)),(aC X G a22 l22 c22 k22 fun _ _ _ _ _ _ us hl=>(by obtain⟨_,_,_,_,rfl⟩:=qU hl;exact rfl)),(aC X G a23 l23 c23 k23 fun _ _ _ _ _ _ us hl=>(by obtain⟨_,_,rfl⟩:=iW hl;exact rfl)),(aC X G a24 l24 c24 k24 fun _ _ _ _ _ _ us hl=>(by obtain⟨_,_,rfl⟩:=iW hl;exact rfl)),(aC X G a25 l25 c25 k25 fun _ _ _ _ _ _ us hl=>(by obtain⟨_,_,rfl⟩:=iW hl;exact rfl)),(aC X G a26 l26 c26 k26 fun _ _ _ _ _ _ us hl=>(by obtain⟨_,_,rfl⟩:=iW hl;exact rfl)),(aC X G a27 l27 c27 k27 fun _ _ _ _ _ _ us hl=>(by obtain⟨_,_,rfl⟩:=iW hl;exact rfl)),(aC X G a28 l28 c28 k28 fun _ _ _ _ _ _ us hl=>(by obtain⟨_,_,_,rfl⟩:=kX hl;exact rfl)),(aC X G a29 l29 c29 k29 fun _ _ _ _ _ _ us hl=>(by obtain⟨_,_,rfl⟩:=iW hl;exact rfl)),(aC X G a30 l30 c30 k30 fun _ _ _ _ _ _ us hl=>(by obtain⟨_,rfl⟩:=qV hl;exact rfl)),(aC X G a31 l31 c31 k31 fun _ _ _ _ _ _ us hl=>(by obtain⟨_,_,_,rfl⟩:=kX hl;exact rfl)),(aC X G a32 l32 c32 k32 fun _ _ _ _ _ _ us hl=>(by obtain⟨_,_,_,rfl⟩:=kX hl;exact rfl)),(aC X G a33 l33 c33 k33 fun _ _ _ _ _ _ us hl=>(by obtain⟨_,_,_,_,rfl⟩:=qU hl;exact rfl)),(aC X G a34 l34 c34 k34 fun _ _ _ _ _ _ us hl=>(by obtain⟨_,_,_,_,rfl⟩:=qU hl;exact rfl)),(aC X G a35 l35 c35 k35 fun _ _ _ _ _ _ us hl=>(by obtain⟨_,_,_,_,rfl⟩:=qU hl;exact rfl)),(aC X G a36 l36 c36 k36 fun _ _ _ _ _ _ us hl=>(by obtain⟨_,_,_,_,rfl⟩:=qU hl;exact rfl)),(aC X G a37 l37 c37 k37 fun _ _ _ _ _ _ us hl=>(by obtain⟨_,_,_,_,rfl⟩:=qU hl;exact rfl)),(aC X G a38 l38 c38 k38 fun _ _ _ _ _ _ us hl=>(by obtain⟨_,_,rfl⟩:=iW hl;exact rfl)),(aC X G a39 l39 c39 k39 fun _ _ _ _ _ _ us hl=>(by obtain⟨_,rfl⟩:=qV hl;exact rfl)),(aC X G a40 l40 c40 k40 fun _ _ _ _ _ _ us hl=>(by obtain⟨_,_,rfl⟩:=iW hl;exact rfl)),(aC X G a41 l41 c41 k41 fun _ _ _ _ _ _ us hl=>(by obtain⟨_,_,_,rfl⟩:=kX hl;exact rfl)),(aC X G a42 l42 c42 k42 fun _ _ _ _ _ _ us hl=>(by obtain⟨_,_,_,rfl⟩:=kX hl;exact rfl)),g_MOST_POINTS.of X G,g_MOST_SIDES.of X G⟩
 have FL:=nS (st:=C5 58) l43 c43 k43
 exact⟨_,fun s v=>.of_eq rfl,fun base _ _=>xI FL T ⟩
theorem walk{l:KG}{q:F0}{loose:List Str}{XP:(Str->Option Fm)->Heap->Prop}{YP:GD->Heap->Prop}{d:DefRec}{K:LW->Ij}(hn:l.most=some 63)(hdf:d.params.defaults=[])
 (hY:∀(w:GD)(h:Heap),YP w h->(K w.params).In h)
 (F:∀(w:GD)(mg:Str->Option Fm)(fa:Addr)(h:Heap),(K w.params).In h->h.Ns GE mg->mg d.name=some (.ref fa) ->
  ∃fd:Il,(∀(s:Ft)(u:Fm),LQ s fd ⟨[u],[]⟩ [("_law_script", u)])/\∀base:Heap,(K w.params).In base->base.Ns GE mg->FnOk l.prog w (K w.params) mg base E5 10 fa fd ["_law_script"] (gf (K w.params))) :
 PySem.W.WalkO q loose XP YP l.row.toRowW d [] (fun f vs=>PySem.call f vs) :=
 L2.walk_of (n:=63) (k:=10) (x := "_law_script") (CX:=fun _=>E5) (sp:=fun w=>gf (K w.params)) hn (by decide) hdf ⟨rfl,by decide,by decide,rfl⟩ hY F (fun _ _ a ns hl _ hS=>⟨a,ns,rfl,hS,hl,fun _=>rfl⟩) fun _ _ _ _ _ z=>z
end K67
noncomputable def PySem.W.Fast.tw17300968945869070458:PySem.Params->Ij:=K67.heapK
theorem PySem.W.Fast.te17300968945869070458:K67.heapK=PySem.W.Fast.tw17300968945869070458:=rfl
open PySem PySem.W PyProof.Rows
set_option maxRecDepth 100000 in
set_option maxHeartbeats 0 in
theorem PySem.Challenge.cw_evenpoints_k67_sum_and_mirrored_tables_holds : PySem.Challenge.rw_evenpoints_k67_sum_and_mirrored_tables.Holds := by
 refine(congrArg KG.Holds K67.rw_eq).mpr ?_
 w_on;o_law
 refine holds_open (loose:=[]) (XP:=XL K67.zview []) (YP:=Hook.says (kHook K67.heapK K67.heapA K67.heapE)) K67.zleft
  (Hook.of _) (Hook.keeps _) (fun s e=>xl_of s (FE.mp e).1)
  XL.keeps (by rfl) (by rfl) (by rfl) (fun s e=>recFacts_of (FE.mp e).2) (by rfl)
  (by first|assumption|decide +kernel) (by decide +kernel) ⟨rfl,rfl,rfl,rfl,rfl,by decide +kernel⟩ ?hw ?hc
 (case hw=>w_witness2)
 k_fill
 refine K67.walk (l:=K67.rwN) rfl rfl (fun w h Y=>PySem.W.kIn_of (as:=K67.heapA) (e:=K67.heapE) Y) ?F
 case F =>
  intro w mg fa h KX G hmg
  refine' K67.all_mk KX G hmg ?a1 ?l1 ?c1 ?k1 ?a2 ?l2 ?c2 ?k2 ?a3 ?l3 ?c3 ?k3 ?a4 ?l4 ?c4 ?k4 ?a5 ?l5 ?c5 ?k5 ?a6 ?l6 ?c6 ?k6 ?a7 ?l7 ?c7 ?k7 ?a8 ?l8 ?c8 ?k8 ?a9 ?l9 ?c9 ?k9 ?a10 ?l10 ?c10 ?k10 ?a11 ?l11 ?c11 ?k11 ?a12 ?l12 ?c12 ?k12 ?a13 ?l13 ?c13 ?k13 ?a14 ?l14 ?c14 ?k14 ?a15 ?l15 ?c15 ?k15 ?a16 ?l16 ?c16 ?k16 ?a17 ?l17 ?c17 ?k17 ?a18 ?l18 ?c18 ?k18 ?a19 ?l19 ?c19 ?k19 ?a20 ?l20 ?c20 ?k20 ?a21 ?l21 ?c21 ?k21 ?a22 ?l22 ?c22 ?k22 ?a23 ?l23 ?c23 ?k23 ?a24 ?l24 ?c24 ?k24 ?a25 ?l25 ?c25 ?k25 ?a26 ?l26 ?c26 ?k26 ?a27 ?l27 ?c27 ?k27 ?a28 ?l28 ?c28 ?k28 ?a29 ?l29 ?c29 ?k29 ?a30 ?l30 ?c30 ?k30 ?a31 ?l31 ?c31 ?k31 ?a32 ?l32 ?c32 ?k32 ?a33 ?l33 ?c33 ?k33 ?a34 ?l34 ?c34 ?k34 ?a35 ?l35 ?c35 ?k35 ?a36 ?l36 ?c36 ?k36 ?a37 ?l37 ?c37 ?k37 ?a38 ?l38 ?c38 ?k38 ?a39 ?l39 ?c39 ?k39 ?a40 ?l40 ?c40 ?k40 ?a41 ?l41 ?c41 ?k41 ?a42 ?l42 ?c42 ?k42 ?a43 ?l43 ?c43 ?k43 ?zint ?zbool ?zstr ?zlist ?ztuple ?zdict ?zisinstance ?zlen ?zabs ?zrepr ?zrange ?zall ?zany ?zsum ?zmin ?zmax ?zsorted ?zzip ?zenumerate ?zreversed ?zdivmod ?zset ?gMOST_POINTS ?gMOST_SIDES 
  all_goals (try change _=_)
  (case a1=>k_is);(case l1=>k_is);(case c1=>k_is);(case k1=>k_is)
  (case a2=>k_is);(case l2=>k_is);(case c2=>k_is);(case k2=>k_is)
  (case a3=>k_is);(case l3=>k_is);(case c3=>k_is);(case k3=>k_is)
  (case a4=>k_is);(case l4=>k_is);(case c4=>k_is);(case k4=>k_is)
  (case a5=>k_is);(case l5=>k_is);(case c5=>k_is);(case k5=>k_is)
  (case a6=>k_is);(case l6=>k_is);(case c6=>k_is);(case k6=>k_is)
  (case a7=>k_is);(case l7=>k_is);(case c7=>k_is);(case k7=>k_is)
  (case a8=>k_is);(case l8=>k_is);(case c8=>k_is);(case k8=>k_is)
  (case a9=>k_is);(case l9=>k_is);(case c9=>k_is);(case k9=>k_is)
  (case a10=>k_is);(case l10=>k_is);(case c10=>k_is);(case k10=>k_is)
  (case a11=>k_is);(case l11=>k_is);(case c11=>k_is);(case k11=>k_is)
  (case a12=>k_is);(case l12=>k_is);(case c12=>k_is);(case k12=>k_is)
  (case a13=>k_is);(case l13=>k_is);(case c13=>k_is);(case k13=>k_is)
  (case a14=>k_is);(case l14=>k_is);(case c14=>k_is);(case k14=>k_is)
  (case a15=>k_is);(case l15=>k_is);(case c15=>k_is);(case k15=>k_is)
  (case a16=>k_is);(case l16=>k_is);(case c16=>k_is);(case k16=>k_is)
  (case a17=>k_is);(case l17=>k_is);(case c17=>k_is);(case k17=>k_is)
  (case a18=>k_is);(case l18=>k_is);(case c18=>k_is);(case k18=>k_is)
  (case a19=>k_is);(case l19=>k_is);(case c19=>k_is);(case k19=>k_is)
  (case a20=>k_is);(case l20=>k_is);(case c20=>k_is);(case k20=>k_is)
  (case a21=>k_is);(case l21=>k_is);(case c21=>k_is);(case k21=>k_is)
  (case a22=>k_is);(case l22=>k_is);(case c22=>k_is);(case k22=>k_is)
  (case a23=>k_is);(case l23=>k_is);(case c23=>k_is);(case k23=>k_is)
  (case a24=>k_is);(case l24=>k_is);(case c24=>k_is);(case k24=>k_is)
  (case a25=>k_is);(case l25=>k_is);(case c25=>k_is);(case k25=>k_is)
  (case a26=>k_is);(case l26=>k_is);(case c26=>k_is);(case k26=>k_is)
  (case a27=>k_is);(case l27=>k_is);(case c27=>k_is);(case k27=>k_is)
  (case a28=>k_is);(case l28=>k_is);(case c28=>k_is);(case k28=>k_is)
  (case a29=>k_is);(case l29=>k_is);(case c29=>k_is);(case k29=>k_is)
  (case a30=>k_is);(case l30=>k_is);(case c30=>k_is);(case k30=>k_is)
  (case a31=>k_is);(case l31=>k_is);(case c31=>k_is);(case k31=>k_is)
  (case a32=>k_is);(case l32=>k_is);(case c32=>k_is);(case k32=>k_is)
  (case a33=>k_is);(case l33=>k_is);(case c33=>k_is);(case k33=>k_is)
  (case a34=>k_is);(case l34=>k_is);(case c34=>k_is);(case k34=>k_is)
  (case a35=>k_is);(case l35=>k_is);(case c35=>k_is);(case k35=>k_is)
  (case a36=>k_is);(case l36=>k_is);(case c36=>k_is);(case k36=>k_is)
  (case a37=>k_is);(case l37=>k_is);(case c37=>k_is);(case k37=>k_is)
  (case a38=>k_is);(case l38=>k_is);(case c38=>k_is);(case k38=>k_is)
  (case a39=>k_is);(case l39=>k_is);(case c39=>k_is);(case k39=>k_is)
  (case a40=>k_is);(case l40=>k_is);(case c40=>k_is);(case k40=>k_is)
  (case a41=>k_is);(case l41=>k_is);(case c41=>k_is);(case k41=>k_is)
  (case a42=>k_is);(case l42=>k_is);(case c42=>k_is);(case k42=>k_is)
  (case a43=>k_is);(case l43=>k_is);(case c43=>k_is);(case k43=>k_is)
  (case zint=>k_is)
  (case zbool=>k_is)
  (case zstr=>k_is)
  (case zlist=>k_is)
  (case ztuple=>k_is)
  (case zdict=>k_is)
  (case zisinstance=>k_is)
  (case zlen=>k_is)
  (case zabs=>k_is)
  (case zrepr=>k_is)
  (case zrange=>k_is)
  (case zall=>k_is)
  (case zany=>k_is)
  (case zsum=>k_is)
  (case zmin=>k_is)
  (case zmax=>k_is)
  (case zsorted=>k_is)
  (case zzip=>k_is)
  (case zenumerate=>k_is)
  (case zreversed=>k_is)
  (case zdivmod=>k_is)
  (case zset=>k_is)
  (case gMOST_POINTS=>refine' L2.VL.GlK.int ?h1;(case h1=>k_is))
  (case gMOST_SIDES=>refine' L2.VL.GlK.int ?h1;(case h1=>k_is))
