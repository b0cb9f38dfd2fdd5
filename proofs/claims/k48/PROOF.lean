import PyProof.Rows.All
import Wide.All
import OpenK.AllK
import Wide.FinOn
import Lean
import PyProof.EqAt
import PyProof.EqKinds
import PyProof.TupleCall
import KE.KDictSum
import KE.KMinKey
import PyProof.Rows.CallKwBuiltin
import PyProof.SumWalkG
import PySem.Challenge.RW_evenpoints_k48_points_by_steps
set_option compiler.extract_closed false
set_option bootstrap.genMatcherCode false
set_option Elab.async false
set_option linter.all false
set_option maxRecDepth 100000
set_option maxHeartbeats 4000000
open And renaming intro->v6, imp_right->wq
open Array renaming length_toList->wd, getElem?_toList->xt, getElem?_eq_getElem->xO, getElem?_eq_none->yq, getD->zJ, toList_push->Ai, replicate->AG, toList_extract->AT, mk->Bv
open Bool renaming false_ne_true->ww, and_eq_true_iff->wK, or_eq_true_iff->yk, false_eq_true->yt, not_true->yO, eq_iff_iff->zO, false_and->Aa
open Classical renaming choose_spec->xR, choose->Av
open Exists renaming imp->wJ
open False renaming elim->xJ
open ForInStep renaming yield->yC
open Iff renaming rfl->A5
open Int renaming fdiv_eq_ediv_of_nonneg->wG, gcd->wX, emod_lt_of_pos->w_, fmod_eq_emod_of_nonneg->xa, fmod_nonneg_of_pos->xh, natAbs_natCast->xi, emod_nonneg->xj, toNat_natCast->xp, fmod_lt_of_pos->xU, eq_ofNat_of_zero_le->yl, mul_ediv_add_emod->yJ, le_refl->y8, natAbs_mul->zp, mul_le_mul_of_nonneg_right->zw, gcd_pos_of_ne_zero_right->zG, gcd_zero_right->z_, fmod_add_mul_fdiv->AD, mul_comm->AJ, le_ediv_of_mul_le->AK, zero_add->AL, gcd_comm->Bn, mul_zero->Br, add_zero->Bs, mul_one->BC, mul_pos->BI
open List renaming mem_cons_of_mem->wf, mem_cons_self->wg, size_toArray->wk, getElem?_eq_some_iff->wo, length_map->wp, getElem?_eq_getElem->wz, getElem?_set_ne->wB, getElem?_set_self->wC, mem_cons->wE, length_cons->wF, range->wI, mem_append_right->wN, length_append->wQ, lookup_cons->wV, getElem?_map->xf, getElem?_set->xg, mem_range->xv, map_cons->xw, map_append->xD, take_of_length_le->xI, length_reverse->xK, append_nil->xX, length_take->x4, getElem_mem->x5, replicate->x8, drop_eq_getElem_cons->x9, take_succ_eq_append_getElem->ya, mem_of_getElem?->yb, length_range->yg, pairwise_cons->yu, mem_singleton->yw, mem_append->yx, length_nil->yA, nodup_cons->yB, mem_map->yE, reverse_cons->yL, append_assoc->yM, getElem?_append_left->yQ, not_mem_nil->yU, mem_reverse->yW, filterMap_cons->yX, getElem_of_mem->y7, map_nil->zu, length_singleton->zv, all_eq_true->zx, isEmpty_nil->zy, mem_of_mem_take->zE, sum_cons->zI, getElem?_append_right->zY, filterMap_map->z8, Nodup->Al, getElem?_replicate->Ao, drop_of_length_le->Ax, of_mem_zip->AA, forIn_cons->AB, take_append_drop->AF, sum_append->AH, mem_append_left->AS, pairwise_append->AU, Pairwise->Bd, map_map->Bt, length->BF, Perm->BU
open List.Nodup renaming length_le_of_subset->yh
open List.Perm renaming refl->zr
open List.cons renaming injEq->wH
open Nat renaming lt_of_lt_of_le->wa, le_refl->we, pow_le_pow_right->wj, ne_of_lt->wT, zero_le->xx, lt_irrefl->xM, le_trans->xP, le_of_succ_le->yN, zero_add->za, pow_succ->zb, lt_or_ge->zc, lt_of_le_of_lt->zg, exists_eq_add_of_le->zh, not_lt_zero->zS, mul_comm->z9, lt_succ_self->Au, add_mod->A7, mul_mod->A8, mod_lt->Bi, le_of_lt->Bk, ne_of_gt->Bl, Coprime->BK, mul_add->BL
open Nat.succ renaming inj->Bu
open Ne renaming symm->A3
open Option renaming map_eq_some_iff->xY, isSome_iff_exists->yd
open Option.some renaming inj->wL
open Or renaming inl->zC, inr->zQ
open PyProof.Rows renaming slot_tuple_getitem->xL, callWith_type1->yz, IntsAre->yY, assignInOrder_cons->z5, envOfC->At, subscriptTail_builtinR->Aw, AllBare->A2, seqObj->BO
open PySem renaming PyData->v7, wpAny_bind->v8, Value->v9, Shared->v_, wpAny_pure->wb, starEach->wm, Program->wD, wpAny->wM, mainGlobals->wP, World->wR, Around->wS, wpAny_newObj_type->wW, sizeLine_eq->wY, model->wZ, mem_of_lookup->xb, SetTable->xk, wpAny_callSpecial?_slot->xA, wpAny_call_entry->xG, cellsFrom->xH, builtinLookup_eq_fast->xS, Paired->xT, isSubtype_type->x_, wpAny_passesOwn->yc, wpAny_holding->yi, FuncData->yj, assignEach->yn, backTo->yr, wpAny_of_eq->yG, typeLookup_type->yH, compareOp->yP, wpAny_setField->yT, wpAny_askSetting->yV, wpAny_field->yZ, bootBuiltins->y9, wpAny_mono->y_, behindInMarks->zd, NameKind->ze, foldedSetIterable->zj, sliceBounds->zk, wpAny_setState_of->zo, codeAny_mono->zt, wpAny_isInstance->zA, rawInt->zB, wpAny_attempt->zH, intKind->zL, wpAny_execs_nil->zM, letOwnedTupleGo->zN, codeAny->zP, codeAny_builtin->zT, wpAny_setEntries_of->zU, wpAny_specialOf->zW, binaryOp->z6, wpAny_Call_Name_kw->z7, newFunctionEnv->Ab, firstArgMember->Ae, swapsWith->Af, wpAny_pyIter_list->Ag, wpAny_pyIter_slot->Aj, swapsWithSole->Am, swappedStores->An, signature?_of->Ar, pyNext->As, importedModules->Ay, intBits_le_iff->AV, entryFor_alias->AW, seqIndex_of->A4, assignInOrder->A_, wpAny_standAt->Ba, evalPart_none->Bb, attributeBase->Bc, Keyword->Bg, callerA->Bh, seqIndex_neg->Bm, entryFor->Bw, hashInt->Bx, holding->BA, PassesOwn->BB, sizeLine_eq->BD, BindsTo->BE, keywordEach->BG, pushCells->BH, argsOk->BM, Params->BP, assign->BQ, getItem->BS
open PySem.Around renaming under_plainId->zD
open PySem.Builtin.List renaming listLengthHint->zV
open PySem.Builtin.Slice renaming slicePlaces->yR, sliceApplied->zZ
open PySem.Builtin.Tuple renaming tupleExact->yf, tupleItemsOf->z4
open PySem.Calls renaming Name_function_global->zX
open PySem.Heap renaming get?_push_of_some->wc, lt_size->wl, get?_push_size->wu, get?_update_self->xQ, size_push->yo, get?_update_other->yp, SameBut->yy, ExtBut->BN
open PySem.Heap.SameBut renaming update->xo
open PySem.NameKind renaming free->wU, cell->xV
open PySem.Obj renaming data_mapFields->xE, mapFields->ym, isFreed_of_fields->yI, mapSeq->Ah, cls_mapFields->Ak, putSet->AR
open PySem.Paired renaming length->zF
open PySem.PassesOwn renaming never->xF
open PySem.PyData renaming int->wO, eqv->ye, leavesShort->zf, canLayAll0->zm, showable->zR, canLay0->Ac, bulkAll->Ad, leavesShortAll->AC, depthAll->AE, bool->A6, depth->Bo, tuple->Bp
open PySem.PyData.int renaming injEq->zz
open PySem.PyData.tuple renaming injEq->xB
open PySem.SeqAt renaming shaped->x6
open PySem.SetTable renaming below->wA, bits->xl, insertAt->xq, runEnd->xC, leap->xN, grown->yS, turns->zq, fill->Aq, fits->Be, layClean->Bj
open PySem.SetTable.below renaming go->zn
open PySem.SetTable.layClean renaming free->xZ
open PySem.SetTable.probe renaming go->xu
open PySem.SetTable.sizeAbove renaming go->yF
open PySem.Str renaming ofString->yD
open PySem.Value renaming none->yK, ref->zK, int->Az, isInt->AZ, bool->Bf, str->By
open PySem.W renaming mg_none_of->wv, boot_heap->xn, Frag->xW, nsIn->AM, fnOf->AN, OpenLaw->AO, boot_drawn->AQ, codeIn->AX, keepIn->AY, boot_toks->A9, OpenLaw->BR
open PySem.pickOrder renaming go->Bq
open Rat renaming intCast_mul->zi, normalize->Ap, intCast_add->AI, div_def->BJ
open Sum renaming inl->A0, inr->A1
open PySem PySem.Spec PyProof.Rows
variable{loose N ps:List Str}{α:Type}{m i j k n:Nat}{xs:Array Nat}{a f r:Addr}{b:Int}{h:Heap}{x qual:Str}{pos:Pos}{pins:List (Addr×Obj)}{tg:Expr}{fp:List Addr}{scope:Scope}{ns:List Int}{rl:Option Addr}{q s:Rat}{owner:Array (Option Nat)}
theorem æa(h:True:=by rfl):True:=trivial
theorem æb(h:True:=by decide):True:=trivial
theorem æc(h:True:=by intro _;rfl):True:=trivial
theorem æd(h:True:=by first|exact .inl rfl|exact .inr rfl|assumption):True:=trivial
theorem æe(h:True:=by first|exact zC rfl|exact zQ (zC rfl)|exact zQ (zQ rfl)):True:=trivial
theorem æf(h:True:=by first|exact zC rfl|exact zQ rfl):True:=trivial
theorem æg(h:True:=by first|exact .inl rfl|exact .inr rfl):True:=trivial
noncomputable section
namespace L2
open PySem
noncomputable def l9(s:Stmt)(j:Nat):Stmt:=match s with
 | .ClassDef _ _ _ body _ _ _ _ _ _ _=>body.getD j (.Pass ⟨0,0,0,0⟩)
 | _=>.Pass ⟨0,0,0,0⟩
noncomputable def defArgs(s:Stmt):Arguments:=match s with
 | .FunctionDef _ a _ _ _ _ _ _ _ _=>a
 | _=>{posonlyargs:=[],args:=[],vararg:=none,kwonlyargs:=[],kw_defaults:=[],kwarg:=none,defaults:=[]}
noncomputable def defBody(s:Stmt):List Stmt:=match s with
 | .FunctionDef _ _ b _ _ _ _ _ _ _=>b
 | _=>[]
noncomputable def defScope(s:Stmt):Scope:=match s with
 | .FunctionDef _ _ _ _ _ _ sc _ _ _=>sc
 | _=>{kind:=.function,names:=[],isGenerator:=false,isCoroutine:=false}
end L2
namespace L2.TT
open PySem PySem.W
noncomputable def uU(tb:String->Option Builtin)(p:wD)(w:wR)(m:Nat)(ann:Option v9):Nat->SharedT->Thread->Option SharedT
 | 0,_,_=>none
 | n+1,s,t=>match through t with
   | true=>some s
   | false=>match stepOk m ann t with
     | false=>none
     | true=>match stepT (denote tb) p w s t with
       | some r=>uU tb p w m ann n r.1 r.2
       | none=>none
theorem kQ{tb:String->Option Builtin}{p:wD}{w:wR}{m:Nat}{ann:Option v9}:∀{n:Nat}{s s':SharedT}{t:Thread},uU tb p w m ann n s t=some s'->topRun tb p w m ann n s.abs t=some s'.abs
 | 0,_,_,_,h=>by cases h
 | n+1,s,s',t,h=>by
   unfold uU at h;unfold topRun
   cases he:through t with
   | true=>rw[he]at h;cases h;rfl
   | false =>
     rw[he]at h
     cases hk:stepOk m ann t with
     | false=>rw[hk]at h;cases h
     | true =>
       rw[hk]at h
       cases hs:stepT (denote tb) p w s t with
       | none=>rw[hs]at h;cases h
       | some r=>rw[hs]at h;rw[stepT_spec hs];exact kQ h
noncomputable def bt(os:List Obj):Nat->Nat->Nat->BT
 | 0,_,_=>.nil
 | f+1,a,b=>match os[b]? with
   | some o=>.node o (bt os f (2*a) (a+b)) (bt os f (2*a) (2*a+b))
   | none=>.nil
theorem boot_abs(P:BP):absHeap (bt (xn P).objs.toList 12 1 0) (xn P).objs.size (xn P).life=xn P:=by kernel_rfl
abbrev oq(p q:wD)(loose:List Str)(Xt:v_->Bool){α:Type}(Yf:v_->α)(h₀:Heap)(s:v_) :=
 (staticsOk (Ay p.main.body) h₀ s.heap&&namesBound p s.heap&&gensDone s&&laidKept h₀ s.heap,openSeen q loose (Ay p.main.body) Xt true s,Yf s)
theorem left_of{p q:wD}{Xt:v_->Bool}{Yf:v_->α}{Ya:wR->α}{N M:Nat}{ann:Option v9}
 (e:opening p=plainProg p.main.scope.names)(hN:Nat.ble 600 N=true)(f:∀s,fenceModules? p s=some s)(le:Nat.ble M N=true)
 (size:∀w:wR,((xn w.params).isNs wP,(xn w.params).objs.size,(xn w.params).nsMap wP "__annotations__")=(true,m,ann))
 (run:∀(w:wR)(os:OsState),(uU treeTable p w m ann M ⟨bt (xn w.params).objs.toList 12 1 0,(xn w.params).objs.size,(xn w.params).life,Bv [],AQ,A9,os⟩ (topStub p)).map (fun s=>oq p q loose Xt Yf (xn w.params) s.abs)=some (true,openGood q loose,Ya w)) :
 LeftO p q loose Xt Yf Ya N:=fun w=>by
 obtain⟨⟨h,gs,d,k,os⟩,eo,e'⟩:=xY.mp (boot_open e hN f w);obtain⟨rfl,rfl,rfl,rfl⟩:h=xn w.params/\gs=Bv []/\d=AQ/\k=A9:=by simpa using e'
 obtain⟨z1,z2,z3⟩:_/\_/\_:=by simpa only[Prod.mk.injEq]using size w
 obtain⟨s',r,l⟩:=xY.mp (run w os);obtain⟨l1,l2,l3⟩:_/\_/\_:=by simpa only[oq,Prod.mk.injEq]using l
 have r:=kQ r
 have hb:SharedT.abs ⟨bt (xn w.params).objs.toList 12 1 0,(xn w.params).objs.size,(xn w.params).life,Bv [],AQ,A9,os⟩=⟨xn w.params,Bv [],AQ,A9,os⟩:=by
  show v_.mk (absHeap _ _ _) _ _ _ _=_;rw[boot_abs]
 rw[hb]at r;have r:=topRun_mono (N-M) _ _ _ _ r;rw[show M+(N-M)=N by have:=Nat.le_of_ble_eq_true le;omega]at r
 have t:topFrom treeTable p w N ⟨xn w.params,Bv [],AQ,A9,os⟩=some s'.abs:=by
  unfold topFrom;dsimp only;rw[z1,z2,z3,r];show(match staticsOk (Ay p.main.body) (xn w.params) s'.abs.heap&&namesBound p s'.abs.heap&&gensDone s'.abs&&laidKept (xn w.params) s'.abs.heap with|true=>_|false=>_)=_;rw[l1]
 unfold openEnds;rw[eo];show(topFrom treeTable p w N _).map _=_;rw[t];exact congrArg some (Prod.ext l2 l3)
end L2.TT
namespace K48
open PySem
def ub(i:Nat):Stmt:=PySem.Challenge.pw_evenpoints_k48_points_by_steps.main.body.getD i (.Pass ⟨0,0,0,0⟩)
end K48
noncomputable def PySem.W.Fast.tw2523771811525259810:PySem.Program:=PySem.Challenge.pw_evenpoints_k48_points_by_steps
theorem PySem.W.Fast.te2523771811525259810:PySem.Challenge.pw_evenpoints_k48_points_by_steps=PySem.W.Fast.tw2523771811525259810:=rfl
namespace K48
open PySem PySem.W L2
def tJ:Stmt:=ub 0
def tI:Stmt:=ub 1
def tH:Stmt:=ub 2
def tG:Stmt:=ub 3
def tF:Stmt:=ub 4
def tE:Stmt:=ub 5
def tD:Stmt:=ub 6
def tz:Stmt:=ub 7
def tw:Stmt:=ub 8
def tu:Stmt:=ub 9
def rm:Stmt:=ub 10
def rk:Stmt:=ub 11
def sF:Stmt:=ub 12
def rj:Stmt:=ub 13
def rh:Stmt:=ub 14
def rg:Stmt:=ub 15
def rf:Stmt:=ub 16
def re:Stmt:=ub 17
def sE:Stmt:=ub 18
def rb:Stmt:=ub 19
def q9:Stmt:=ub 20
def qZ:Stmt:=ub 21
def qY:Stmt:=ub 22
def qX:Stmt:=ub 23
def qW:Stmt:=ub 24
def qV:Stmt:=ub 25
def qU:Stmt:=ub 26
def uB:wD:={PySem.Challenge.pw_evenpoints_k48_points_by_steps with main:={PySem.Challenge.pw_evenpoints_k48_points_by_steps.main with body:=[tJ,tI,tH,tG,tF,tE,tD,tz,tw,tu,rm,rk,sF,rj,rh,rg,rf,re,sE,rb,q9,qZ,qY,qX,qW,qV,qU]}}
def rwN:BR:={PySem.Challenge.rw_evenpoints_k48_points_by_steps with prog:=uB}
noncomputable def zview:wD:={PySem.Challenge.pw_evenpoints_k48_points_by_steps with main:={PySem.Challenge.pw_evenpoints_k48_points_by_steps.main with body:=[tI,tH,tF,tE,tD,tz,tw,tu,rm,rk,rj,rh,rg,rf,re,rb,q9,qZ,qY,qX,qW,qV,qU]}}
theorem rw_eq:PySem.Challenge.rw_evenpoints_k48_points_by_steps=rwN:=rfl
noncomputable def tQ(P:BP)(x:Str)(t:Nat)(v:v9):DictEntry:=⟨v7.keyHash P x,.str x t,v⟩
noncomputable def tP(n q:Str)(s:Stmt)(pm cd:v9):Obj:=⟨.type "function", none,.func (fnOf n q (defArgs s) (defBody s) (defScope s) .none .none .none pm none cd .none),#[]⟩
noncomputable def tS(n q:Str)(a b c:Nat)(l x y:Int)(r:Nat)(z:Int)(r2:Nat)(v1 v2 v3:v9)(r3:Nat)(u:Int)(c2:Nat):Obj:=⟨.type "code", none,.fields #[.str n a,.str q b,.str "/claim/cut.py" c,.int l 0,.int x 0,.int 0 0,.int 0 0,.int y 0,.ref r,.bool true,.int z 0,.ref r2,v1,v2,v3,.ref r3,.int u 0,.int l 0,.str "/claim/cut.py" c2],#[]⟩
noncomputable def tN:v9:=.str "evenpoints.errors" 187
noncomputable def tM:v9:=.str "evenpoints.fractions" 232
noncomputable def tL:v9:=.str "evenpoints.steps" 293
noncomputable def tK:v9:=.str "law_evenpoints_k48_points_by_steps" 340
abbrev tO(n:Str):=tP n n
abbrev tR(n:Str):=tS n n
noncomputable def heapK(P:BP):Frag :=
 (nat_lit 2,(.mk .none none (.dict #[] 0) #[])) ::
 (nat_lit 3,(.mk (.type "dict") none (.dict #[tQ P "__name__" 165 (.str "law_evenpoints_k48_points_by_steps" 340),tQ P "__doc__" 166 .none,tQ P "__package__" 167 .none,tQ P "__loader__" 168 (.builtin "__main__.__loader__#opaque"),tQ P "__spec__" 169 .none,tQ P "__annotations__" 170 (.ref 6),tQ P "__builtins__" 171 (.ref 4),tQ P "__file__" 173 (.str "/claim/cut.py" 172),tQ P "__cached__" 174 .none,tQ P "EvenError" 206 (.ref 24),tQ P "Nought" 231 (.ref 44),tQ P "ONE" 236 (.ref 47),tQ P "common_divisor" 244 (.ref 54),tQ P "fraction" 253 (.ref 61),tQ P "plus" 261 (.ref 68),tQ P "times" 269 (.ref 75),tQ P "is_below" 277 (.ref 82),tQ P "lesser" 285 (.ref 89),tQ P "wrapped" 292 (.ref 96),tQ P "step_number" 303 (.ref 103),tQ P "stepped" 309 (.ref 108),tQ P "denominators" 321 (.ref 115),tQ P "blocks" 333 (.ref 122),tQ P "step_bound" 339 (.ref 127),tQ P "_law_feed" 348 (.ref 134),tQ P "_law_draw" 359 (.ref 141),tQ P "_law_gcd" 367 (.ref 148),tQ P "_law_frac" 376 (.ref 155),tQ P "_law_step" 385 (.ref 162),tQ P "_law_denominators" 397 (.ref 169),tQ P "_law_points" 410 (.ref 176),tQ P "law" 416 (.ref 181)] 32) #[])) ::
 (nat_lit 6,(.mk (.type "dict") none (.dict #[] 0) #[])) ::
 (nat_lit 15,(.mk (.type "tuple") none (.seq #[(.type "ValueError")] 0) #[])) ::
 (nat_lit 22,(.mk (.type "tuple") none (.seq #[] 0) #[])) ::
 (nat_lit 23,(.mk (.type "dict") none (.dict #[tQ P "__module__" 196 (.str "evenpoints.errors" 187),tQ P "__firstlineno__" 200 (.int 2 199),tQ P "__static_attributes__" 201 (.ref 22),tQ P "__weakref__" 203 (.ref 25),tQ P "__doc__" 204 .none] 3) #[])) ::
 (nat_lit 24,(.mk (.type "type") none (.cls (.mk "EvenError" [(.type "ValueError")] [(.ref 24),(.type "ValueError"),(.type "Exception"),(.type "BaseException"),(.type "object")] 23 "EvenError" true [] [(.ref 44)] false none false)) #[(some (.ref 15)),none,(some (.str "EvenError" 189)),(some (.str "EvenError" 197)),(some (.builtin "ValueError.__new__")),(some (.bool true))])) ::
 (nat_lit 25,(.mk (.type "getset_descriptor") none (.fields #[(.str "__weakref__" 202),(.ref 24),(.builtin "ExceptionGroup.__weakref__"),.none]) #[])) ::
 (nat_lit 28,(.mk (.type "tuple") none (.seq #[(.ref 24)] 0) #[])) ::
 (nat_lit 40,tS "__init__" "Nought.__init__" 219 220 221 6 2 3 35 181 36 .none (.ref 37) (.ref 38) 39 224 225) ::
 (nat_lit 41,tP "__init__" "Nought.__init__" (l9 (ub 2) 0) tN (.ref 40)) ::
 (nat_lit 42,(.mk (.type "tuple") none (.seq #[(.str "word" 227)] 0) #[])) ::
 (nat_lit 43,(.mk (.type "dict") none (.dict #[tQ P "__module__" 214 (.str "evenpoints.errors" 187),tQ P "__firstlineno__" 218 (.int 4 217),tQ P "__init__" 226 (.ref 41),tQ P "__static_attributes__" 228 (.ref 42),tQ P "__doc__" 229 .none] 2) #[])) ::
 (nat_lit 44,(.mk (.type "type") none (.cls (.mk "Nought" [(.ref 24)] [(.ref 44),(.ref 24),(.type "ValueError"),(.type "Exception"),(.type "BaseException"),(.type "object")] 43 "Nought" true [] [] false none false)) #[(some (.ref 28)),none,(some (.str "Nought" 207)),(some (.str "Nought" 215)),(some (.builtin "ValueError.__new__")),(some (.bool true))])) ::
 (nat_lit 47,(.mk (.type "tuple") none (.seq #[(.int 1 234),(.int 1 235)] 0) #[])) ::
 (nat_lit 53,tR "common_divisor" 237 238 239 10 2 3 48 181 49 .none (.ref 50) (.ref 51) 52 242 243) ::
 (nat_lit 54,tO "common_divisor" (ub 5) tM (.ref 53)) ::
 (nat_lit 60,tR "fraction" 245 246 247 14 2 3 55 181 56 .none (.ref 57) (.ref 58) 59 251 252) ::
 (nat_lit 61,tO "fraction" (ub 6) tM (.ref 60)) ::
 (nat_lit 67,tR "plus" 254 255 256 21 2 3 62 181 63 .none (.ref 64) (.ref 65) 66 259 260) ::
 (nat_lit 68,tO "plus" (ub 7) tM (.ref 67)) ::
 (nat_lit 74,tR "times" 262 263 264 23 2 3 69 181 70 .none (.ref 71) (.ref 72) 73 267 268) ::
 (nat_lit 75,tO "times" (ub 8) tM (.ref 74)) ::
 (nat_lit 81,tR "is_below" 270 271 272 25 2 3 76 181 77 .none (.ref 78) (.ref 79) 80 275 276) ::
 (nat_lit 82,tO "is_below" (ub 9) tM (.ref 81)) ::
 (nat_lit 88,tR "lesser" 278 279 280 27 2 3 83 181 84 .none (.ref 85) (.ref 86) 87 283 284) ::
 (nat_lit 89,tO "lesser" (ub 10) tM (.ref 88)) ::
 (nat_lit 95,tR "wrapped" 286 287 288 29 1 3 90 181 91 .none (.ref 92) (.ref 93) 94 290 291) ::
 (nat_lit 96,tO "wrapped" (ub 11) tM (.ref 95)) ::
 (nat_lit 102,tR "step_number" 295 296 297 32 3 3 97 181 98 .none (.ref 99) (.ref 100) 101 301 302) ::
 (nat_lit 103,tO "step_number" (ub 13) tL (.ref 102)) ::
 (nat_lit 107,tR "stepped" 304 305 306 34 3 3 104 181 105 .none .none .none 106 307 308) ::
 (nat_lit 108,tO "stepped" (ub 14) tL (.ref 107)) ::
 (nat_lit 114,tR "denominators" 310 311 312 36 1 3 109 181 110 .none (.ref 111) (.ref 112) 113 319 320) ::
 (nat_lit 115,tO "denominators" (ub 15) tL (.ref 114)) ::
 (nat_lit 121,tR "blocks" 322 323 324 45 2 3 116 181 117 .none (.ref 118) (.ref 119) 120 331 332) ::
 (nat_lit 122,tO "blocks" (ub 16) tL (.ref 121)) ::
 (nat_lit 126,tR "step_bound" 334 335 336 53 2 3 123 181 124 .none .none .none 125 337 338) ::
 (nat_lit 127,tO "step_bound" (ub 17) tL (.ref 126)) ::
 (nat_lit 133,tR "_law_feed" 342 343 344 57 1 3 128 181 129 .none (.ref 130) (.ref 131) 132 346 347) ::
 (nat_lit 134,tO "_law_feed" (ub 19) tK (.ref 133)) ::
 (nat_lit 140,tR "_law_draw" 349 350 351 59 2 3 135 181 136 .none (.ref 137) (.ref 138) 139 357 358) ::
 (nat_lit 141,tO "_law_draw" (ub 20) tK (.ref 140)) ::
 (nat_lit 147,tR "_law_gcd" 360 361 362 75 2 3 142 181 143 .none (.ref 144) (.ref 145) 146 365 366) ::
 (nat_lit 148,tO "_law_gcd" (ub 21) tK (.ref 147)) ::
 (nat_lit 154,tR "_law_frac" 368 369 370 79 2 3 149 181 150 .none (.ref 151) (.ref 152) 153 374 375) ::
 (nat_lit 155,tO "_law_frac" (ub 22) tK (.ref 154)) ::
 (nat_lit 161,tR "_law_step" 377 378 379 82 1 3 156 181 157 .none (.ref 158) (.ref 159) 160 383 384) ::
 (nat_lit 162,tO "_law_step" (ub 23) tK (.ref 161)) ::
 (nat_lit 168,tR "_law_denominators" 386 387 388 86 1 3 163 181 164 .none (.ref 165) (.ref 166) 167 395 396) ::
 (nat_lit 169,tO "_law_denominators" (ub 24) tK (.ref 168)) ::
 (nat_lit 175,tR "_law_points" 398 399 400 96 3 3 170 181 171 .none (.ref 172) (.ref 173) 174 408 409) ::
 (nat_lit 176,tO "_law_points" (ub 25) tK (.ref 175)) ::
 (nat_lit 180,tR "law" 411 412 413 103 1 3 177 181 178 .none .none .none 179 414 415) ::
 (nat_lit 181,tO "law" (ub 26) tK (.ref 180))::[]
noncomputable def heapA:List Addr:=nat_lit 2::nat_lit 3::nat_lit 6::nat_lit 15::nat_lit 22::nat_lit 23::nat_lit 24::nat_lit 25::nat_lit 28::nat_lit 40::nat_lit 41::nat_lit 42::nat_lit 43::nat_lit 44::nat_lit 47::nat_lit 53::nat_lit 54::nat_lit 60::nat_lit 61::nat_lit 67::nat_lit 68::nat_lit 74::nat_lit 75::nat_lit 81::nat_lit 82::nat_lit 88::nat_lit 89::nat_lit 95::nat_lit 96::nat_lit 102::nat_lit 103::nat_lit 107::nat_lit 108::nat_lit 114::nat_lit 115::nat_lit 121::nat_lit 122::nat_lit 126::nat_lit 127::nat_lit 133::nat_lit 134::nat_lit 140::nat_lit 141::nat_lit 147::nat_lit 148::nat_lit 154::nat_lit 155::nat_lit 161::nat_lit 162::nat_lit 168::nat_lit 169::nat_lit 175::nat_lit 176::nat_lit 180::nat_lit 181::[]
theorem heapE:∀P,heapA=(heapK P).map (·.1):=fun _=>rfl
theorem pp:∀w:wR,((xn w.params).isNs wP,(xn w.params).objs.size,(xn w.params).nsMap wP "__annotations__")=(true,11,some (.ref 6)):=fun w=>by kernel_rfl
set_option maxHeartbeats 0 in
theorem zleft:LeftO uB zview [] (fun s=>xlAt zview [] s&&recOk (RowW.records rwN.row.toRowW) s) (Hook.obs (kHook heapK heapA heapE)) (Hook.val (kHook heapK heapA heapE)) 2904 :=
 L2.TT.left_of (M:=2904) (by kernel_rfl) rfl (fun s=>by kernel_rfl) rfl pp fun w os=>by kernel_rfl
end K48
namespace L2
abbrev vM:=Sum Int Str
noncomputable def oA:vM->v9->Bool
 | .inl k,v=>AZ k v
 | .inr x,v=>v9.isStrOf x v
noncomputable def sX(w:wR):vM->Int
 | .inl k=>Bx k
 | .inr x=>hashStr w x
theorem aE:∀{k:vM}{v:v9},oA k v=true->(∃i t,k=A0 i/\v=Az i t)\/(∃x t,k=A1 x/\v=By x t)
 | .inl i,v,h=>by
   obtain⟨t,e⟩:=v9.isInt_shape (k:=i) (v:=v) h
   exact .inl ⟨i,t,rfl,e⟩
 | .inr x,v,h=>by
   obtain⟨t,e⟩:=v9.isStrOf_shape (x:=x) (v:=v) h;exact .inr ⟨x,t,rfl,e⟩
theorem oz(a b:Int):decide ((A0 a:vM)=A0 b)=(a==b):=by
 by_cases e:a=b
 · subst e;simp
 · have h:¬(A0 a:vM)=A0 b:=fun q=>e (A0.inj q);rw[decide_eq_false h];exact(beq_eq_false_iff_ne.mpr e).symm
theorem ou(a b:Str):decide ((A1 a:vM)=A1 b)=decide (a=b):=by
 by_cases e:a=b
 · subst e;simp
 · have h:¬(A1 a:vM)=A1 b:=fun q=>e (A1.inj q);rw[decide_eq_false h,decide_eq_false e]
theorem oy(a:Int)(b:Str):decide ((A0 a:vM)=A1 b)=false:=decide_eq_false (fun q=>nomatch q)
theorem ox(a:Str)(b:Int):decide ((A1 a:vM)=A0 b)=false:=decide_eq_false (fun q=>nomatch q)
noncomputable def iN(prog:wD)(w:wR):PySem.KeyKind prog w vM where
 is:=oA
 hash:=sX w
 inj:=fun v a b ha hb=>by
  rcases aE ha with⟨i,t,rfl,rfl⟩|⟨x,t,rfl,rfl⟩
  · rcases aE hb with⟨j,u,rfl,e⟩|⟨y,u,rfl,e⟩
    · injection e with e1 _;rw[e1]
    · exact nomatch e
  · rcases aE hb with⟨j,u,rfl,e⟩|⟨y,u,rfl,e⟩
    · exact nomatch e
    · injection e with e1 _;rw[e1]
 byValue:=fun k v h=>by
   rcases aE h with⟨i,t,rfl,rfl⟩|⟨x,t,rfl,rfl⟩<;>rfl
 pyHash:=fun hv h=>by
  rcases aE hv with⟨i,t,rfl,rfl⟩|⟨x,t,rfl,rfl⟩
  · exact wpAny_pyHash_int h
  · exact wpAny_pyHash_str h
 eqBool:=fun hu hv h=>by
  rcases aE hu with⟨i,t,rfl,rfl⟩|⟨x,t,rfl,rfl⟩
  · rcases aE hv with⟨j,u,rfl,rfl⟩|⟨y,u,rfl,rfl⟩
    · rw[oz]at h;exact wpAny_eqBool_int h
    · rw[oy]at h;exact SeqAt.EqAt.int_str i t y u _ _ _ _ h
  · rcases aE hv with⟨j,u,rfl,rfl⟩|⟨y,u,rfl,rfl⟩
    · rw[ox]at h;exact SeqAt.EqAt.str_int x t j u _ _ _ _ h
    · rw[ou]at h;exact wpAny_eqBool_str h
 «strs»:=fun k x t v h=>by
  rcases aE h with⟨i,u,rfl,e⟩|⟨y,u,rfl,e⟩
  · exact nomatch e
  · injection e with e1 _
    subst e1;cases v<;>rfl
inductive V where
 | non|bl (b:Bool)|int (i:Int)|str (x:Str)|byt (b:Array UInt8)|flt (b:UInt64)|ref (a:Addr)|ty (n:String)
 deriving DecidableEq
noncomputable def RelV:V->v9->Prop
 | .non,u=>u=yK
 | .bl b,u=>u=Bf b
 | .int i,u=>∃t,u=Az i t
 | .str x,u=>∃t,u=By x t
 | .byt b,u=>∃t,u=v9.bytes b t
 | .flt b,u=>∃t,u=v9.float b t
 | .ref a,u=>u=zK a
 | .ty n,u=>u=v9.type n
abbrev bm:List V->List v9->Prop:=xT RelV
theorem bm.length{xs:List V}{us:List v9}(r:bm xs us):xs.length=us.length:=zF r
theorem bm.get:∀{xs:List V}{us:List v9}{i:Nat}{x:V},bm xs us->xs[i]?=some x->∃u,us[i]?=some u/\RelV x u
 | _,_,_,_,.nil,e=>by simp at e
 | _,_,0,_,.cons r _,e=>by simp at e;subst e;exact⟨_,rfl,r⟩
 | _,_,i+1,x,.cons _ t,e=>by
   obtain⟨u,h1,h2⟩:=bm.get (i:=i) (x:=x) t (by simpa using e);exact⟨u,by simpa using h1,h2⟩
theorem bm.set{x:V}{u:v9}(r:RelV x u):∀{xs:List V}{us:List v9}(i:Nat),bm xs us->bm (xs.set i x) (us.set i u)
 | _,_,_,.nil=>.nil
 | _,_,0,.cons _ t=>.cons r t
 | _,_,i+1,.cons q t=>.cons q (bm.set r i t)
theorem bm.append:∀{xs ys:List V}{us ws:List v9},bm xs us->bm ys ws->bm (xs++ys) (us++ws)
 | _,_,_,_,.nil,s=>s
 | _,_,_,_,.cons r t,s=>.cons r (bm.append t s)
theorem bm.take:∀{xs:List V}{us:List v9}(n:Nat),bm xs us->bm (xs.take n) (us.take n)
 | _,_,0,_=>.nil
 | _,_,_+1,.nil=>.nil
 | _,_,n+1,.cons r t=>.cons r (bm.take n t)
theorem bm.drop:∀{xs:List V}{us:List v9}(n:Nat),bm xs us->bm (xs.drop n) (us.drop n)
 | _,_,0,r=>r
 | _,_,_+1,.nil=>.nil
 | _,_,n+1,.cons _ t=>bm.drop n t
noncomputable def sB:Option V->Option v9->Prop
 | some v,some u=>RelV v u
 | none,none=>True
 | _,_=>False
noncomputable def KV{κ:Type}:List (κ×V)->List (κ×v9)->Prop:=xT fun(p:κ×V)(q:κ×v9)=>p.1=q.1/\RelV p.2 q.2
noncomputable def kV:vM->V
 | .inl i=>.int i
 | .inr x=>.str x
inductive HO where
 | lst (xs:List V)
 | tup (xs:List V)
 | dK (kvs:List (vM×V))|dT (kvs:List (List vM×V))
 | set (S:Int->Bool) (n:Nat)
 | ins (C dx:Addr) (fs:List (Str×V))
 | own (x:Addr)
 | xd (fs:List (Str×V))
 | met (f x:Addr)
 | rng (lo hi:Int)
 | frz (o:Obj) (u:HO)
 | tbl (ps:Array v9)
 | ext (φ:Heap->Prop)
abbrev Hp:=Addr->Option HO
noncomputable def upd(H:Hp)(a:Addr)(o:HO):Hp:=fun b=>if b=a then some o else H b
theorem ai{H:Hp}{o:HO}:upd H a o a=some o:=by unfold upd;rw[if_pos rfl]
theorem upd_ne{H:Hp}{b:Addr}{o:HO}(h:b≠a):upd H a o b=H b:=by unfold upd;rw[if_neg h]
theorem cV{H:Hp}{o u:HO}:upd (upd H a o) a u=upd H a u:=by
 funext b;unfold upd;split<;>rfl
theorem aw{H:Hp}{b:Addr}{o:HO}(h:H a=some o)(h':H b=none):a≠b:=by
 intro e;subst e;rw[h]at h';cases h'
section
variable(P:wD)(w:wR)
noncomputable def ju(h:Heap)(a:Addr)(items:Array v9):Prop:=∃o,h.get? a=some o/\o.cls = .type "tuple" /\ (∃n,o.data = .seq items n)/\o.dict=none
theorem ju.tup{h:Heap}{a:Addr}{items:Array v9}(x:ju h a items):IsTup h a items:=let ⟨o,e1,e2,e3,_⟩:=x;⟨o,e1,e2,e3⟩
theorem ju.new(h:Heap)(items:Array v9):ju (h.push {cls:=.type "tuple", data:=.seq items}) h.objs.size items:=⟨_,wu _ rfl,rfl,⟨_,rfl⟩,rfl⟩
noncomputable def cy(H:Hp)(h:Heap)(a:Addr):HO->Prop
 | .lst xs=>xs.length<=sizeLine/\∃(its:List v9)(n:Nat),bm xs its/\h.get? a=some {cls:=.type "list", data:=.seq its.toArray n}
 | .tup xs=>xs.length<=sizeLine/\∃its:List v9,bm xs its/\ju h a its.toArray
 | .dK kvs=>kvs.length<=sizeLine/\(a==sysModules)=false/\∃vs,KV kvs vs/\h.DictOf (iN P w) a vs
 | .dT kvs=>kvs.length<=sizeLine/\(a==sysModules)=false/\∃xs:List (List vM×Addr×v9),
     xT (fun(p:List vM×V)(q:List vM×Addr×v9)=>p.1=q.1/\H q.2.1=some (.tup (p.1.map kV))/\RelV p.2 q.2.2) kvs xs /\
     ∃o es ep,h.get? a=some o/\o.ExactDict/\o.data = .dict es ep/\es.toList=xs.map (entryOfKey (tupleKind (iN P w)))/\(xs.map (·.1)).Nodup
 | .set S n=>h.SetOf (zL P w) a S n
 | .ins C dx fs=>H dx=some (.own a)/\fs.length<=1000/\dx≠a/\h.get? a=some (W.instObj C dx) /\
     ∃mA,h.Ns1 dx mA/\(∀f,sB (fs.lookup f) (mA f))/\PySem.Within mA (fs.map (·.1))
 | .own _=>∃o,h.get? a=some o
 | .xd fs=>∃mA,h.Ns1 a mA/\∀f,sB (fs.lookup f) (mA f)
 | .rng lo hi=>∃t u v,h.get? a=some {cls:=.type "range", data:=.fields #[.int lo t,.int hi u,.int 1 v]}
 | .frz o u=>h.get? a=some o/\cy H h a u
 | .tbl ps=>h.get? a=some {cls:=.none,data:=.fields ps}
 | .met f x=>h.get? a=some (W.methodObj (.ref f) (.ref x))
 | .ext φ=>φ h/\(∃o,h.get? a=some o)/\∀h1 h2:Heap,φ h1->(∀o,h1.get? a=some o->h2.get? a=some o)->φ h2
noncomputable def vU(H:Hp)(h:Heap):Prop:=∀a o,H a=some o->cy P w H h a o
end
section
variable{P:wD}{w:wR}{H H':Hp}{h h':Heap}{a:Addr}{o:HO}
theorem cy.lt(x:cy P w H h a o):a<h.objs.size:=by
 cases o with
 | lst xs=>obtain⟨_,_,_,_,e⟩:=x;exact wl e
 | tup xs=>obtain⟨_,_,_,p⟩:=x;exact p.tup.lt
 | dK kvs=>obtain⟨_,_,_,_,o,_,_,e,_⟩:=x;exact wl e
 | dT kvs=>obtain⟨_,_,_,_,o,_,_,e,_⟩:=x;exact wl e
 | set S n=>obtain⟨o,_,_,_,e,_⟩:=x;exact wl e
 | ins C dx fs=>obtain⟨_,_,_,e,_⟩:=x;exact wl e
 | own y=>obtain⟨_,e⟩:=x;exact wl e
 | xd fs=>obtain⟨_,⟨_,_,_,e,_⟩,_⟩:=x;exact wl e
 | rng lo hi=>obtain⟨_,_,_,e⟩:=x;exact wl e
 | frz ob u=>obtain⟨e,_⟩:=x;exact wl e
 | tbl ps=>exact wl (show h.get? a=some _ from x)
 | met f y=>exact wl (show h.get? a=some _ from x)
 | ext φ=>obtain⟨_,⟨_,e⟩,_⟩:=x;exact wl e
theorem xT.mapP{α β:Type}{F G:α->β->Prop}:∀{l₁:List α}{l₂:List β},xT F l₁ l₂->(∀a b,F a b->G a b)->xT G l₁ l₂
 | _,_,.nil,_=>.nil
 | _,_,.cons r t,f=>.cons (f _ _ r) (xT.mapP t f)
theorem cy.stay(x:cy P w H h a o)(k:∀b u,(b=a\/H b=some (.own a))->h.get? b=some u->h'.get? b=some u)
 (ho:∀b,H b=some (.own a)->H' b=some (.own a))(ht:∀b xs,H b=some (.tup xs)->H' b=some (.tup xs)):cy P w H' h' a o:=by
 induction o with
 | lst xs=>obtain⟨z,its,n,r,e⟩:=x;exact⟨z,its,n,r,k _ _ (.inl rfl) e⟩
 | tup xs=>obtain⟨z,its,r,ob,e,c⟩:=x;exact⟨z,its,r,ob,k _ _ (.inl rfl) e,c⟩
 | dK kvs=>obtain⟨z,y,vs,r,ob,es,ep,e,c⟩:=x;exact⟨z,y,vs,r,ob,es,ep,k _ _ (.inl rfl) e,c⟩
 | dT kvs =>
   obtain⟨z,y,xs,r,ob,es,ep,e,c⟩:=x
   exact⟨z,y,xs,xT.mapP r fun p q z=>⟨z.1,ht _ _ z.2.1,z.2.2⟩,ob,es,ep,k _ _ (.inl rfl) e,c⟩
 | set S n=>obtain⟨ob,es,ep,t,e,c⟩:=x;exact⟨ob,es,ep,t,k _ _ (.inl rfl) e,c⟩
 | ins C dx fs =>
   obtain⟨d,z,ne,e,mA,⟨od,es,ep,e2,c⟩,r⟩:=x
   exact⟨ho _ d,z,ne,k _ _ (.inl rfl) e,mA,⟨od,es,ep,k _ _ (.inr d) e2,c⟩,r⟩
 | own y=>obtain⟨ob,e⟩:=x;exact⟨ob,k _ _ (.inl rfl) e⟩
 | xd fs=>obtain⟨mA,⟨od,es,ep,e,c⟩,r⟩:=x;exact⟨mA,⟨od,es,ep,k _ _ (.inl rfl) e,c⟩,r⟩
 | rng lo hi=>obtain⟨t,u,v,e⟩:=x;exact⟨t,u,v,k _ _ (.inl rfl) e⟩
 | frz ob u ih=>obtain⟨e,q⟩:=x;exact⟨k _ _ (.inl rfl) e,ih q⟩
 | tbl ps =>
   have e:h.get? a=some {cls:=.none,data:=.fields ps}:=x;show h'.get? a=some {cls:=.none,data:=.fields ps}
   exact k a _ (.inl rfl) e
 | met f y =>
   have e:h.get? a=some (W.methodObj (.ref f) (.ref y)):=x;show h'.get? a=some (W.methodObj (.ref f) (.ref y))
   exact k a _ (.inl rfl) e
 | ext φ=>obtain⟨p,⟨o,e⟩,st⟩:=x;exact⟨st _ _ p fun o q=>k _ _ (.inl rfl) q,⟨o,k _ _ (.inl rfl) e⟩,st⟩
theorem vU.lt(x:vU P w H h)(e:H a=some o):a<h.objs.size:=(x a o e).lt
theorem vU.fresh(x:vU P w H h)(e:h.objs.size<=a):H a=none:=by
 cases q:H a with
 | none=>rfl
 | some u=>exact absurd (wa (x.lt q) e) (xM _)
theorem vU.kept(x:vU P w H h)(k:∀b u,h.get? b=some u->h'.get? b=some u):vU P w H h':=fun a o e =>
 (x a o e).stay (fun b u _ q=>k b u q) (fun _ q=>q) fun _ _ q=>q
theorem vU.laid(x:vU P w H h)(k:∀b u,h.get? b=some u->h'.get? b=some u)(hp:h.objs.size<=a)(new:cy P w (upd H a o) h' a o):vU P w (upd H a o) h':=fun b u e=>by
 have hn:=x.fresh hp;by_cases hb:b=a
 · subst hb;rw[ai]at e;cases e;exact new
 · rw[upd_ne hb]at e;exact(x b u e).stay (fun c v _ q=>k c v q) (fun c q=>by rw[upd_ne (aw q hn)];exact q) fun c xs q=>by rw[upd_ne (aw q hn)];exact q
end
noncomputable def Rd(H:Hp)(a:Addr)(u:HO):Prop:=H a=some u\/∃o,H a=some (.frz o u)
theorem Rd.ok{P:wD}{w:wR}{H:Hp}{u:HO}(r:Rd H a u)(x:vU P w H h):cy P w H h a u:=by
 rcases r with r|⟨o,r⟩
 · exact x a u r
 · obtain⟨_,q⟩:=x a _ r;exact q
noncomputable def vJ:Option HO->Prop
 | some (.lst _)=>True
 | some (.dK _)=>True
 | some (.dT _)=>True
 | some (.set _ _)=>True
 | some (.ins _ _ _)=>True
 | some (.ext _)=>True
 | _=>False
section
variable{P:wD}{w:wR}{H:Hp}{h h':Heap}{x e:Addr}{o':HO}
theorem vU.write(ok:vU P w H h)(mu:vJ (H x))(he:e=x\/H e=some (.own x))(k:∀b u,b≠e->h.get? b=some u->h'.get? b=some u)(heo:∃u,h'.get? e=some u)
 (new:cy P w (upd H x o') h' x o'):vU P w (upd H x o') h':=fun b u q=>by
 have nown:∀c y,H c=some (.own y)->c≠x:=fun c y r z=>by subst z;rw[r]at mu;exact mu
 have ntup:∀c xs,H c=some (.tup xs)->c≠x:=fun c xs r z=>by subst z;rw[r]at mu;exact mu
 by_cases hb:b=x
 · subst hb;rw[ai]at q;cases q;exact new
 · rw[upd_ne hb]at q;by_cases hbe:b=e
   · have q':H b=some (.own x):=by
       rcases he with z|z
       · exact absurd (hbe.trans z) hb
       · rw[hbe];exact z
     rw[q]at q';cases q';obtain⟨v,hv⟩:=heo;exact⟨v,by rw[hbe];exact hv⟩
   · refine(ok b u q).stay (fun c v hc r=>k c v ?_ r) (fun c r=>by rw[upd_ne (nown c b r)];exact r) fun c xs r=>by rw[upd_ne (ntup c xs r)];exact r
     rcases hc with rfl|hc
     · exact hbe
     · rintro rfl;rcases he with z|z
       · exact nown c b hc z
       · rw[hc]at z;cases z;exact hb rfl
end
structure Un (fs ex:List Addr) (H H':Hp) (h h':Heap):Prop where
 keep:∀b o,h.get? b=some o->H b=none->b∉fs->b∉ex->h'.get? b=some o
 slot:∀b o,h.get? b=some o->H b=none->b∈fs->b∉ex->∃sl,h'.get? b=some {o with slots:=sl}
 free:∀b o,h.get? b=some o->H b=none->b∉ex->H' b=none
 there:∀b o,h.get? b=some o->b∉ex->∃o',h'.get? b=some o'
 tups:∀b xs,H b=some (.tup xs)->H' b=some (.tup xs)
 frzs:∀b o u,H b=some (.frz o u)->H' b=some (.frz o u)
 tbls:∀b ps,H b=some (.tbl ps)->∃more,H' b=some (.tbl (ps++more))
section
variable{fs fs' ex ex':List Addr}{H H1 H2:Hp}{h h1 h2 h':Heap}{a x e:Addr}{o:HO}
theorem Un.any(u:Un fs ex H H1 h h1){b:Addr}{ob:Obj}(q:h.get? b=some ob)(n:H b=none)(hx:b∉ex):∃sl,h1.get? b=some {ob with slots:=sl}:=by
 by_cases hb:b∈fs
 · exact u.slot b ob q n hb hx
 · exact⟨ob.slots,u.keep b ob q n hb hx⟩
theorem Un.kept(k:∀b u,h.get? b=some u->h'.get? b=some u):Un fs ex H H h h' :=
 ⟨fun b ob q _ _ _=>k b ob q,fun b ob q _ _ _=>⟨ob.slots,k b ob q⟩,fun _ _ _ n _=>n,fun b ob q _=>⟨ob,k b ob q⟩,fun _ _ q=>q,fun _ _ _ q=>q,fun _ ps q=>⟨#[],by rw[q];simp⟩⟩
theorem Un.refl:Un fs ex H H h h:=Un.kept fun _ _ q=>q
theorem Un.laid(k:∀b u,h.get? b=some u->h'.get? b=some u)(hp:h.objs.size<=a)(hn:H a=none):Un fs ex H (upd H a o) h h' where
 keep:=fun b u q _ _ _=>k b u q
 slot:=fun b u q _ _ _=>⟨u.slots,k b u q⟩
 free:=fun b u q n _=>by rw[upd_ne (wT (wa (wl q) hp))];exact n
 there:=fun b u q _=>⟨u,k b u q⟩
 tups:=fun b xs q=>by rw[upd_ne (aw q hn)];exact q
 frzs:=fun b u xs q=>by rw[upd_ne (aw q hn)];exact q
 tbls:=fun b ps q=>⟨#[],by rw[upd_ne (aw q hn),q];simp⟩
theorem Un.write(mu:vJ (H x))(he:e=x\/H e=some (.own x))(k:∀b u,b≠e->h.get? b=some u->h'.get? b=some u)(heo:∃u,h'.get? e=some u):Un fs ex H (upd H x o) h h':=by
 have hx:∀b,H b=none->b≠x:=fun b n z=>by subst z;rw[n]at mu;exact mu
 have hb:∀b,H b=none->b≠e:=fun b n z=>by
  subst z;rcases he with r|r
  · exact hx b n r
  · rw[n]at r;cases r
 have hm:∀b u,H b=some u->¬vJ (some u)->b≠x:=fun b u q nm z=>by subst z;rw[q]at mu;exact nm mu
 refine⟨fun b u q n _ _=>k b u (hb b n) q,fun b u q n _ _=>⟨u.slots,k b u (hb b n) q⟩,fun b u q n _=>by rw[upd_ne (hx b n)];exact n,fun b u q _=>?_,
  fun b xs q=>by rw[upd_ne (hm b _ q fun z=>z)];exact q,fun b u xs q=>by rw[upd_ne (hm b _ q fun z=>z)];exact q,fun b ps q=>⟨#[],by rw[upd_ne (hm b _ q fun z=>z),q];simp⟩⟩
 by_cases hbe:b=e
 · subst hbe;exact heo
 · exact⟨u,k b u hbe q⟩
end
noncomputable def ua(h:Heap)(H:Hp):List Addr:=(wI h.objs.size).filter fun a=>(H a).isSome
noncomputable def j8(h:Heap)(H:Hp):Heap:=W.hideAll h (ua h H)
theorem i7(h:Heap)(H:Hp):(j8 h H).objs.size=h.objs.size:=W.hideAll_size _ _
theorem j7{H:Hp}{b:Addr}{o:Obj}(e:h.get? b=some o)(n:H b=none):(j8 h H).get? b=some o :=
 W.hideAll_get _ e fun hm=>by
  have q:(H b).isSome=true:=(List.mem_filter.mp hm).2;rw[n]at q;simp at q
theorem lW{H:Hp}{b:Addr}{o:Obj}(e:(j8 h H).get? b=some o):h.get? b=some o/\H b=none:=by
 have e':h.get? b=some o:=W.of_hideAll (ua h H) e;refine⟨e',?_⟩
 cases q:H b with
 | none=>rfl
 | some x =>
   have hm:b∈ua h H:=List.mem_filter.mpr ⟨xv.mpr (wl e'),by simp[q]⟩;have z:(j8 h H).get? b=none:=W.hideAll_none (ua h H) hm;rw[z]at e;cases e
noncomputable def mr(g h:Heap)(L:Addr):List (Addr×Obj):=(wI h.objs.size).filterMap fun a=>if a=L\/(g.get? a).isSome=true then none else(h.get? a).map fun o=>(a,o)
noncomputable def rest(g h:Heap)(L d:Addr):List (Addr×Obj):=(mr g h L).filter fun p=>decide (p.1≠d)
structure Mod (K:W.Frag) (mg:Str->Option v9) (base:Heap):Prop where
 kin:K.In base
 glob:base.Ns wP mg
 blt:∃mb,base.Ns builtinsNs mb/\∀x:Str,x ≠ "__name__" -> mb x=y9 x
 nolimit:base.NoLimit
structure Cx where
 prog:wD
 w:wR
 K:W.Frag
 mg:Str->Option v9
 base:Heap
 A:wS
 N:List Str
 s₀:v_
 H₀:Hp
 env:Env
 outer:List Env
 stack:List Env
 ex:List Addr
 fn:Str->Bool
 calm:Bool
 pn:List (Addr×Obj)
 xe:v9->v_->Prop
noncomputable def frs(l:List Env):List Addr:=l.filterMap (·.frame)
abbrev Cx.fs(X:Cx):List Addr:=frs X.outer
noncomputable def u9(sc:Scope)(x:Str):Prop:=sc.names.lookup x=some .local\/sc.names.lookup x=some .cell\/sc.names.lookup x=some .free
noncomputable def Loc(sc:Scope)(x:Str):Prop:=sc.names.lookup x=some .local\/sc.names.lookup x=some .cell
noncomputable def Look(env:Env)(h:Heap)(m:Str->Option v9)(x:Str)(u:v9):Prop :=
 (env.kindOf x=some .local/\m x=some u)\/((env.kindOf x=some .cell\/env.kindOf x=some .free)/\∃c,env.cells.lookup x=some c/\h.IsCell c (some u))
structure Cx.Ok (X:Cx):Prop where
 mod:Mod X.K X.mg X.base
 kind:X.env.scope.kind = .function
 glob:X.env.globals=wP
 blt:X.env.builtins=builtinsNs
 above:X.s₀.heap.objs.size<=X.env.locals
 inj:∀x y c,X.env.cells.lookup x=some c->X.env.cells.lookup y=some c->x=y
 has:∀x,(X.env.kindOf x=some .cell\/X.env.kindOf x=some .free)->∃c,X.env.cells.lookup x=some c
 cab:∀x c,X.fn x=true->X.env.cells.lookup x=some c->X.s₀.heap.objs.size<=c
 hd:X.calm=true->X.A.handled=none
 frames:X.A.frames=some X.stack
 stk:X.stack=X.outer\/(X.stack=X.env::X.outer/\X.env.frame=some X.env.locals)
 exf:∀b∈X.ex,b≠X.env.locals/\∀x c,X.env.cells.lookup x=some c->c≠b
 bs:∀b o,X.base.get? b=some o->X.s₀.heap.get? b=some o/\X.H₀ b=none
 bsz:X.base.objs.size<=X.s₀.heap.objs.size
 noex:∀b o,X.base.get? b=some o->b∉X.ex
 exfs:∀b∈X.ex,b∉X.fs
 funs:X.s₀.heap.FunFrames X.base X.outer
 frf:∀b∈X.fs,X.H₀ b=none
structure Inv (X:Cx) (pins:List (Addr×Obj)) (σ:List (Option V)) (H:Hp) (s:v_):Prop where
 ok:X.Ok
 os:s.os=X.s₀.os
 bare:A2 s.gens
 base:Un X.fs X.ex X.H₀ H X.s₀.heap s.heap
 loc:∃m,s.heap.Ns X.env.locals m/\∀(i:Nat)(x:Str)(v:V),X.N[i]?=some x->σ[i]?=some (some v)->u9 X.env.scope x->∃u,RelV v u/\Look X.env s.heap m x u
 cell:∀x c,X.env.cells.lookup x=some c->∃v,s.heap.IsCell c v
 free:H X.env.locals=none
 freeC:∀x c,X.env.cells.lookup x=some c->H c=none
 pin:∀p∈X.pn++pins,s.heap.get? p.1=some p.2/\H p.1=none/\p.1≠X.env.locals/\p.1∉X.fs/\∀v,p.2.data ≠ .cell v
 hok:vU X.prog X.w H s.heap
 len:σ.length=X.N.length
section
variable{X:Cx}{pins:List (Addr×Obj)}{σ:List (Option V)}{H H':Hp}{s:v_}{h':Heap}
theorem Cx.Ok.nofr(ok:X.Ok){b:Addr}{o:Obj}(e:X.base.get? b=some o):b∉X.fs:=fun hb=>by
 have:=(ok.funs.mem hb).1;rw[e]at this;cases this
theorem Inv.bs(I:Inv X pins σ H s):∀b o,X.base.get? b=some o->s.heap.get? b=some o/\H b=none:=fun b o e =>
 ⟨I.base.keep b o (I.ok.bs b o e).1 (I.ok.bs b o e).2 (I.ok.nofr e) (I.ok.noex b o e),I.base.free b o (I.ok.bs b o e).1 (I.ok.bs b o e).2 (I.ok.noex b o e)⟩
theorem Inv.bk(I:Inv X pins σ H s):∀b o,X.base.get? b=some o->s.heap.get? b=some o:=fun b o e=>(I.bs b o e).1
theorem Inv.mod(I:Inv X pins σ H s):Mod X.K X.mg X.base:=I.ok.mod
theorem Inv.kIn(I:Inv X pins σ H s):X.K.In s.heap:=I.ok.mod.kin.keeps I.bk
theorem Inv.lt(I:Inv X pins σ H s):X.env.locals<s.heap.objs.size:=let ⟨_,hn,_⟩:=I.loc;hn.lt
theorem Inv.sz(I:Inv X pins σ H s):X.s₀.heap.objs.size<=s.heap.objs.size:=xP I.ok.above (Bk I.lt)
theorem Inv.nofs(I:Inv X pins σ H s)(h:s.heap.objs.size<=a):a∉X.fs:=fun hb=>by
 obtain⟨_,o,ho,_⟩:=I.ok.funs.mem hb;exact absurd (wa (wl ho) (xP I.sz h)) (xM _)
theorem Inv.cne(I:Inv X pins σ H s):∀x c,X.env.cells.lookup x=some c->c≠X.env.locals:=fun x c e z=>by
 obtain⟨v,o,ho,hd⟩:=I.cell x c e;obtain⟨m,⟨o',es,ep,ho',hd',_⟩,_⟩:=I.loc;rw[z,ho']at ho;cases ho;rw[hd']at hd;cases hd
theorem Inv.funs(I:Inv X pins σ H s):s.heap.FunFrames X.base X.outer:=by
 have all:∀(l:List Env),(∀b∈frs l,b∈X.fs)->X.s₀.heap.FunFrames X.base l->s.heap.FunFrames X.base l:=by
  intro l
  induction l with
  | nil=>intro _ _;trivial
  | cons env r ih =>
    intro hs hl;obtain⟨hk,⟨L,o,hf,hn,ho,hd⟩,hr⟩:=hl;have hL:L∈X.fs:=hs L (by unfold frs;rw[yX,hf];exact wg);obtain⟨sl,e⟩:=I.base.slot L o ho (I.ok.frf L hL) hL fun z=>I.ok.exfs L z hL;exact⟨hk,⟨L,_,hf,hn,e,hd⟩,ih (fun b hb=>hs b (by unfold frs;rw[yX,hf];exact wf _ hb)) hr⟩
 exact all X.outer (fun _ hb=>hb) I.ok.funs
theorem Inv.stack(I:Inv X pins σ H s):s.heap.FunFrames X.base X.stack:=by
 rcases I.ok.stk with e|⟨e,hf⟩
 · rw[e];exact I.funs
 · rw[e];obtain⟨m,hn,_⟩:=I.loc;refine .cons (by rw[I.ok.kind];decide) hf hn ?_ I.funs;exact Heap.get?_none_of_le (xP I.ok.bsz I.ok.above)
theorem Inv.stkSub(I:Inv X pins σ H s):∀b∈frs X.stack,b∈X.env.locals::X.fs:=fun b hb=>by
 rcases I.ok.stk with e|⟨e,hf⟩
 · rw[e]at hb;exact wf _ hb
 · rw[e]at hb;unfold frs at hb;rw[yX,hf]at hb;exact hb
theorem Inv.stkFree(I:Inv X pins σ H s):∀b∈frs X.stack,H b=none:=fun b hb=>by
 rcases wE.mp (I.stkSub b hb)with e|hb
 · rw[e];exact I.free
 · obtain⟨_,o,ho,_⟩:=I.ok.funs.mem hb;exact I.base.free b o ho (I.ok.frf b hb) fun z=>I.ok.exfs b z hb
theorem Inv.step{g':Array GenState}{t':Nat}{d':Drawn}{ch:List Addr}(I:Inv X pins σ H s)
 (hch:∀b∈ch,(b∈X.ex\/X.s₀.heap.objs.size<=b)/\b≠X.env.locals/\(∀x c,X.env.cells.lookup x=some c->c≠b)/\∀p∈X.pn++pins,p.1≠b)
 (keep:∀b o,b≠X.env.locals->b∉X.fs->b∉ch->s.heap.get? b=some o->H b=none->h'.get? b=some o)
 (slot:∀b o,b≠X.env.locals->b∈X.fs->b∉ch->s.heap.get? b=some o->H b=none->∃sl,h'.get? b=some {o with slots:=sl})(free:∀b o,b∉ch->s.heap.get? b=some o->H b=none->H' b=none)
 (there:∀b o,b∉ch->s.heap.get? b=some o->∃o',h'.get? b=some o')
 (tups:∀b xs,H b=some (.tup xs)->H' b=some (.tup xs))(frzs:∀b o u,H b=some (.frz o u)->H' b=some (.frz o u))(tbls:∀b ps,H b=some (.tbl ps)->∃more,H' b=some (.tbl (ps++more)))
 (ns:∀m,s.heap.Ns X.env.locals m->h'.Ns X.env.locals m)(hok:vU X.prog X.w H' h')(hg:A2 g') :
 Inv X pins σ H' {s with heap:=h',gens:=g',drawn:=d',toks:=t' }:=by
 have neL:∀b o,X.s₀.heap.get? b=some o->b≠X.env.locals:=fun b o e=>wT (wa (wl e) I.ok.above)
 have neC:∀b o,X.s₀.heap.get? b=some o->b∉X.ex->b∉ch:=fun b o e hx hb=>by
  rcases(hch b hb).1 with z|z
  · exact hx z
  · exact absurd (wa (wl e) z) (xM _)
 have cellK:∀x c,X.env.cells.lookup x=some c->∀v,s.heap.IsCell c v->h'.IsCell c v:=fun x c e v ⟨o,ho,hd⟩=>by
  have nch:c∉ch:=fun z=>(hch c z).2.2.1 x c e rfl;by_cases hc:c∈X.fs
  · obtain⟨sl,q⟩:=slot c o (I.cne x c e) hc nch ho (I.freeC x c e);exact⟨_,q,hd⟩
  · exact⟨o,keep c o (I.cne x c e) hc nch ho (I.freeC x c e),hd⟩
 refine⟨I.ok,I.os,hg,⟨fun b o e n hb hx=>?_,fun b o e n hb hx=>?_,fun b o e n hx=>?_,fun b o e hx=>?_,fun b xs e=>tups b xs (I.base.tups b xs e),fun b o xs e=>frzs b o xs (I.base.frzs b o xs e),fun b ps e=>?_⟩,?_,fun x c e=>?_,?_,fun x c e=>?_,fun p hp=>?_,hok,I.len⟩
 · exact keep b o (neL b o e) hb (neC b o e hx) (I.base.keep b o e n hb hx) (I.base.free b o e n hx)
 · obtain⟨sl,e1⟩:=I.base.slot b o e n hb hx;obtain⟨sl',e2⟩:=slot b _ (neL b o e) hb (neC b o e hx) e1 (I.base.free b o e n hx);exact⟨sl',e2⟩
 · obtain⟨o',e1⟩:=I.base.there b o e hx;exact free b o' (neC b o e hx) e1 (I.base.free b o e n hx)
 · obtain⟨o',e1⟩:=I.base.there b o e hx;exact there b o' (neC b o e hx) e1
 · obtain⟨m1,e1⟩:=I.base.tbls b ps e;obtain⟨m2,e2⟩:=tbls b _ e1;exact⟨m1++m2,by rw[e2,Array.append_assoc]⟩
 · obtain⟨m,hn,hl⟩:=I.loc;refine⟨m,ns m hn,fun i x v e1 e2 e3=>?_⟩;obtain⟨u,r,l⟩:=hl i x v e1 e2 e3;refine⟨u,r,?_⟩;rcases l with l|⟨k,c,e,z⟩
   · exact .inl l
   · exact .inr ⟨k,c,e,cellK x c e _ z⟩
 · obtain⟨v,z⟩:=I.cell x c e;exact⟨v,cellK x c e v z⟩
 · obtain⟨m,⟨o,_,_,ho,_⟩,_⟩:=I.loc;exact free _ o (fun z=>(hch _ z).2.1 rfl) ho I.free
 · obtain⟨v,o,ho,hd⟩:=I.cell x c e;exact free c o (fun z=>(hch c z).2.2.1 x c e rfl) ho (I.freeC x c e)
 · obtain⟨e,n,ne,nf,d⟩:=I.pin p hp;have nch:p.1∉ch:=fun z=>(hch p.1 z).2.2.2 p hp rfl;exact⟨keep p.1 p.2 ne nf nch e n,free p.1 p.2 nch e n,ne,nf,d⟩
theorem Inv.un{t':Nat}(I:Inv X pins σ H s)(u:Un X.fs [] H H' s.heap h')(hok:vU X.prog X.w H' h'):Inv X pins σ H' {s with heap:=h',toks:=t' }:=by
 obtain⟨m,⟨o,es,ep,ho,r⟩,_⟩:=id I.loc;obtain⟨sl,hL⟩:=u.any ho I.free (by simp)
 exact I.step (g':=s.gens) (d':=s.drawn) (ch:=[]) (fun _ z=>nomatch z) (fun b o _ hb _ e n=>u.keep b o e n hb (by simp)) (fun b o _ hb _ e n=>u.slot b o e n hb (by simp)) (fun b o _ e n=>u.free b o e n (by simp)) (fun b o _ e=>u.there b o e (by simp)) u.tups u.frzs u.tbls (fun m' hm=>by
  obtain⟨o',es',ep',ho',r'⟩:=hm;rw[ho]at ho';cases ho'
  exact⟨_,es',ep',hL,r'⟩) hok I.bare
theorem Inv.call{g':Array GenState}{t':Nat}{d':Drawn}{ch:List Addr}(I:Inv X pins σ H s)(u:Un (frs X.stack) ch H H' s.heap h')(hok:vU X.prog X.w H' h')(hg:A2 g')
 (hch:∀b∈ch,(b∈X.ex\/X.s₀.heap.objs.size<=b)/\b≠X.env.locals/\(∀x c,X.env.cells.lookup x=some c->c≠b)/\∀p∈X.pn++pins,p.1≠b) :
 Inv X pins σ H' {s with heap:=h',gens:=g',drawn:=d',toks:=t' }:=by
 obtain⟨m,⟨o,es,ep,ho,r⟩,_⟩:=id I.loc;obtain⟨sl,hL⟩:=u.any ho I.free fun z=>(hch _ z).2.1 rfl
 exact I.step (ch:=ch) hch (fun b o hL hb hc e n=>u.keep b o e n (fun z=>(wE.mp (I.stkSub b z)).elim hL hb) hc) (fun b o _ _ hc e n=>u.any e n hc) (fun b o hc e n=>u.free b o e n hc) (fun b o hc e=>u.there b o e hc) u.tups u.frzs u.tbls (fun m' hm=>by
  obtain⟨o',es',ep',ho',r'⟩:=hm;rw[ho]at ho';cases ho'
  exact⟨_,es',ep',hL,r'⟩) hok hg
theorem Inv.turned{t':Nat}{it:Addr}(I:Inv X pins σ H s)(k:∀b o,b≠it->s.heap.get? b=some o->h'.get? b=some o)(hn:H it=none)(hL:it≠X.env.locals)
 (h1:it∈X.ex\/X.s₀.heap.objs.size<=it)(h2:∀x c,X.env.cells.lookup x=some c->c≠it)(h3:∀p∈X.pn++pins,p.1≠it):Inv X pins σ H {s with heap:=h',toks:=t' }:=by
 have nit:∀b u,H b=some u->b≠it:=fun b u e z=>by rw[z,hn]at e;cases e
 refine I.step (g':=s.gens) (d':=s.drawn) (ch:=[it]) (fun b hb=>?_) (fun b o _ _ hc e _=>k b o (fun z=>hc (by simp[z])) e) (fun b o _ _ hc e _=>⟨o.slots,k b o (fun z=>hc (by simp[z])) e⟩) (fun _ _ _ _ n=>n)
  (fun b o hc e=>⟨o,k b o (fun z=>hc (by simp[z])) e⟩) (fun _ _ e=>e) (fun _ _ _ e=>e) (fun b ps e=>⟨#[],by rw[e];simp⟩) (fun m hm=>?_) (fun b u e=>?_) I.bare
 · have e:b=it:=by simpa using hb
   subst e;exact⟨h1,hL,h2,h3⟩
 · obtain⟨o,es,ep,ho,r⟩:=hm;exact⟨o,es,ep,k _ o (A3 hL) ho,r⟩
 · refine(I.hok b u e).stay (fun c v hc q=>k c v ?_ q) (fun _ q=>q) fun _ _ q=>q;rcases hc with z|z
   · rw[z];exact nit b u e
   · exact nit c _ z
theorem Inv.tok(I:Inv X pins σ H s)(t:Nat):Inv X pins σ H {s with toks:=t}:=I.un (h':=s.heap) (t':=t) Un.refl I.hok
theorem Inv.kept{t':Nat}(I:Inv X pins σ H s)(k:∀b u,s.heap.get? b=some u->h'.get? b=some u):Inv X pins σ H {s with heap:=h',toks:=t' }:=I.un (Un.kept k) (I.hok.kept k)
theorem Inv.laid{a:Addr}{o:HO}{t':Nat}(I:Inv X pins σ H s)(k:∀b u,s.heap.get? b=some u->h'.get? b=some u)(hp:s.heap.objs.size<=a)(new:cy X.prog X.w (upd H a o) h' a o) :
 Inv X pins σ (upd H a o) {s with heap:=h',toks:=t' }:=I.un (Un.laid k hp (I.hok.fresh hp)) (I.hok.laid k hp new)
theorem Inv.write{x e:Addr}{o:HO}{t':Nat}(I:Inv X pins σ H s)(mu:vJ (H x))(he:e=x\/H e=some (.own x))(k:∀b u,b≠e->s.heap.get? b=some u->h'.get? b=some u)(heo:∃u,h'.get? e=some u)
 (new:cy X.prog X.w (upd H x o) h' x o):Inv X pins σ (upd H x o) {s with heap:=h',toks:=t' }:=I.un (Un.write mu he k heo) (I.hok.write mu he k heo new)
theorem Inv.pins_of{pins':List (Addr×Obj)}(I:Inv X pins σ H s)(h:∀p∈pins',s.heap.get? p.1=some p.2/\H p.1=none/\p.1≠X.env.locals/\p.1∉X.fs/\∀v,p.2.data ≠ .cell v):Inv X pins' σ H s :=
 ⟨I.ok,I.os,I.bare,I.base,I.loc,I.cell,I.free,I.freeC,fun p hp=>(yx.mp hp).elim (fun z=>I.pin p (AS _ z)) (h p),I.hok,I.len⟩
theorem gb(hN:N.Nodup)(a:N[i]?=some x)(b:N[j]?=some x):i=j:=by
 obtain⟨h1,e1⟩:=wo.mp a;obtain⟨h2,e2⟩:=wo.mp b;exact(List.getElem_inj hN).mp (e1.trans e2.symm)
theorem ia{M:Model}{A:wS}{E:v9->v_->Prop}{v:V}{u:v9}{Q:Unit->v_->Prop}(I:Inv X pins σ H s)(hN:X.N.Nodup)(hi:X.N[i]?=some x)(hx:Loc X.env.scope x)(r:RelV v u)
 (h:∀s',Inv X pins (σ.set i (some v)) H s'->(∃a,yy a s.heap s'.heap/\(a=X.env.locals\/X.env.cells.lookup x=some a))->Q () s')(hf:autoParam (X.fn x=true\/X.env.scope.names.lookup x=some .local) æd._auto_1):wM M A (storeName X.env x u) Q E s:=by
 obtain⟨m,hn,hl⟩:=id I.loc;have hcls:(X.env.scope.kind == .class||(X.env.scope.kind == .module&&X.env.locals != X.env.globals))=false:=by rw[I.ok.kind];rfl
 have hiσ:i<σ.length:=by rw[I.len];exact(wo.mp hi).1
 have cne:=I.cne
 have tracked:∀{a:Addr}{h':Heap},(∃o,s.heap.get? a=some o/\H a=none)->yy a s.heap h'->vU X.prog X.w H h':=fun{a h'} ha hs b ob e=>by
  obtain⟨_,_,hfree⟩:=ha;refine(I.hok b ob e).stay (fun c w' hc q=>(hs.2 c ?_).trans q) (fun _ q=>q) fun _ _ q=>q;rintro rfl;rcases hc with rfl|hc
  · rw[hfree]at e;cases e
  · rw[hfree]at hc;cases hc
 rcases hx with hk|hk
 · refine wpAny_storeName_local hk hn (fun h' hn' hs=>?_) hcls;obtain⟨oL,_,_,hoL,_⟩:=id hn;refine h _ ⟨I.ok,I.os,I.bare,⟨fun b o e n hb hx=>?_,fun b o e n hb hx=>?_,I.base.free,fun b o e hx=>?_,I.base.tups,I.base.frzs,I.base.tbls⟩,⟨_,hn',fun j y v' e1 e2 e3=>?_⟩,fun y c e=>?_,I.free,I.freeC,fun p hp=>?_,tracked ⟨oL,hoL,I.free⟩ hs,by simpa using I.len⟩ ⟨_,hs,.inl rfl⟩
   · exact(hs.2 b (wT (wa (wl e) I.ok.above))).trans (I.base.keep b o e n hb hx)
   · obtain⟨sl,e1⟩:=I.base.slot b o e n hb hx;exact⟨sl,(hs.2 b (wT (wa (wl e) I.ok.above))).trans e1⟩
   · obtain⟨o',e1⟩:=I.base.there b o e hx;exact⟨o',(hs.2 b (wT (wa (wl e) I.ok.above))).trans e1⟩
   · by_cases hj:j=i
     · subst hj;rw[hi]at e1;cases e1;rw[wC hiσ]at e2;cases e2;exact⟨u,r,.inl ⟨hk,by simp⟩⟩
     · rw[wB (A3 hj)]at e2;obtain⟨u',r',q⟩:=hl j y v' e1 e2 e3;refine⟨u',r',?_⟩;rcases q with⟨k,e⟩|⟨k,c,e,z⟩
       · refine .inl ⟨k,?_⟩;have:y≠x:=fun e=>hj (gb hN e1 (e▸hi));simp[this,e]
       · exact .inr ⟨k,c,e,z.sameBut hs (cne y c e)⟩
   · obtain⟨w',z⟩:=I.cell y c e;exact⟨w',z.sameBut hs (cne y c e)⟩
   · obtain⟨e,n,ne,nf,d⟩:=I.pin p hp;exact⟨(hs.2 p.1 ne).trans e,n,ne,nf,d⟩
 · have hfn:X.fn x=true:=by
     rcases hf with z|z
     · exact z
     · rw[z]at hk;cases hk
   obtain⟨c,hc⟩:=I.ok.has x (.inl hk);obtain⟨w',z⟩:=I.cell x c hc;refine wpAny_storeName_cell I.ok.kind hk hc z (fun h' hc' hs=>?_);obtain⟨oc,hoc,hocd⟩:=id z;refine h {s with heap:=h' } ⟨I.ok,I.os,I.bare,⟨fun b o e n hb hx=>?_,fun b o e n hb hx=>?_,I.base.free,fun b o e hx=>?_,I.base.tups,I.base.frzs,I.base.tbls⟩,⟨m,hn.sameBut hs (A3 (cne x c hc)),fun j y v' e1 e2 e3=>?_⟩,fun y c' e=>?_,I.free,I.freeC,fun p hp=>?_,tracked ⟨oc,hoc,I.freeC x c hc⟩ hs,by simpa using I.len⟩ ⟨c,hs,.inr hc⟩
   · exact(hs.2 b (wT (wa (wl e) (I.ok.cab x c hfn hc)))).trans (I.base.keep b o e n hb hx)
   · obtain⟨sl,e1⟩:=I.base.slot b o e n hb hx;exact⟨sl,(hs.2 b (wT (wa (wl e) (I.ok.cab x c hfn hc)))).trans e1⟩
   · obtain⟨o',e1⟩:=I.base.there b o e hx;exact⟨o',(hs.2 b (wT (wa (wl e) (I.ok.cab x c hfn hc)))).trans e1⟩
   · by_cases hj:j=i
     · subst hj;rw[hi]at e1;cases e1;rw[wC hiσ]at e2;cases e2;exact⟨u,r,.inr ⟨.inl hk,c,hc,hc'⟩⟩
     · rw[wB (A3 hj)]at e2;obtain⟨u',r',q⟩:=hl j y v' e1 e2 e3;refine⟨u',r',?_⟩;rcases q with q|⟨k,c',e,z'⟩
       · exact .inl q
       · refine .inr ⟨k,c',e,z'.sameBut hs ?_⟩;rintro rfl;exact hj (gb hN e1 (I.ok.inj _ _ _ e hc▸hi))
   · by_cases hcc:c'=c
     · subst hcc;exact⟨_,hc'⟩
     · obtain⟨w2,z2⟩:=I.cell y c' e;exact⟨w2,z2.sameBut hs hcc⟩
   · obtain⟨e,n,ne,nf,d⟩:=I.pin p hp;refine⟨(hs.2 p.1 ?_).trans e,n,ne,nf,d⟩;intro q;rw[q,hoc]at e;have q':oc=p.2:=wL e;exact d w' (by rw[<- q'];exact hocd)
theorem cM{M:Model}{A:wS}{E:v9->v_->Prop}{v:V}{u:v9}{Q:Unit->v_->Prop}(I:Inv X pins σ H s)(hN:X.N.Nodup)(hi:X.N[i]?=some x)(hx:Loc X.env.scope x)(r:RelV v u)
 (h:∀s',Inv X pins (σ.set i (some v)) H s'->Q () s')(hf:autoParam (X.fn x=true\/X.env.scope.names.lookup x=some .local) æd._auto_1):wM M A (storeName X.env x u) Q E s :=
 ia I hN hi hx r (fun s' I' _=>h s' I') hf
end
abbrev XK:=v9->Option Addr->Hp->Prop
abbrev St:=List (Option V)
abbrev VK:=V->Hp->Prop
abbrev TE:=St->Hp->VK->Prop
abbrev TT:=St->Hp->(Bool->Hp->Prop)->Prop
abbrev TA:=St->Hp->(List V->Hp->Prop)->Prop
structure Ends where
 nx:St->Hp->Prop
 rt:VK
 bk:St->Hp->Prop:=fun _ _=>False
 ct:St->Hp->Prop:=fun _ _=>False
abbrev TS:=Ends->St->Hp->Prop
noncomputable def EP(X:Cx)(pins:List (Addr×Obj))(σ:St)(Q:VK)(u:v9)(s':v_):Prop:=∃v H',Inv X pins σ H' s'/\RelV v u/\Q v H'
noncomputable def TP(X:Cx)(pins:List (Addr×Obj))(σ:St)(Q:Bool->Hp->Prop)(b:Bool)(s':v_):Prop:=∃H',Inv X pins σ H' s'/\Q b H'
noncomputable def AP(X:Cx)(pins:List (Addr×Obj))(σ:St)(Q:List V->Hp->Prop)(us:List v9)(s':v_):Prop:=∃vs H',Inv X pins σ H' s'/\bm vs us/\Q vs H'
noncomputable def SP(X:Cx)(pins:List (Addr×Obj))(D:Ends)(f:Flow)(s':v_):Prop :=
 match f with
 | .next=>∃σ' H',Inv X pins σ' H' s'/\D.nx σ' H'
 | .brk=>∃σ' H',Inv X pins σ' H' s'/\D.bk σ' H'
 | .cont=>∃σ' H',Inv X pins σ' H' s'/\D.ct σ' H'
 | .ret u=>∃v σ' H',Inv X pins σ' H' s'/\RelV v u/\D.rt v H'
noncomputable def PE(X:Cx)(e:Expr)(t:TE):Prop :=
 ∀(pins:List (Addr×Obj))(s:v_)(σ:St)(H:Hp)(Q:VK),Inv X pins σ H s->t σ H Q->wM (wZ X.prog X.w) X.A (eval e X.env) (EP X pins σ Q) X.xe s
noncomputable def PT(X:Cx)(e:Expr)(t:TT):Prop :=
 ∀(pins:List (Addr×Obj))(s:v_)(σ:St)(H:Hp)(Q:Bool->Hp->Prop),Inv X pins σ H s->t σ H Q->wM (wZ X.prog X.w) X.A (isTrue e X.env (eval e X.env)) (TP X pins σ Q) X.xe s
noncomputable def PW(X:Cx)(e:Expr)(t:TT):Prop :=
 ∀(whole:Sem v9)(pins:List (Addr×Obj))(s:v_)(σ:St)(H:Hp)(Q:Bool->Hp->Prop),Inv X pins σ H s->t σ H Q->wM (wZ X.prog X.w) X.A (isTrue e X.env whole) (TP X pins σ Q) X.xe s
theorem PW.pt{X:Cx}{e:Expr}{t:TT}(h:PW X e t):PT X e t:=h _
noncomputable def PA(X:Cx)(es:List Expr)(t:TA):Prop :=
 ∀(pos:Pos)(pins:List (Addr×Obj))(s:v_)(σ:St)(H:Hp)(Q:List V->Hp->Prop),Inv X pins σ H s->t σ H Q->wM (wZ X.prog X.w) X.A (spliced (yr pos (wm es X.env))) (AP X pins σ Q) X.xe s
noncomputable def PS(X:Cx)(st:Stmt)(t:TS):Prop :=
 ∀(pins:List (Addr×Obj))(s:v_)(σ:St)(H:Hp)(D:Ends),Inv X pins σ H s->t D σ H->wM (wZ X.prog X.w) X.A (exec st X.env) (SP X pins D) X.xe s
noncomputable def vA(X:Cx)(st:List Stmt)(t:TS):Prop :=
 ∀(pins:List (Addr×Obj))(s:v_)(σ:St)(H:Hp)(D:Ends),Inv X pins σ H s->t D σ H->wM (wZ X.prog X.w) X.A (execs st X.env) (SP X pins D) X.xe s
theorem ud{t:Sem α}{Q Q':α->v_->Prop}{M:Model}{A:wS}{E:v9->v_->Prop}{s:v_}(h:wM M A t Q E s)(hQ:∀a s,Q a s->Q' a s):wM M A t Q' E s:=y_ h hQ fun _ _ x=>x
section
variable{X:Cx}
noncomputable def rO(i:Nat):TE:=fun σ H Q=>∃v,σ[i]?=some (some v)/\Q v H
noncomputable def tC(v:V):TE:=fun _ H Q=>Q v H
theorem iE(hN:X.N[i]?=some x)(hv:u9 X.env.scope x)(hd:autoParam ((x==("__debug__" : Str))=false) æb._auto_1)(hcd:autoParam ((x==("__classdict__" : Str))=false) æb._auto_1):PE X (.Name x pos) (rO i):=by
 intro pins s σ H Q I h;obtain⟨v,e,h⟩:=h;obtain⟨m,hn,hl⟩:=I.loc;obtain⟨u,r,l⟩:=hl i x v hN e hv;have fin:EP X pins σ Q u s:=⟨v,H,I,r,h⟩;rcases l with⟨hk,hm⟩|⟨hk,c,hc,hcell⟩
 · exact wpAny_Name (wpAny_loadName_local I.ok.kind hk hn hm fin) hd
 · rcases hk with hk|hk
   · exact wpAny_Name (wpAny_loadName_cell I.ok.kind hk hc hcell fin) hd
   · exact wpAny_Name (wpAny_loadName_free I.ok.kind hk hc hcell fin hcd) hd
theorem aj{i j pos}:PE X (.Constant (.int i) j pos) (tC (.int i)):=fun _ _ _ H _ I h=>wpAny_Constant_int ⟨.int i,H,I.tok _,⟨_,rfl⟩,h⟩
theorem p_{b j pos}:PE X (.Constant (.bool b) j pos) (tC (.bl b)):=fun _ _ _ H _ I h=>Constant_bool ⟨.bl b,H,I,rfl,h⟩
noncomputable def Gl(X:Cx)(x:Str):Prop:=X.env.kindOf x=some .globalImplicit
theorem iY{E:v9->v_->Prop}{s:v_}{σ:St}{H:Hp}{u:v9}{Q:v9->v_->Prop}(I:Inv X pins σ H s)(hg:Gl X x)(hm:X.mg x=some u)(h:Q u s)
 (hd:autoParam ((x==("__debug__" : Str))=false) æb._auto_1):wM (wZ X.prog X.w) X.A (eval (.Name x pos) X.env) Q E s :=
 zX I.ok.kind hg (Calls.loadGlobal_global (by rw[I.ok.glob];exact I.mod.glob.keeps I.bk) hm h) hd
theorem gh{E:v9->v_->Prop}{s:v_}{σ:St}{H:Hp}{u:v9}{Q:v9->v_->Prop}(I:Inv X pins σ H s)(hg:Gl X x)(hm:X.mg x=none)(hv:y9 x=some u)(h:Q u s)
 (hn:autoParam (x ≠ "__name__") æb._auto_1)(hd:autoParam ((x==("__debug__" : Str))=false) æb._auto_1):wM (wZ X.prog X.w) X.A (eval (.Name x pos) X.env) Q E s:=by
 obtain⟨mb,h1,h2⟩:=I.mod.blt;exact zX I.ok.kind hg (Calls.loadGlobal_builtin (by rw[I.ok.glob];exact I.mod.glob.keeps I.bk) hm (by rw[I.ok.blt];exact h1.keeps I.bk) ((h2 x hn).trans hv) h) hd
theorem lR{v:V}{u:v9}(hg:Gl X x)(hm:X.mg x=some u)(r:RelV v u)(hd:autoParam ((x==("__debug__" : Str))=false) æb._auto_1):PE X (.Name x pos) (tC v) :=
 fun _ _ _ H _ I h=>iY I hg hm ⟨v,H,I,r,h⟩ hd
variable{a b:Expr}{ta tb:TE}{pos:Pos}
noncomputable def tB(t:TE):TT:=fun σ H Q=>t σ H fun x H1=>∃c,x = .bl c/\Q c H1
theorem nT{e:Expr}{t:TE}(h:PE X e t)(he:autoParam (∀whole,isTrue e X.env whole=(do let v <- whole;standAt e.pos;BA [v] (truthy v))) æc._auto_1):PT X e (tB t):=by
 intro pins s σ H Q I hw;refine isTrue_plain (ud (h pins s σ H _ I hw) fun v s1 ⟨x,H1,I1,r1,q1⟩=>?_) (he _);obtain⟨d,rfl,q⟩:=q1;cases r1;exact wpAny_truthy_bool ⟨H1,I1,q⟩
variable{tA tB':TT}{rest:List Expr}
noncomputable def sT(t u:TT):TT:=fun σ H Q=>t σ H fun c H1=>if c=true then u σ H1 Q else Q false H1
noncomputable def ug(t u:TT):TT:=fun σ H Q=>t σ H fun c H1=>if c=true then Q true H1 else u σ H1 Q
theorem lE(ha:PT X a tA):PW X (.BoolOp .And [a] pos) tA:=by
 intro wh pins s σ H Q I h;refine isTrue_and (ud (ha pins s σ H Q I h) fun c s1 e=>?_)
 cases c with
 | true=>exact isTrue_and_nil e
 | false=>exact e
theorem nP(ha:PT X a tA):PW X (.BoolOp .Or [a] pos) tA:=by
 intro wh pins s σ H Q I h;refine isTrue_or (ud (ha pins s σ H Q I h) fun c s1 e=>?_)
 cases c with
 | false=>exact isTrue_or_nil e
 | true=>exact e
theorem nQ(ha:PT X a tA)(hb:PW X (.BoolOp .And (b::rest) pos) tB'):PW X (.BoolOp .And (a::b::rest) pos) (sT tA tB'):=by
 intro wh pins s σ H Q I h;refine isTrue_and (ud (ha pins s σ H _ I h) fun c s1 ⟨H1,I1,q1⟩=>?_)
 cases c with
 | true=>exact hb wh pins s1 σ H1 Q I1 q1
 | false=>exact⟨H1,I1,q1⟩
theorem p8(ha:PT X a tA)(hb:PW X (.BoolOp .Or (b::rest) pos) tB'):PW X (.BoolOp .Or (a::b::rest) pos) (ug tA tB'):=by
 intro wh pins s σ H Q I h;refine isTrue_or (ud (ha pins s σ H _ I h) fun c s1 ⟨H1,I1,q1⟩=>?_)
 cases c with
 | true=>exact⟨H1,I1,q1⟩
 | false=>exact hb wh pins s1 σ H1 Q I1 q1
noncomputable def ui(t:TT)(ta tb:TE):TE:=fun σ H Q=>t σ H fun c H1=>if c=true then ta σ H1 Q else tb σ H1 Q
theorem jR{c:Expr}(hc:PT X c tA)(ha:PE X a ta)(hb:PE X b tb):PE X (.IfExp c a b pos) (ui tA ta tb):=by
 intro pins s σ H Q I h;refine wpAny_IfExp (ud (hc pins s σ H _ I h) fun d s1 ⟨H1,I1,q1⟩=>?_)
 cases d with
 | true=>exact ha pins s1 σ H1 Q I1 q1
 | false=>exact hb pins s1 σ H1 Q I1 q1
end
noncomputable def vp(K:W.Frag)(H:Hp)(a:Addr)(xs:List V):Prop :=
 Rd H a (.lst xs) \/
  ∃(o:Obj)(its:Array v9)(n:Nat),K.lookup a=some o/\o.cls = .type "list" /\ o.dict=none/\o.data = .seq its n/\its.size<=sizeLine/\bm xs its.toList
noncomputable def vj(K:W.Frag)(H:Hp)(a:Addr)(xs:List V):Prop :=
 Rd H a (.tup xs) \/
  ∃(o:Obj)(its:Array v9)(n:Nat),K.lookup a=some o/\o.cls = .type "tuple" /\ o.data = .seq its n/\its.size<=sizeLine/\bm xs its.toList/\o.dict=none
noncomputable def tm:v9->Option V
 | .none=>some .non
 | .bool b=>some (.bl b)
 | .int i _=>some (.int i)
 | .str x _=>some (.str x)
 | .bytes b _=>some (.byt b)
 | .float b _=>some (.flt b)
 | .ref a=>some (.ref a)
 | .type n=>some (.ty n)
 | _=>none
theorem RelV.abs{x:V}{u:v9}(r:RelV x u):tm u=some x:=by
 cases x with
 | non=>cases r;rfl
 | bl _=>cases r;rfl
 | int _=>obtain⟨t,rfl⟩:=r;rfl
 | str _=>obtain⟨t,rfl⟩:=r;rfl
 | byt _=>obtain⟨t,rfl⟩:=r;rfl
 | flt _=>obtain⟨t,rfl⟩:=r;rfl
 | ref _=>cases r;rfl
 | ty _=>cases r;rfl
theorem RelV.inj{x y:V}{u:v9}(r:RelV x u)(q:RelV y u):x=y:=wL (r.abs.symm.trans q.abs)
theorem bm.inj:∀{xs ys:List V}{us:List v9},bm xs us->bm ys us->xs=ys
 | _,_,_,.nil,.nil=>rfl
 | _,_,_,.cons r t,.cons r' t'=>by rw[r.inj r',bm.inj t t']
section
variable{X:Cx}{pins:List (Addr×Obj)}{σ:St}{H:Hp}{s:v_}{a:Addr}{xs ys:List V}
theorem Inv.list(I:Inv X pins σ H s)(h:vp X.K H a xs):∃its:List v9,bm xs its/\PlainL s.heap a its.toArray/\xs.length<=sizeLine:=by
 rcases h with h|⟨o,its,n,hk,hc,hd,hs,hz,r⟩
 · obtain⟨z,its,n,r,e⟩:=h.ok I.hok;exact⟨its,r,⟨_,n,e,rfl,rfl,rfl⟩,z⟩
 · refine⟨its.toList,r,⟨o,n,I.kIn a o hk,hc,hd,by simpa using hs⟩,?_⟩;have e:=r.length;simp only[wd]at e;omega
theorem Inv.tuple(I:Inv X pins σ H s)(h:vj X.K H a xs):∃its:List v9,bm xs its/\IsTup s.heap a its.toArray/\xs.length<=sizeLine:=by
 rcases h with h|⟨o,its,n,hk,hc,hs,hz,r,hd⟩
 · obtain⟨z,its,r,p⟩:=h.ok I.hok;exact⟨its,r,p.tup,z⟩
 · refine⟨its.toList,r,⟨o,I.kIn a o hk,hc,n,by simpa using hs⟩,?_⟩;have e:=r.length;simp only[wd]at e;omega
theorem Inv.list_inj(I:Inv X pins σ H s)(h:vp X.K H a xs)(h':vp X.K H a ys):xs=ys:=by
 obtain⟨its,r,⟨o,n,e,_,_,d⟩,_⟩:=I.list h;obtain⟨its',r',⟨o',n',e',_,_,d'⟩,_⟩:=I.list h';rw[e]at e';cases e';rw[d]at d'
 injection d' with d1 _
 have:its=its':=by simpa using congrArg Array.toList d1
 subst this;exact r.inj r'
theorem Inv.tupleD(I:Inv X pins σ H s)(h:vj X.K H a xs):∃ob,s.heap.get? a=some ob/\ob.cls = .type "tuple" /\ ob.dict=none:=by
 rcases h with h|⟨o,its,n,hk,hc,hs,hz,r,hd⟩
 · obtain⟨z,its,r,⟨o,e1,e2,_,e3⟩⟩:=h.ok I.hok;exact⟨o,e1,e2,e3⟩
 · exact⟨o,I.kIn a o hk,hc,hd⟩
theorem Inv.tuple_inj(I:Inv X pins σ H s)(h:vj X.K H a xs)(h':vj X.K H a ys):xs=ys:=by
 obtain⟨its,r,⟨o,e,_,n,d⟩,_⟩:=I.tuple h;obtain⟨its',r',⟨o',e',_,n',d'⟩,_⟩:=I.tuple h';rw[e]at e';cases e';rw[d]at d'
 injection d' with d1 _
 have:its=its':=by simpa using congrArg Array.toList d1
 subst this;exact r.inj r'
end
abbrev Cx.wish(X:Cx)(E:v9->v_->Prop):Cx:={X with xe:=E}
abbrev Cx.nox(X:Cx):Cx:=X.wish fun _ _=>False
theorem Cx.Ok.wish{X:Cx}(ok:X.Ok)(E:v9->v_->Prop):(X.wish E).Ok :=
 ⟨ok.mod,ok.kind,ok.glob,ok.blt,ok.above,ok.inj,ok.has,ok.cab,ok.hd,ok.frames,ok.stk,ok.exf,ok.bs,ok.bsz,ok.noex,ok.exfs,ok.funs,ok.frf⟩
theorem Cx.Ok.unwish{X:Cx}{E:v9->v_->Prop}(ok:(X.wish E).Ok):X.Ok :=
 ⟨ok.mod,ok.kind,ok.glob,ok.blt,ok.above,ok.inj,ok.has,ok.cab,ok.hd,ok.frames,ok.stk,ok.exf,ok.bs,ok.bsz,ok.noex,ok.exfs,ok.funs,ok.frf⟩
section
variable{X:Cx}{pins:List (Addr×Obj)}{σ:St}{H:Hp}{s:v_}{E:v9->v_->Prop}
theorem Inv.wish(I:Inv X pins σ H s)(E:v9->v_->Prop):Inv (X.wish E) pins σ H s:=⟨I.ok.wish E,I.os,I.bare,I.base,I.loc,I.cell,I.free,I.freeC,I.pin,I.hok,I.len⟩
theorem Inv.unwish(I:Inv (X.wish E) pins σ H s):Inv X pins σ H s:=⟨I.ok.unwish,I.os,I.bare,I.base,I.loc,I.cell,I.free,I.freeC,I.pin,I.hok,I.len⟩
theorem SP.unwish{D:Ends}{f:Flow}{s':v_}(h:SP (X.wish E) pins D f s'):SP X pins D f s':=by
 cases f with
 | next=>obtain⟨σ',H',I,q⟩:=h;exact⟨σ',H',I.unwish,q⟩
 | brk=>obtain⟨σ',H',I,q⟩:=h;exact⟨σ',H',I.unwish,q⟩
 | cont=>obtain⟨σ',H',I,q⟩:=h;exact⟨σ',H',I.unwish,q⟩
 | ret u=>obtain⟨v,σ',H',I,r,q⟩:=h;exact⟨v,σ',H',I.unwish,r,q⟩
theorem vA.nox{st:List Stmt}{t:TS}(h:vA X.nox st t):vA X st t:=fun pins s σ H D I hw =>
 y_ (h pins s σ H D (I.wish _) hw) (fun _ _ q=>q.unwish) fun _ _ z=>xJ z
end
section
variable{X:Cx}{st:Stmt}{rest:List Stmt}{t u:TS}{e:Expr}{te:TE}{pos:Pos}
noncomputable def pX:TS:=fun D σ H=>D.nx σ H
noncomputable def rP(t u:TS):TS:=fun D σ H=>t {D with nx:=u D} σ H
theorem dN:vA X [] pX:=fun _ _ σ H _ I h=>zM ⟨σ,H,I,h⟩
theorem aN(h1:PS X st t)(h2:vA X rest u):vA X (st::rest) (rP t u):=by
 intro pins s σ H D I h;refine wpAny_execs_cons (ud (h1 pins s σ H {D with nx:=u D} I h) fun f s1 q=>?_)
 cases f with
 | next =>
   obtain⟨σ',H',I',q⟩:=q
   exact h2 pins s1 σ' H' D I' q
 | ret v=>exact q
 | brk=>exact q
 | cont=>exact q
theorem bS(h1:PS X st t):vA X [st] t:=by
 intro pins s σ H D I h;refine wpAny_execs_cons (ud (h1 pins s σ H D I h) fun f s1 q=>?_)
 cases f with
 | next=>exact zM q
 | ret v=>exact q
 | brk=>exact q
 | cont=>exact q
theorem Inv.quiet{σ:St}{H:Hp}{s:v_}(I:Inv X pins σ H s):interactive X.env=false:=by simp[interactive,I.ok.kind]
noncomputable def pY(te:TE):TS:=fun D σ H=>te σ H fun _ H1=>D.nx σ H1
theorem lK(he:PE X e te)(hs:autoParam (Af e none pos.line X.env=pure false) æa._auto_1):PS X (.Expr e pos) (pY te):=by
 intro pins s σ H D I h;exact wpAny_Expr_any (ud (he pins s σ H _ I h) fun v s1 ⟨x,H1,I1,r1,q1⟩=>⟨σ,H1,I1,q1⟩) I.quiet hs
noncomputable def sO(te:TE):TS:=fun D σ H=>te σ H D.rt
theorem fY(he:PE X e te):PS X (.Return (some e) pos) (sO te):=by
 intro pins s σ H D I h;exact wpAny_Return_some (ud (he pins s σ H _ I h) fun v s1 ⟨x,H1,I1,r1,q1⟩=>⟨x,σ,H1,I1,r1,q1⟩)
noncomputable def sR(c:TT)(t u:TS):TS:=fun D σ H=>c σ H fun b H1=>if b=true then t D σ H1 else u D σ H1
theorem jM{c:Expr}{a b:List Stmt}{tc:TT}(hc:PT X c tc)(ha:vA X a t)(hb:vA X b u):PS X (.If c a b pos) (sR tc t u):=by
 intro pins s σ H D I h;refine wpAny_If (ud (hc pins s σ H _ I h) fun d s1 ⟨H1,I1,q1⟩=>?_)
 cases d with
 | true=>exact ha pins s1 σ H1 D I1 q1
 | false=>exact hb pins s1 σ H1 D I1 q1
noncomputable def nv:TS:=fun _ _ _=>False
theorem jL:PS X st nv:=fun _ _ _ _ _ _ h=>h.elim
end
abbrev TG:=V->St->Hp->(St->Hp->Prop)->Prop
abbrev vg:=List V->St->Hp->(St->Hp->Prop)->Prop
noncomputable def PG(X:Cx)(target:Expr)(t:TG):Prop :=
 ∀ (pins:List (Addr×Obj))(s:v_)(σ:St)(H:Hp)(v:V)(u:v9)(Q:St->Hp->Prop),Inv X pins σ H s->RelV v u->t v σ H Q ->
   wM (wZ X.prog X.w) X.A (BQ target X.env u) (fun _ s'=>∃σ' H',Inv X pins σ' H' s'/\Q σ' H') X.xe s
noncomputable def vF(X:Cx)(ts:List Expr)(t:vg):Prop :=
 ∀ (pins:List (Addr×Obj))(s:v_)(σ:St)(H:Hp)(vs:List V)(us:List v9)(Q:St->Hp->Prop),Inv X pins σ H s->bm vs us->t vs σ H Q ->
   wM (wZ X.prog X.w) X.A (A_ ((yn ts X.env).map (·.2)) us) (fun _ s'=>∃σ' H',Inv X pins σ' H' s'/\Q σ' H') X.xe s
abbrev qB:=V->V->V->Hp->(Hp->Prop)->Prop
noncomputable def sC(X:Cx)(t:qB):Prop :=
 ∀ (pins:List (Addr×Obj))(s:v_)(σ:St)(H:Hp)(o i v:V)(ov iv u:v9)(Q:Hp->Prop),Inv X pins σ H s->RelV o ov->RelV i iv->RelV v u->t o i v H Q ->
   wM (wZ X.prog X.w) X.A (setItem ov iv u) (fun _ s'=>∃H',Inv X pins σ H' s'/\Q H') X.xe s
section
variable{X:Cx}{pos:Pos}
noncomputable def oK(i:Nat):TG:=fun v σ H Q=>Q (σ.set i (some v)) H
theorem lP(hN:X.N.Nodup)(hi:X.N[i]?=some x)(hx:Loc X.env.scope x)(hf:autoParam (X.fn x=true\/X.env.scope.names.lookup x=some .local) æd._auto_1):PG X (.Name x pos) (oK i):=by
 intro pins s σ H v u Q I r h;exact wpAny_assign_Name (cM I hN hi hx r (fun s' I'=>⟨_,H,I',h⟩) hf)
noncomputable def tj:vg:=fun vs σ H Q=>vs=[]/\Q σ H
noncomputable def qu(t:TG)(u:vg):vg:=fun vs σ H Q=>∃v r,vs=v::r/\t v σ H fun σ' H'=>u r σ' H' Q
theorem lO:vF X [] tj:=by
 intro pins s σ H vs us Q I r h;obtain⟨e,h⟩:=h;subst e;cases r;exact assignInOrder_nil ⟨σ,H,I,h⟩
theorem jO{e:Expr}{es:List Expr}{t:TG}{u:vg}(h1:PG X e t)(h2:vF X es u)
 (hs:autoParam ((yn (e::es) X.env).map (·.2)=BQ e X.env::(yn es X.env).map (·.2)) æa._auto_1):vF X (e::es) (qu t u):=by
 intro pins s σ H vs us Q I r h;obtain⟨v,vr,e1,h⟩:=h;subst e1
 cases r with
 | cons r rr =>
   rw[hs];refine z5 (ud (h1 pins s σ H _ _ _ I r h) fun _ s1 ⟨σ1,H1,I1,q1⟩=>?_);exact h2 pins s1 σ1 H1 _ _ Q I1 rr q1
noncomputable def s_(K:W.Frag)(n:Nat)(t:vg):TG:=fun v σ H Q=>∃a xs,v = .ref a/\vj K H a xs/\xs.length=n/\t xs σ H Q
theorem nX{es:List Expr}{t:vg}(hc:X.calm=true)(h:vF X es t)
 (hn:autoParam ((yn es X.env).length=n) æa._auto_1)(hst:autoParam ((yn es X.env).findIdx? (·.1)=none) æa._auto_1):PG X (.Tuple es k pos) (s_ X.K n t):=by
 intro pins s σ H v u Q I r hw;obtain⟨a,xs,e1,hq,hl,hw⟩:=hw;subst e1;cases r;obtain⟨its,rv,ht,hz⟩:=I.tuple hq;refine assign_Tuple_tuple (I.ok.hd hc) ht (by simp[hn,<- hl,rv.length]) hst fun h' hx=>?_;have I1:Inv X pins σ H {s with heap:=h' }:=I.kept (t':=s.toks) fun b o e=>hx b o (wT (wl e)) e;exact h pins _ σ H xs _ Q I1 (by simpa using rv) hw
noncomputable def tf(to ti:TE)(t:qB):TG:=fun v σ H Q=>to σ H fun o H1=>ti σ H1 fun i H2=>t o i v H2 fun H3=>Q σ H3
theorem f_{o i:Expr}{to ti:TE}{t:qB}(ho:PE X o to)(hi:PE X i ti)(hs:sC X t)
 (ha:autoParam (∀v,BQ (.Subscript o i pos) X.env v=(do
  let ov <- BA [v] (eval o X.env)
  let iv <- BA [v,ov] (eval i X.env)
  standAt pos
  BA [v,ov,iv] (setItem ov iv v)
  release [v,ov,iv] [])) æc._auto_1):PG X (.Subscript o i pos) (tf to ti t):=by
 intro pins s σ H v u Q I r h;rw[ha];refine v8 (yi (ud (ho pins s σ H _ I h) fun ov s1 ⟨x,H1,I1,r1,q1⟩=>?_));refine v8 (yi (ud (hi pins s1 σ H1 _ I1 q1) fun iv s2 ⟨y,H2,I2,r2,q2⟩=>?_));refine v8 (Ba (v8 (yi (ud (hs pins s2 σ H2 x y v ov iv u _ I2 r1 r2 r q2) fun _ s3 ⟨H3,I3,q3⟩=>?_))));exact wpAny_release ⟨σ,H3,I3,q3⟩
noncomputable def rR(te:TE)(g:TG):TS:=fun D σ H=>te σ H fun x H1=>g x σ H1 D.nx
theorem eO{e:Expr}{te:TE}{g:TG}(he:PE X e te)(hg:PG X tg g)(hs:autoParam (Am [tg] e pos.line X.env=pure false) æa._auto_1)(hw:autoParam (An [tg] e X.env=pure none) æa._auto_1)
 (h1:autoParam ((yn [tg] X.env).map (·.2)=[BQ tg X.env]) æa._auto_1):PS X (.Assign [tg] e pos) (rR te g):=by
 intro pins s σ H D I h;refine wpAny_Assign_stores (ud (he pins s σ H _ I h) fun v s1 ⟨x,H1,I1,r1,q1⟩=>?_) hs hw;rw[h1];exact ud (hg pins s1 σ H1 x v _ I1 r1 q1) fun _ s2 q=>q
theorem cC{e:Expr}{te:TE}{pos':Pos}(hN:X.N.Nodup)(hi:X.N[i]?=some x)(hx:Loc X.env.scope x)(he:PE X e te)(hs:autoParam (Af e (some (.Name x pos')) pos.line X.env=pure false) æa._auto_1)(hf:autoParam (X.fn x=true\/X.env.scope.names.lookup x=some .local) æd._auto_1) :
 PS X (.Assign [.Name x pos'] e pos) (rR te (oK i)):=by
 intro pins s σ H D I h;refine wpAny_Assign_Name (ud (he pins s σ H _ I h) fun v s1 ⟨y,H1,I1,r1,q1⟩=>?_) hs;exact cM I1 hN hi hx r1 (fun s2 I2=>⟨_,H1,I2,q1⟩) hf
noncomputable def sP(i j:Nat)(ta:TA):TS:=fun D σ H=>ta σ H fun vs H1=>∃v w,vs=[v,w]/\D.nx ((σ.set i (some v)).set j (some w)) H1
theorem nU{y:Str}{a b:Expr}{ta:TA}{px py pt:Pos}{kt k2 pt2}(hc:X.calm=true)(hN:X.N.Nodup)(hi:X.N[i]?=some x)(hj:X.N[j]?=some y)(hij:i≠j)
 (hx:X.env.scope.names.lookup x=some .local)(hy:X.env.scope.names.lookup y=some .local)(ha:PA X [a,b] ta)
 (hw:An [.Tuple [.Name x px,.Name y py] kt pt] (.Tuple [a,b] k2 pt2) X.env=pure (some [x,y]))
 (hs:autoParam (Am [.Tuple [.Name x px,.Name y py] kt pt] (.Tuple [a,b] k2 pt2) pos.line X.env=pure false) æa._auto_1) :
 PS X (.Assign [.Tuple [.Name x px,.Name y py] kt pt] (.Tuple [a,b] k2 pt2) pos) (sP i j ta):=by
 intro pins s σ H D I h;rw[exec_Assign_arm];refine v8 (Ba ?_);rw[hs];refine v8 (wb ?_);rw[if_neg (by decide)];refine v8 (Tuple_ (ud (ha _ pins s σ H _ I h) fun us s1 ⟨vs,H1,I1,r1,q1⟩=>?_));obtain⟨v,w,e1,q1⟩:=q1;subst e1
 obtain⟨u1,u2,rfl,rv,rw'⟩:∃u1 u2,us=[u1,u2]/\RelV v u1/\RelV w u2:=by
  cases r1 with
  | cons p q =>
    cases q with
    | cons p' q' =>
      cases q';exact⟨_,_,rfl,p,p'⟩
 refine wW ?_ (by show 2<=sizeLine;decide);have I2:Inv X pins σ H1 {s1 with heap:=s1.heap.push {cls:=.type "tuple", data:=.seq [u1,u2].toArray}}:=I1.kept (t':=s1.toks) fun b o e=>wc _ e;rw[hw];refine v8 (wb ?_);show wM (wZ X.prog X.w) X.A (do rule "assign.swapped-stores"; let items <- unpackItems (.ref s1.heap.objs.size) 2 none;A_ [fun v=>bindName X.env y v,fun v=>bindName X.env x v] items.reverse;pure Flow.next) _ _ _;refine v8 (wpAny_rule (v8 (unpackItems_tuple (items:=#[u1,u2]) (I.ok.hd hc) (IsTup.new s1.heap _) fun h' hx'=>?_)));have I3:=I2.kept (h':=h') (t':=s1.toks) fun b o e=>hx' b o (wT (wl e)) e;show wM _ _ (A_ [fun v=>bindName X.env y v,fun v=>bindName X.env x v] [u2,u1] >>= fun _=>pure Flow.next) _ _ _;refine v8 (z5 (wpAny_bindName (cM I3 hN hj (.inl hy) rw' (fun s2 I4=>?_) (.inr hy))));refine z5 (wpAny_bindName (cM I4 hN hi (.inl hx) rv (fun s3 I5=>assignInOrder_nil (wb ?_)) (.inr hx)));rw[List.set_comm _ _ (A3 hij)]at I5;exact⟨_,H1,I5,q1⟩
end
section
variable{X:Cx}{pos:Pos}
noncomputable def nu(c:TT)(tb:TS):TS:=fun D σ H=>∃W:Nat->St->Hp->Prop,(∃m,W m σ H)/\∀m σ H,W m σ H ->
 c σ H fun b H1=>if b=true then ∃N:St->Hp->Prop,(∀σ' H',N σ' H'->∃m',m'<m/\W m' σ' H')/\tb {D with nx:=N,ct:=N,bk:=D.nx} σ H1 else D.nx σ H1
theorem fX{c:Expr}{body:List Stmt}{tc:TT}{tb:TS}(hp:BB (wZ X.prog X.w) X.A X.env X.xe)(hc:PT X c tc)(hb:vA X body tb):PS X (.While c body [] pos) (nu tc tb):=by
 intro pins s σ H D I h;obtain⟨W,⟨m0,w0⟩,turn⟩:=h;refine wpAny_While (codeAny_whileLoop (fun n s'=>∃σ' H',Inv X pins σ' H' s'/\W n σ' H') ?_ m0 ⟨σ,H,I,w0⟩);rintro n s1 ⟨σ1,H1,I1,w1⟩;refine yc hp (ud (hc pins s1 σ1 H1 _ I1 (turn n σ1 H1 w1)) fun b s2 ⟨H2,I2,q2⟩=>?_)
 cases b with
 | true =>
   obtain⟨N,hN,q2⟩:=q2;rw[if_pos rfl];refine yc hp (ud (hb pins s2 σ1 H2 _ I2 q2) fun f s3 q3=>?_)
   cases f with
   | next =>
     obtain⟨σ3,H3,I3,n3⟩:=q3;obtain⟨m',hm,w3⟩:=hN σ3 H3 n3
     exact⟨m',hm,σ3,H3,I3,w3⟩
   | cont =>
     obtain⟨σ3,H3,I3,n3⟩:=q3;obtain⟨m',hm,w3⟩:=hN σ3 H3 n3
     exact⟨m',hm,σ3,H3,I3,w3⟩
   | brk=>exact q3
   | ret v=>exact q3
 | false =>
   rw[if_neg ww];exact zM ⟨σ1,H2,I2,q2⟩
end
structure It where
 go:Nat->Hp->Prop
 yld:Nat->Hp->V->Hp->Prop
 stop:Nat->Hp->Prop
noncomputable def jx(X:Cx)(pins:List (Addr×Obj))(H:Hp)(b:Addr):Prop :=
 H b=none/\b≠X.env.locals/\b∉X.fs/\(b∈X.ex\/X.s₀.heap.objs.size<=b)/\(∀x c,X.env.cells.lookup x=some c->c≠b)/\∀p∈X.pn++pins,p.1≠b
theorem Inv.fpOk{X:Cx}{σ:St}{H H':Hp}{s:v_}{b:Addr}(I:Inv X pins σ H s)(hb:s.heap.objs.size<=b)(hn:H' b=none):jx X pins H' b:=by
 refine⟨hn,Bl (wa I.lt hb),I.nofs hb,.inr (xP I.sz hb),fun x c e z=>?_,fun p hp z=>?_⟩
 · obtain⟨v,q⟩:=I.cell x c e;exact absurd (wa q.lt (by rw[z];exact hb)) (xM _)
 · exact absurd (wa (wl (I.pin p hp).1) (by rw[z];exact hb)) (xM _)
structure Turn (P:wD) (w:wR) (K:W.Frag) (tg:Expr) (J:It) (fp:List Addr) (it:Addr) (tn:Nat->Heap->Prop):Prop where
 mem:it∈fp
 obj:∀i h,tn i h->∀b∈fp,∃o,h.get? b=some o/\∀v,o.data ≠ .cell v
 keep:∀i h h',tn i h->(∀b∈fp,∀o,h.get? b=some o->h'.get? b=some o)->tn i h'
 item:∀(X:Cx),X.prog=P->X.w=w->X.K=K->X.calm=true->∀(i:Nat)(pins:List (Addr×Obj))(s:v_)(σ:St)(H:Hp)(E:v9->v_->Prop),Inv X pins σ H s->(∀b∈fp,jx X pins H b)->tn i s.heap->J.go i H ->
  wM (wZ P w) X.A (As (.ref it)) (fun r s1=>∃u,r=some u /\
   wM (wZ P w) X.A (zN tg (.ref it) u) (fun _ s2=>∃x H',Inv X pins σ H' s2/\RelV x u/\J.yld i H x H'/\tn (i+1) s2.heap/\∀b∈fp,H' b=none) E s1) E s
 done:∀(X:Cx),X.prog=P->X.w=w->X.K=K->X.calm=true->∀(i:Nat)(pins:List (Addr×Obj))(s:v_)(σ:St)(H:Hp)(E:v9->v_->Prop),Inv X pins σ H s->(∀b∈fp,jx X pins H b)->tn i s.heap->J.stop i H ->
  wM (wZ P w) X.A (As (.ref it)) (fun r s1=>r=none/\Inv X pins σ H s1) E s
 self:∀(A:wS)(i:Nat)(s:v_)(Q:v9->v_->Prop)(E:v9->v_->Prop),tn i s.heap->Q (.ref it) s->wM (wZ P w) A (pyIter (.ref it)) Q E s
abbrev TI:=St->Hp->(It->Hp->Prop)->Prop
noncomputable def vE(X:Cx)(pins:List (Addr×Obj))(σ:St)(tg:Expr)(R:It->Hp->Prop)(itv:v9)(s2:v_):Prop :=
 ∃(it:Addr)(fp:List Addr)(tn:Nat->Heap->Prop)(J:It)(H':Hp),itv = .ref it/\Inv X pins σ H' s2/\Turn X.prog X.w X.K tg J fp it tn/\tn 0 s2.heap/\(∀b∈fp,jx X pins H' b)/\R J H'
noncomputable def PI(X:Cx)(tg iter:Expr)(wi:TI):Prop :=
 ∀ (pins:List (Addr×Obj))(s:v_)(σ:St)(H:Hp)(R:It->Hp->Prop),Inv X pins σ H s->wi σ H R ->
   wM (wZ X.prog X.w) X.A (eval iter X.env) (fun v s1=>wM (wZ X.prog X.w) X.A (pyIter v) (vE X pins σ tg R) X.xe s1) X.xe s
theorem j_{M:Model}{A:wS}{E:v9->v_->Prop}{s:v_}{it:Addr}{u:v9}{o:Obj}{n:String}{vs:Array v9}{Q:Unit->v_->Prop}(ho:s.heap.get? it=some o)(hc:o.cls = .type n)(hd:o.data = .fields vs)
 (hn:["enumerate", "zip", "dict_itemiterator", "dict_reverseitemiterator", "odict_iterator", "itertools.zip_longest", "itertools.pairwise"].contains n=false)(hQ:Q () s):wM M A (zN tg (.ref it) u) Q E s:=by
 unfold zN
 cases tg<;>first
  | exact wb hQ
  | (cases u<;>first
      | exact wb hQ
      | (refine v8 (wpAny_load ho ?_)
         rw[hc,hd];show wM M A (if(["enumerate", "zip", "dict_itemiterator", "dict_reverseitemiterator", "odict_iterator", "itertools.zip_longest", "itertools.pairwise"].contains n&&vs[0]?==some (zB _))=true then _ else _) Q E s;rw[if_neg (by intro h;rw[hn,Aa]at h;cases h)]
         exact wb hQ))
noncomputable def vT(K:W.Frag)(a:Addr):It :=
 ⟨fun i H=>∃xs x,vp K H a xs/\xs[i]?=some x,fun i H x H'=>H'=H/\∀xs,vp K H a xs->xs[i]?=some x,fun i H=>∃xs,vp K H a xs/\xs.length<=i⟩
noncomputable def vR(K:W.Frag)(a:Addr):It :=
 ⟨fun i H=>∃xs x,vj K H a xs/\xs[i]?=some x,fun i H x H'=>H'=H/\∀xs,vj K H a xs->xs[i]?=some x,fun i H=>∃xs,vj K H a xs/\xs.length<=i⟩
noncomputable def vS(lo:Int)(n:Nat):It:=⟨fun i _=>i<n,fun i H x H'=>H'=H/\x = .int (lo+i),fun i _=>n<=i⟩
theorem hZ{P:wD}{w:wR}{K:W.Frag}(a it:Addr):Turn P w K tg (vT K a) [it] it (fun i h=>h.IsListIter it a i) where
 mem:=by simp
 obj:=fun i h st b hb=>by
  have e:b=it:=by simpa using hb
  subst e;obtain⟨o,e,c,d⟩:=st;exact⟨o,e,fun v z=>by rw[d]at z;cases z⟩
 keep:=fun i h h' st k=>st.at fun o e=>k it (by simp) o e
 item:=by
  intro X hP hw hK hc i pins s σ H E I hf st hg;subst hP hw hK;obtain⟨xs,x,hq,hx⟩:=hg;obtain⟨its,rv,p,hz⟩:=I.list hq;obtain⟨u,hu,ru⟩:=rv.get hx;obtain⟨f0,f1,f2,f3,f4,f5⟩:=hf it (by simp);refine wpAny_pyNext_list_item st p.isList (x:=u) (by simpa using hu) fun h' st' sb=>?_;have I1:Inv X pins σ H {s with heap:=h' }:=I.turned (t':=s.toks) (fun b o hb e=>(sb.2 b hb).trans e) f0 f1 f3 f4 f5;obtain⟨o,e,c,d⟩:=id st';exact⟨u,rfl,j_ (s:={s with heap:=h' }) e c d (by decide) ⟨x,H,I1,ru,⟨rfl,fun ys hy=>by rw[I.list_inj hy hq];exact hx⟩,st',fun b hb=>(hf b hb).1⟩⟩
 done:=by
  intro X hP hw hK hc i pins s σ H E I hf st hg;subst hP hw hK;obtain⟨xs,hq,hx⟩:=hg;obtain⟨its,rv,p,hz⟩:=I.list hq;obtain⟨f0,f1,f2,f3,f4,f5⟩:=hf it (by simp);have hl:=rv.length;exact wpAny_pyNext_list_end (I.ok.hd hc) st p.isList (by simp;omega) fun h' eb=>⟨rfl,I.turned (t':=s.toks) (fun b o hb e=>eb b o hb e) f0 f1 f3 f4 f5⟩
 self:=fun _ _ _ _ _ st h=>wpAny_pyIter_listiter st h
theorem gA{P:wD}{w:wR}{K:W.Frag}(a it:Addr):Turn P w K tg (vR K a) [it] it (fun i h=>h.IsTupleIter it a i) where
 mem:=by simp
 obj:=fun i h st b hb=>by
  have e:b=it:=by simpa using hb
  subst e;obtain⟨o,e,c,d⟩:=st;exact⟨o,e,fun v z=>by rw[d]at z;cases z⟩
 keep:=fun i h h' st k=>st.at fun o e=>k it (by simp) o e
 item:=by
  intro X hP hw hK hc i pins s σ H E I hf st hg;subst hP hw hK;obtain⟨xs,x,hq,hx⟩:=hg;obtain⟨its,rv,p,hz⟩:=I.tuple hq;obtain⟨u,hu,ru⟩:=rv.get hx;obtain⟨f0,f1,f2,f3,f4,f5⟩:=hf it (by simp);refine wpAny_pyNext_tuple_item st (show s.heap.IsTuple a its.toArray from p) (x:=u) (by simpa using hu) fun h' st' sb=>?_;have I1:Inv X pins σ H {s with heap:=h' }:=I.turned (t':=s.toks) (fun b o hb e=>(sb.2 b hb).trans e) f0 f1 f3 f4 f5;obtain⟨o,e,c,d⟩:=id st';exact⟨u,rfl,j_ (s:={s with heap:=h' }) e c d (by decide) ⟨x,H,I1,ru,⟨rfl,fun ys hy=>by rw[I.tuple_inj hy hq];exact hx⟩,st',fun b hb=>(hf b hb).1⟩⟩
 done:=by
  intro X hP hw hK hc i pins s σ H E I hf st hg;subst hP hw hK;obtain⟨xs,hq,hx⟩:=hg;obtain⟨its,rv,p,hz⟩:=I.tuple hq;obtain⟨f0,f1,f2,f3,f4,f5⟩:=hf it (by simp);have hl:=rv.length;exact wpAny_pyNext_tuple_end (I.ok.hd hc) st (show s.heap.IsTuple a its.toArray from p) (by simp;omega) fun h' eb=>⟨rfl,I.turned (t':=s.toks) (fun b o hb e=>eb b o hb e) f0 f1 f3 f4 f5⟩
 self:=fun _ _ _ _ _ st h=>wpAny_pyIter_tupleiter st h
theorem gB{P:wD}{w:wR}{K:W.Frag}(it:Addr)(lo:Int)(n:Nat):Turn P w K tg (vS lo n) [it] it (fun i h=>IsRangeIter h it (lo+(i:Nat)*1) ((n:Int)-(i:Nat)) 1) where
 mem:=by simp
 obj:=fun i h st b hb=>by
  have e:b=it:=by simpa using hb
  subst e
  exact⟨_,st,fun v z=>by
   have z':Data.fields _=Data.cell v:=z
   cases z'⟩
 keep:=fun i h h' st k=>k it (by simp) _ st
 item:=by
  intro X hP hw hK hc i pins s σ H E I hf st hg;subst hP hw hK;obtain⟨f0,f1,f2,f3,f4,f5⟩:=hf it (by simp);have W:=Walks.range (prog:=X.prog) (w:=X.w) (I.ok.hd hc) it lo 1 n;refine W.item i s _ _ hg st fun v h' tk hv st' kk=>?_;obtain⟨t,rfl⟩:=hv;have I1:Inv X pins σ H {s with heap:=h',toks:=tk}:=I.turned (fun b o hb e=>kk b o (by simpa using hb) e) f0 f1 f3 f4 f5;refine⟨_,rfl,j_ (s:={s with heap:=h',toks:=tk}) (n := "range_iterator") st' rfl rfl (by decide) ⟨.int (lo+i),H,I1,⟨t,?_⟩,⟨rfl,rfl⟩,st',fun b hb=>(hf b hb).1⟩⟩;rw[BC]
 done:=by
  intro X hP hw hK hc i pins s σ H E I hf st hg;subst hP hw hK;obtain⟨f0,f1,f2,f3,f4,f5⟩:=hf it (by simp);exact wpAny_pyNext_range_end (I.ok.hd hc) st (by have:n<=i:=hg;omega) fun h' eb=>⟨rfl,I.turned (t':=s.toks) (fun b o hb e=>eb b o hb e) f0 f1 f3 f4 f5⟩
 self:=fun _ _ _ _ _ st h=>wpAny_pyIter_rangeiter st h
section
variable{X:Cx}{tg:Expr}
noncomputable def qj(K:W.Frag)(tl:TE):TI:=fun σ H R=>tl σ H fun x H1=>∃a,x = .ref a/\(∃xs,vp K H1 a xs)/\R (vT K a) H1
noncomputable def sZ(K:W.Frag)(tl:TE):TI:=fun σ H R=>tl σ H fun x H1=>∃a,x = .ref a/\(∃xs,vj K H1 a xs)/\R (vR K a) H1
theorem lN{l:Expr}{tl:TE}(hl:PE X l tl):PI X tg l (qj X.K tl):=by
 intro pins s σ H R I h;refine ud (hl pins s σ H _ I h) fun v s1 ⟨x,H1,I1,r1,q1⟩=>?_;obtain⟨a,e,⟨xs,hq⟩,q⟩:=q1;subst e;cases r1;obtain⟨its,rv,p,hz⟩:=I1.list hq;refine Ag p.isList ?_;refine⟨s1.heap.objs.size,[s1.heap.objs.size],_,_,H1,rfl,I1.kept (t':=s1.toks) fun b o e=>wc _ e,hZ a _,⟨_,wu _ rfl,rfl,rfl⟩,fun b hb=>?_,q⟩;have e:b=s1.heap.objs.size:=by simpa using hb
 subst e;exact I1.fpOk (we _) (I1.hok.fresh (we _))
theorem nW{l:Expr}{tl:TE}(hl:PE X l tl):PI X tg l (sZ X.K tl):=by
 intro pins s σ H R I h;refine ud (hl pins s σ H _ I h) fun v s1 ⟨x,H1,I1,r1,q1⟩=>?_;obtain⟨a,e,⟨xs,hq⟩,q⟩:=q1;subst e;cases r1;obtain⟨its,rv,p,hz⟩:=I1.tuple hq;refine wpAny_pyIter_tuple (show s1.heap.IsTuple a its.toArray from p) ?_;refine⟨s1.heap.objs.size,[s1.heap.objs.size],_,_,H1,rfl,I1.kept (t':=s1.toks) fun b o e=>wc _ e,gA a _,⟨_,wu _ rfl,rfl,rfl⟩,fun b hb=>?_,q⟩;have e:b=s1.heap.objs.size:=by simpa using hb
 subst e;exact I1.fpOk (we _) (I1.hok.fresh (we _))
theorem jK{σ:St}{H:Hp}{s:v_}{R:It->Hp->Prop}{E:v9->v_->Prop}{lo hi:Int}{t u v:Tok}{tk:Nat}(I:Inv X pins σ H s)(h1 : -(2^62)<=lo)(h2:lo<2^62)(h3 : -(2^62)<=hi)(h4:hi<2^62)
 (q:R (vS lo (hi-lo).toNat) H):wM (wZ X.prog X.w) X.A (pyIter (.ref s.heap.objs.size)) (vE X pins σ tg R) E {s with heap:=s.heap.push {cls:=.type "range", data:=.fields #[.int lo t,.int hi u,.int 1 v]},toks:=tk}:=by
 refine wpAny_pyIter_range (IsRange.new ..) (small_one h1 h2 h3 h4) ?_;have I1:Inv X pins σ H {s with heap:=s.heap.push {cls:=.type "range", data:=.fields #[.int lo t,.int hi u,.int 1 v]},toks:=tk}:=I.kept fun b o e=>wc _ e
 refine⟨(s.heap.push {cls:=.type "range", data:=.fields #[.int lo t,.int hi u,.int 1 v]}).objs.size,[(s.heap.push {cls:=.type "range", data:=.fields #[.int lo t,.int hi u,.int 1 v]}).objs.size],_,_,H,rfl,
  I1.kept (t':=tk) fun b o e=>wc _ e,gB _ lo (hi-lo).toNat,?_,fun b hb=>?_,q⟩
 · have e1:lo+((0:Nat):Int)*1=lo:=by simp
   have e2:(((hi-lo).toNat:Nat):Int)-((0:Nat):Int)=Builtin.Range.rangeSize lo hi 1:=by rw[rangeSize_one];split<;>omega
   show IsRangeIter _ _ (lo+((0:Nat):Int)*1) ((((hi-lo).toNat:Nat):Int)-((0:Nat):Int)) 1;rw[e1,e2];exact wu _ rfl
 · have e:b=(s.heap.push {cls:=.type "range", data:=.fields #[.int lo t,.int hi u,.int 1 v]}).objs.size:=by simpa using hb
   subst e;exact I1.fpOk (we _) (I1.hok.fresh (we _))
noncomputable def qh(ta:TA):TI:=fun σ H R=>ta σ H fun vs H1=>∃j:Int,vs=[.int j] /\ -(2^62)<=j/\j<2^62/\R (vS 0 j.toNat) H1
theorem iD{a:Expr}{ta:TA}{p:Pos}(hg:Gl X "range")(hm:X.mg "range" = none)(ha:PA X [a] ta)(hs:autoParam (wm [a] X.env=[(false,eval a X.env)]) æa._auto_1):PI X tg (.Call (.Name "range" p) [a] [] pos) (qh ta):=by
 intro pins s σ H R I h;refine Call_ (gh I hg hm boot_range (yz (ud (ha pos pins s σ H _ I h) fun us s1 ⟨vs,H1,I1,r1,q1⟩=>?_) hs rfl));obtain⟨j,e,q1,q2,q⟩:=q1;subst e
 cases r1 with
 | cons r rr =>
   cases rr;obtain⟨t,rfl⟩:=r;exact call_range_1 (jK I1 (by omega) (by omega) q1 q2 (by simpa using q))
noncomputable def sS(wi:TI)(g:TG)(tb:TS):TS:=fun D σ H=>wi σ H fun J H1=>∃W:Nat->Nat->St->Hp->Prop,(∃m,W 0 m σ H1)/\∀i m σ H,W i m σ H ->
 (J.stop i H/\D.nx σ H)\/(J.go i H/\∃N:St->Hp->Prop,(∀σ' H',N σ' H'->∃m',m'<m/\W (i+1) m' σ' H')/\∀x H',J.yld i H x H'->g x σ H' fun σ2 H2=>tb {D with nx:=N,ct:=N,bk:=D.nx} σ2 H2)
noncomputable def eP(fp:List Addr)(h:Heap):List (Addr×Obj):=fp.filterMap fun b=>(h.get? b).map fun o=>(b,o)
theorem bM{b:Addr}{o:Obj}(hb:b∈fp)(e:h.get? b=some o):(b,o)∈eP fp h:=List.mem_filterMap.mpr ⟨b,hb,by rw[e];rfl⟩
theorem iJ{p:Addr×Obj}(hp:p∈eP fp h):p.1∈fp/\h.get? p.1=some p.2:=by
 obtain⟨b,hb,e⟩:=List.mem_filterMap.mp hp
 cases q:h.get? b with
 | none=>rw[q]at e;cases e
 | some o =>
   rw[q]at e;have e':(b,o)=p:=wL e;subst e';exact⟨hb,q⟩
theorem Inv.pinned{σ:St}{H:Hp}{s:v_}(I:Inv X pins σ H s)(hf:∀b∈fp,jx X pins H b)(ho:∀b∈fp,∃o,s.heap.get? b=some o/\∀v,o.data ≠ .cell v):Inv X (pins++eP fp s.heap) σ H s :=
 I.pins_of fun p hp=>(yx.mp hp).elim (fun z=>I.pin p (wN _ z)) fun z=>by
  obtain⟨hb,e⟩:=iJ z;obtain⟨f0,f1,f2,_⟩:=hf p.1 hb;obtain⟨o,e',d⟩:=ho p.1 hb;rw[e]at e';cases e';exact⟨e,f0,f1,f2,d⟩
theorem Inv.unpinned{pl:List (Addr×Obj)}{σ:St}{H:Hp}{s:v_}(I:Inv X (pins++pl) σ H s):Inv X pins σ H s:=I.pins_of fun p hp=>I.pin p (wN _ (AS _ hp))
theorem nV{iter:Expr}{body:List Stmt}{wi:TI}{g:TG}{tb:TS}(hp:BB (wZ X.prog X.w) X.A X.env X.xe)(hc:X.calm=true)(hi:PI X tg iter wi)(hg:PG X tg g)(hb:vA X body tb)
 (hs:autoParam (∀x,zj iter X.env x=pure x) æc._auto_1):PS X (.For tg iter body [] pos) (sS wi g tb):=by
 intro pins s σ H D I h;refine wpAny_For (ud (hi pins s σ H _ I h) fun v s1 h1=>ud h1 fun itv s2 h2=>?_) hs;obtain⟨it,fp,tn,J,H2,e,I2,T,st2,f2,W,⟨m0,w0⟩,turn⟩:=h2;subst e;have stat:∀{H':Hp},(∀b∈fp,H' b=none)->∀b∈fp,jx X pins H' b:=fun hn b hb=>⟨hn b hb,(f2 b hb).2⟩;refine codeAny_forLoop_any (fun n s'=>∃i σ' H',Inv X pins σ' H' s'/\tn i s'.heap/\(∀b∈fp,H' b=none)/\W i n σ' H') ?_ m0 ⟨0,σ,H2,I2,st2,fun b hb=>(f2 b hb).1,w0⟩;rintro n s3 ⟨i,σ3,H3,I3,st3,fr3,w3⟩;rcases turn i n σ3 H3 w3 with⟨stop,qn⟩|⟨go,N,hN,step⟩
 · refine yc hp (ud (T.done X rfl rfl rfl hc i pins s3 σ3 H3 X.xe I3 (stat fr3) st3 stop) fun r s4 ⟨hr,I4⟩=>?_);subst hr;exact zM ⟨σ3,H3,I4,qn⟩
 · refine yc hp (ud (T.item X rfl rfl rfl hc i pins s3 σ3 H3 X.xe I3 (stat fr3) st3 go) fun r s4 ⟨u,hr,h4⟩=>?_);subst hr;refine yc hp (ud h4 fun _ s5 ⟨x,H5,I5,r5,y5,st5,fr5⟩=>?_);have I5':=I5.pinned (stat fr5) (T.obj _ _ st5);refine yc hp (ud (hg _ s5 σ3 H5 x u _ I5' r5 (step x H5 y5)) fun _ s6 ⟨σ6,H6,I6,q6⟩=>?_);refine yc hp (ud (hb _ s6 σ6 H6 _ I6 q6) fun f s7 q7=>?_)
   have again:∀{σ7:St}{H7:Hp},Inv X (pins++eP fp s5.heap) σ7 H7 s7->N σ7 H7->∃m,m<n/\∃i σ' H',Inv X pins σ' H' s7/\tn i s7.heap/\(∀b∈fp,H' b=none)/\W i m σ' H':=fun{σ7 H7} I7 n7=>by
    obtain⟨m',hm,w7⟩:=hN σ7 H7 n7;refine⟨m',hm,i+1,σ7,H7,I7.unpinned,T.keep _ _ _ st5 fun b hb o e=>(I7.pin (b,o) (wN _ (wN _ (bM hb e)))).1,fun b hb=>?_,w7⟩;obtain⟨o,e,d⟩:=T.obj _ _ st5 b hb;exact(I7.pin (b,o) (wN _ (wN _ (bM hb e)))).2.1
   cases f with
   | next=>obtain⟨σ7,H7,I7,n7⟩:=q7;exact again I7 n7
   | cont=>obtain⟨σ7,H7,I7,n7⟩:=q7;exact again I7 n7
   | brk=>obtain⟨σ7,H7,I7,q7⟩:=q7;exact⟨σ7,H7,I7.unpinned,q7⟩
   | ret v=>obtain⟨x7,σ7,H7,I7,r7,q7⟩:=q7;exact⟨x7,σ7,H7,I7.unpinned,r7,q7⟩
end
abbrev R2:=V->V->Hp->VK->Prop
noncomputable def vI(X:Cx)(f:v9->v9->Sem v9)(r:R2):Prop :=
 ∀ (pins:List (Addr×Obj))(s:v_)(σ:St)(H:Hp)(x y:V)(v u:v9)(Q:VK),Inv X pins σ H s->RelV x v->RelV y u->r x y H Q ->
   wM (wZ X.prog X.w) X.A (f v u) (EP X pins σ Q) X.xe s
noncomputable def va(X:Cx)(f:v9->Sem v9)(r:V->Hp->VK->Prop):Prop :=
 ∀ (pins:List (Addr×Obj))(s:v_)(σ:St)(H:Hp)(x:V)(v:v9)(Q:VK),Inv X pins σ H s->RelV x v->r x H Q ->
   wM (wZ X.prog X.w) X.A (f v) (EP X pins σ Q) X.xe s
noncomputable def cb(X:Cx)(f:v9)(r:List V->Hp->VK->Prop):Prop :=
 ∀ (pins:List (Addr×Obj))(s:v_)(σ:St)(H:Hp)(xs:List V)(us:List v9)(Q:VK),Inv X pins σ H s->bm xs us->r xs H Q ->
   wM (wZ X.prog X.w) X.A (call f us) (EP X pins σ Q) X.xe s
noncomputable def uh(r:R2)(ta tb:TE):TE:=fun σ H Q=>ta σ H fun x H1=>tb σ H1 fun y H2=>r x y H2 Q
noncomputable def ue(r:V->Hp->VK->Prop)(ta:TE):TE:=fun σ H Q=>ta σ H fun x H1=>r x H1 Q
noncomputable def rI(C:Int->Int->Prop)(g:Int->Int->V):R2:=fun x y H Q=>∃i j,x = .int i/\y = .int j/\C i j/\Q (g i j) H
noncomputable def uy(g:Int->Int->V):R2:=fun x y H Q=>∃i j,x = .int i/\y = .int j/\Q (g i j) H
noncomputable def rU(g:Int->V):V->Hp->VK->Prop:=fun x H Q=>∃i,x = .int i/\Q (g i) H
section
variable{X:Cx}{a b c:Expr}{ta tb tc:TE}{pos:Pos}
theorem qz(ha:PE X a ta)(hb:PE X b tb){s:v_}{σ:St}{H:Hp}{R:V->V->Hp->Prop}(I:Inv X pins σ H s)
 (h:ta σ H fun x H1=>tb σ H1 fun y H2=>R x y H2){Q:v9->v_->Prop}{f:v9->v9->Sem v9}
 (hf:∀v u s2 x y H2,Inv X pins σ H2 s2->RelV x v->RelV y u->R x y H2->wM (wZ X.prog X.w) X.A (f v u) Q X.xe s2) :
 wM (wZ X.prog X.w) X.A (eval a X.env) (fun v s₁=>wM (wZ X.prog X.w) X.A (eval b X.env) (fun u s₂=>wM (wZ X.prog X.w) X.A (f v u) Q X.xe s₂) X.xe s₁) X.xe s:=by
 refine ud (ha pins s σ H _ I h) fun v s1 ⟨x,H1,I1,r1,q1⟩=>?_;refine ud (hb pins s1 σ H1 _ I1 q1) fun u s2 ⟨y,H2,I2,r2,q2⟩=>?_;exact hf v u s2 x y H2 I2 r1 r2 q2
theorem bB{op:Operator}{r:R2}(ho:vI X (z6 op) r)(ha:PE X a ta)(hb:PE X b tb):PE X (.BinOp a op b pos) (uh r ta tb):=by
 intro pins s σ H Q I h;exact wpAny_BinOp (qz ha hb I h fun v u s2 x y H2 I2 rx ry q=>ho pins s2 σ H2 x y v u Q I2 rx ry q)
theorem nY{op:UnaryOp}{r:V->Hp->VK->Prop}(ho:va X (unaryOp op) r)(ha:PE X a ta):PE X (.UnaryOp op a pos) (ue r ta):=by
 intro pins s σ H Q I h;exact UnaryOp_ (ud (ha pins s σ H _ I h) fun v s1 ⟨x,H1,I1,r1,q1⟩=>ho pins s1 σ H1 x v Q I1 r1 q1)
theorem uD{f:v9->v9->Sem v9}{C:Int->Int->Prop}{g:Int->Int->Int}
 (rule:∀(i j:Int)(t u:Tok)(s:v_)(Q:v9->v_->Prop)(E:v9->v_->Prop),C i j->Q (.int (g i j) s.toks) {s with toks:=s.toks+1}->wM (wZ X.prog X.w) X.A (f (.int i t) (.int j u)) Q E s) :
 vI X f (rI C fun i j=>.int (g i j)):=by
 intro pins s σ H x y v u Q I rx ry h;obtain⟨i,j,rfl,rfl,hc,q⟩:=h;obtain⟨t,rfl⟩:=rx;obtain⟨t',rfl⟩:=ry;exact rule i j t t' s _ _ hc ⟨.int (g i j),H,I.tok _,⟨_,rfl⟩,q⟩
theorem rZ{f:v9->v9->Sem v9}{g:Int->Int->Int}
 (rule:∀(i j:Int)(t u:Tok)(s:v_)(Q:v9->v_->Prop)(E:v9->v_->Prop),Q (.int (g i j) s.toks) {s with toks:=s.toks+1}->wM (wZ X.prog X.w) X.A (f (.int i t) (.int j u)) Q E s) :
 vI X f (uy fun i j=>.int (g i j)):=by
 intro pins s σ H x y v u Q I rx ry h;obtain⟨i,j,rfl,rfl,q⟩:=h;obtain⟨t,rfl⟩:=rx;obtain⟨t',rfl⟩:=ry;exact rule i j t t' s _ _ ⟨.int (g i j),H,I.tok _,⟨_,rfl⟩,q⟩
theorem qe{f:v9->v9->Sem v9}{g:Int->Int->Bool}
 (rule:∀(i j:Int)(t u:Tok)(s:v_)(Q:v9->v_->Prop)(E:v9->v_->Prop),Q (.bool (g i j)) s->wM (wZ X.prog X.w) X.A (f (.int i t) (.int j u)) Q E s) :
 vI X f (uy fun i j=>.bl (g i j)):=by
 intro pins s σ H x y v u Q I rx ry h;obtain⟨i,j,rfl,rfl,q⟩:=h;obtain⟨t,rfl⟩:=rx;obtain⟨t',rfl⟩:=ry;exact rule i j t t' s _ _ ⟨.bl (g i j),H,I,rfl,q⟩
noncomputable def sD(i j:Int):Prop:=0<j/\j<1073741824
noncomputable def po(i j:Int):Prop:=0<=j/\j<=1000000/\i.natAbs<2^64
theorem dr:vI X (z6 .Add) (uy fun i j=>.int (i+j)):=rZ fun _ _ _ _ _ _ _ q=>add_int q
theorem n8:vI X (z6 .Sub) (uy fun i j=>.int (i-j)):=rZ fun _ _ _ _ _ _ _ q=>sub_int q
theorem bJ:vI X (z6 .Mod) (rI (fun _ j=>j≠0) fun i j=>.int (i.fmod j)):=uD fun _ _ _ _ _ _ _ hc q=>mod_int' hc q
theorem kK:vI X (z6 .Pow) (rI po fun i j=>.int (i^j.toNat)):=uD fun _ _ _ _ _ _ _ hc q=>pow_int_small hc.1 hc.2.1 hc.2.2 q
theorem t7{f:v9->Sem v9}{g:Int->Int}
 (rule:∀(i:Int)(t:Tok)(s:v_)(Q:v9->v_->Prop)(E:v9->v_->Prop),Q (.int (g i) s.toks) {s with toks:=s.toks+1}->wM (wZ X.prog X.w) X.A (f (.int i t)) Q E s) :
 va X f (rU fun i=>.int (g i)):=by
 intro pins s σ H x v Q I rx h;obtain⟨i,rfl,q⟩:=h;obtain⟨t,rfl⟩:=rx;exact rule i t s _ _ ⟨.int (g i),H,I.tok _,⟨_,rfl⟩,q⟩
theorem kF:va X (unaryOp .USub) (rU fun i=>.int (-i)):=t7 fun _ _ _ _ _ q=>neg_int q
end
noncomputable def rS:V->V->Bool
 | .non,.non=>true | .non,.int _=>true | .int _,.non=>true | .non,.bl _=>true | .bl _,.non=>true | .non,.str _=>true | .str _,.non=>true
 | .int _,.int _=>true | .bl _,.bl _=>true | .str _,.str _=>true | .byt _,.byt _=>true
 | .int _,.str _=>true | .str _,.int _=>true | .bl _,.str _=>true | .str _,.bl _=>true
 | _,_=>false
noncomputable def uz:R2:=fun x y H Q=>rS x y=true/\Q (.bl (decide (x=y))) H
noncomputable def uw:R2:=fun x y H Q=>rS x y=true/\Q (.bl (!decide (x=y))) H
theorem jd{i j:Int}:decide (V.int i=V.int j)=(i==j):=by
 rw[zO];simp
theorem kX{i j:Bool}:decide (V.bl i=V.bl j)=(i==j):=by
 rw[zO];simp
theorem jc{i j:Str}:decide (V.str i=V.str j)=(i==j):=by
 rw[zO];simp
theorem je{i j:Array UInt8}:decide (V.byt i=V.byt j)=(i.toList==j.toList):=by
 rw[zO];cases i;cases j;simp
section
variable{X:Cx}{a b c:Expr}{ta tb tc:TE}{pos:Pos}
theorem az{σ:St}{H:Hp}{s:v_}{Q:VK}{k k':Bool}(I:Inv X pins σ H s)(q:Q (.bl k) H)(e:k=k'):EP X pins σ Q (.bool k') s:=by
 subst e;exact⟨.bl k,H,I,rfl,q⟩
theorem qc:vI X (yP .Eq) uz:=by
 intro pins s σ H x y v u Q I rx ry h;obtain⟨hs,q⟩:=h
 cases x with
 | non =>
   cases rx
   cases y with
   | non=>cases ry;exact PySem.EqNone.eq_none_none (az I q (by simp))
   | bl j=>cases ry;exact PySem.EqNone.eq_none_bool (az I q (by simp))
   | int j=>obtain⟨t',rfl⟩:=ry;exact PySem.EqNone.eq_none_int (az I q (by simp))
   | str j=>obtain⟨t',rfl⟩:=ry;exact PySem.EqNone.eq_none_str (az I q (by simp))
   | _=>exact absurd (show false=true from hs) ww
 | bl i =>
   cases rx
   cases y with
   | non=>cases ry;exact PySem.EqNone.eq_bool_none (az I q (by simp))
   | bl j=>cases ry;exact eq_bool (az I q kX)
   | str j=>obtain⟨t',rfl⟩:=ry;exact PySem.EqMixed.eq_bool_str (az I q (by simp))
   | _=>exact absurd (show false=true from hs) ww
 | int i =>
   obtain⟨t,rfl⟩:=rx
   cases y with
   | non=>cases ry;exact PySem.EqNone.eq_int_none (az I q (by simp))
   | int j=>obtain⟨t',rfl⟩:=ry;exact eq_int (az I q jd)
   | str j=>obtain⟨t',rfl⟩:=ry;exact PySem.EqMixed.eq_int_str (az I q (by simp))
   | _=>exact absurd (show false=true from hs) ww
 | str i =>
   obtain⟨t,rfl⟩:=rx
   cases y with
   | non=>cases ry;exact PySem.EqNone.eq_str_none (az I q (by simp))
   | bl j=>cases ry;exact PySem.EqMixed.eq_str_bool (az I q (by simp))
   | int j=>obtain⟨t',rfl⟩:=ry;exact PySem.EqMixed.eq_str_int (az I q (by simp))
   | str j=>obtain⟨t',rfl⟩:=ry;exact eq_str (az I q jc)
   | _=>exact absurd (show false=true from hs) ww
 | byt i =>
   obtain⟨t,rfl⟩:=rx
   cases y with
   | byt j=>obtain⟨t',rfl⟩:=ry;exact W.eq_bytes (az I q je)
   | _=>exact absurd (show false=true from hs) ww
 | _=>cases y<;>exact absurd (show false=true from hs) ww
theorem jS:vI X (yP .NotEq) uw:=by
 intro pins s σ H x y v u Q I rx ry h;obtain⟨hs,q⟩:=h
 cases x with
 | non =>
   cases rx
   cases y with
   | non=>cases ry;exact PySem.EqNone.ne_none_none (az I q (by simp))
   | bl j=>cases ry;exact PySem.EqNone.ne_none_bool (az I q (by simp))
   | int j=>obtain⟨t',rfl⟩:=ry;exact PySem.EqNone.ne_none_int (az I q (by simp))
   | str j=>obtain⟨t',rfl⟩:=ry;exact PySem.EqNone.ne_none_str (az I q (by simp))
   | _=>exact absurd (show false=true from hs) ww
 | bl i =>
   cases rx
   cases y with
   | non=>cases ry;exact PySem.EqNone.ne_bool_none (az I q (by simp))
   | bl j=>cases ry;exact ne_bool (az I q (congrArg not kX))
   | str j=>obtain⟨t',rfl⟩:=ry;exact PySem.EqMixed.ne_bool_str (az I q (by simp))
   | _=>exact absurd (show false=true from hs) ww
 | int i =>
   obtain⟨t,rfl⟩:=rx
   cases y with
   | non=>cases ry;exact PySem.EqNone.ne_int_none (az I q (by simp))
   | int j=>obtain⟨t',rfl⟩:=ry;exact ne_int (az I q (congrArg not jd))
   | str j=>obtain⟨t',rfl⟩:=ry;exact PySem.EqMixed.ne_int_str (az I q (by simp))
   | _=>exact absurd (show false=true from hs) ww
 | str i =>
   obtain⟨t,rfl⟩:=rx
   cases y with
   | non=>cases ry;exact PySem.EqNone.ne_str_none (az I q (by simp))
   | bl j=>cases ry;exact PySem.EqMixed.ne_str_bool (az I q (by simp))
   | int j=>obtain⟨t',rfl⟩:=ry;exact PySem.EqMixed.ne_str_int (az I q (by simp))
   | str j=>obtain⟨t',rfl⟩:=ry;exact ne_str (az I q (congrArg not jc))
   | _=>exact absurd (show false=true from hs) ww
 | byt i =>
   obtain⟨t,rfl⟩:=rx
   cases y with
   | byt j=>obtain⟨t',rfl⟩:=ry;exact W.ne_bytes (az I q (congrArg not je))
   | _=>exact absurd (show false=true from hs) ww
 | _=>cases y<;>exact absurd (show false=true from hs) ww
theorem lT:vI X (yP .Lt) (uy fun i j=>.bl (decide (i<j))):=qe fun _ _ _ _ _ _ _ q=>lt_int q
theorem fC:vI X (yP .Gt) (uy fun i j=>.bl (decide (j<i))):=qe fun _ _ _ _ _ _ _ q=>gt_int q
theorem qa:vI X (yP .GtE) (uy fun i j=>.bl (decide (j<=i))):=qe fun _ _ _ _ _ _ _ q=>ge_int q
theorem aQ(b:Expr){op:CmpOp}(h:autoParam (op ≠ .In) æb._auto_1)(h2:autoParam (op ≠ .NotIn) æb._auto_1):zd op b=false:=by
 have e1:(op==CmpOp.In)=false:=by cases op<;>first|rfl|exact absurd rfl h
 have e2:(op==CmpOp.NotIn)=false:=by cases op<;>first|rfl|exact absurd rfl h2
 cases b<;>simp[zd,e1,e2]
theorem lS{op:CmpOp}{r:R2}(ho:vI X (yP op) r)(ha:PE X a ta)(hb:PE X b tb)(hm:zd op b=false):PE X (.Compare a [op] [b] pos) (uh r ta tb):=by
 intro pins s σ H Q I h;exact wpAny_Compare1 (qz ha hb I h fun v u s2 x y H2 I2 rx ry q=>ho pins s2 σ H2 x y v u Q I2 rx ry q) hm
noncomputable def pU(t:TE):TT:=fun σ H Q=>t σ H fun x H'=>∃k,x = .bl k/\Q k H'
theorem ci{op:CmpOp}{r:R2}(ho:vI X (yP op) r)(ha:PE X a ta)(hb:PE X b tb)(hm:zd op b=false):PT X (.Compare a [op] [b] pos) (pU (uh r ta tb)):=by
 intro pins s σ H Q I h
 refine wpAny_isTrue_Compare1 (ud (ha pins s σ H _ I h) fun v s1 ⟨x,H1,I1,r1,q1⟩=>ud (hb pins s1 σ H1 _ I1 q1) fun u s2 ⟨y,H2,I2,r2,q2⟩ =>
  ud (ho pins s2 σ H2 x y v u _ I2 r1 r2 q2) fun c s3 ⟨z,H3,I3,r3,k,e,q3⟩=>?_) hm
 subst e;cases r3;exact wpAny_truthy_bool ⟨H3,I3,q3⟩
theorem eT:(sizeLine:Nat)<2^63:=by rw[BD];decide
theorem vals1{x:V}{us:List v9}(r:bm [x] us):∃u,us=[u]/\RelV x u:=by
 cases r with
 | cons r1 r2=>cases r2;exact⟨_,rfl,r1⟩
theorem vals2{x y:V}{us:List v9}(r:bm [x,y] us):∃u w',us=[u,w']/\RelV x u/\RelV y w':=by
 cases r with
 | cons r1 r2 =>
   cases r2 with
   | cons r3 r4=>cases r4;exact⟨_,_,rfl,r1,r3⟩
theorem d4:cb X (.builtin "abs") (fun xs H Q=>∃i,xs=[.int i]/\Q (.int (if i<0 then -i else i)) H):=by
 intro pins s σ H xs us Q I r h;obtain⟨i,rfl,q⟩:=h;obtain⟨u,rfl,t,rfl⟩:=vals1 r;exact call_abs_int fun u tk=>⟨.int (if i<0 then -i else i),H,I.tok _,⟨_,rfl⟩,q⟩
theorem jo(hc:X.calm=true):cb X (.builtin "min") (fun xs H Q=>∃i j,xs=[.int i,.int j]/\Q (.int (if j<i then j else i)) H):=by
 intro pins s σ H xs us Q I r h;obtain⟨i,j,rfl,q⟩:=h;obtain⟨u,w',rfl,⟨t,rfl⟩,⟨t',rfl⟩⟩:=vals2 r;refine min_two_ints (I.ok.hd hc) fun h' tk k=>⟨_,H,I.kept k,?_,q⟩;by_cases hj:j<i
 · rw[if_pos hj,if_pos hj];exact⟨_,rfl⟩
 · rw[if_neg hj,if_neg hj];exact⟨_,rfl⟩
theorem fL:cb X (.builtin "divmod") (fun xs H Q=>∃i j,xs=[.int i,.int j]/\sD i j/\∀p,H p=none->Q (.ref p) (upd H p (.tup [.int (i / j),.int (i%j)]))):=by
 intro pins s σ H xs us Q I r h;obtain⟨i,j,rfl,⟨h1,h2⟩,q⟩:=h;obtain⟨u,w',rfl,⟨t,rfl⟩,⟨t',rfl⟩⟩:=vals2 r;refine divmod_int (by omega) ?_ (.inl (PyProof.noPylong_small (by omega)));rw[wG i (by omega),xa i (by omega)];have hn:H s.heap.objs.size=none:=I.hok.fresh (we _);refine⟨.ref s.heap.objs.size,_,?_,rfl,q _ hn⟩;refine I.laid (fun b o e=>wc _ e) (we _) ⟨by simp only[wF,yA];rw[BD];decide,[.int (i / j) s.toks,.int (i%j) (s.toks+1)],.cons ⟨_,rfl⟩ (.cons ⟨_,rfl⟩ .nil),?_⟩;exact⟨_,wu s.heap rfl,rfl,⟨0,rfl⟩,rfl⟩
end
section
variable{prog:wD}{w:wR}{A:wS}{E:v9->v_->Prop}{s:v_}{K:W.Frag}{x dx C f:Addr}{mA:Str->Option v9}{name:Str}{v:v9}
end
section
variable{P:wD}{w:wR}{H H':Hp}{h h':Heap}{a C dx:Addr}{fs fs':List (Str×V)}
end
section
variable{X:Cx}{pins:List (Addr×Obj)}{σ:St}{H:Hp}{s:v_}{a C dx:Addr}{fs:List (Str×V)}{f:Str}{v:V}{A:wS}{E:v9->v_->Prop}
end
section
variable{X:Cx}{o e value:Expr}{f:Str}{pos pos' tpos:Pos}{ta tv:TE}
end
section
variable{X:Cx}{pins:List (Addr×Obj)}{σ:St}{H:Hp}{s:v_}{A:wS}{E:v9->v_->Prop}{Q:v9->v_->Prop}{c:v9}{b:Bool}
end
structure Room (k:Nat) (A:wS):Prop where
 hd:A.handled=none
 dp:A.depth+3*k+5<recursionLimit
 un:A.units+16*k+200<cLine
 gd:A.guards=some []
theorem Room.mono{A:wS}(r:Room k A)(h:j<=k):Room j A:=⟨r.hd,by have:=r.dp;omega,by have:=r.un;omega,r.gd⟩
theorem Room.deeper{A:wS}(r:Room (k+1) A)(env:Env):Room k (A.deeper env) :=
 ⟨r.hd,by have:=r.dp;show A.depth+1+3*k+5<_;omega,by have:=r.un;show A.units+3+16*k+200<_;omega,r.gd⟩
theorem Room.depth{A:wS}(r:Room k A):A.depth<recursionLimit:=by have:=r.dp;omega
theorem Room.units{A:wS}(r:Room k A):A.units+64<cLine:=by have:=r.un;omega
noncomputable def rQ:TA:=fun _ H Q=>Q [] H
noncomputable def nw(ta:TE)(tr:TA):TA:=fun σ H Q=>ta σ H fun x H1=>tr σ H1 fun xs H2=>Q (x::xs) H2
section
variable{X:Cx}{e:Expr}{es:List Expr}{te:TE}{t:TA}{pos:Pos}
theorem b7:PA X [] rQ:=fun _ _ _ _ H Q I h=>Calls.spliced_nil ⟨[],H,I,.nil,h⟩
theorem bc(ha:PE X e te)(hr:PA X es t)(hs:autoParam (wm (e::es) X.env=(false,eval e X.env)::wm es X.env) æa._auto_1):PA X (e::es) (nw te t):=by
 intro pos pins s σ H Q I h;rw[hs];show wM _ _ (spliced ((false,eval e X.env)::yr pos (wm es X.env))) _ _ s;refine Calls.spliced_cons (ud (ha pins s σ H _ I h) fun u s1 ⟨x,H1,I1,r1,q1⟩=>?_);exact ud (hr pos pins s1 σ H1 _ I1 q1) fun us s2 ⟨xs,H2,I2,r2,q2⟩=>⟨x::xs,H2,I2,.cons r1 r2,q2⟩
noncomputable def sN(t:TA):TE:=fun σ H Q=>t σ H fun xs H1=>xs.length<=sizeLine/\∀p,H1 p=none->Q (.ref p) (upd H1 p (.tup xs))
noncomputable def sQ(t:TA):TE:=fun σ H Q=>t σ H fun xs H1=>xs.length<=sizeLine/\∀p,H1 p=none->Q (.ref p) (upd H1 p (.lst xs))
theorem nZ{x1}(h:PA X es t):PE X (.Tuple es x1 pos) (sN t):=by
 intro pins s σ H Q I hq;refine wpAny_Tuple_spliced (ud (h pos pins s σ H _ I hq) fun us s1 ⟨xs,H1,I1,r,z,q⟩=>⟨by rw[<- r.length];exact z,?_⟩);have hf:H1 s1.heap.objs.size=none:=I1.hok.fresh (we _);refine⟨.ref s1.heap.objs.size,upd H1 s1.heap.objs.size (.tup xs),I1.laid (t':=s1.toks) (fun b u e=>wc _ e) (we _) ?_,rfl,q _ hf⟩;exact⟨z,us,r,ju.new _ _⟩
theorem kI(h:PA X es t):PE X (.List es pos) (sQ t):=by
 intro pins s σ H Q I hq;refine wpAny_List_spliced (ud (h pos pins s σ H _ I hq) fun us s1 ⟨xs,H1,I1,r,z,q⟩=>⟨by rw[<- r.length];exact z,?_⟩);have hf:H1 s1.heap.objs.size=none:=I1.hok.fresh (we _);refine⟨.ref s1.heap.objs.size,upd H1 s1.heap.objs.size (.lst xs),I1.laid (t':=s1.toks) (fun b u e=>wc _ e) (we _) ?_,rfl,q _ hf⟩;exact⟨z,us,0,r,wu _ rfl⟩
end
abbrev Sp:=List V->Hp->VK->XK->Prop
abbrev vW:=List Env->Hp->v_->XK->v9->v_->Prop
structure Env0 (P:wD) (w:wR) (K:W.Frag) (mg:Str->Option v9) (base:Heap) (A:wS) (outer:List Env) (s:v_) (H:Hp):Prop where
 frames:A.frames=some outer
 mod:Mod K mg base
 bs:∀b o,base.get? b=some o->s.heap.get? b=some o/\H b=none
 bsz:base.objs.size<=s.heap.objs.size
 funs:s.heap.FunFrames base outer
 frf:∀b∈frs outer,H b=none
 hok:vU P w H s.heap
 bare:A2 s.gens
noncomputable def CE(outer:List Env)(P:wD)(w:wR)(H:Hp)(s:v_)(Q:VK)(u:v9)(s':v_):Prop :=
 ∃v H',s'.os=s.os/\A2 s'.gens/\Un (frs outer) [] H H' s.heap s'.heap/\vU P w H' s'.heap/\RelV v u/\Q v H'
noncomputable def CR(CX:vW)(outer:List Env)(P:wD)(w:wR)(H:Hp)(s:v_)(Q:VK)(E:XK)(r:Result)(s':v_):Prop :=
 match r with
 | .ok (.ret u)=>CE outer P w H s Q u s'
 | .ok _=>False
 | .error e=>CX outer H s E e s'
structure FnOk (P:wD) (w:wR) (K:W.Frag) (mg:Str->Option v9) (base:Heap) (CX:vW) (k:Nat) (f:Addr) (fd:yj) (ps:List Str) (sp:Sp):Prop where
 len:∀vs H Q E,sp vs H Q E->vs.length=ps.length
 run:∀(A:wS)(outer:List Env)(s:v_)(H:Hp)(args:Args)(us:List v9)(vs:List V)(Q:VK)(E:XK),Room k A->Env0 P w K mg base A outer s H->BE s fd args (ps.zip us)->bm vs us->sp vs H Q E ->
  zP (wZ P w) A (.call (.ref f) args) (CR CX outer P w H s Q E) s
section
variable{X:Cx}{pins:List (Addr×Obj)}{σ:St}{H:Hp}{s s':v_}
theorem Inv.env0(I:Inv X pins σ H s):Env0 X.prog X.w X.K X.mg X.base X.A X.stack s H :=
 ⟨I.ok.frames,I.ok.mod,I.bs,xP I.ok.bsz I.sz,I.stack,I.stkFree,I.hok,I.bare⟩
theorem Inv.after{Q:VK}{u:v9}(I:Inv X pins σ H s)(h:CE X.stack X.prog X.w H s Q u s'):EP X pins σ Q u s':=by
 obtain⟨v,H',os,bare,un,hok,r,q⟩:=h;obtain⟨hh,g,d,t,os'⟩:=s';obtain rfl:os'=s.os:=os;exact⟨v,H',I.call (h':=hh) (g':=g) (d':=d) (t':=t) (ch:=[]) un hok bare (fun b z=>absurd z (by simp)),r,q⟩
end
noncomputable def pZ(sp:Sp)(dvs:List V)(E:XK)(t:TA):TE:=fun σ H Q=>t σ H fun vs H1=>sp (vs++dvs) H1 Q E
noncomputable def Binds(K:W.Frag)(fd:yj)(ps:List Str)(ds:List v9):Prop :=
 ∀(s:v_)(us:List v9),K.In s.heap->(us++ds).length=ps.length->BE s fd ⟨us,[]⟩ (ps.zip (us++ds))
theorem Binds.all{K:W.Frag}{fd:yj}(h:∀us:List v9,us.length=ps.length->bindArgs fd ⟨us,[]⟩=pure (ps.zip us)):Binds K fd ps []:=fun s us _ hl=>by
 rw[xX]at hl ⊢;exact .of_eq (h us hl)
noncomputable def jt(CX:vW)(X:Cx)(E:XK):Prop:=∀(pins:List (Addr×Obj))(σ:St)(H:Hp)(s:v_)(e:v9)(s':v_),Inv X pins σ H s->CX X.stack H s E e s'->X.xe e s'
section
variable{X:Cx}{CX:vW}{k:Nat}{f C:Addr}{fd:yj}{ps:List Str}{sp:Sp}{dvs:List V}{ds:List v9}{E:XK}{x m:Str}{p pos apos:Pos}{e o:Expr}{es:List Expr}{ta:TE}{t:TA}
theorem nE{σ:St}{H:Hp}{s:v_}{Q:VK}{us:List v9}{vs:List V}(F:FnOk X.prog X.w X.K X.mg X.base CX k f fd ps sp)(hr:Room k X.A)(hb:Binds X.K fd ps ds)(hd:bm dvs ds)(hx:jt CX X E)
 (I:Inv X pins σ H s)(r:bm vs us)(h:sp (vs++dvs) H Q E):wM (wZ X.prog X.w) X.A (call (.ref f) us) (EP X pins σ Q) X.xe s:=by
 have r2:bm (vs++dvs) (us++ds):=r.append hd;have hl:(us++ds).length=ps.length:=by rw[<- r2.length];exact F.len _ _ _ _ h
 refine wpAny_call (zt (F.run X.A X.stack s H ⟨us,[]⟩ (us++ds) (vs++dvs) Q E hr I.env0 (hb s us I.kIn hl) r2 h) fun r s' hq=>?_)
 cases r with
 | error e=>exact hx pins σ H s e s' I hq
 | ok fl =>
   cases fl with
   | ret u=>exact I.after hq
   | next=>exact xJ hq
   | brk=>exact xJ hq
   | cont=>exact xJ hq
theorem iF(F:FnOk X.prog X.w X.K X.mg X.base CX k f fd ps sp)(hr:Room k X.A)(hg:Gl X x)(hm:X.mg x=some (.ref f))(hk:W.keepIn X.K (.ref f)=true)(hb:Binds X.K fd ps ds)(hd:bm dvs ds)(hx:jt CX X E)
 (ha:PA X (e::es) t)(hdb:autoParam ((x==("__debug__" : Str))=false) æb._auto_1)(he:autoParam (wm (e::es) X.env=(false,eval e X.env)::wm es X.env) æa._auto_1)(hpl:autoParam ((yr pos (wm es X.env)).any (·.1)=false) æa._auto_1) :
 PE X (.Call (.Name x p) (e::es) [] pos) (pZ sp dvs E t):=by
 intro pins s σ H Q I h;refine z7 (iY I hg hm ?_ hdb);refine W.callWith_K (h₀:=X.base) I.ok.mod.kin hk (ud (ha pos pins s σ H _ I h) fun us s1 ⟨vs,H1,I1,r,q⟩=>⟨I1.kIn,?_⟩) he hpl;exact nE F hr hb hd hx I1 r q
end
section
variable{X:Cx}{CX:vW}{k:Nat}{f C:Addr}{fd:yj}{ps ks:List Str}{sp:Sp}{E:XK}{x m:Str}{p pos apos kpos:Pos}{e o:Expr}{es:List Expr}{kws:List Bg}{te ta:TE}{t tk:TA}{nm:Option Str}
variable{g:List v9->List v9->List v9}{gV:List V->List V->List V}
end
structure FnScope (N P:List Str) (sc:Scope):Prop where
 kind:sc.kind = .function
 co:sc.isCoroutine=false
 gen:sc.isGenerator=false
 nd:N.Nodup
 pre:N.take P.length=P
 par:∀x∈P,sc.names.lookup x=some .local\/sc.names.lookup x=some .cell
 nofree:∀y∈sc.names,y.2 ≠ .free
theorem eZ{kindOf:Str->Option ze}{x:Str}:∀{binds:List (Str×v9)}{m:Str->Option v9},(∀v,(x,v)∉binds)->bindL kindOf binds m x=m x
 | [],_,_=>rfl
 | (n,v)::r,m,h=>by
   unfold bindL;rw[eZ fun w hw=>h w (wf _ hw)];split
   · have:x≠n:=by rintro rfl;exact h v wg
     simp[this]
   · rfl
theorem e6{kindOf:Str->Option ze}{x:Str}:∀{binds:List (Str×v9)}{m:Str->Option v9},(∀v,(x,v)∉binds)->bindC kindOf binds m x=m x
 | [],_,_=>rfl
 | (n,v)::r,m,h=>by
   unfold bindC;rw[e6 fun w hw=>h w (wf _ hw)];split
   · rfl
   · have:x≠n:=by rintro rfl;exact h v wg
     simp[this]
theorem e5{kindOf:Str->Option ze}{x:Str}{v:v9}:∀{P:List Str}{vs:List v9}{i:Nat}{m:Str->Option v9},P.Nodup->P[i]?=some x->vs[i]?=some v->kindOf x=some .local ->
 bindL kindOf (P.zip vs) m x=some v
 | [],_,_,_,_,h,_,_=>by simp at h
 | _::_,[],_,_,_,_,h,_=>by simp at h
 | p::P,w::vs,0,m,nd,h1,h2,hk=>by
   simp at h1 h2;subst h1;subst h2;show bindL kindOf ((p,w)::P.zip vs) m p=_;unfold bindL;rw[eZ fun v hv=>(yB.mp nd).1 (AA hv).1,if_pos hk]
   simp
 | p::P,w::vs,i+1,m,nd,h1,h2,hk=>by
   show bindL kindOf ((p,w)::P.zip vs) m x=_;unfold bindL;exact e5 (i:=i) (yB.mp nd).2 (by simpa using h1) (by simpa using h2) hk
theorem e7{kindOf:Str->Option ze}{x:Str}{v:v9}:∀{P:List Str}{vs:List v9}{i:Nat}{m:Str->Option v9},P.Nodup->P[i]?=some x->vs[i]?=some v->kindOf x≠some .local ->
 bindC kindOf (P.zip vs) m x=some v
 | [],_,_,_,_,h,_,_=>by simp at h
 | _::_,[],_,_,_,_,h,_=>by simp at h
 | p::P,w::vs,0,m,nd,h1,h2,hk=>by
   simp at h1 h2;subst h1;subst h2;show bindC kindOf ((p,w)::P.zip vs) m p=_;unfold bindC;rw[e6 fun v hv=>(yB.mp nd).1 (AA hv).1,if_neg hk]
   simp
 | p::P,w::vs,i+1,m,nd,h1,h2,hk=>by
   show bindC kindOf ((p,w)::P.zip vs) m x=_;unfold bindC;exact e7 (i:=i) (yB.mp nd).2 (by simpa using h1) (by simpa using h2) hk
noncomputable def start(N:List Str)(vs:List V):St:=vs.map some++x8 (N.length-vs.length) none
noncomputable def jw(CX:vW)(P:wD)(w:wR)(K:W.Frag)(mg:Str->Option v9)(base:Heap)(N:List Str)(qual:Str)(scope:Scope)(f:Addr)(cd:v9)(A:wS)(outer:List Env)(s:v_)(H:Hp)(E:XK):Cx where
 prog:=P
 w:=w
 K:=K
 mg:=mg
 base:=base
 A:=A.deeper (At qual scope s.heap.objs.size f cd)
 N:=N
 s₀:=s
 H₀:=H
 env:=At qual scope s.heap.objs.size f cd
 outer:=outer
 stack:=At qual scope s.heap.objs.size f cd::outer
 ex:=[]
 calm:=true
 fn:=fun _=>true
 pn:=[]
 xe:=fun e s'=>wM (wZ P w) (A.deeper (At qual scope s.heap.objs.size f cd)) (leaving (At qual scope s.heap.objs.size f cd) e) (fun _ s''=>CX outer H s E e s'') (fun e' s''=>CX outer H s E e' s'') s'
theorem gr{sc:Scope}(h:sc.names.lookup x=some .cell):∃c,(xH n sc.names []).lookup x=some c:=by
 have q:=W.cellsFrom_some sc.names n [] (.inl h);exact yd.mp q
theorem i5{CX:vW}{P:wD}{w:wR}{K:W.Frag}{mg:Str->Option v9}{base:Heap}{cd:v9}{A:wS}{outer:List Env}{s s1:v_}{H:Hp}{E:XK}{us:List v9}{vs:List V}
 (S:FnScope N ps scope)(hd:A.handled=none)(e0:Env0 P w K mg base A outer s H)(hl:vs.length=ps.length)(r:bm vs us)
 (x:InCallC s s.heap.objs.size (bindL (At qual scope s.heap.objs.size f cd).kindOf (ps.zip us) fun _=>none) (xH (s.heap.objs.size+1) scope.names []) (bindC (At qual scope s.heap.objs.size f cd).kindOf (ps.zip us) fun _=>none) s1) :
 Inv (jw CX P w K mg base N qual scope f cd A outer s H E) [] (start N vs) H s1:=by
 have hpl:ps.length<=N.length:=by have:=congrArg BF S.pre;rw[x4]at this;omega
 obtain⟨h1,tk,rfl,hk⟩:=x.done;have noA:∀b:Addr,b∉(jw CX P w K mg base N qual scope f cd A outer s H E).ex:=fun b z=>absurd (show b∈([]:List Addr)from z) (by simp)
 refine⟨⟨e0.mod,S.kind,rfl,rfl,we _,fun y z c h1 h2=>?_,fun y hy=>?_,fun y c _ h=>?_,fun _=>hd,wS.frames_deeper e0.frames,.inr ⟨rfl,rfl⟩,fun b z=>absurd z (noA b),e0.bs,e0.bsz,fun b _ _=>noA b,fun b z=>absurd z (noA b),e0.funs,e0.frf⟩,
  rfl,e0.bare,Un.kept hk,⟨_,x.toInCall.ns,fun i y v h1 h2 h3=>?_⟩,fun y c h=>⟨_,x.cell y c h⟩,e0.hok.fresh (we _),fun y c h=>?_,fun p hp=>absurd (show p∈([]:List (Addr×Obj))from hp) (by simp),e0.hok.kept hk,?_⟩
 · exact name_of_addr x.apart (xb h1) (xb h2)
 · have hy:scope.names.lookup y=some .cell\/scope.names.lookup y=some .free:=hy;rcases hy with hy|hy
   · exact gr hy
   · exact absurd rfl (S.nofree _ (xb hy))
 · exact Bk (x.above y c (xb h))
 · have hi:i<vs.length:=by
     unfold start at h2;by_cases hi:i<vs.length
     · exact hi
     · rw[zY (by simpa using hi)]at h2;rw[Ao]at h2;split at h2<;>cases h2
   have ha:vs[i]?=some v:=by
    unfold start at h2;rw[yQ (by simpa using hi),xf]at h2
    cases e:vs[i]? with
    | none=>rw[e]at h2;cases h2
    | some a=>rw[e]at h2;cases h2;rfl
   obtain⟨u,hu,rv⟩:=r.get ha
   have hp:ps[i]?=some y:=by
    rw[<- S.pre,List.getElem?_take_of_lt (by omega)];exact h1
   have ndP:ps.Nodup:=by rw[<- S.pre];exact S.nd.sublist (List.take_sublist _ _)
   refine⟨u,rv,?_⟩;rcases S.par y (yb hp)with k|k
   · exact .inl ⟨k,e5 ndP hp hu k⟩
   · obtain⟨c,e⟩:=gr (n:=s.heap.objs.size+1) k;refine .inr ⟨.inl k,c,e,?_⟩;have q:=x.cell y c e;rw[e7 ndP hp hu (by show scope.names.lookup y≠_;rw[k];decide)]at q;exact q
 · exact e0.hok.fresh (Bk (x.above y c (xb h)))
 · unfold start;show _=N.length;rw[wQ,wp,List.length_replicate];omega
theorem qy{CX:vW}{P:wD}{w:wR}{K:W.Frag}{mg:Str->Option v9}{base:Heap}{name:Str}{params:Arguments}{body:List Stmt}{dV kV doc pm cdv ct oc:v9}{an od:Option Addr}
 {osl:Array (Option v9)}{sp:Sp}(lk:K.lookup f=some ⟨oc,od,.func (W.fnOf name qual params body scope dV kV doc pm an cdv ct),osl⟩)(hcd:W.codeIn K cdv qual=true)(S:FnScope N ps scope)
 (len:∀vs H Q E,sp vs H Q E->vs.length=ps.length)
 (hbody:∀(A:wS)(outer:List Env)(s:v_)(H:Hp)(vs:List V)(Q:VK)(E:XK),Room k (A.deeper (At qual scope s.heap.objs.size f cdv))->sp vs H Q E ->
  ∃t,vA (jw CX P w K mg base N qual scope f cdv A outer s H E) body t/\t {nx:=fun _ H'=>Q .non H',rt:=Q} (start N vs) H) :
 FnOk P w K mg base CX (k+1) f (W.fnOf name qual params body scope dV kV doc pm an cdv ct) ps sp:=by
 refine⟨len,fun A outer s H args us vs Q E hr e0 hb r hsp=>?_⟩;have hl:=len _ _ _ _ hsp;have KX:K.In s.heap:=e0.mod.kin.keeps fun b o e=>(e0.bs b o e).1;have lim:s.heap.NoLimit:=e0.mod.nolimit.keeps fun b o e=>(e0.bs b o e).1
 have hkind:∀y∈ps.zip us,scope.names.lookup y.1=some .local\/(scope.names.lookup y.1=some .cell/\((xH (s.heap.objs.size+1) scope.names []).lookup y.1).isSome=true):=fun⟨n,v⟩ hy=>by
  rcases S.par n (AA hy).1 with q|q
  · exact .inl q
  · exact .inr ⟨q,W.cellsFrom_some _ _ _ (.inl q)⟩
 refine codeAny_call_function hr.depth (KX _ _ lk) rfl S.co S.gen rfl (W.codeRec_of KX hcd) (hb _ _ _ _ ?_);refine wpAny_newFunctionEnv_cells S.kind hkind fun env he s1 x=>?_;subst he;refine⟨lim.keeps x.toInCall.keep,codeAny_func ?_⟩;obtain⟨t,ht,hq⟩:=hbody A outer s H vs Q E (hr.deeper _) hsp;have I:Inv (jw CX P w K mg base N qual scope f cdv A outer s H E) [] (start N vs) H s1:=i5 S hr.hd e0 hl r x;refine y_ (ht [] s1 (start N vs) H _ I hq) (fun fl s' hs=>?_) fun e s' hs=>hs
 have fin:∀{σ':St}{H':Hp}{v:V}{u:v9},Inv (jw CX P w K mg base N qual scope f cdv A outer s H E) [] σ' H' s'->RelV v u->Q v H'->CE outer P w H s Q u s' :=
  fun{σ' H' v u} J rv q=>⟨v,H',J.os,J.bare,J.base,J.hok,rv,q⟩
 cases fl with
 | ret u =>
   obtain⟨v,σ',H',J,rv,q⟩:=hs
   exact fin J rv q
 | next =>
   obtain⟨σ',H',J,q⟩:=hs
   exact fin (v:=V.non) (u:=yK) J rfl q
 | brk =>
   obtain⟨_,_,_,q⟩:=hs
   exact xJ q
 | cont =>
   obtain⟨_,_,_,q⟩:=hs;exact xJ q
section
variable{X:Cx}{x:Str}{p pos:Pos}{e:Expr}{es:List Expr}{t:TA}{id T:String}{r:List V->Hp->VK->Prop}
noncomputable def uj(r:List V->Hp->VK->Prop)(t:TA):TE:=fun σ H Q=>t σ H fun vs H1=>r vs H1 Q
theorem bC(hc:cb X (.builtin id) r)(hg:Gl X x)(hm:X.mg x=none)(hv:y9 x=some (.builtin id))(ha:PA X (e::es) t)(hn:autoParam (x ≠ "__name__") æb._auto_1)(hdb:autoParam ((x==("__debug__" : Str))=false) æb._auto_1)
 (he:autoParam (wm (e::es) X.env=(false,eval e X.env)::wm es X.env) æa._auto_1)(hpl:autoParam ((yr pos (wm es X.env)).any (·.1)=false) æa._auto_1):PE X (.Call (.Name x p) (e::es) [] pos) (uj r t):=by
 intro pins s σ H Q I h;refine z7 (gh I hg hm hv ?_ hn hdb);exact PyProof.Rows.callWith_builtin1 (ud (ha pos pins s σ H _ I h) fun us s1 ⟨vs,H1,I1,r1,q1⟩=>hc pins s1 σ H1 vs us Q I1 r1 q1) he hpl
theorem cX(hc:cb X (.type T) r)(hg:Gl X x)(hm:X.mg x=none)(hv:y9 x=some (.type T))(ha:PA X (e::es) t)(hn:autoParam (x ≠ "__name__") æb._auto_1)(hdb:autoParam ((x==("__debug__" : Str))=false) æb._auto_1)
 (he:autoParam (wm (e::es) X.env=(false,eval e X.env)::wm es X.env) æa._auto_1)(hpl:autoParam ((yr pos (wm es X.env)).any (·.1)=false) æa._auto_1):PE X (.Call (.Name x p) (e::es) [] pos) (uj r t):=by
 intro pins s σ H Q I h;refine z7 (gh I hg hm hv ?_ hn hdb);exact yz (ud (ha pos pins s σ H _ I h) fun us s1 ⟨vs,H1,I1,r1,q1⟩=>hc pins s1 σ H1 vs us Q I1 r1 q1) he hpl
end
end L2
variable{H H' F F' F₀ H₀:L2.Hp}{v:L2.V}{σ:L2.St}{vs:List L2.V}
namespace HT
open PySem PyProof.Rows
section
open PySem.SeqAt
open PySem.AutoSeq1 (wpAny_loadPart')
open PySem.MeetsSeq PySem.MeetsSeq2 PySem.MeetsSeq3
end
section
variable{prog:wD}{w:wR}{A:wS}{E:v9->v_->Prop}{s:v_}
noncomputable def sIx(n d:Nat):Option Int->Nat
 | none=>d
 | some v=>if v<0 then(v+(n:Int)).toNat else min v.toNat n
theorem sIx_none(n d:Nat):sIx n d none=d:=rfl
theorem sIx_nat(n d k:Nat):sIx n d (some (k:Int))=min k n:=by
 show(if(k:Int)<0 then((k:Int)+(n:Int)).toNat else min (k:Int).toNat n)=min k n;rw[if_neg (by omega),xp]
theorem slicePart_{v:v9}{o:Option Int}{Q:Option Int->v_->Prop}(p:IsPart v o)(h:Q o s):wM (wZ prog w) A (Builtin.Slice.slicePartIndex v) Q E s:=by
 cases p with
 | none=>exact slicePart_none h
 | int i t=>exact slicePart_int h
end
end HT
namespace L2
abbrev TO:=St->Hp->(Option Int->Hp->Prop)->Prop
noncomputable def PO(X:Cx)(e:Option Expr)(t:TO):Prop :=
 ∀ (pins:List (Addr×Obj))(s:v_)(σ:St)(H:Hp)(Q:Option Int->Hp->Prop),Inv X pins σ H s->t σ H Q ->
   wM (wZ X.prog X.w) X.A (evalPart e X.env) (fun u s'=>∃o H',Inv X pins σ H' s'/\IsPart u o/\Q o H') X.xe s
noncomputable def lq:TO:=fun _ H Q=>Q none H
noncomputable def pW(t:TE):TO:=fun σ H Q=>t σ H fun x H1=>∃i,x = .int i/\Q (some i) H1
theorem intsAre_of:∀{us:List v9},bm (ns.map V.int) us->yY us ns:=by
 induction ns with
 | nil=>intro us r;rw[zu]at r;cases r;exact .nil
 | cons n ns ih =>
   intro us r;rw[xw]at r
   cases r with
   | cons r1 r2 =>
     obtain⟨t,e⟩:=r1;subst e;exact .cons n t (ih r2)
section
variable{X:Cx}{e:Expr}{te:TE}{lo hi:Option Expr}{tl th:TO}{pos p2:Pos}
theorem lL:PO X none lq:=by
 intro pins s σ H Q I h;rw[Bb];exact wb ⟨none,H,I,.none,h⟩
theorem iC(h:PE X e te):PO X (some e) (pW te):=by
 intro pins s σ H Q I hw;rw[evalPart_some];refine ud (h pins s σ H _ I hw) fun u s1 ⟨x,H1,I1,r1,q1⟩=>?_;obtain⟨i,rfl,q⟩:=q1;obtain⟨t,rfl⟩:=r1;exact⟨some i,H1,I1,.int i t,q⟩
noncomputable def vq(X:Cx)(r:V->Option Int->Option Int->Hp->VK->Prop):Prop :=
 ∀ (pins:List (Addr×Obj))(s:v_)(σ:St)(H:Hp)(x:V)(v vl vu:v9)(lo hi:Option Int)(sl:Addr)(Q:VK),Inv X pins σ H s->RelV x v->s.heap.IsSliceOf sl vl vu .none->IsPart vl lo->IsPart vu hi->r x lo hi H Q ->
   ∃T id,typeLookup (.type T) "__getitem__" = pure (some (.builtin id))/\s.TypeIs v T/\wM (wZ X.prog X.w) X.A (BS v (.ref sl)) (EP X pins σ Q) X.xe s
noncomputable def uf(r:V->Option Int->Option Int->Hp->VK->Prop)(te:TE)(tl th:TO):TE:=fun σ H Q=>te σ H fun x H1=>tl σ H1 fun l H2=>th σ H2 fun u H3=>r x l u H3 Q
theorem jP{r:V->Option Int->Option Int->Hp->VK->Prop}(hr:vq X r)(he:PE X e te)(hl:PO X lo tl)(hu:PO X hi th):PE X (.Subscript e (.Slice lo hi none p2) pos) (uf r te tl th):=by
 intro pins s σ H Q I h;refine Subscript_ (ud (he pins s σ H _ I h) fun v s1 ⟨x,H1,I1,r1,q1⟩=>?_);refine wpAny_Slice (ud (hl pins s1 σ H1 _ I1 q1) fun vl s2 ⟨l,H2,I2,pl,q2⟩=>ud (hu pins s2 σ H2 _ I2 q2) fun vu s3 ⟨u,H3,I3,pu,q3⟩=>?_);rw[Bb];refine wb ?_;have I4:Inv X pins σ H3 {s3 with heap:=s3.heap.push {cls:=.type "slice", data:=.fields #[vl,vu,.none]}}:=I3.kept (t':=s3.toks) fun b ob q=>wc _ q;obtain⟨T,id,hT,ht,hg⟩:=hr pins {s3 with heap:=s3.heap.push {cls:=.type "slice", data:=.fields #[vl,vu,.none]}} σ H3 x v vl vu l u s3.heap.objs.size Q I4 r1 (Heap.IsSliceOf.new ..) pl pu q3;show wM (wZ X.prog X.w) X.A (subscriptTail e (.Slice lo hi none p2) v (.ref s3.heap.objs.size)) (EP X pins σ Q) X.xe {s3 with heap:=s3.heap.push {cls:=.type "slice", data:=.fields #[vl,vu,.none]}};exact tail_any (ops:=[.ref s3.heap.objs.size,v]) ht hT hg (by with_unfolding_all rfl)
noncomputable def mB(xs:List V)(lo hi:Option Int):List V:=(xs.drop (HT.sIx xs.length 0 lo)).take (HT.sIx xs.length xs.length hi-HT.sIx xs.length 0 lo)
theorem fH(xs:List V)(lo hi:Option Int):(mB xs lo hi).length<=xs.length:=by
 unfold mB;rw[x4,List.length_drop];omega
end
noncomputable def ixN(n:Nat)(i:Int):Option Nat:=if 0<=i then(if i<n then some i.toNat else none)else if -(n:Int)<=i then some (i+n).toNat else none
noncomputable def atI{α:Type}(xs:List α)(i:Int):Option α:=(ixN xs.length i).bind fun j=>xs[j]?
theorem i4{i:Int}(h:ixN n i=some j):seqIndex? i n=some j/\j<n /\ -(n:Int)<=i/\i<n:=by
 unfold ixN at h;by_cases h0:0<=i
 · rw[if_pos h0]at h;by_cases h1:i<n
   · rw[if_pos h1]at h;have e:i.toNat=j:=wL h;exact⟨by rw[A4 h0 h1,e],by omega,by omega,h1⟩
   · rw[if_neg h1]at h;cases h
 · rw[if_neg h0]at h;by_cases h1 : -(n:Int)<=i
   · rw[if_pos h1]at h;have e:(i+n).toNat=j:=wL h;exact⟨by rw[Bm (by omega) h1,e],by omega,h1,by omega⟩
   · rw[if_neg h1]at h;cases h
theorem fN{xs:List α}{i:Int}{v:α}(h:atI xs i=some v):∃j,seqIndex? i xs.length=some j/\xs[j]?=some v/\j<xs.length /\ -(xs.length:Int)<=i/\i<xs.length:=by
 unfold atI at h
 cases e:ixN xs.length i with
 | none=>rw[e]at h;cases h
 | some j =>
   rw[e]at h;obtain⟨h1,h2,h3,h4⟩:=i4 e;exact⟨j,h1,h,h2,h3,h4⟩
theorem cu{xs:List α}{v:α}(h:xs[j]?=some v):atI xs (j:Int)=some v:=by
 have hj:j<xs.length:=(wo.mp h).1
 have e:ixN xs.length (j:Int)=some j:=by
  unfold ixN;rw[if_pos (by omega),if_pos (by omega)];simp
 unfold atI;rw[e];exact h
theorem kw(xs:List α)(v:α):atI (xs++[v]) (-1)=some v:=by
 have hl:(xs++[v]).length=xs.length+1:=by simp
 have e:ixN (xs++[v]).length (-1)=some xs.length:=by
  unfold ixN;rw[hl,if_neg (by decide),if_pos (by omega)];congr 1;omega
 unfold atI;rw[e];show(xs++[v])[xs.length]?=some v;simp
noncomputable def js(b:Expr):Prop:=∀o i,subscripted b false o i=operate [o,i] (BS o i)
noncomputable def vP(X:Cx)(r:R2):Prop :=
 ∀ (value slice:Expr)(pins:List (Addr×Obj))(s:v_)(σ:St)(H:Hp)(x y:V)(v u:v9)(Q:VK),Inv X pins σ H s->RelV x v->RelV y u->r x y H Q ->
   subscripted slice false v u=operate [v,u] (BS v u)->wM (wZ X.prog X.w) X.A (subscriptTail value slice v u) (EP X pins σ Q) X.xe s
noncomputable def vK(X:Cx)(id:String)(r:V->List V->Hp->VK->Prop):Prop :=
 ∀ (pins:List (Addr×Obj))(s:v_)(σ:St)(H:Hp)(x:V)(xs:List V)(v:v9)(us:List v9)(Q:VK),Inv X pins σ H s->RelV x v->bm xs us->r x xs H Q ->
   wM (wZ X.prog X.w) X.A (call (.builtin id) (v::us)) (EP X pins σ Q) X.xe s
section
variable{X:Cx}{a b:Expr}{ta tb:TE}{pos:Pos}
theorem vP.or{r r':R2}(h:vP X r)(h':vP X r'):vP X (fun x y H Q=>r x y H Q\/r' x y H Q):=by
 intro value slice pins s σ H x y v u Q I rx ry q hs;rcases q with q|q
 · exact h value slice pins s σ H x y v u Q I rx ry q hs
 · exact h' value slice pins s σ H x y v u Q I rx ry q hs
theorem bv{r:R2}(hr:vP X r)(ha:PE X a ta)(hb:PE X b tb)(hs:js b):PE X (.Subscript a b pos) (uh r ta tb):=by
 intro pins s σ H Q I h;exact Subscript_ (qz ha hb I h fun v u s2 x y H2 I2 rx ry q=>hr a b pins s2 σ H2 x y v u Q I2 rx ry q (hs _ _))
noncomputable def rX(K:W.Frag):R2:=fun x y H Q=>∃p xs i v,x = .ref p/\y = .int i/\vp K H p xs/\atI xs i=some v/\Q v H
noncomputable def rV(K:W.Frag):R2:=fun x y H Q=>∃p xs i v,x = .ref p/\y = .int i/\vj K H p xs/\atI xs i=some v/\Q v H
noncomputable def rW:R2:=fun x y H Q=>∃z i c,x = .str z/\y = .int i/\z.length<=sizeLine/\atI z.cps.toList i=some c/\Q (.str ⟨#[c]⟩) H
theorem qg:vP X (rX X.K):=by
 intro value slice pins s σ H x y v u Q I rx ry h hs;obtain⟨p,xs,i,z,rfl,rfl,hq,he,q⟩:=h;cases rx;obtain⟨t,rfl⟩:=ry;obtain⟨its,r,pl,hz⟩:=I.list hq;obtain⟨j,h1,h2,h3,h4,h5⟩:=fN he;obtain⟨w,ew,rw'⟩:=r.get h2;have hl:=r.length;have hn:=eT;have fin:EP X pins σ Q w s:=⟨z,H,I,rw',q⟩;by_cases h0:0<=i
 · have hj:i.toNat=j:=by
     rw[A4 h0 h5]at h1;exact wL h1
   exact item_listR pl.isList h0 (by omega) (by rw[hj];simpa using ew) fin hs
 · have hj:(i+(its.toArray.size:Int)).toNat=j:=by
     rw[Bm (by omega) h4]at h1;rw[wk,<- hl];exact wL h1
   exact Aw (x:=w) pl.isList.typeIs slot_list_getitem.lookup
    (wpAny_getItem_list_neg (Q:=fun r s'=>r=w/\EP X pins σ Q r s') pl.isList (by omega) (by rw[wk]<;>omega) (by omega) (by rw[hj];simpa using ew) ⟨rfl,fin⟩) hs
theorem r8:vP X (rV X.K):=by
 intro value slice pins s σ H x y v u Q I rx ry h hs;obtain⟨p,xs,i,z,rfl,rfl,hq,he,q⟩:=h;cases rx;obtain⟨t,rfl⟩:=ry;obtain⟨its,r,pl,hz⟩:=I.tuple hq;obtain⟨j,h1,h2,h3,h4,h5⟩:=fN he;obtain⟨w,ew,rw'⟩:=r.get h2;have hl:=r.length;have hn:=eT;have fin:EP X pins σ Q w s:=⟨z,H,I,rw',q⟩
 exact Aw (x:=w) pl.typeIs slot_tuple_getitem.lookup
  (getItem_tuple (j:=j) (Q:=fun r s'=>r=w/\EP X pins σ Q r s') pl (by omega) (by omega) (by rw[wk,<- hl];exact h1) (by simpa using ew) ⟨rfl,fin⟩) hs
theorem oB:vP X rW:=by
 intro value slice pins s σ H x y v u Q I rx ry h hs;obtain⟨z,i,c,rfl,rfl,hz,he,q⟩:=h;obtain⟨t,rfl⟩:=rx;obtain⟨t',rfl⟩:=ry;obtain⟨j,h1,h2,h3,h4,h5⟩:=fN he;have hl:z.cps.toList.length=z.length:=by simp[Str.length]
 rw[hl]at h1 h4 h5;have hn:=eT
 exact tail_any (typeIs_str s z t) slot_str_getitem.lookup (getItem_str (c:=c) (by
  have e1:decide (i < -(2^63:Int))=false:=decide_eq_false (by omega);have e2:decide (i ≥ 2^63)=false:=decide_eq_false (by omega)
  rw[e1,e2,Bool.or_false]) (by rw[h1];simpa using h2) ⟨.str ⟨#[c]⟩,H,I.tok _,⟨_,rfl⟩,q⟩) hs
noncomputable def ux(K:W.Frag):R2:=fun x y H Q=>rX K x y H Q\/rV K x y H Q\/rW x y H Q
theorem aM:vP X (ux X.K):=qg.or (r8.or oB)
theorem gM(its:List v9)(n j:Nat)(u:v9):Ah (·.setIfInBounds j u) {cls:=.type "list", data:=.seq its.toArray n}={cls:=.type "list", data:=.seq (its.set j u).toArray n}:=by
 simp[Ah]
theorem Inv.lst{pins:List (Addr×Obj)}{σ:St}{H:Hp}{s:v_}{p:Addr}{xs:List V}(I:Inv X pins σ H s)(h:H p=some (.lst xs)) :
 ∃(its:List v9)(n:Nat),bm xs its/\s.heap.get? p=some {cls:=.type "list", data:=.seq its.toArray n}/\xs.length<=sizeLine:=by
 obtain⟨z,its,n,r,e⟩:=I.hok p _ h;exact⟨its,n,r,e,z⟩
theorem Inv.lstUpd{s:v_}{p:Addr}{xs ys:List V}{its its':List v9}{n':Nat}{f:Obj->Obj}(I:Inv X pins σ H s)(h:H p=some (.lst xs))
 (ho:s.heap.get? p=some {cls:=.type "list", data:=.seq its.toArray n})(hf:f {cls:=.type "list", data:=.seq its.toArray n}={cls:=.type "list", data:=.seq its'.toArray n' })(r:bm ys its')(hz:ys.length<=sizeLine)(t:Nat) :
 Inv X pins σ (upd H p (.lst ys)) {s with heap:=s.heap.update p f,toks:=t}:=by
 have e:(s.heap.update p f).get? p=some {cls:=.type "list", data:=.seq its'.toArray n' }:=by
  rw[xQ f ho (by rw[hf]<;>rfl),hf]
 refine I.write (x:=p) (e:=p) (by rw[h];trivial) (.inl rfl) (fun b u hb q=>(yp _ _ (A3 hb)).trans q) ⟨_,e⟩ ?_;exact⟨hz,its',n',r,e⟩
noncomputable def nJ:V->V->V->Hp->(Hp->Prop)->Prop:=fun o i v H Q=>∃p xs k j,o = .ref p/\i = .int k/\H p=some (.lst xs)/\ixN xs.length k=some j/\Q (upd H p (.lst (xs.set j v)))
theorem cN:sC X nJ:=by
 intro pins s σ H o i v ov iv u Q I ro ri rv h;obtain⟨p,xs,k,j,rfl,rfl,hp,hj,q⟩:=h;cases ro;obtain⟨t,rfl⟩:=ri;obtain⟨its,n,r,ho,hz⟩:=I.lst hp;obtain⟨h1,h2,h3,h4⟩:=i4 hj;have hl:=r.length;have hn:=eT
 have I':Inv X pins σ (upd H p (.lst (xs.set j v))) {s with heap:=s.heap.update p (Ah (·.setIfInBounds j u))} :=
  I.lstUpd hp ho (gM its n j u) (r.set rv j) (by rw[List.length_set];exact hz) s.toks
 by_cases h0:0<=k
 · have hk:k.toNat=j:=by
     rw[A4 h0 h4]at h1;exact wL h1
   exact W.ki_setAt ho h0 (by omega) (by rw[wk,<- hl];exact h4) (by rw[hk];exact⟨_,I',q⟩)
 · have hk:(k+(its.toArray.size:Int)).toNat=j:=by
     rw[Bm (by omega) h3]at h1;rw[wk,<- hl];exact wL h1
   exact W.ki_setBack ho (by omega) (by rw[wk,<- hl];exact h3) (by omega) (by rw[hk];exact⟨_,I',q⟩)
theorem eC(lo hi:Option Int)(n:Nat):(zk lo hi none n).1=((HT.sIx n 0 lo:Nat):Int)/\(zk lo hi none n).2.1=((HT.sIx n n hi:Nat):Int)/\(zk lo hi none n).2.2=1:=by
 refine⟨?_,?_,rfl⟩
 · cases lo with
   | none=>simp[zk,HT.sIx]
   | some i =>
     simp only[zk,HT.sIx,Option.getD_none,show(1:Int)>0 by decide,if_true];by_cases h:i<0
     · simp only[h,if_true]<;>omega
     · simp only[h,if_false]<;>omega
 · cases hi with
   | none=>simp[zk,HT.sIx]
   | some i =>
     simp only[zk,HT.sIx,Option.getD_none,show(1:Int)>0 by decide,if_true];by_cases h:i<0
     · simp only[h,if_true]<;>omega
     · simp only[h,if_false]<;>omega
theorem dH(its:List v9)(lo hi:Option Int):slicePick its.toArray lo hi none=((its.drop (HT.sIx its.length 0 lo)).take (HT.sIx its.length its.length hi-HT.sIx its.length 0 lo)).toArray:=by
 obtain⟨h1,h2,h3⟩:=eC lo hi its.toArray.size;unfold slicePick;rw[h1,h2,h3];simp only[sliceRange_one,pick_run,wk]<;>rfl
noncomputable def sU(K:W.Frag):V->Option Int->Option Int->Hp->VK->Prop:=fun x lo hi H Q=>∃a xs,x = .ref a/\vp K H a xs/\∀p,H p=none->Q (.ref p) (upd H p (.lst (mB xs lo hi)))
theorem lu:vq X (sU X.K):=by
 intro pins s σ H x v vl vu lo hi sl Q I rx hs pl pu h;obtain⟨a,xs,rfl,hx,q⟩:=h;cases rx;obtain⟨its,r,ht,hz⟩:=I.list hx;have hlen:=r.length;refine⟨"list", _,slot_list_getitem.lookup,ht.isList.typeIs,?_⟩;refine wpAny_getItem_list_slice ht.isList hs pl pu .none (by simp) ?_ (by rw[wk]<;>omega);rw[dH,<- hlen];refine⟨.ref s.heap.objs.size,_,I.laid (t':=s.toks) (o:=.lst (mB xs lo hi)) (fun b ob q=>wc _ q) (we _) ?_,rfl,q _ (I.hok.fresh (we _))⟩;exact⟨xP (fH xs lo hi) hz,_,0,(r.drop (HT.sIx xs.length 0 lo)).take (HT.sIx xs.length xs.length hi-HT.sIx xs.length 0 lo),wu _ rfl⟩
theorem bu:cb X (.builtin "len") (fun xs H Q=>∃p ys,xs=[.ref p]/\(vp X.K H p ys\/vj X.K H p ys)/\Q (.int ys.length) H):=by
 intro pins s σ H xs us Q I r h;obtain⟨p,ys,rfl,hq,q⟩:=h;obtain⟨u,rfl,rx⟩:=vals1 r;cases rx;have hn:=eT;rcases hq with hq|hq
 · obtain⟨its,r',pl,hz⟩:=I.list hq;have hlen:=r'.length;exact Calls.call_len_list pl.isList (by simp only[wk]<;>omega) ⟨.int ys.length,H,I.tok _,⟨s.toks+1,by rw[wk,hlen]⟩,q⟩
 · obtain⟨its,r',pl,hz⟩:=I.tuple hq;have hlen:=r'.length;exact len_tuple pl (by simp only[wk]<;>omega) ⟨.int ys.length,H,I.tok _,⟨s.toks+1,by rw[wk,hlen]⟩,q⟩
theorem eY:cb X (.type "list") (fun xs H Q=>∃p ys,xs=[.ref p]/\(vp X.K H p ys\/vj X.K H p ys)/\∀l,H l=none->Q (.ref l) (upd H l (.lst ys))):=by
 intro pins s σ H xs us Q I r h;obtain⟨p,ys,rfl,hq,q⟩:=h;obtain⟨u,rfl,rx⟩:=vals1 r;cases rx
 have fin:∀(its:List v9),bm ys its->ys.length<=sizeLine->∀(h':Heap)(c':Nat),(∀b o',s.heap.get? b=some o'->h'.get? b=some o') ->
  h'.get? s.heap.objs.size=some {cls:=.type "list", dict:=none,data:=.seq its.toArray c',slots:=#[]}->EP X pins σ Q (.ref s.heap.objs.size) {s with heap:=h' }:=fun its r' hz h' c' kp e =>
  ⟨.ref s.heap.objs.size,_,I.laid (t':=s.toks) kp (we _) (show cy X.prog X.w _ h' _ (.lst ys)from⟨hz,its,c',r',e⟩),rfl,q _ (I.hok.fresh (we _))⟩
 rcases hq with hq|hq
 · obtain⟨its,r',pl,hz⟩:=I.list hq;have hlen:=r'.length;obtain⟨o,ho,hc,n,hd⟩:=pl.isList;exact call_list_seq p (.inl rfl) ho hc hd (fun h' c' kp e=>fin its r' hz h' c' kp e) (by simp only[wk]<;>omega)
 · obtain⟨its,r',pl,hz⟩:=I.tuple hq;have hlen:=r'.length;obtain⟨o,ho,hc,n,hd⟩:=pl;exact call_list_seq p (.inr rfl) ho hc hd (fun h' c' kp e=>fin its r' hz h' c' kp e) (by simp only[wk]<;>omega)
theorem d3:cb X (.type "tuple") (fun xs H Q=>∃p ys,xs=[.ref p]/\((vp X.K H p ys/\∀l,H l=none->Q (.ref l) (upd H l (.tup ys)))\/(vj X.K H p ys/\Q (.ref p) H))):=by
 intro pins s σ H xs us Q I r h;obtain⟨p,ys,rfl,h⟩:=h;obtain⟨u,rfl,rx⟩:=vals1 r;cases rx;rcases h with⟨hq,q⟩|⟨hq,q⟩
 · obtain⟨its,r',pl,hz⟩:=I.list hq;have hlen:=r'.length;refine call_tuple_list pl.isList (fun h' kp=>?_) (by simp only[wk]<;>omega);have I1:Inv X pins σ H {s with heap:=h' }:=I.kept (t':=s.toks) kp
   have I2:Inv X pins σ (upd H h'.objs.size (.tup ys)) {s with heap:=h'.push {cls:=.type "tuple", data:=.seq its.toArray}} :=
    I1.laid (t':=s.toks) (fun b o e=>wc _ e) (we _) (show cy X.prog X.w _ _ _ (.tup ys)from⟨hz,its,r',ju.new _ _⟩)
   exact⟨.ref h'.objs.size,_,I2,rfl,q _ (I1.hok.fresh (we _))⟩
 · obtain⟨its,r',pl,hz⟩:=I.tuple hq;exact call_tuple_same pl ⟨.ref p,H,I,rfl,q⟩
noncomputable def t8(K:W.Frag)(T:String)(x:V)(H:Hp):Prop:=match x with
 | .str _=>T = "str"
 | .int _=>T = "int"
 | .ref p=>(T = "list" /\ ∃xs,vp K H p xs)\/(T = "tuple" /\ ∃xs,vj K H p xs) \/
     (T = "dict" /\ ((∃kvs,H p=some (.dK kvs))\/∃kvs,H p=some (.dT kvs)))\/(T = "set" /\ ∃S n,H p=some (.set S n))
 | _=>False
theorem nk{s:v_}{T:String}{x:V}{v:v9}(I:Inv X pins σ H s)(r:RelV x v)(ty:t8 X.K T x H) :
 s.TypeIs v T/\∀a,v = .ref a->∃ob,s.heap.get? a=some ob/\ob.dict=none:=by
 cases x with
 | str z =>
   obtain⟨t,rfl⟩:=r;cases(show T = "str" from ty)
   exact⟨typeIs_str s z t,fun _ e=>nomatch e⟩
 | int i =>
   obtain⟨t,rfl⟩:=r;cases(show T = "int" from ty)
   exact⟨typeIs_int s i t,fun _ e=>nomatch e⟩
 | ref p =>
   cases r;rcases ty with⟨rfl,xs,hq⟩|⟨rfl,xs,hq⟩|⟨rfl,hk⟩|⟨rfl,S,n,hk⟩
   · obtain⟨its,_,pl,_⟩:=I.list hq;refine⟨pl.isList.typeIs,fun a e=>?_⟩;cases e;obtain⟨o,n,e,c,hd,_⟩:=pl;exact⟨o,e,hd⟩
   · obtain⟨o,e1,e2,e3⟩:=I.tupleD hq;refine⟨⟨o,e1,e2⟩,fun a e=>?_⟩;cases e;exact⟨o,e1,e3⟩
   · have z:∃o,s.heap.get? p=some o/\o.ExactDict:=by
       rcases hk with⟨kvs,hk⟩|⟨kvs,hk⟩
       · obtain⟨_,_,_,_,o,_,_,e,ex,_⟩:=I.hok p _ hk;exact⟨o,e,ex⟩
       · obtain⟨_,_,_,_,o,_,_,e,ex,_⟩:=I.hok p _ hk;exact⟨o,e,ex⟩
     obtain⟨o,e,ex⟩:=z;refine⟨⟨o,e,ex.1⟩,fun a e2=>?_⟩;cases e2;exact⟨o,e,ex.2.1⟩
   · obtain⟨o,_,_,_,e,ex,_⟩:=I.hok p _ hk;refine⟨⟨o,e,ex.1⟩,fun a e2=>?_⟩;cases e2
     exact⟨o,e,ex.2.1⟩
 | _=>exact xJ ty
noncomputable def uk(K:W.Frag)(T:String)(r:V->List V->Hp->VK->Prop)(to:TE)(t:TA):TE:=fun σ H Q=>to σ H fun x H1=>t8 K T x H1/\t σ H1 fun xs H2=>r x xs H2 Q
variable{o e:Expr}{es:List Expr}{to:TE}{t:TA}{name:Str}{apos cpos:Pos}{T id:String}{r:V->List V->Hp->VK->Prop}
theorem p9(pa:PlainAttrs T)(slot:Slot T name id)(hty:typeOf (.builtin id)=pure (.type "method_descriptor"))(hm:vK X id r)(ho:PE X o to)(ha:PA X (e::es) t)
 (hbase:autoParam (Bc o name X.env (eval o X.env)=eval o X.env) æa._auto_1)
 (hfew:autoParam (((yr cpos (wm (e::es) X.env)).all (fun x=>!x.1)&&(backToKw cpos (BG [] X.env)).all (fun x=>x.1.isSome)
  && decide ((e::es).length+([]:List Bg).length+(if([]:List Bg).isEmpty then 0 else 1)<30))=true) æa._auto_1)
 (hline:autoParam ((apos.endLine==cpos.line)=true) æa._auto_1)(hs:autoParam (wm (e::es) X.env=(false,eval e X.env)::wm es X.env) æa._auto_1)(hplain:autoParam ((yr cpos (wm es X.env)).any (·.1)=false) æa._auto_1) :
 PE X (.Call (.Attribute o name apos) (e::es) [] cpos) (uk X.K T r to t):=by
 intro pins s σ H Q I h;refine wpAny_Call_method_late hbase hfew hline rfl (ud (ho pins s σ H _ I h) fun v s1 ⟨x,H1,I1,r1,ty,q1⟩=>?_);obtain⟨h1,h2⟩:=nk I1 r1 ty;refine⟨T,id,pa,slot,hty,h1,h2,?_⟩;have hA:=ha cpos pins s1 σ H1 _ I1 q1;rw[hs]at hA ⊢;refine Calls.callWith_builtin (by show(false||(yr cpos (wm es X.env)).any (·.1))=false;rw[hplain]<;>rfl) (Calls.evalArgs_plain ?_);exact ud hA fun us s2 ⟨vs,H2,I2,r2,q2⟩=>hm pins s2 σ H2 x vs v us Q I2 r1 r2 q2
end
noncomputable def vL(X:Cx)(id:String)(r:V->List V->Hp->VK->Prop):Prop :=
 ∀ (pins:List (Addr×Obj))(s:v_)(σ:St)(H:Hp)(x:V)(xs:List V)(v:v9)(us:List v9)(Q:VK),Inv X pins σ H s->RelV x v->bm xs us->r x xs H Q ->
   wM (wZ X.prog X.w) X.A (call (.builtin id) (v::us)) (EP X pins σ Q) X.xe s
theorem bm.one:∀{x:V}{us:List v9},bm [x] us->∃u,us=[u]/\RelV x u
 | _,_,.cons r .nil=>⟨_,rfl,r⟩
theorem bm.reverse{xs:List V}{us:List v9}(h:bm xs us):bm xs.reverse us.reverse:=by
 induction h with
 | nil=>exact .nil
 | cons r t ih=>rw[yL,yL];exact bm.append ih (.cons r .nil)
section
variable{X:Cx}{pins:List (Addr×Obj)}{σ:St}{H:Hp}{s:v_}{l b:Addr}{xs ys zs:List V}
theorem Inv.lset{its its':List v9}{f:Array v9->Array v9}{t':Nat}(I:Inv X pins σ H s)(hH:H l=some (.lst xs))
 (e:s.heap.get? l=some {cls:=.type "list", data:=.seq its.toArray n})(hf:f its.toArray=its'.toArray)(hv:bm ys its')(hz:ys.length<=sizeLine) :
 Inv X pins σ (upd H l (.lst ys)) {s with heap:=s.heap.update l (Ah f),toks:=t' }:=by
 have q:=PySem.IsL.update e f;rw[hf]at q;refine I.write (x:=l) (e:=l) (by rw[hH];exact trivial) (.inl rfl) (fun b' u hb hu=>(yp s.heap (Ah f) (A3 hb)).trans hu) ⟨_,q⟩ ?_;exact⟨hz,its',_,hv,q⟩
theorem Inv.lnew{its:List v9}{t':Nat}(I:Inv X pins σ H s)(hv:bm ys its)(hz:ys.length<=sizeLine) :
 Inv X pins σ (upd H s.heap.objs.size (.lst ys)) {s with heap:=s.heap.push {cls:=.type "list", data:=.seq its.toArray},toks:=t' } :=
 I.laid (fun _ _ q=>wc _ q) (we _) ⟨hz,its,0,hv,wu _ rfl⟩
theorem Inv.fresh(I:Inv X pins σ H s):H s.heap.objs.size=none:=I.hok.fresh (we _)
theorem Inv.lstM(I:Inv X pins σ H s)(hH:H l=some (.lst xs)):xs.length<=sizeLine/\∃(its:List v9)(n:Nat),bm xs its/\xs.length=its.length/\s.heap.get? l=some {cls:=.type "list", data:=.seq its.toArray n}:=by
 obtain⟨z,its,n,r,e⟩:=I.hok l _ hH;exact⟨z,its,n,r,r.length,e⟩
end
section
variable{X:Cx}
noncomputable def iw:V->List V->Hp->VK->Prop:=fun x vs H Q=>∃l xs y,x = .ref l/\vs=[y]/\H l=some (.lst xs)/\xs.length<sizeLine/\Q .non (upd H l (.lst (xs++[y])))
theorem eQ:vL X "list.append" iw:=by
 intro pins s σ H x vs v us Q I rx rv h;obtain⟨l,xs,y,rfl,rfl,hH,hz,q⟩:=h;cases rx;obtain⟨u,rfl,ru⟩:=rv.one;obtain⟨z,its,n,r,hl,e⟩:=I.lstM hH;refine call_meets F.slot_list_append ⟨_,e,rfl⟩ F.entry_list_append (F.args_list_append_2 _ _) (PySem.list_append l its.toArray n u (by rw[wk];omega)) ⟨e,?_⟩;refine⟨.non,_,I.lset (its':=its++[u]) hH e (by simp) (r.append (.cons ru .nil)) ?_,rfl,q⟩;rw[wQ,zv];omega
noncomputable def rY:R2:=fun x y H Q=>∃l b xs zs,x = .ref l/\y = .ref b/\H l=some (.lst xs)/\H b=some (.lst zs)/\xs.length+zs.length<=sizeLine/\∀p,H p=none->Q (.ref p) (upd H p (.lst (xs++zs)))
theorem oa:vI X (z6 .Add) rY:=by
 intro pins s σ H x y v u Q I rx ry h;obtain⟨l,b,xs,zs,rfl,rfl,hH,hB,hz,q⟩:=h;cases rx;cases ry;obtain⟨z,its,n,r,hl,e⟩:=I.lstM hH;obtain⟨z2,its2,n2,r2,hl2,e2⟩:=I.lstM hB;refine PySem.P.add_list e e2 ?_ (by rw[wk,wk];omega);have ea:its.toArray++its2.toArray=(its++its2).toArray:=by simp
 rw[ea];exact⟨.ref _,_,I.lnew (t':=s.toks) (r.append r2) (by rw[wQ];omega),rfl,q _ I.fresh⟩
end
section
variable{prog:wD}{w:wR}{A:wS}{E:v9->v_->Prop}{s:v_}
end
section
variable{X:Cx}
end
section
variable{κ:Type}[DecidableEq κ]
end
section
variable{P:wD}{w:wR}{H:Hp}{h:Heap}{a:Addr}
end
section
variable{X:Cx}{pins:List (Addr×Obj)}{σ:St}{H:Hp}{s:v_}{a:Addr}{y v:V}{u r:v9}{o:Option V}{A:wS}{E:v9->v_->Prop}
end
section
variable{X:Cx}{pins:List (Addr×Obj)}{σ:St}{H:Hp}{s:v_}{a:Addr}{kvs:List (vM×V)}{k:vM}{u:v9}{A:wS}{E:v9->v_->Prop}
end
section
variable{X:Cx}{o i e value:Expr}{pos pos' tpos:Pos}{td ty tv:TE}
end
section
variable{X:Cx}{pos:Pos}
end
section
variable{X:Cx}{pins:List (Addr×Obj)}{σ:St}{H:Hp}{s:v_}{a:Addr}{y d:V}{u r:v9}{o:Option V}{A:wS}{E:v9->v_->Prop}
end
section
variable{X:Cx}{o e f:Expr}{apos cpos:Pos}{td ty tx:TE}
end
section
variable{X:Cx}{pins:List (Addr×Obj)}{σ:St}{H:Hp}{s:v_}{a:Addr}{kvs:List (vM×V)}{A:wS}{E:v9->v_->Prop}
end
section
variable{X:Cx}{pins:List (Addr×Obj)}{σ:St}{H:Hp}{s:v_}{a:Addr}{y:V}{u:v9}{A:wS}{E:v9->v_->Prop}
end
end L2
namespace Att
open PySem PySem.W PySem.Calls PyProof.Rows
theorem c0{P:BP}:∀(ns:List Int)(vs:List v9),WellAll P h vs (ns.map WData.int)->yY vs ns:=by
 intro ns
 induction ns with
 | nil =>
   intro vs w;rw[zu]at w;cases w
   exact .nil
 | cons n ns ih =>
   intro vs w;rw[xw]at w
   cases w with
   | cons a b =>
     cases a;exact .cons _ _ (ih _ b)
theorem ij{l:BR}(hn:l.most=some n){P:BP}{args:List WData}{vals:List v9}
 (hpre:l.row.toRowW.claim.pre args=true)(hwl:WellAll P h vals args) :
 ∃a vs ns,vals=[zK a]/\args=[WData.list (ns.map WData.int)]/\h.get? a=some {cls:=.type "list", data:=.seq vs.toArray}/\yY vs ns/\ns.length<=n:=by
 have hsh:WShape.hasAll [] args [.list .int]=true:=(pre_splitW hpre).1;have hc:l.pre.holds [] {args:=args}=true:=(pre_splitW hpre).2;obtain⟨d,r,rfl,h1,h2⟩:=hasAllW_cons hsh;obtain rfl:=hasAllW_nil h2;obtain⟨xs,rfl,h3⟩:=hasW_list h1;obtain⟨ns,rfl⟩:=items_int h3
 have hlen:ns.length<=n:=by
  unfold BR.pre at hc
  have h4:(WTm.not (.lt (.lit (.int (n:Int))) (.len (.arg 0)))).holds [] {args:=[.list (ns.map .int)]}=true:=by
   have h4:=(holds_andW hc).1;rw[hn]at h4;exact h4
  have h5:=condW_of h4 (w_not (w_lt w_lit (w_len_list (w_arg rfl))));rw[wp]at h5;refine Nat.le_of_not_lt fun q=>?_;have q':(n:Int)<((ns.length:Nat):Int):=by omega
  first
   | (rw[decide_eq_true q']at h5;exact absurd h5 (by decide))
   | (simp at h5;omega)
 cases hwl with
 | cons w1 w2 =>
   cases w2
   cases w1 with
   | list ho hall=>exact⟨_,_,ns,rfl,rfl,ho,c0 ns _ hall,hlen⟩
theorem iB(l:BR)(args:List WData):l.row.toRowW.claim.post args (.bool true) args=true :=
 postW_of (r:=l.row.toRowW) (X:=(true==true))
  (show WShape.has [] (.bool true) .bool=true by first|rfl|decide|simp[WShape.has,WShape.arms,WShape.armsAll])
  (show(WTm.eq .res (.lit (.bool true))).value [] {args:=args,res:=some (.bool true),after:=args}=some (.bool (true==true))from w_eq_bool (w_res rfl) w_lit) rfl
theorem attach_call{l:BR}{q:wD}{XP:(Str->Option v9)->Heap->Prop}{YP:wR->Heap->Prop}{d:DefRec}
 (hn:l.most=some n)(hdf:d.params.defaults=[])
 (call:∀(w:wR)(s₀ s₁:v_)(mg mb:Str->Option v9)(fa:Addr)(o:Obj)(pm cd doc:v9)(a:Addr)(vs:List v9)(ns:List Int),
  Ground q loose [] XP w s₀ mg mb s₁.heap->YP w s₁.heap ->
  s₁.heap.get? fa=some o->o.data = .func (docDef d.name d.params d.body d.scope pm cd doc)->s₁.heap.CodeRec cd d.name->mg d.name=some (.ref fa) ->
  s₁.heap.get? a=some {cls:=.type "list", data:=.seq vs.toArray}->yY vs ns->ns.length<=n->s₁.gens = #[] ->
  zP (wZ l.prog w) Bh (.call (.ref fa) ⟨[.ref a],[]⟩) (fun r s'=>r = .ok (.ret (.bool true))/\OldK s₁.heap s'.heap/\s'.os=s₁.os/\A2 s'.gens) s₁) :
 WalkO q loose XP YP l.row.toRowW d [] (fun f vs=>PySem.call f vs):=by
 intro w s₀ s₁ mg mb G Y fa o pm cd doc dV kV ho hd hcd hD hmg hg args vals as hpre hlay hrd hwl hlo;obtain rfl:dV = .none:=Dflts.none hD hdf;obtain rfl:kV = .none:=Dflts.noKw hD;obtain⟨a,vs,ns,rfl,rfl,hobj,hints,hlen⟩:=ij hn hpre hwl;refine enter_call (zt (call w s₀ s₁ mg mb fa o pm cd doc a vs ns G Y ho (fd_plain hd) hcd hmg hobj hints hlen hg) fun r s' hq=>?_);obtain⟨rfl,h2,h3,h4⟩:=hq;exact⟨.inl ⟨.bool true,.bool true,[],rfl,fun _=>rfl,.bool true,iB l _,fun _=>⟨Bd.nil,fun _ hm=>(nomatch hm)⟩⟩,h2,h3,h4⟩
section
variable{prog:wD}{w:wR}{A:wS}{E:v9->v_->Prop}{s:v_}{K:Frag}
end
end Att
namespace L2
theorem eg:∀{vs:List v9}{ns:List Int},yY vs ns->bm (ns.map V.int) vs
 | _,_,.nil=>.nil
 | _,_,.cons n t h=>.cons ⟨t,rfl⟩ (eg h)
noncomputable def qD(H:Hp):Prop:=∀b,H b=none\/∃o xs,H b=some (.frz o (.lst xs))
theorem jZ{P:wD}{w:wR}{K:W.Frag}{mg mb:Str->Option v9}{CX:vW}{fa:Addr}{fd:yj}{sp:Sp}{s₁:v_}{vs:List v9}
 (KX:K.In s₁.heap)(hns:s₁.heap.Ns wP mg)(hb:s₁.heap.Ns builtinsNs mb)(hbb:∀x:Str,x ≠ "__name__" -> mb x=y9 x)(hlim:s₁.heap.NoLimit)(hg:s₁.gens = #[])
 (ha:s₁.heap.get? a=some {cls:=.type "list", data:=.seq vs.toArray})(hi:yY vs ns)(hl:ns.length<=sizeLine)(hr:Room k Bh)
 (F:∀base:Heap,K.In base->base.Ns wP mg->FnOk P w K mg base CX k fa fd [x] sp)(hbind:∀(s:v_)(u:v9),BE s fd ⟨[u],[]⟩ [(x,u)])
 (hsp:∀H:Hp,qD H->vp K H a (ns.map V.int)->sp [.ref a] H (fun v _=>v = .bl true) fun _ _ _=>False)
 (hCX:∀H e s',CX [] H s₁ (fun _ _ _=>False) e s'->False) :
 zP (wZ P w) Bh (.call (.ref fa) ⟨[.ref a],[]⟩) (fun r s'=>r = .ok (.ret (.bool true))/\OldK s₁.heap s'.heap/\s'.os=s₁.os/\A2 s'.gens) s₁:=by
 have rv:=eg hi;have lenV:=hi.length
 have core:∀H:Hp,qD H->vp K H a (ns.map V.int)->vU P w H s₁.heap->(∀b,H b≠none->b=a)->(H a≠none->K.lookup a=none) ->
  zP (wZ P w) Bh (.call (.ref fa) ⟨[.ref a],[]⟩) (fun r s'=>r = .ok (.ret (.bool true))/\OldK s₁.heap s'.heap/\s'.os=s₁.os/\A2 s'.gens) s₁:=by
  intro H hO hS hok hA hK;have base_of:∀{b:Addr}{o:Obj},s₁.heap.get? b=some o->H b=none->(j8 s₁.heap H).get? b=some o:=fun e n=>j7 e n
  have noA:∀{b:Addr}{o:Obj}{es:Array DictEntry}{ep:Nat},s₁.heap.get? b=some o->o.data = .dict es ep->H b=none:=fun{b o es ep} e d=>by
   cases q:H b with
   | none=>rfl
   | some u =>
     have e':b=a:=hA b (by rw[q];simp);subst e';rw[ha]at e;cases e;have d':Data.seq vs.toArray _=Data.dict es ep:=d;cases d'
  have nsK:∀{b:Addr}{m:Str->Option v9},s₁.heap.Ns b m->(j8 s₁.heap H).Ns b m:=fun{b m} ⟨o,es,ep,e,d,r⟩=>⟨o,es,ep,base_of e (noA e d),d,r⟩
  have hKb:K.In (j8 s₁.heap H):=fun b o e=>base_of (KX b o e) (by
   cases q:H b with
   | none=>rfl
   | some u =>
     have e':b=a:=hA b (by rw[q];simp);subst e'
     rw[hK (by rw[q];simp)]at e;cases e)
  have hM:Mod K mg (j8 s₁.heap H):=⟨hKb,nsK hns,⟨mb,nsK hb,hbb⟩,let ⟨mc,h1,h2⟩:=hlim;⟨mc,nsK h1,h2⟩⟩;have e0:Env0 P w K mg (j8 s₁.heap H) Bh [] s₁ H:=⟨rfl,hM,fun b o e=>lW e,Nat.le_of_eq (i7 _ _),trivial,fun b hb=>absurd (show b∈([]:List Addr)from hb) (by simp),hok,.of_eq hg⟩;refine zt ((F _ hKb (nsK hns)).run Bh [] s₁ H ⟨[.ref a],[]⟩ [.ref a] [.ref a] _ _ hr e0 (hbind s₁ (.ref a)) (.cons rfl .nil) (hsp H hO hS)) fun r s' h=>?_
  cases r with
  | error e=>exact(hCX H e s' h).elim
  | ok fl =>
    cases fl with
    | next=>exact xJ h
    | brk=>exact xJ h
    | cont=>exact xJ h
    | ret u =>
      obtain⟨v,H',os,bare,un,hok',r',q⟩:=h;have q':v = .bl true:=q;subst q';obtain rfl:u=Bf true:=r';refine⟨rfl,OldK.of_keep fun b o e=>?_,os,bare⟩
      cases q:H b with
      | none=>exact un.keep b o e q (by intro z;exact absurd (show b∈([]:List Addr)from z) (by simp)) (by simp)
      | some u =>
        rcases hO b with z|⟨ob,xs,z⟩
        · rw[q]at z;cases z
        · have z2:=un.frzs b ob _ z;obtain⟨e1,_⟩:=hok b _ z;obtain⟨e2,_⟩:=hok' b _ z2;rw[e]at e1;cases e1;exact e2
 cases hk:K.lookup a with
 | some o =>
   have e:=KX a o hk;rw[ha]at e;cases e
   refine core (fun _=>none) (fun _=>.inl rfl) (.inr ⟨_,vs.toArray,_,hk,rfl,rfl,rfl,by rw[wk,lenV];exact hl,by simpa using rv⟩) (fun b u z=>by have z':(none:Option HO)=some u:=z;cases z') (fun b z=>absurd rfl z) fun z=>absurd rfl z
 | none =>
   refine core (fun b=>if b=a then some (.frz {cls:=.type "list", data:=.seq vs.toArray} (.lst (ns.map V.int)))else none) (fun b=>?_) (.inl (.inr ⟨{cls:=.type "list", data:=.seq vs.toArray},if_pos rfl⟩)) (fun b u z=>?_) (fun b z=>?_) fun _=>hk
   · by_cases hb:b=a
     · exact .inr ⟨_,_,if_pos hb⟩
     · exact .inl (if_neg hb)
   · by_cases hb:b=a
     · have z':=(if_pos hb).symm.trans z;cases z';subst hb;exact⟨ha,by rw[wp];exact hl,vs,_,rv,ha⟩
     · have z':=(if_neg hb).symm.trans z;cases z'
   · by_cases hb:b=a
     · exact hb
     · exact absurd (if_neg hb) z
theorem walk_of{l:W.OpenLaw}{q:wD}{XP:(Str->Option v9)->Heap->Prop}{YP:wR->Heap->Prop}{d:DefRec}{K:BP->W.Frag}{CX:wR->vW}{sp:wR->Sp}
 (hn:l.most=some n)(hn2:n<=sizeLine)(hdf:d.params.defaults=[])(hr:Room k Bh)
 (hY:∀(w:wR)(h:Heap),YP w h->(K w.params).In h)
 (F:∀(w:wR)(mg:Str->Option v9)(fa:Addr)(h:Heap),(K w.params).In h->h.Ns wP mg->mg d.name=some (.ref fa) ->
  ∃ fd:yj,(∀(s:v_)(u:v9),BE s fd ⟨[u],[]⟩ [(x,u)]) /\
    ∀base:Heap,(K w.params).In base->base.Ns wP mg->FnOk l.prog w (K w.params) mg base (CX w) k fa fd [x] (sp w))
 (hsp:∀(w:wR)(H:Hp)(a:Addr)(ns:List Int),ns.length<=n->qD H->vp (K w.params) H a (ns.map V.int)->sp w [.ref a] H (fun v _=>v = .bl true) fun _ _ _=>False)
 (hCX:∀(w:wR)(H:Hp)(s:v_)(e:v9)(s':v_),CX w [] H s (fun _ _ _=>False) e s'->False) :
 W.WalkO q loose XP YP l.row.toRowW d [] (fun f vs=>PySem.call f vs):=by
 refine Att.attach_call hn hdf fun w s₀ s₁ mg mb fa o pm cd doc a vs ns G Y ho hd hcd hmg hobj hints hlen hg=>?_;have KX:=hY w _ Y;obtain⟨fd,hb,hF⟩:=F w mg fa _ KX G.T.g hmg;exact jZ KX G.T.g G.T.b G.T.builtins G.T.nolimit hg hobj hints (xP hlen hn2) hr hF hb (fun H hO hS=>hsp w H a ns hlen hO hS) fun H e s'=>hCX w H s₁ e s'
abbrev vX:vW:=fun _ _ _ _ _ _=>False
abbrev E0:XK:=fun _ _ _=>False
theorem n6{X:Cx}:jt vX X E0:=fun _ _ _ _ _ _ _ h=>h.elim
structure Fun (K:W.Frag) (x qual:Str) (st:Stmt) (f:Addr) (fd:yj):Prop where
 ex:∃(oc:v9)(od:Option Addr)(kV doc pm:v9)(an:Option Addr)(cdv ct:v9)(osl:Array (Option v9)),
  fd=W.fnOf x qual (defArgs st) (defBody st) (defScope st) .none kV doc pm an cdv ct/\K.lookup f=some ⟨oc,od,.func fd,osl⟩/\W.codeIn K cdv qual=true
 kp:W.keepIn K (.ref f)=true
section
variable{P:wD}{w:wR}{K:W.Frag}{mg:Str->Option v9}{base:Heap}
theorem Fun.ok{st:Stmt}{fd:yj}{sp:Sp}(F:Fun K x qual st f fd)(S:FnScope N ps (defScope st))(len:∀vs H Q E,sp vs H Q E->vs.length=ps.length)
 (hbody:∀(cdv:v9)(A:wS)(outer:List Env)(s:v_)(H:Hp)(vs:List V)(Q:VK)(E:XK),Room k (A.deeper (At qual (defScope st) s.heap.objs.size f cdv))->sp vs H Q E ->
  ∃t,vA (jw vX P w K mg base N qual (defScope st) f cdv A outer s H E).nox (defBody st) t/\t {nx:=fun _ H'=>Q .non H',rt:=Q} (start N vs) H):FnOk P w K mg base vX (k+1) f fd ps sp:=by
 obtain⟨oc,od,kV,doc,pm,an,cdv,ct,osl,rfl,lk,hcd⟩:=F.ex;refine qy lk hcd S len fun A outer s H vs Q E hr hsp=>?_;obtain⟨t,h,q⟩:=hbody cdv A outer s H vs Q E hr hsp;exact⟨t,h.nox,q⟩
theorem Fun.binds{st:Stmt}{fd:yj}(F:Fun K x qual st f fd)
 (h:∀(kV doc pm:v9)(an:Option Addr)(cdv ct:v9)(us:List v9),us.length=ps.length->bindArgs (W.fnOf x qual (defArgs st) (defBody st) (defScope st) .none kV doc pm an cdv ct) ⟨us,[]⟩=pure (ps.zip us)):Binds K fd ps []:=by
 obtain⟨oc,od,kV,doc,pm,an,cdv,ct,osl,rfl,lk,hcd⟩:=F.ex;exact .all (h kV doc pm an cdv ct)
theorem i9{st:Stmt}{oc:v9}{od an:Option Addr}{osl:Array (Option v9)}{kV doc pm cdv ct:v9}(l:K.lookup f=some ⟨oc,od,.func (W.fnOf x qual (defArgs st) (defBody st) (defScope st) .none kV doc pm an cdv ct),osl⟩)
 (c:W.codeIn K cdv qual=true)(k:W.keepIn K (.ref f)=true):Fun K x qual st f (W.fnOf x qual (defArgs st) (defBody st) (defScope st) .none kV doc pm an cdv ct):=⟨⟨oc,od,kV,doc,pm,an,cdv,ct,osl,rfl,l,c⟩,k⟩
end
section
variable{X:Cx}
theorem pv(i:Nat)(hN:autoParam (X.N[i]?=some x) æa._auto_1)(hv:autoParam (u9 X.env.scope x) æe._auto_1)(hd:autoParam ((x==("__debug__" : Str))=false) æb._auto_1)
 (hcd:autoParam ((x==("__classdict__" : Str))=false) æb._auto_1):PE X (.Name x pos) (rO i):=iE hN hv hd hcd
end
noncomputable def aS(H H':Hp):Prop:=∀b o,H b=some o->H' b=some o
theorem aS.refl(H:Hp):aS H H:=fun _ _ h=>h
theorem aS.trans{H1 H2:Hp}(a:aS H H1)(b:aS H1 H2):aS H H2:=fun c o h=>b c o (a c o h)
theorem aS.free(e:aS H H'){l:Addr}(h:H' l=Option.none):H l=Option.none:=by
 cases q:H l with
 | none=>rfl
 | some o =>
   rw[e l o q]at h;cases h
section
variable{X:Cx}
end
section
variable{κ:Type}[DecidableEq κ]
end
end L2
namespace L2.VL
noncomputable def RO(F:Hp)(o:HO):Prop:=∃(c:Addr)(ns:List Int)(a l t:Int),o = .lst [.ref c,.int a,.int l,.int t]/\F c=some (.lst (ns.map V.int))/\ns.length<=63/\0<=a/\0<=l/\0<=t
theorem RO.mono{o:HO}(s:aS F F')(h:RO F o):RO F' o:=by
 obtain⟨c,ns,a,l,t,e,q,r⟩:=h;exact⟨c,ns,a,l,t,e,s _ _ q,r⟩
mutual
inductive Rep (K:W.Frag) (F:Hp):V->v7->Prop
 | non:Rep K F .non .none
 | bl (b:Bool):Rep K F (.bl b) (.bool b)
 | int (i:Int):Rep K F (.int i) (.int i)
 | str (x:Str):Rep K F (.str x) (.str x)
 | tup {a:Addr} {vs:List V} {ds:List v7}:vj K F a vs->Reps K F vs ds->Rep K F (.ref a) (.tuple ds)
 | lst {a:Addr} {vs:List V} {ds:List v7}:F a=some (.lst vs)->Reps K F vs ds->Rep K F (.ref a) (.list ds)
inductive Reps (K:W.Frag) (F:Hp):List V->List v7->Prop
 | nil:Reps K F [] []
 | cons {v:V} {d:v7} {vs:List V} {ds:List v7}:Rep K F v d->Reps K F vs ds->Reps K F (v::vs) (d::ds)
end
theorem dJ{K:W.Frag}{xs:List V}(e:aS H H')(h:vj K H a xs):vj K H' a xs:=by
 rcases h with(h|⟨o,h⟩)|h
 · exact .inl (.inl (e _ _ h))
 · exact .inl (.inr ⟨o,e _ _ h⟩)
 · exact .inr h
theorem jH{K:W.Frag}{xs:List V}(e:aS H H')(h:vp K H a xs):vp K H' a xs:=by
 rcases h with(h|⟨o,h⟩)|h
 · exact .inl (.inl (e _ _ h))
 · exact .inl (.inr ⟨o,e _ _ h⟩)
 · exact .inr h
mutual
theorem Rep.mono{K:W.Frag}{F F':Hp}(s:aS F F'):∀{v:V}{d:v7},Rep K F v d->Rep K F' v d
 | _,_,.non=>.non
 | _,_,.bl b=>.bl b
 | _,_,.int i=>.int i
 | _,_,.str x=>.str x
 | _,_,.tup h r=>.tup (dJ s h) (Reps.mono s r)
 | _,_,.lst h r=>.lst (s _ _ h) (Reps.mono s r)
theorem Reps.mono{K:W.Frag}{F F':Hp}(s:aS F F'):∀{vs:List V}{ds:List v7},Reps K F vs ds->Reps K F' vs ds
 | _,_,.nil=>.nil
 | _,_,.cons h r=>.cons (Rep.mono s h) (Reps.mono s r)
end
theorem Reps.length{K:W.Frag}{F:Hp}:∀{vs:List V}{ds:List v7},Reps K F vs ds->vs.length=ds.length
 | _,_,.nil=>rfl
 | _,_,.cons _ r=>by simp[Reps.length r]
theorem Reps.get{K:W.Frag}{F:Hp}:∀{vs:List V}{ds:List v7}{i:Nat}{d:v7},Reps K F vs ds->ds[i]?=some d->∃v,vs[i]?=some v/\Rep K F v d
 | _,_,_,_,.nil,e=>by simp at e
 | _,_,0,_,.cons h _,e=>by simp at e;subst e;exact⟨_,rfl,h⟩
 | _,_,i+1,d,.cons _ r,e=>by
   obtain⟨v,h1,h2⟩:=Reps.get (i:=i) (d:=d) r (by simpa using e);exact⟨v,by simpa using h1,h2⟩
theorem Reps.append{K:W.Frag}{F:Hp}:∀{vs us:List V}{ds es:List v7},Reps K F vs ds->Reps K F us es->Reps K F (vs++us) (ds++es)
 | _,_,_,_,.nil,s=>s
 | _,_,_,_,.cons h r,s=>.cons h (Reps.append r s)
theorem Reps.snoc{K:W.Frag}{ds:List v7}{d:v7}(r:Reps K F vs ds)(h:Rep K F v d):Reps K F (vs++[v]) (ds++[d]):=r.append (.cons h .nil)
theorem Reps.nil_iff{K:W.Frag}(h:Reps K F vs []):vs=[]:=by cases h;rfl
mutual
theorem Rep.reads{X:Cx}{pins:List (Addr×Obj)}{σ:St}{H F:Hp}{s:v_}(I:Inv X pins σ H s)(sub:aS F H):∀{v:V}{d:v7},Rep X.K F v d->∀u,RelV v u->∃as,Reads s.heap u d as
 | _,_,.non,u,r=>by cases(show u=yK from r);exact⟨_,.none⟩
 | _,_,.bl b,u,r=>by cases(show u=Bf b from r);exact⟨_,.bool b⟩
 | _,_,.int i,u,r=>by obtain⟨t,q⟩:=(show ∃t,u=Az i t from r);cases q;exact⟨_,.int i t⟩
 | _,_,.str x,u,r=>by obtain⟨t,q⟩:=(show ∃t,u=By x t from r);cases q;exact⟨_,.str x t⟩
 | _,_,.tup (a:=a) h q,u,r=>by
   cases(show u=zK a from r);obtain⟨its,rv,⟨o,h1,h2,n,h3⟩,hz⟩:=I.tuple (dJ sub h);obtain⟨as,ra⟩:=Reps.reads I sub q its rv
   exact⟨_,.tuple h1 h2 h3 (by simpa using ra)⟩
 | _,_,.lst (a:=a) h q,u,r=>by
   cases(show u=zK a from r);obtain⟨its,rv,p,hz⟩:=I.list (.inl (.inl (sub _ _ h)));obtain⟨o,h1,h2,n,h3⟩:=p.isList;obtain⟨as,ra⟩:=Reps.reads I sub q its rv;exact⟨_,.list h1 h2 h3 (by simpa using ra)⟩
theorem Reps.reads{X:Cx}{pins:List (Addr×Obj)}{σ:St}{H F:Hp}{s:v_}(I:Inv X pins σ H s)(sub:aS F H):∀{vs:List V}{ds:List v7},Reps X.K F vs ds->∀us,bm vs us->∃as,ReadsAll s.heap us ds as
 | _,_,.nil,us,r=>by cases r;exact⟨_,.nil⟩
 | _,_,.cons h q,us,r=>by
   cases r with
   | cons r1 r2 =>
     obtain⟨as,a1⟩:=Rep.reads I sub h _ r1;obtain⟨bs,a2⟩:=Reps.reads I sub q _ r2;exact⟨_,.cons a1 a2⟩
end
structure ReelOk (F H:Hp) (r:Addr):Prop where
 ex:∃o,H r=some o/\RO F o
noncomputable def vw(rl:Option Addr)(F H:Hp):Prop:=∀r,rl=some r->F r=none/\ReelOk F H r
theorem vw.live(h:vw rl F H)(e:rl=some r):∃o,H r=some o:=by
 obtain⟨_,⟨o,q,_⟩⟩:=h r e;exact⟨_,q⟩
structure Grow (rl:Option Addr) (F H F' H':Hp):Prop where
 same:∀b o,H b=some o->rl≠some b->H' b=some o
 fs:aS F F'
 sub:aS F' H'
 old:∀b o,H b=some o->F' b=F b
 reel:vw rl F' H'
theorem Grow.refl{rl:Option Addr}{F H:Hp}(s:aS F H)(r:vw rl F H):Grow rl F H F H:=⟨fun _ _ e _=>e,.refl F,s,fun _ _ _=>rfl,r⟩
theorem Grow.live{rl:Option Addr}{F H F' H':Hp}(g:Grow rl F H F' H'){b:Addr}{o:HO}(e:H b=some o):∃o',H' b=some o':=by
 by_cases h:rl=some b
 · exact g.reel.live h
 · exact⟨o,g.same b o e h⟩
theorem Grow.trans{rl:Option Addr}{F H F1 H1 F2 H2:Hp}(a:Grow rl F H F1 H1)(b:Grow rl F1 H1 F2 H2):Grow rl F H F2 H2 :=
 ⟨fun c o e n=>b.same c o (a.same c o e n) n,a.fs.trans b.fs,b.sub,fun c o e=>by obtain⟨o',e'⟩:=a.live e;rw[b.old c o' e',a.old c o e],b.reel⟩
theorem Grow.freeB(g:Grow rl F H F' H'){b:Addr}(e:H' b=none):H b=none:=by
 cases q:H b with
 | none=>rfl
 | some o=>obtain⟨o',e'⟩:=g.live q;rw[e]at e';cases e'
theorem Grow.laid{o:HO}(s:aS F H)(r:vw rl F H)(n:H a=none):Grow rl F H F (upd H a o):=by
 have ne:∀b u,H b=some u->b≠a:=fun b u e=>aw e n;refine⟨fun b u e _=>by rw[upd_ne (ne b u e)];exact e,.refl F,fun b u e=>by rw[upd_ne (ne b u (s b u e))];exact s b u e,fun _ _ _=>rfl,fun q e=>?_⟩;obtain⟨z,⟨u,h1,h2⟩⟩:=r q e;exact⟨z,⟨u,by rw[upd_ne (ne _ _ h1)];exact h1,h2⟩⟩
theorem Grow.data{o:HO}(s:aS F H)(r:vw rl F H)(n:H a=none):Grow rl F H (upd F a o) (upd H a o):=by
 have ne:∀b u,H b=some u->b≠a:=fun b u e=>aw e n;have neF:∀b u,F b=some u->b≠a:=fun b u e=>ne b u (s b u e);refine⟨fun b u e _=>by rw[upd_ne (ne b u e)];exact e,fun b u e=>by rw[upd_ne (neF b u e)];exact e,fun b u e=>?_,fun b u e=>by rw[upd_ne (ne b u e)],fun q e=>?_⟩
 · by_cases hb:b=a
   · subst hb;rw[ai]at e ⊢;exact e
   · rw[upd_ne hb]at e ⊢;exact s b u e
 · obtain⟨z,⟨u,h1,h2⟩⟩:=r q e;exact⟨by rw[upd_ne (ne _ _ h1)];exact z,⟨u,by rw[upd_ne (ne _ _ h1)];exact h1,RO.mono (fun b u e=>by rw[upd_ne (neF b u e)];exact e) h2⟩⟩
theorem Grow.freeze{F1 H1:Hp}{o:HO}(g:Grow rl F H F1 H1)(n:H a=none)(e:H1 a=some o)(f:F1 a=none)(hr:rl≠some a):Grow rl F H (upd F1 a o) H1:=by
 have neF:∀b u,F1 b=some u->b≠a:=fun b u q z=>by subst z;rw[f]at q;cases q
 refine⟨g.same,fun b u q=>by rw[upd_ne (neF b u (g.fs b u q))];exact g.fs b u q,fun b u q=>?_,fun b u q=>by rw[upd_ne (aw q n)];exact g.old b u q,fun q z=>?_⟩
 · by_cases hb:b=a
   · subst hb;rw[ai]at q;rw[e];exact q
   · rw[upd_ne hb]at q;exact g.sub b u q
 · obtain⟨z1,⟨u,h1,h2⟩⟩:=g.reel q z;exact⟨by rw[upd_ne (fun y=>hr (by rw[<- y];exact z))];exact z1,⟨u,h1,RO.mono (fun b u e=>by rw[upd_ne (neF b u e)];exact e) h2⟩⟩
inductive W where
 | d (x:v7)
 | ml (xs:List v7)
 | pk (xs:List v7)
 | reel
 | vv (v:V)
 | md (kvs:List (List vM×v7))
 | mk (kvs:List (vM×v7))
 | xm (kvs:List (List Int×v7))
 | nt (ds:List v7)
 | lk
 | sc (ns:List Int)
 | fd (kvs:List (vM×v7))
 | xr (kvs:List (List Int×v7))
 | fw (kvs:List (vM×v7))
 | ft (kvs:List (List vM×v7))
 | xc (x:Str) (fs:List (Str×v7))
 | dp (kvs:List (vM×v7)) (x:v7)
noncomputable def W.dat:W->Option v7
 | .d x=>some x
 | .ml xs=>some (.list xs)
 | .pk xs=>some (.list xs)
 | .nt ds=>some (.tuple ds)
 | _=>none
noncomputable def W.peek:W->W
 | .ml xs=>.pk xs
 | .md _=>.lk
 | .mk _=>.lk
 | .xm _=>.lk
 | w=>w
noncomputable def W.own:W->Bool
 | .ml _=>true
 | .md _=>true
 | .mk _=>true
 | .xm _=>true
 | _=>false
abbrev KD(K:W.Frag)(F:Hp):List (List vM×V)->List (List vM×v7)->Prop:=xT fun p q=>p.1=q.1/\Rep K F p.2 q.2
abbrev vO(K:W.Frag)(F:Hp):List (vM×V)->List (vM×v7)->Prop:=xT fun p q=>p.1=q.1/\Rep K F p.2 q.2
abbrev vN(K:W.Frag)(F:Hp):List (Str×V)->List (Str×v7)->Prop:=xT fun p q=>p.1=q.1/\Rep K F p.2 q.2
noncomputable def qE(e C dx:Addr):Heap->Prop:=fun h=>∃oe vs,h.get? e=some oe/\oe.cls = .ref C/\oe.dict=some dx/\oe.data = .fields vs
noncomputable def mG(K:W.Frag)(rl:Option Addr)(F H:Hp)(v:V)(kvs:List (List vM×v7)):Prop:=∃a us,v = .ref a/\F a=none/\rl≠some a/\H a=some (.dT us)/\KD K F us kvs
noncomputable def vV(a:Addr)(xs:List (List Int×Addr×v9)):Heap->Prop:=fun h=>∃o es ep,h.get? a=some o/\o.ExactDict/\o.data = .dict es ep/\(∀(P:wD)(w:wR),es.toList=xs.map (entryOfKey (tupleKind (zL P w))))/\(xs.map (·.1)).Nodup/\(a==sysModules)=false/\xs.length<=sizeLine
noncomputable def KX(K:W.Frag)(F:Hp):List (List Int×Addr×v9)->List (List Int×v7)->Prop:=xT fun p q=>p.1=q.1/\vj K F p.2.1 (p.1.map V.int)/\∃v,RelV v p.2.2/\Rep K F v q.2
theorem KX.mono{K:W.Frag}{F F':Hp}{xs:List (List Int×Addr×v9)}{kvs:List (List Int×v7)}(h:KX K F xs kvs)(s:aS F F'):KX K F' xs kvs:=xT.mapP h fun _ _ z=>⟨z.1,dJ s z.2.1,let ⟨v,r,q⟩:=z.2.2;⟨v,r,q.mono s⟩⟩
noncomputable def mE(K:W.Frag)(rl:Option Addr)(F H:Hp)(v:V)(kvs:List (List Int×v7)):Prop:=∃a xs,v = .ref a/\F a=none/\rl≠some a/\H a=some (.ext (vV a xs))/\KX K F xs kvs
noncomputable def mF(K:W.Frag)(rl:Option Addr)(F H:Hp)(v:V)(kvs:List (vM×v7)):Prop:=∃a us,v = .ref a/\F a=none/\rl≠some a/\H a=some (.dK us)/\vO K F us kvs
noncomputable def d8(K:W.Frag)(rl:Option Addr)(F H:Hp)(v:V)(xs:List v7):Prop:=∃a vs,v = .ref a/\F a=none/\rl≠some a/\H a=some (.lst vs)/\Reps K F vs xs
noncomputable def ca(K:W.Frag)(rl:Option Addr)(F H:Hp)(v:V):W->Prop
 | .d x=>Rep K F v x
 | .ml xs=>d8 K rl F H v xs
 | .pk xs=>d8 K rl F H v xs
 | .reel=>∃r,rl=some r/\v = .ref r
 | .vv u=>v=u
 | .md kvs=>mG K rl F H v kvs
 | .mk kvs=>mF K rl F H v kvs
 | .xm kvs=>mE K rl F H v kvs
 | .nt ds=>∃a vs,v = .ref a/\F a=some (.tup vs)/\Reps K F vs ds
 | .lk=>True
 | .sc ns=>∃a,v = .ref a/\vp K F a (ns.map V.int)
 | .fd kvs=>∃a us,v = .ref a/\F a=some (.dK us)/\vO K F us kvs
 | .xr kvs=>∃a us,v = .ref a/\F a=some (.ext (vV a us))/\KX K F us kvs
 | .fw kvs=>∃a us o,v = .ref a/\F a=some (.frz o (.dK us))/\vO K F us kvs
 | .ft kvs=>∃a us o,v = .ref a/\F a=some (.frz o (.dT us))/\KD K F us kvs
 | .xc x fs=>∃e dx us C,v = .ref e/\W.nsIn K wP x=some (some (.ref C))/\F e=some (.ext (qE e C dx))/\F dx=some (.xd us)/\vN K F us fs
 | .dp kvs x=>∃a b us u o,v = .ref a/\F a=some (.tup [.ref b,u])/\F b=some (.frz o (.dK us))/\vO K F us kvs/\Rep K F u x
theorem mG.grow{K:W.Frag}{kvs:List (List vM×v7)}(g:Grow rl F H F' H')(r:mG K rl F H v kvs):mG K rl F' H' v kvs:=by
 obtain⟨a,us,rfl,h1,h2,h3,h4⟩:=r;exact⟨a,us,rfl,by rw[g.old a _ h3];exact h1,h2,g.same a _ h3 h2,xT.mapP h4 fun _ _ z=>⟨z.1,z.2.mono g.fs⟩⟩
theorem mF.grow{K:W.Frag}{kvs:List (vM×v7)}(g:Grow rl F H F' H')(r:mF K rl F H v kvs):mF K rl F' H' v kvs:=by
 obtain⟨a,us,rfl,h1,h2,h3,h4⟩:=r;exact⟨a,us,rfl,by rw[g.old a _ h3];exact h1,h2,g.same a _ h3 h2,xT.mapP h4 fun _ _ z=>⟨z.1,z.2.mono g.fs⟩⟩
theorem mE.grow{K:W.Frag}{kvs:List (List Int×v7)}(g:Grow rl F H F' H')(r:mE K rl F H v kvs):mE K rl F' H' v kvs:=by
 obtain⟨a,us,rfl,h1,h2,h3,h4⟩:=r;exact⟨a,us,rfl,by rw[g.old a _ h3];exact h1,h2,g.same a _ h3 h2,h4.mono g.fs⟩
theorem d8.grow{K:W.Frag}{xs:List v7}(g:Grow rl F H F' H')(r:d8 K rl F H v xs):d8 K rl F' H' v xs:=by
 obtain⟨a,vs,rfl,h1,h2,h3,h4⟩:=r;exact⟨a,vs,rfl,by rw[g.old a _ h3];exact h1,h2,g.same a _ h3 h2,h4.mono g.fs⟩
theorem ca.grow{K:W.Frag}{rl:Option Addr}{F H F' H':Hp}{v:V}{w:W}(g:Grow rl F H F' H')(r:ca K rl F H v w):ca K rl F' H' v w:=by
 cases w with
 | d x=>exact Rep.mono g.fs r
 | ml xs=>exact d8.grow g r
 | pk xs=>exact d8.grow g r
 | reel=>exact r
 | vv u=>exact r
 | md kvs=>exact mG.grow g r
 | mk kvs=>exact mF.grow g r
 | xm kvs=>exact mE.grow g r
 | nt ds=>obtain⟨a,vs,e,h,q⟩:=r;exact⟨a,vs,e,g.fs _ _ h,q.mono g.fs⟩
 | lk=>trivial
 | sc ns=>obtain⟨a,e,h⟩:=r;exact⟨a,e,jH g.fs h⟩
 | fd kvs=>obtain⟨a,us,e,h,q⟩:=r;exact⟨a,us,e,g.fs _ _ h,xT.mapP q fun _ _ z=>⟨z.1,z.2.mono g.fs⟩⟩
 | xr kvs=>obtain⟨a,us,e,h,q⟩:=r;exact⟨a,us,e,g.fs _ _ h,KX.mono q g.fs⟩
 | fw kvs=>obtain⟨a,us,o,e,h,q⟩:=r;exact⟨a,us,o,e,g.fs _ _ h,xT.mapP q fun _ _ z=>⟨z.1,z.2.mono g.fs⟩⟩
 | ft kvs=>obtain⟨a,us,o,e,h,q⟩:=r;exact⟨a,us,o,e,g.fs _ _ h,xT.mapP q fun _ _ z=>⟨z.1,z.2.mono g.fs⟩⟩
 | xc _ _=>obtain⟨a,dx,us,C,e,n,h1,h2,q⟩:=r;exact⟨a,dx,us,C,e,n,g.fs _ _ h1,g.fs _ _ h2,xT.mapP q fun _ _ z=>⟨z.1,z.2.mono g.fs⟩⟩
 | dp _ _=>obtain⟨a,b,us,u,o,e,h1,h2,q,z⟩:=r;exact⟨a,b,us,u,o,e,g.fs _ _ h1,g.fs _ _ h2,xT.mapP q fun _ _ z=>⟨z.1,z.2.mono g.fs⟩,z.mono g.fs⟩
theorem ca.peek{K:W.Frag}{w:W}(r:ca K rl F H v w):ca K rl F H v w.peek:=by cases w<;>first|exact r|trivial
theorem d8.rep{K:W.Frag}{xs:List v7}(s:aS F H)(r:d8 K rl F H v xs):Rep K H v (.list xs):=by
 obtain⟨a,vs,rfl,h1,h2,h3,h4⟩:=r;exact .lst h3 (h4.mono s)
theorem ca.dat{K:W.Frag}{w:W}{x:v7}(s:aS F H)(r:ca K rl F H v w)(e:w.dat=some x):Rep K H v x:=by
 cases w with
 | d y=>cases e;exact Rep.mono s r
 | ml xs=>cases e;exact d8.rep s r
 | pk xs=>cases e;exact d8.rep s r
 | reel=>cases e
 | vv u=>cases e
 | md kvs=>cases e
 | mk kvs=>cases e
 | xm kvs=>cases e
 | nt ds=>cases e;obtain⟨a,vs,rfl,h,q⟩:=r;exact .tup (.inl (.inl (s _ _ h))) (q.mono s)
 | lk=>cases e
 | sc _=>cases e
 | fd _=>cases e
 | xr _=>cases e
 | fw _=>cases e
 | ft _=>cases e
 | xc _ _=>cases e
 | dp _ _=>cases e
theorem ca.items{K:W.Frag}{w:W}{xs:List v7}(s:aS F H)(r:ca K rl F H v w)(e:w.dat=some (.list xs)):∃a vs,v = .ref a/\vp K H a vs/\Reps K F vs xs:=by
 have own:d8 K rl F H v xs->∃a vs,v = .ref a/\vp K H a vs/\Reps K F vs xs:=fun⟨a,vs,e1,_,_,e2,e3⟩=>⟨a,vs,e1,.inl (.inl e2),e3⟩
 cases w with
 | d y =>
   cases e
   cases(show Rep K F v (.list xs)from r)with
   | lst h q=>exact⟨_,_,rfl,.inl (.inl (s _ _ h)),q⟩
 | ml ys=>cases e;exact own r
 | pk ys=>cases e;exact own r
 | reel=>cases e
 | vv u=>cases e
 | md kvs=>cases e
 | mk kvs=>cases e
 | xm kvs=>cases e
 | nt ds=>cases e
 | lk=>cases e
 | sc _=>cases e
 | fd _=>cases e
 | xr _=>cases e
 | fw _=>cases e
 | ft _=>cases e
 | xc _ _=>cases e
 | dp _ _=>cases e
theorem ca.itemsT{K:W.Frag}{w:W}{xs:List v7}(s:aS F H)(r:ca K rl F H v w)(e:w.dat=some (.tuple xs)):∃a vs,v = .ref a/\vj K H a vs/\Reps K F vs xs:=by
 cases w with
 | d y =>
   cases e
   cases(show Rep K F v (.tuple xs)from r)with
   | tup h q=>exact⟨_,_,rfl,dJ s h,q⟩
 | ml ys=>cases e
 | pk ys=>cases e
 | reel=>cases e
 | vv u=>cases e
 | md kvs=>cases e
 | mk kvs=>cases e
 | xm kvs=>cases e
 | nt ds=>cases e;obtain⟨a,vs,rfl,h,q⟩:=r;exact⟨a,vs,rfl,.inl (.inl (s _ _ h)),q⟩
 | lk=>cases e
 | sc _=>cases e
 | fd _=>cases e
 | xr _=>cases e
 | fw _=>cases e
 | ft _=>cases e
 | xc _ _=>cases e
 | dp _ _=>cases e
noncomputable def c8(H:Hp)(v:V):W->Prop
 | .ml _=>∀a,v = .ref a->H a=none
 | .md _=>∀a,v = .ref a->H a=none
 | .mk _=>∀a,v = .ref a->H a=none
 | .xm _=>∀a,v = .ref a->H a=none
 | _=>True
theorem ca.live{K:W.Frag}{w:W}(r:ca K rl F H v w)(h:w.own=true):∃a o,v = .ref a/\H a=some o:=by
 cases w with
 | ml xs=>obtain⟨a,vs,e,_,_,hh,_⟩:=r;exact⟨a,_,e,hh⟩
 | md xs=>obtain⟨a,vs,e,_,_,hh,_⟩:=r;exact⟨a,_,e,hh⟩
 | mk xs=>obtain⟨a,vs,e,_,_,hh,_⟩:=r;exact⟨a,_,e,hh⟩
 | xm xs=>obtain⟨a,vs,e,_,_,hh,_⟩:=r;exact⟨a,_,e,hh⟩
 | _=>cases h
theorem c8.none{w:W}(n:c8 H v w)(h:w.own=true)(e:v = .ref a):H a=none:=by
 cases w with
 | ml xs=>exact n a e
 | md xs=>exact n a e
 | mk xs=>exact n a e
 | xm xs=>exact n a e
 | _=>cases h
abbrev En:=List (Option W)
structure VR (K:W.Frag) (rl:Option Addr) (F₀ H₀ F H:Hp) (σ:St) (ρ:En):Prop where
 g:Grow rl F₀ H₀ F H
 sl:∀(i:Nat) w,ρ[i]?=some (some w)->∃v,σ[i]?=some (some v)/\ca K rl F H v w/\c8 H₀ v w
 ap:∀(i j:Nat)(x y:W) v,i≠j->ρ[i]?=some (some x)->ρ[j]?=some (some y)->x.own=true->y.own=true->σ[i]?=some (some v)->σ[j]?=some (some v)->False
 np:∀(i:Nat) xs,ρ[i]?≠some (some (W.pk xs))
 len:ρ.length=σ.length
section
variable{K:W.Frag}{rl:Option Addr}{F₀ H₀ F H F' H':Hp}{σ:St}{ρ:En}
theorem VR.sub(r:VR K rl F₀ H₀ F H σ ρ):aS F H:=r.g.sub
theorem VR.reel(r:VR K rl F₀ H₀ F H σ ρ):vw rl F H:=r.g.reel
theorem VR.grow(r:VR K rl F₀ H₀ F H σ ρ)(g:Grow rl F H F' H'):VR K rl F₀ H₀ F' H' σ ρ :=
 ⟨r.g.trans g,fun i w e=>let ⟨v,e1,e2,e3⟩:=r.sl i w e;⟨v,e1,e2.grow g,e3⟩,r.ap,r.np,r.len⟩
theorem VR.set(r:VR K rl F₀ H₀ F H σ ρ){H1 F1:Hp}(g:Grow rl F H F1 H1){w:W}(rw':ca K rl F1 H1 v w)(hn:c8 H v w)(hp:∀xs,w ≠ .pk xs)(i:Nat):VR K rl F₀ H₀ F1 H1 (σ.set i (some v)) (ρ.set i (some w)):=by
 have r1:=r.grow g;refine⟨r1.g,fun j w' e=>?_,fun j k xs ys u hjk e1 e2 w1 w2 s1 s2=>?_,fun j xs z=>?_,by simp[r.len]⟩
 · by_cases hj:i=j
   · subst hj
     have hi:i<ρ.length:=by
      rw[xg]at e;by_cases hi:i<ρ.length
      · exact hi
      · simp[hi]at e
     rw[wC hi]at e;cases e;refine⟨v,by rw[wC (by rw[<- r.len];exact hi)],rw',?_⟩
     cases w with
     | ml xs=>exact fun a ea=>r.g.freeB (hn a ea)
     | d x=>trivial
     | pk xs=>trivial
     | reel=>trivial
     | vv u=>trivial
     | md xs=>exact fun a ea=>r.g.freeB (hn a ea)
     | mk xs=>exact fun a ea=>r.g.freeB (hn a ea)
     | xm xs=>exact fun a ea=>r.g.freeB (hn a ea)
     | nt ds=>trivial
     | lk=>trivial
     | sc _=>trivial
     | fd _=>trivial
     | xr _=>trivial
     | fw _=>trivial
     | ft _=>trivial
     | xc _ _=>trivial
     | dp _ _=>trivial
   · rw[wB hj]at e;obtain⟨u,h1,h2,h3⟩:=r1.sl j w' e;exact⟨u,by rw[wB hj];exact h1,h2,h3⟩
 · have key:∀(k:Nat)(x y:W),ρ[k]?=some (some y)->some (some w)=some (some x)->x.own=true->y.own=true->σ[k]?=some (some v)->False:=fun k x y d2 e1 o1 o2 s2=>by
     cases e1;obtain⟨u',h1,h2,h3⟩:=r.sl k _ d2;rw[s2]at h1;cases h1;obtain⟨a,o,ea,hh⟩:=h2.live o2;rw[hn.none o1 ea]at hh;cases hh
   by_cases hj:i=j
   · subst hj;have hk:i≠k:=hjk
     have hi:i<ρ.length:=by
      rw[xg]at e1;by_cases hi:i<ρ.length
      · exact hi
      · simp[hi]at e1
     rw[wC hi]at e1;rw[wB hk]at e2 s2;rw[wC (by rw[<- r.len];exact hi)]at s1;cases s1;exact key k xs ys e2 e1 w1 w2 s2
   · by_cases hk:i=k
     · subst hk
       have hi:i<ρ.length:=by
        rw[xg]at e2;by_cases hi:i<ρ.length
        · exact hi
        · simp[hi]at e2
       rw[wC hi]at e2;rw[wB hj]at e1 s1;rw[wC (by rw[<- r.len];exact hi)]at s2;cases s2;exact key j ys xs e1 e2 w2 w1 s1
     · rw[wB hj]at e1 s1;rw[wB hk]at e2 s2;exact r.ap j k xs ys u hjk e1 e2 w1 w2 s1 s2
 · rw[xg]at z;split at z
   · split at z
     · exact hp xs (wL (wL z))
     · cases z
   · exact r.np j xs z
theorem VR.freeze(r:VR K rl F₀ H₀ F H σ ρ){i:Nat}{xs:List v7}(e:ρ[i]?=some (some (.ml xs))):∃F1,VR K rl F₀ H₀ F1 H σ (ρ.set i (some (.d (.list xs)))):=by
 obtain⟨v,h1,h2,h3⟩:=r.sl i _ e;obtain⟨a,vs,rfl,f,hr,hh,q⟩:=(show d8 K rl F H v xs from h2);have hi:i<ρ.length:=(wo.mp e).1;have neF:∀b u,F b=some u->b≠a:=fun b u q z=>by subst z;rw[f]at q;cases q
 have fsm:aS F (upd F a (.lst vs)):=fun b u z=>by rw[upd_ne (neF b u z)];exact z
 refine⟨upd F a (.lst vs),r.g.freeze (h3 a rfl) hh f hr,fun j w e1=>?_,fun j k ys zs u hjk e1 e2 w1 w2 s1 s2=>?_,fun j ys z=>?_,by simp[r.len]⟩
 · by_cases hj:i=j
   · subst hj;rw[wC hi]at e1;cases e1;exact⟨.ref a,h1,.lst ai (q.mono fsm),trivial⟩
   · rw[wB hj]at e1;obtain⟨u,g1,g2,g3⟩:=r.sl j w e1;refine⟨u,g1,?_,g3⟩
     have own:∀ys,(∀zs,w = .ml zs->ys=zs)->d8 K rl F H u ys->(∃b,u = .ref b/\b≠a)->d8 K rl (upd F a (.lst vs)) H u ys:=fun ys _ ⟨b,us,eb,f1,f2,f3,f4⟩ ⟨b',eb',ne⟩=>by
      rw[eb]at eb';cases eb';exact⟨b,us,eb,by rw[upd_ne ne];exact f1,f2,f3,f4.mono fsm⟩
     cases w with
     | d x=>exact Rep.mono fsm g2
     | reel=>exact g2
     | vv u=>exact g2
     | ml ys =>
       obtain⟨b,us,eb,f1,f2,f3,f4⟩:=(show d8 K rl F H u ys from g2);have ne:b≠a:=fun z=>r.ap i j _ _ (.ref a) hj e e1 rfl rfl h1 (by rw[g1,eb,z])
       exact⟨b,us,eb,by rw[upd_ne ne];exact f1,f2,f3,f4.mono fsm⟩
     | pk ys=>exact absurd e1 (r.np j ys)
     | md ys =>
       obtain⟨b,us,eb,f1,f2,f3,f4⟩:=(show mG K rl F H u ys from g2);have ne:b≠a:=fun z=>r.ap i j _ _ (.ref a) hj e e1 rfl rfl h1 (by rw[g1,eb,z])
       exact⟨b,us,eb,by rw[upd_ne ne];exact f1,f2,f3,xT.mapP f4 fun _ _ z=>⟨z.1,z.2.mono fsm⟩⟩
     | mk ys =>
       obtain⟨b,us,eb,f1,f2,f3,f4⟩:=(show mF K rl F H u ys from g2);have ne:b≠a:=fun z=>r.ap i j _ _ (.ref a) hj e e1 rfl rfl h1 (by rw[g1,eb,z])
       exact⟨b,us,eb,by rw[upd_ne ne];exact f1,f2,f3,xT.mapP f4 fun _ _ z=>⟨z.1,z.2.mono fsm⟩⟩
     | xm ys =>
       obtain⟨b,us,eb,f1,f2,f3,f4⟩:=(show mE K rl F H u ys from g2);have ne:b≠a:=fun z=>r.ap i j _ _ (.ref a) hj e e1 rfl rfl h1 (by rw[g1,eb,z])
       exact⟨b,us,eb,by rw[upd_ne ne];exact f1,f2,f3,KX.mono f4 fsm⟩
     | nt ds=>obtain⟨b,us,eb,f1,f2⟩:=g2;exact⟨b,us,eb,fsm _ _ f1,f2.mono fsm⟩
     | lk=>trivial
     | sc ns=>obtain⟨b,eb,f1⟩:=g2;exact⟨b,eb,jH fsm f1⟩
     | fd kvs=>obtain⟨b,us,eb,f1,f2⟩:=g2;exact⟨b,us,eb,fsm _ _ f1,xT.mapP f2 fun _ _ z=>⟨z.1,z.2.mono fsm⟩⟩
     | xr kvs=>obtain⟨b,us,eb,f1,f2⟩:=g2;exact⟨b,us,eb,fsm _ _ f1,KX.mono f2 fsm⟩
     | fw kvs=>obtain⟨b,us,o,eb,f1,f2⟩:=g2;exact⟨b,us,o,eb,fsm _ _ f1,xT.mapP f2 fun _ _ z=>⟨z.1,z.2.mono fsm⟩⟩
     | ft kvs=>obtain⟨b,us,o,eb,f1,f2⟩:=g2;exact⟨b,us,o,eb,fsm _ _ f1,xT.mapP f2 fun _ _ z=>⟨z.1,z.2.mono fsm⟩⟩
     | xc _ _=>obtain⟨b,dx,us,C,eb,n,f1,f3,f2⟩:=g2;exact⟨b,dx,us,C,eb,n,fsm _ _ f1,fsm _ _ f3,xT.mapP f2 fun _ _ z=>⟨z.1,z.2.mono fsm⟩⟩
     | dp _ _=>obtain⟨c,b,us,u,o,eb,f1,f3,f2,z⟩:=g2;exact⟨c,b,us,u,o,eb,fsm _ _ f1,fsm _ _ f3,xT.mapP f2 fun _ _ z=>⟨z.1,z.2.mono fsm⟩,z.mono fsm⟩
 · have nd:∀(j:Nat)(y:W),(ρ.set i (some (W.d (.list xs))))[j]?=some (some y)->y.own=true->ρ[j]?=some (some y):=fun j y z o=>by
     by_cases hj:i=j
     · subst hj;rw[wC hi]at z;cases z;cases o
     · rw[wB hj]at z;exact z
   exact r.ap j k ys zs u hjk (nd j ys e1 w1) (nd k zs e2 w2) w1 w2 s1 s2
 · rw[xg]at z;split at z
   · first|cases z|(split at z<;>cases z)
   · exact r.np j ys z
end
abbrev TV:=En->(W->Prop)->Prop
abbrev TB:=En->(Bool->Prop)->Prop
abbrev vb:=En->(List W->Prop)->Prop
abbrev cI(K:W.Frag)(rl:Option Addr)(F H:Hp):List V->List W->Prop:=xT (ca K rl F H)
noncomputable def PV(X:Cx)(rl:Option Addr)(e:Expr)(f:TV):Prop:=∃t,PE X e t/\∀{F₀ H₀ F H:Hp}{σ:St}{ρ:En},VR X.K rl F₀ H₀ F H σ ρ->∀(Qd:W->Prop)(Q:VK),f ρ Qd ->
 (∀v w F' H',Grow rl F H F' H'->ca X.K rl F' H' v w->c8 H v w->Qd w->Q v H')->t σ H Q
noncomputable def PB(X:Cx)(rl:Option Addr)(e:Expr)(f:TB):Prop:=∃t,PT X e t/\∀{F₀ H₀ F H:Hp}{σ:St}{ρ:En},VR X.K rl F₀ H₀ F H σ ρ->∀(Qd:Bool->Prop)(Q:Bool->Hp->Prop),f ρ Qd ->
 (∀b F' H',Grow rl F H F' H'->Qd b->Q b H')->t σ H Q
noncomputable def vy(X:Cx)(rl:Option Addr)(es:List Expr)(f:vb):Prop:=∃t,PA X es t/\∀{F₀ H₀ F H:Hp}{σ:St}{ρ:En},VR X.K rl F₀ H₀ F H σ ρ->∀(Qd:List W->Prop)(Q:List V->Hp->Prop),f ρ Qd ->
 (∀vs ws F' H',Grow rl F H F' H'->cI X.K rl F' H' vs ws->Qd ws->Q vs H')->t σ H Q
noncomputable def W.fz:W->W
 | .ml xs=>.d (.list xs)
 | .nt ds=>.d (.tuple ds)
 | w=>w
theorem ca.fz{K:W.Frag}{F1 H1:Hp}{w:W}(g:Grow rl F H F1 H1)(r:ca K rl F1 H1 v w)(n:c8 H v w):∃F2,Grow rl F H F2 H1/\aS F1 F2/\ca K rl F2 H1 v w.fz:=by
 cases w with
 | d x=>exact⟨F1,g,.refl _,r⟩
 | pk xs=>exact⟨F1,g,.refl _,r⟩
 | reel=>exact⟨F1,g,.refl _,r⟩
 | vv u=>exact⟨F1,g,.refl _,r⟩
 | md u=>exact⟨F1,g,.refl _,r⟩
 | mk u=>exact⟨F1,g,.refl _,r⟩
 | xm u=>exact⟨F1,g,.refl _,r⟩
 | lk=>exact⟨F1,g,.refl _,r⟩
 | sc _=>exact⟨F1,g,.refl _,r⟩
 | fd _=>exact⟨F1,g,.refl _,r⟩
 | xr _=>exact⟨F1,g,.refl _,r⟩
 | fw _=>exact⟨F1,g,.refl _,r⟩
 | ft _=>exact⟨F1,g,.refl _,r⟩
 | xc _ _=>exact⟨F1,g,.refl _,r⟩
 | dp _ _=>exact⟨F1,g,.refl _,r⟩
 | nt ds=>obtain⟨a,vs,rfl,h,q⟩:=r;exact⟨F1,g,.refl _,.tup (.inl (.inl h)) q⟩
 | ml xs =>
   obtain⟨a,vs,rfl,f,hr,hh,q⟩:=(show d8 K rl F1 H1 v xs from r);have neF:∀b u,F1 b=some u->b≠a:=fun b u q z=>by subst z;rw[f]at q;cases q
   have fsm:aS F1 (upd F1 a (.lst vs)):=fun b u z=>by rw[upd_ne (neF b u z)];exact z
   exact⟨upd F1 a (.lst vs),g.freeze (n a rfl) hh f hr,fsm,.lst ai (q.mono fsm)⟩
section
variable{X:Cx}{rl:Option Addr}{a b e:Expr}{es:List Expr}{fa fb fc:TV}{fs:vb}{pos p:Pos}
noncomputable def vC(x:v7):TV:=fun _ Q=>Q (.d x)
theorem dM{x:v7}(h:PE X e (tC v))(r:∀F,Rep X.K F v x):PV X rl e (vC x) :=
 ⟨_,h,fun R Qd Q q k=>k v (.d x) _ _ (Grow.refl R.sub R.reel) (r _) trivial q⟩
theorem ag{i:Int}{j pos}:PV X rl (.Constant (.int i) j pos) (vC (.int i)):=dM aj fun _=>.int i
theorem gJ{i:Bool}{j pos}:PV X rl (.Constant (.bool i) j pos) (vC (.bool i)):=dM p_ fun _=>.bl i
theorem lF{u:v9}{d:v7}{pos:Pos}(hm:X.mg x=some u)(r:RelV v u)(h:∀F,Rep X.K F v d)(hg:autoParam (Gl X x) æa._auto_1)(hd:autoParam ((x==("__debug__" : Str))=false) æb._auto_1):PV X rl (.Name x pos) (vC d) :=
 dM (lR hg hm r hd) h
noncomputable def c9(i:Nat):TV:=fun ρ Q=>∃w,ρ[i]?=some (some w)/\Q w.peek
theorem vn(i:Nat){pos:Pos}(hN:autoParam (X.N[i]?=some x) æa._auto_1)(hv:autoParam (u9 X.env.scope x) æe._auto_1)(hd:autoParam ((x==("__debug__" : Str))=false) æb._auto_1)
 (hcd:autoParam ((x==("__classdict__" : Str))=false) æb._auto_1):PV X rl (.Name x pos) (c9 i) :=
 ⟨_,iE hN hv hd hcd,fun R Qd Q ⟨w,e,q⟩ k=>by
  obtain⟨v,e1,r,_⟩:=R.sl i w e;refine⟨v,e1,k v w.peek _ _ (Grow.refl R.sub R.reel) r.peek ?_ q⟩
  cases w<;>trivial⟩
noncomputable def jv:vb:=fun _ Q=>Q []
noncomputable def ay(f:TV)(fs:vb):vb:=fun ρ Q=>f ρ fun w=>fs ρ fun ws=>Q (w.fz::ws)
theorem ab:vy X rl [] jv:=⟨_,b7,fun R Qd Q q k=>k [] [] _ _ (Grow.refl R.sub R.reel) .nil q⟩
theorem aa(h1:PV X rl e fa)(h2:vy X rl es fs)(hs:autoParam (wm (e::es) X.env=(false,eval e X.env)::wm es X.env) æa._auto_1):vy X rl (e::es) (ay fa fs):=by
 obtain⟨t,p1,k1⟩:=h1;obtain⟨ts,p2,k2⟩:=h2;refine⟨_,bc p1 p2 hs,fun R Qd Q q k=>?_⟩;refine k1 R _ _ q fun v w F1 H1 g1 r1 n1 q1=>?_;obtain⟨F2,g2,s2,r2⟩:=ca.fz g1 r1 n1;refine k2 (R.grow g2) _ _ q1 fun vs ws F3 H3 g3 r3 q3=>?_;exact k (v::vs) (w.fz::ws) F3 H3 (g2.trans g3) (.cons (r2.grow g3) r3) q3
noncomputable def u_(X:Cx)(rl:Option Addr)(r:R2)(g:W->W->(W->Prop)->Prop):Prop:=∀{F H:Hp}{x y:V}{wx wy:W}(Qd:W->Prop)(Q:VK),aS F H->vw rl F H->ca X.K rl F H x wx->ca X.K rl F H y wy->g wx wy Qd ->
 (∀v w F' H',Grow rl F H F' H'->ca X.K rl F' H' v w->c8 H v w->Qd w->Q v H')->r x y H Q
noncomputable def tZ(g:W->W->(W->Prop)->Prop)(fa fb:TV):TV:=fun ρ Q=>fa ρ fun x=>fb ρ fun y=>g x y Q
theorem g_{r:R2}{g:W->W->(W->Prop)->Prop}(vo:u_ X rl r g)(ha:PV X rl a fa)(hb:PV X rl b fb){e:Expr}(hp:∀ta tb,PE X a ta->PE X b tb->PE X e (uh r ta tb)):PV X rl e (tZ g fa fb):=by
 obtain⟨ta,p1,k1⟩:=ha;obtain⟨tb,p2,k2⟩:=hb;refine⟨_,hp ta tb p1 p2,fun R Qd Q q k=>?_⟩;refine k1 R _ _ q fun v w F1 H1 g1 r1 n1 q1=>?_;refine k2 (R.grow g1) _ _ q1 fun v2 w2 F2 H2 g2 r2 n2 q2=>?_
 exact vo Qd Q g2.sub g2.reel (r1.grow g2) r2 q2 fun v3 w3 F3 H3 g3 r3 n3 q3=>k v3 w3 F3 H3 ((g1.trans g2).trans g3) r3 (by
  cases w3 with
  | ml xs=>exact fun a ea=>g1.freeB (g2.freeB (n3 a ea))
  | md xs=>exact fun a ea=>g1.freeB (g2.freeB (n3 a ea))
  | mk xs=>exact fun a ea=>g1.freeB (g2.freeB (n3 a ea))
  | xm xs=>exact fun a ea=>g1.freeB (g2.freeB (n3 a ea))
  | nt _=>trivial
  | lk=>trivial
  | sc _=>trivial
  | fd _=>trivial
  | xr _=>trivial
  | fw _=>trivial
  | ft _=>trivial
  | xc _ _=>trivial
  | dp _ _=>trivial
  | d _=>trivial
  | pk _=>trivial
  | reel=>trivial
  | vv _=>trivial) q3
theorem fB{op:Operator}{r:R2}{g:W->W->(W->Prop)->Prop}(ho:vI X (z6 op) r)(vo:u_ X rl r g)(ha:PV X rl a fa)(hb:PV X rl b fb):PV X rl (.BinOp a op b pos) (tZ g fa fb) :=
 g_ vo ha hb fun _ _ p1 p2=>bB ho p1 p2
noncomputable def gI(C:Int->Int->Prop)(g:Int->Int->v7):W->W->(W->Prop)->Prop:=fun x y Q=>∃i j,x = .d (.int i)/\y = .d (.int j)/\C i j/\Q (.d (g i j))
theorem aT{K:W.Frag}{i:Int}(h:Rep K F v (.int i)):v = .int i:=by cases h;rfl
theorem dE{C:Int->Int->Prop}{g:Int->Int->V}{gd:Int->Int->v7}(h:∀K F i j,Rep K F (g i j) (gd i j)):u_ X rl (rI C g) (gI C gd):=fun{F H x y wx wy} Qd Q s ra r1 r2 q k=>by
 obtain⟨i,j,rfl,rfl,c,q⟩:=q;exact⟨i,j,aT r1,aT r2,c,k _ (.d _) _ _ (Grow.refl s ra) (h _ _ i j) trivial q⟩
noncomputable def uX(g:Int->Int->v7):W->W->(W->Prop)->Prop:=fun x y Q=>∃i j,x = .d (.int i)/\y = .d (.int j)/\Q (.d (g i j))
theorem cK{g:Int->Int->V}{gd:Int->Int->v7}(h:∀K F i j,Rep K F (g i j) (gd i j)):u_ X rl (uy g) (uX gd):=fun{F H x y wx wy} Qd Q s ra r1 r2 q k=>by
 obtain⟨i,j,rfl,rfl,q⟩:=q;exact⟨i,j,aT r1,aT r2,k _ (.d _) _ _ (Grow.refl s ra) (h _ _ i j) trivial q⟩
theorem v_add(ha:PV X rl a fa)(hb:PV X rl b fb):PV X rl (.BinOp a .Add b pos) (tZ (uX fun i j=>.int (i+j)) fa fb):=fB dr (cK fun _ _ _ _=>.int _) ha hb
theorem v_sub(ha:PV X rl a fa)(hb:PV X rl b fb):PV X rl (.BinOp a .Sub b pos) (tZ (uX fun i j=>.int (i-j)) fa fb):=fB n8 (cK fun _ _ _ _=>.int _) ha hb
noncomputable def vY(i:Int):Prop:=i.natAbs<2^60000
theorem vY.bits{i:Int}(h:vY i):Builtin.Int.intBits i<=60000:=AV.mpr h
noncomputable def ba(i j:Int):Prop:=i.natAbs<2^64\/j.natAbs<2^64\/(vY i/\vY j)
theorem ba.lt{i j:Int}(h:i.natAbs<2^64):ba i j:=.inl h
theorem ba.rt{i j:Int}(h:j.natAbs<2^64):ba i j:=.inr (.inl h)
theorem ba.bb{i j:Int}(h:vY i)(h':vY j):ba i j:=.inr (.inr ⟨h,h'⟩)
theorem ba.ok{i j:Int}(h:ba i j):IntMulOk i j:=by
 rcases h with h|h|h
 · exact .of_left (AV.mpr h)
 · exact .of_right (AV.mpr h)
 · exact IntMulOk.of_le h.1.bits h.2.bits (by decide)
theorem cZ:vI X (z6 .Mult) (rI ba fun i j=>.int (i*j)):=uD fun _ _ _ _ _ _ _ hc q=>mul_int q hc.ok
theorem v_mul(ha:PV X rl a fa)(hb:PV X rl b fb):PV X rl (.BinOp a .Mult b pos) (tZ (gI ba fun i j=>.int (i*j)) fa fb):=fB cZ (dE fun _ _ _ _=>.int _) ha hb
noncomputable def bP(_ j:Int):Prop:=j≠0/\j.natAbs<2^9000
theorem ga:vI X (z6 .FloorDiv) (rI bP fun i j=>.int (i.fdiv j)):=uD fun _ j _ _ _ _ _ hc q=>floordiv_int hc.1 q (.inl (PyProof.noPylong_of_log2 ((Nat.log2_lt (by have:=hc.1;omega)).mpr hc.2)))
theorem v_div(ha:PV X rl a fa)(hb:PV X rl b fb):PV X rl (.BinOp a .FloorDiv b pos) (tZ (gI bP fun i j=>.int (i.fdiv j)) fa fb):=fB ga (dE fun _ _ _ _=>.int _) ha hb
theorem v_mod(ha:PV X rl a fa)(hb:PV X rl b fb):PV X rl (.BinOp a .Mod b pos) (tZ (gI (fun _ j=>j≠0) fun i j=>.int (i.fmod j)) fa fb):=fB bJ (dE fun _ _ _ _=>.int _) ha hb
theorem v_pow(ha:PV X rl a fa)(hb:PV X rl b fb):PV X rl (.BinOp a .Pow b pos) (tZ (gI po fun i j=>.int (i^j.toNat)) fa fb):=fB kK (dE fun _ _ _ _=>.int _) ha hb
noncomputable def pM(fa:TV):TV:=fun ρ Q=>fa ρ fun x=>∃i,x = .d (.int i)/\Q (.d (.int (-i)))
theorem mV(ha:PV X rl a fa):PV X rl (.UnaryOp .USub a pos) (pM fa):=by
 obtain⟨ta,p1,k1⟩:=ha;refine⟨_,nY kF p1,fun R Qd Q q k=>k1 R _ _ q fun v w F1 H1 g1 r1 n1 ⟨i,ew,q1⟩=>?_⟩;subst ew;exact⟨i,aT r1,k _ (.d _) F1 H1 g1 (.int _) trivial q1⟩
theorem pH{op:CmpOp}{r:R2}{g:W->W->(W->Prop)->Prop}(ho:vI X (yP op) r)(vo:u_ X rl r g)(hm:zd op b=false)(ha:PV X rl a fa)(hb:PV X rl b fb):PV X rl (.Compare a [op] [b] pos) (tZ g fa fb) :=
 g_ vo ha hb fun _ _ p1 p2=>lS ho p1 p2 hm
noncomputable def jD(f:TV):TB:=fun ρ Q=>f ρ fun w=>∃k,w = .d (.bool k)/\Q k
theorem iq{K:W.Frag}{i:Bool}(h:Rep K F v (.bool i)):v = .bl i:=by cases h;rfl
theorem bo{op:CmpOp}{r:R2}{g:W->W->(W->Prop)->Prop}(ho:vI X (yP op) r)(vo:u_ X rl r g)(hm:zd op b=false)(ha:PV X rl a fa)(hb:PV X rl b fb):PB X rl (.Compare a [op] [b] pos) (jD (tZ g fa fb)):=by
 obtain⟨ta,p1,k1⟩:=ha;obtain⟨tb,p2,k2⟩:=hb;refine⟨_,ci ho p1 p2 hm,fun R Qd Q q k=>?_⟩;refine k1 R _ _ q fun v w F1 H1 g1 r1 n1 q1=>?_;refine k2 (R.grow g1) _ _ q1 fun v2 w2 F2 H2 g2 r2 n2 q2=>?_;refine vo _ _ g2.sub g2.reel (r1.grow g2) r2 q2 fun v3 w3 F3 H3 g3 r3 n3 ⟨kb,ew,q3⟩=>?_;subst ew;exact⟨kb,iq r3,k kb F3 H3 ((g1.trans g2).trans g3) q3⟩
theorem mR(ha:PV X rl e fa)(he:autoParam (∀whole,isTrue e X.env whole=(do let v <- whole;standAt e.pos;BA [v] (truthy v))) æc._auto_1):PB X rl e (jD fa):=by
 obtain⟨ta,p1,k1⟩:=ha;refine⟨_,nT p1 he,fun R Qd Q q k=>k1 R _ _ q fun v w F1 H1 g1 r1 n1 ⟨kb,ew,q1⟩=>?_⟩;subst ew;exact⟨kb,iq r1,k kb F1 H1 g1 q1⟩
abbrev sv(p:Int->Int->Bool):=uX fun i j=>.bool (p i j)
theorem mL:u_ X rl (uy fun i j=>.bl (decide (i<j))) (sv fun i j=>decide (i<j)):=cK fun _ _ _ _=>.bl _
theorem hC:u_ X rl (uy fun i j=>.bl (decide (j<i))) (sv fun i j=>decide (j<i)):=cK fun _ _ _ _=>.bl _
noncomputable def p7(K:W.Frag)(neg:Bool):R2:=fun x y H Q=>∃dx dy,Rep K H x dx/\Rep K H y dy/\x6 dx=true/\x6 dy=true/\Q (.bl (if neg then !ye dx dy else ye dx dy)) H
theorem n_(hu:X.A.units+64<cLine):vI X (yP .Eq) (p7 X.K false):=by
 intro pins s σ H x y v u Q I rx ry ⟨dx,dy,h1,h2,s1,s2,q⟩;obtain⟨as,a1⟩:=Rep.reads I (.refl H) h1 v rx;obtain⟨bs,a2⟩:=Rep.reads I (.refl H) h2 u ry;exact SeqAt.compareEq_shaped a1 a2 s1 s2 hu ⟨.bl _,H,I,rfl,q⟩
theorem iI(hu:X.A.units+64<cLine):vI X (yP .NotEq) (p7 X.K true):=by
 intro pins s σ H x y v u Q I rx ry ⟨dx,dy,h1,h2,s1,s2,q⟩;obtain⟨as,a1⟩:=Rep.reads I (.refl H) h1 v rx;obtain⟨bs,a2⟩:=Rep.reads I (.refl H) h2 u ry;exact SeqAt.compareNe_shaped a1 a2 s1 s2 hu ⟨.bl _,H,I,rfl,q⟩
noncomputable def qt(neg:Bool):W->W->(W->Prop)->Prop:=fun x y Q=>∃dx dy,x.dat=some dx/\y.dat=some dy/\x6 dx=true/\x6 dy=true/\Q (.d (.bool (if neg then !ye dx dy else ye dx dy)))
theorem fT{neg:Bool}:u_ X rl (p7 X.K neg) (qt neg):=fun{F H x y wx wy} Qd Q s ra r1 r2 q k=>by
 obtain⟨dx,dy,e1,e2,s1,s2,q⟩:=q;exact⟨dx,dy,r1.dat s e1,r2.dat s e2,s1,s2,k _ (.d _) _ _ (Grow.refl s ra) (.bl _) trivial q⟩
noncomputable def sr(neg:Bool):W->W->(W->Prop)->Prop:=fun x y Q=>∃dx ys,x.dat=some dx/\(y.dat=some (.list ys)\/y.dat=some (.tuple ys))/\x6 dx=true/\zm ys=true/\Q (.d (.bool (if neg then !(ys.any fun z=>ye z dx)else ys.any fun z=>ye z dx)))
noncomputable def rK(f g:TB):TB:=fun ρ Q=>f ρ fun b=>if b=true then g ρ Q else Q false
noncomputable def tX(f g:TB):TB:=fun ρ Q=>f ρ fun b=>if b=true then Q true else g ρ Q
noncomputable def sI(f:TB):TB:=fun ρ Q=>f ρ fun b=>Q (!b)
noncomputable def vH(X:Cx)(rl:Option Addr)(e:Expr)(f:TB):Prop:=∃t,PW X e t/\∀{F₀ H₀ F H:Hp}{σ:St}{ρ:En},VR X.K rl F₀ H₀ F H σ ρ->∀(Qd:Bool->Prop)(Q:Bool->Hp->Prop),f ρ Qd ->
 (∀b F' H',Grow rl F H F' H'->Qd b->Q b H')->t σ H Q
variable{f g:TB}{rest:List Expr}
theorem vH.pb(h:vH X rl e f):PB X rl e f:=let ⟨t,p,k⟩:=h;⟨t,p.pt,k⟩
theorem mT(ha:PB X rl a f):vH X rl (.BoolOp .Or [a] pos) f:=let ⟨t,p,k⟩:=ha;⟨t,nP p,k⟩
theorem pF(ha:PB X rl a f)(hb:vH X rl (.BoolOp .Or (b::rest) pos) g):vH X rl (.BoolOp .Or (a::b::rest) pos) (tX f g):=by
 obtain⟨t,p,k⟩:=ha;obtain⟨t2,p2,k2⟩:=hb;refine⟨_,p8 p p2,fun R Qd Q q h=>k R _ _ q fun c F1 H1 g1 q1=>?_⟩
 cases c with
 | true=>exact h true F1 H1 g1 q1
 | false=>exact k2 (R.grow g1) _ _ q1 fun c F2 H2 g2 q2=>h c F2 H2 (g1.trans g2) q2
noncomputable def ni(fa fb:TV):TV:=fun ρ Q=>fa ρ fun w=>∃c,w = .d (.bool c)/\if c=true then fb ρ Q else Q (.d (.bool false))
noncomputable def rH(fa fb:TV):TV:=fun ρ Q=>fa ρ fun w=>∃c,w = .d (.bool c)/\if c=true then Q (.d (.bool true))else fb ρ Q
noncomputable def m9(fa:TV):TV:=fun ρ Q=>fa ρ fun w=>∃c,w = .d (.bool c)/\Q (.d (.bool (!c)))
theorem c8.back{rl:Option Addr}{w:W}(g:Grow rl F H F' H')(n:c8 H' v w):c8 H v w:=by
 cases w with
 | ml xs=>exact fun a ea=>g.freeB (n a ea)
 | md xs=>exact fun a ea=>g.freeB (n a ea)
 | mk xs=>exact fun a ea=>g.freeB (n a ea)
 | xm xs=>exact fun a ea=>g.freeB (n a ea)
 | nt _=>trivial
 | lk=>trivial
 | sc _=>trivial
 | fd _=>trivial
 | xr _=>trivial
 | fw _=>trivial
 | ft _=>trivial
 | xc _ _=>trivial
 | dp _ _=>trivial
 | d _=>trivial
 | pk _=>trivial
 | reel=>trivial
 | vv _=>trivial
noncomputable def t4(t:TB)(fa fb:TV):TV:=fun ρ Q=>t ρ fun c=>if c=true then fa ρ Q else fb ρ Q
theorem lj{c:Expr}(hc:PB X rl c f)(ha:PV X rl a fa)(hb:PV X rl b fb):PV X rl (.IfExp c a b pos) (t4 f fa fb):=by
 obtain⟨t,p,k⟩:=hc;obtain⟨t1,p1,k1⟩:=ha;obtain⟨t2,p2,k2⟩:=hb;refine⟨_,jR p p1 p2,fun R Qd Q q h=>k R _ _ q fun c F1 H1 g1 q1=>?_⟩
 cases c with
 | true=>exact k1 (R.grow g1) _ _ q1 fun v w F2 H2 g2 r2 n2 q2=>h v w F2 H2 (g1.trans g2) r2 (n2.back g1) q2
 | false=>exact k2 (R.grow g1) _ _ q1 fun v w F2 H2 g2 r2 n2 q2=>h v w F2 H2 (g1.trans g2) r2 (n2.back g1) q2
noncomputable def dZ:List W->Option (List v7)
 | []=>some []
 | .d x::r=>(dZ r).map (x :: ·)
 | _::_=>none
theorem b9{K:W.Frag}{F H:Hp}:∀{vs:List V}{ws:List W}{ds:List v7},cI K rl F H vs ws->dZ ws=some ds->Reps K F vs ds
 | _,_,_,.nil,e=>by cases e;exact .nil
 | _,.d x::ws,ds,.cons r rs,e=>by
   have e:(dZ ws).map (x :: ·)=some ds:=e
   cases q:dZ ws with
   | none=>rw[q]at e;cases e
   | some es=>rw[q]at e;cases e;exact .cons r (b9 rs q)
 | _,.ml x::ws,ds,.cons r rs,e=>by cases(show none=some ds from e)
 | _,.pk x::ws,ds,.cons r rs,e=>by cases(show none=some ds from e)
 | _,.reel::ws,ds,.cons r rs,e=>by cases(show none=some ds from e)
 | _,.vv u::ws,ds,.cons r rs,e=>by cases(show none=some ds from e)
 | _,.md u::ws,ds,.cons r rs,e=>by cases(show none=some ds from e)
 | _,.nt u::ws,ds,.cons r rs,e=>by cases(show none=some ds from e)
 | _,.lk::ws,ds,.cons r rs,e=>by cases(show none=some ds from e)
 | _,.sc _::ws,ds,.cons r rs,e=>by cases(show none=some ds from e)
 | _,.fd _::ws,ds,.cons r rs,e=>by cases(show none=some ds from e)
 | _,.xr _::ws,ds,.cons r rs,e=>by cases(show none=some ds from e)
 | _,.xc _ _::ws,ds,.cons r rs,e=>by cases(show none=some ds from e)
 | _,.mk _::ws,ds,.cons r rs,e=>by cases(show none=some ds from e)
 | _,.xm _::ws,ds,.cons r rs,e=>by cases(show none=some ds from e)
 | _,.fw _::ws,ds,.cons r rs,e=>by cases(show none=some ds from e)
 | _,.ft _::ws,ds,.cons r rs,e=>by cases(show none=some ds from e)
 | _,.dp _ _::ws,ds,.cons r rs,e=>by cases(show none=some ds from e)
noncomputable def pJ(fs:vb):TV:=fun ρ Q=>fs ρ fun ws=>∃ds,dZ ws=some ds/\ds.length<=sizeLine/\Q (.d (.tuple ds))
noncomputable def pN(fs:vb):TV:=fun ρ Q=>fs ρ fun ws=>∃ds,dZ ws=some ds/\ds.length<=sizeLine/\Q (.ml ds)
theorem dG{x1}(h:vy X rl es fs):PV X rl (.Tuple es x1 pos) (pJ fs):=by
 obtain⟨t,p,k⟩:=h;refine⟨_,nZ p,fun R Qd Q q h=>k R _ _ q fun vs ws F1 H1 g1 r1 ⟨ds,e1,z,q1⟩=>?_⟩;have rs:=b9 r1 e1;refine⟨by rw[rs.length];exact z,fun p hp=>?_⟩;have g2:=g1.trans (Grow.data (a:=p) (o:=.tup vs) g1.sub g1.reel hp);exact h _ (.d (.tuple ds)) _ _ g2 (.tup (.inl (.inl ai)) (rs.mono (Grow.data (o:=.tup vs) g1.sub g1.reel hp).fs)) trivial q1
theorem dP{K:W.Frag}{p:Addr}{ds:List v7}(s:aS F H)(ra:vw rl F H)(hp:H p=none)(rs:Reps K F vs ds):d8 K rl F (upd H p (.lst vs)) (.ref p) ds:=by
 refine⟨p,vs,rfl,s.free hp,fun e=>?_,ai,rs⟩;obtain⟨o,q⟩:=ra.live e;rw[hp]at q;cases q
theorem c_(h:vy X rl es fs):PV X rl (.List es pos) (pN fs):=by
 obtain⟨t,p,k⟩:=h;refine⟨_,kI p,fun R Qd Q q h=>k R _ _ q fun vs ws F1 H1 g1 r1 ⟨ds,e1,z,q1⟩=>?_⟩;have rs:=b9 r1 e1;refine⟨by rw[rs.length];exact z,fun p hp=>?_⟩;exact h _ (.ml ds) _ _ (g1.trans (Grow.laid (a:=p) (o:=.lst vs) g1.sub g1.reel hp)) (dP g1.sub g1.reel hp rs) (fun a ea=>by cases ea;exact g1.freeB hp) q1
noncomputable def itemAt:v7->Int->Option v7
 | .list xs,i=>atI xs i
 | .tuple xs,i=>atI xs i
 | _,_=>none
theorem Reps.atI{K:W.Frag}{F:Hp}{vs:List V}{ds:List v7}{i:Int}{d:v7}(r:Reps K F vs ds)(e:L2.atI ds i=some d):∃v,L2.atI vs i=some v/\Rep K F v d:=by
 unfold L2.atI at e ⊢;rw[r.length]
 cases q:ixN ds.length i with
 | none=>rw[q]at e;cases e
 | some j =>
   rw[q]at e;exact r.get e
noncomputable def uV:W->W->(W->Prop)->Prop:=fun x y Q=>∃dx i z,x.dat=some dx/\y = .d (.int i)/\itemAt dx i=some z/\Q (.d z)
theorem pC:u_ X rl (ux X.K) uV:=fun{F H x y wx wy} Qd Q s ra r1 r2 q k=>by
 obtain⟨dx,i,z,e1,rfl,e3,q⟩:=q;have ey:=aT r2;subst ey
 cases dx with
 | list xs =>
   obtain⟨a,vs,rfl,sq,rs⟩:=r1.items s e1;obtain⟨v,e4,rz⟩:=Reps.atI rs e3
   exact .inl ⟨a,vs,i,v,rfl,rfl,sq,e4,k _ (.d _) _ _ (Grow.refl s ra) rz trivial q⟩
 | tuple xs =>
   obtain⟨a,vs,rfl,sq,rs⟩:=r1.itemsT s e1;obtain⟨v,e4,rz⟩:=Reps.atI rs e3
   exact .inr (.inl ⟨a,vs,i,v,rfl,rfl,sq,e4,k _ (.d _) _ _ (Grow.refl s ra) rz trivial q⟩)
 | none=>cases e3
 | bool b=>cases e3
 | int b=>cases e3
 | str b=>cases e3
 | dict b=>cases e3
theorem bH(ha:PV X rl a fa)(hb:PV X rl b fb)(hs:js b:=by exact fun _ _=>rfl):PV X rl (.Subscript a b pos) (tZ uV fa fb):=g_ pC ha hb fun _ _ p1 p2=>bv aM p1 p2 hs
noncomputable def c6(X:Cx)(rl:Option Addr)(r:List V->Hp->VK->Prop)(g:List W->(W->Prop)->Prop):Prop:=∀{F H:Hp}{vs:List V}{ws:List W}(Qd:W->Prop)(Q:VK),aS F H->vw rl F H->cI X.K rl F H vs ws->g ws Qd ->
 (∀v w F' H',Grow rl F H F' H'->ca X.K rl F' H' v w->c8 H v w->Qd w->Q v H')->r vs H Q
noncomputable def cF(g:List W->(W->Prop)->Prop)(fs:vb):TV:=fun ρ Q=>fs ρ fun ws=>g ws Q
theorem dF{r:List V->Hp->VK->Prop}{g:List W->(W->Prop)->Prop}{t:TA->TE}(vc:c6 X rl r g)(ha:vy X rl es fs){e:Expr}(hp:∀ta,PA X es ta->PE X e (uj r ta)):PV X rl e (cF g fs):=by
 obtain⟨ta,p1,k1⟩:=ha;refine⟨_,hp ta p1,fun R Qd Q q k=>k1 R _ _ q fun vs ws F1 H1 g1 r1 q1=>?_⟩;exact vc Qd Q g1.sub g1.reel r1 q1 fun v w F2 H2 g2 r2 n2 q2=>k v w F2 H2 (g1.trans g2) r2 (n2.back g1) q2
theorem ce{id:String}{r:List V->Hp->VK->Prop}{g:List W->(W->Prop)->Prop}(hc:cb X (.builtin id) r)(vc:c6 X rl r g)(hm:X.mg x=none)(hv:y9 x=some (.builtin id))(ha:vy X rl (e::es) fs)(hg:autoParam (Gl X x) æa._auto_1)(hn:autoParam (x ≠ "__name__") æb._auto_1)(hdb:autoParam ((x==("__debug__" : Str))=false) æb._auto_1)
 (he:autoParam (wm (e::es) X.env=(false,eval e X.env)::wm es X.env) æa._auto_1)(hpl:autoParam ((yr pos (wm es X.env)).any (·.1)=false) æa._auto_1):PV X rl (.Call (.Name x p) (e::es) [] pos) (cF g fs) :=
 dF (t:=fun _=>tC .non) vc ha fun _ p1=>bC hc hg hm hv p1 hn hdb he hpl
theorem jC{T:String}{r:List V->Hp->VK->Prop}{g:List W->(W->Prop)->Prop}(hc:cb X (.type T) r)(vc:c6 X rl r g)(hm:X.mg x=none)(hv:y9 x=some (.type T))(ha:vy X rl (e::es) fs)(hg:autoParam (Gl X x) æa._auto_1)(hn:autoParam (x ≠ "__name__") æb._auto_1)(hdb:autoParam ((x==("__debug__" : Str))=false) æb._auto_1)
 (he:autoParam (wm (e::es) X.env=(false,eval e X.env)::wm es X.env) æa._auto_1)(hpl:autoParam ((yr pos (wm es X.env)).any (·.1)=false) æa._auto_1):PV X rl (.Call (.Name x p) (e::es) [] pos) (cF g fs) :=
 dF (t:=fun _=>tC .non) vc ha fun _ p1=>cX hc hg hm hv p1 hn hdb he hpl
theorem jJ{K:W.Frag}{w:W}(r:cI K rl F H vs [w]):∃v,vs=[v]/\ca K rl F H v w:=by
 cases r with
 | cons r1 r2=>cases r2;exact⟨_,rfl,r1⟩
theorem p5{K:W.Frag}{w w':W}(r:cI K rl F H vs [w,w']):∃v u,vs=[v,u]/\ca K rl F H v w/\ca K rl F H u w':=by
 cases r with
 | cons r1 r2 =>
   cases r2 with
   | cons r3 r4=>cases r4;exact⟨_,_,rfl,r1,r3⟩
noncomputable def pg:List W->(W->Prop)->Prop:=fun ws Q=>∃i,ws=[.d (.int i)]/\Q (.d (.int (if i<0 then -i else i)))
theorem mQ:c6 X rl (fun xs H Q=>∃i,xs=[.int i]/\Q (.int (if i<0 then -i else i)) H) pg:=fun{F H vs ws} Qd Q s ra r ⟨i,ew,q⟩ k=>by
 subst ew;obtain⟨v,rfl,r1⟩:=jJ r;have e:=aT r1;subst e;exact⟨i,rfl,k _ (.d _) _ _ (Grow.refl s ra) (.int _) trivial q⟩
noncomputable def l4:v7->Option Nat
 | .list xs=>some xs.length
 | .tuple xs=>some xs.length
 | _=>none
noncomputable def pd:List W->(W->Prop)->Prop:=fun ws Q=>∃w d n,ws=[w]/\w.dat=some d/\l4 d=some n/\Q (.d (.int n))
theorem mP:c6 X rl (fun xs H Q=>∃p ys,xs=[.ref p]/\(vp X.K H p ys\/vj X.K H p ys)/\Q (.int ys.length) H) pd:=fun{F H vs ws} Qd Q s ra r ⟨w,d,n,ew,e1,e2,q⟩ k=>by
 subst ew;obtain⟨v,rfl,r1⟩:=jJ r
 cases d with
 | list xs =>
   obtain⟨a,vs,rfl,sq,rs⟩:=r1.items s e1;cases e2
   exact⟨a,vs,rfl,.inl sq,k _ (.d _) _ _ (Grow.refl s ra) (by rw[rs.length];exact .int _) trivial q⟩
 | tuple xs =>
   obtain⟨a,vs,rfl,sq,rs⟩:=r1.itemsT s e1;cases e2
   exact⟨a,vs,rfl,.inr sq,k _ (.d _) _ _ (Grow.refl s ra) (by rw[rs.length];exact .int _) trivial q⟩
 | none=>cases e2
 | bool b=>cases e2
 | int b=>cases e2
 | str b=>cases e2
 | dict b=>cases e2
end
structure VEnds where
 nx:En->Prop
 rt:W->Prop
 bk:En->Prop:=fun _=>False
 ct:En->Prop:=fun _=>False
structure EndsOk (K:W.Frag) (rl:Option Addr) (F₀ H₀ Fs:Hp) (Dv:VEnds) (D:Ends):Prop where
 nx:∀F H σ ρ,aS Fs F->VR K rl F₀ H₀ F H σ ρ->Dv.nx ρ->D.nx σ H
 rt:∀v w F H,Grow rl F₀ H₀ F H->ca K rl F H v w->c8 H₀ v w->Dv.rt w->D.rt v H
 bk:∀F H σ ρ,aS Fs F->VR K rl F₀ H₀ F H σ ρ->Dv.bk ρ->D.bk σ H
 ct:∀F H σ ρ,aS Fs F->VR K rl F₀ H₀ F H σ ρ->Dv.ct ρ->D.ct σ H
theorem EndsOk.on{K:W.Frag}{Fs:Hp}{Dv:VEnds}{D:Ends}(ok:EndsOk K rl F₀ H₀ Fs Dv D)(s:aS Fs F):EndsOk K rl F₀ H₀ F Dv D :=
 ⟨fun F1 H σ ρ s1=>ok.nx F1 H σ ρ (s.trans s1),ok.rt,fun F1 H σ ρ s1=>ok.bk F1 H σ ρ (s.trans s1),fun F1 H σ ρ s1=>ok.ct F1 H σ ρ (s.trans s1)⟩
abbrev vd:=VEnds->En->Prop
noncomputable def vB(X:Cx)(rl:Option Addr)(st:Stmt)(t:vd):Prop:=∃T,PS X st T/\∀{F₀ H₀ F H:Hp}{σ:St}{ρ:En},VR X.K rl F₀ H₀ F H σ ρ->∀Dv D,EndsOk X.K rl F₀ H₀ F Dv D->t Dv ρ->T D σ H
noncomputable def gX(X:Cx)(rl:Option Addr)(st:List Stmt)(t:vd):Prop:=∃T,vA X st T/\∀{F₀ H₀ F H:Hp}{σ:St}{ρ:En},VR X.K rl F₀ H₀ F H σ ρ->∀Dv D,EndsOk X.K rl F₀ H₀ F Dv D->t Dv ρ->T D σ H
section
variable{X:Cx}{rl:Option Addr}{st:Stmt}{rest body:List Stmt}{t u:vd}{a b c e:Expr}{es:List Expr}{fa fb:TV}{fs:vb}{f:TB}{pos p:Pos}
noncomputable def m_:vd:=fun D ρ=>D.nx ρ
noncomputable def rE(t u:vd):vd:=fun D ρ=>t {D with nx:=u D} ρ
theorem bY:gX X rl [] m_:=⟨_,dN,fun R Dv D ok q=>ok.nx _ _ _ _ (.refl _) R q⟩
theorem aq(h:vB X rl st t):gX X rl [st] t:=let ⟨T,p,k⟩:=h;⟨T,bS p,k⟩
theorem ah(h:vB X rl st t)(h2:gX X rl rest u):gX X rl (st::rest) (rE t u):=by
 obtain⟨T,p,k⟩:=h;obtain⟨T2,p2,k2⟩:=h2;exact⟨_,aN p p2,fun R Dv D ok q=>k R {Dv with nx:=u Dv} {D with nx:=T2 D} ⟨fun F H σ ρ s' R' q'=>k2 R' Dv D (ok.on s') q',ok.rt,ok.bk,ok.ct⟩ q⟩
noncomputable def pQ(fa:TV):vd:=fun D ρ=>fa ρ fun _=>D.nx ρ
noncomputable def rF(fa:TV):vd:=fun D ρ=>fa ρ D.rt
theorem aG(h:PV X rl e fa):vB X rl (.Return (some e) pos) (rF fa):=by
 obtain⟨t,p,k⟩:=h;exact⟨_,fY p,fun R Dv D ok q=>k R _ _ q fun v w F1 H1 g1 r1 n1 q1=>ok.rt v w F1 H1 (R.g.trans g1) r1 (n1.back R.g) q1⟩
noncomputable def pK:vd:=fun D _=>D.rt (.d .none)
noncomputable def pO(f:TB)(t u:vd):vd:=fun D ρ=>f ρ fun b=>if b=true then t D ρ else u D ρ
theorem dD{A B:List Stmt}(hc:PB X rl c f)(ha:gX X rl A t)(hb:gX X rl B u):vB X rl (.If c A B pos) (pO f t u):=by
 obtain⟨t0,p0,k0⟩:=hc;obtain⟨t1,p1,k1⟩:=ha;obtain⟨t2,p2,k2⟩:=hb;refine⟨_,jM p0 p1 p2,fun R Dv D ok q=>k0 R _ _ q fun b F1 H1 g1 q1=>?_⟩
 cases b with
 | true=>exact k1 (R.grow g1) Dv D (ok.on g1.fs) q1
 | false=>exact k2 (R.grow g1) Dv D (ok.on g1.fs) q1
theorem jz:vB X rl st (fun _ _=>False):=⟨_,jL,fun _ _ _ _ q=>q.elim⟩
noncomputable def W.isPk:W->Bool
 | .pk _=>true
 | _=>false
noncomputable def rC(i:Nat)(fa:TV):vd:=fun D ρ=>fa ρ fun w=>w.isPk=false/\D.nx (ρ.set i (some w))
theorem dh(i:Nat){pos':Pos}(hN:X.N.Nodup)(he:PV X rl e fa)(hi:autoParam (X.N[i]?=some x) æa._auto_1)(hx:autoParam (Loc X.env.scope x) æf._auto_1)
 (hs:autoParam (Af e (some (.Name x pos')) pos.line X.env=pure false) æa._auto_1)(hf:autoParam (X.fn x=true\/X.env.scope.names.lookup x=some .local) æg._auto_1) :
 vB X rl (.Assign [.Name x pos'] e pos) (rC i fa):=by
 obtain⟨t,p,k⟩:=he;refine⟨_,cC hN hi hx p hs hf,fun R Dv D ok q=>k R _ _ q fun v w F1 H1 g1 r1 n1 ⟨hp,q1⟩=>?_⟩;exact ok.nx _ _ _ _ g1.fs (R.set g1 r1 n1 (fun xs z=>by subst z;cases hp) i) q1
noncomputable def kz(ρ:En):Prop:=∀(i:Nat)(w:W),ρ[i]?=some (some w)->w.own=false
theorem kz.set{ρ:En}(h:kz ρ)(i:Nat)(x:v7):kz (ρ.set i (some (.d x))):=fun j w z=>by
 rw[xg]at z;split at z
 · split at z
   · cases z;rfl
   · cases z
 · exact h j w z
abbrev vf:=v7->En->(En->Prop)->Prop
abbrev g7:=List v7->En->(En->Prop)->Prop
noncomputable def vG(X:Cx)(rl:Option Addr)(tg:Expr)(g:vf):Prop:=∃G,PG X tg G/\∀{F₀ H₀ F H:Hp}{σ:St}{ρ:En},VR X.K rl F₀ H₀ F H σ ρ->∀(v:V)(x:v7)(Qd:En->Prop)(Q:St->Hp->Prop),Rep X.K F v x->g x ρ Qd ->
 (∀F' H' σ' ρ',Grow rl F H F' H'->(kz ρ->kz ρ')->VR X.K rl F₀ H₀ F' H' σ' ρ'->Qd ρ'->Q σ' H')->G v σ H Q
noncomputable def pi(X:Cx)(rl:Option Addr)(tgs:List Expr)(g:g7):Prop:=∃G,vF X tgs G/\∀{F₀ H₀ F H:Hp}{σ:St}{ρ:En},VR X.K rl F₀ H₀ F H σ ρ->∀(vs:List V)(xs:List v7)(Qd:En->Prop)(Q:St->Hp->Prop),Reps X.K F vs xs->g xs ρ Qd ->
 (∀F' H' σ' ρ',Grow rl F H F' H'->(kz ρ->kz ρ')->VR X.K rl F₀ H₀ F' H' σ' ρ'->Qd ρ'->Q σ' H')->G vs σ H Q
noncomputable def oC(i:Nat):vf:=fun x ρ Q=>Q (ρ.set i (some (.d x)))
theorem aH(i:Nat)(hN:X.N.Nodup)(hi:autoParam (X.N[i]?=some x) æa._auto_1)(hx:autoParam (Loc X.env.scope x) æf._auto_1)(hf:autoParam (X.fn x=true\/X.env.scope.names.lookup x=some .local) æg._auto_1):vG X rl (.Name x pos) (oC i) :=
 ⟨_,lP hN hi hx hf,fun R v x Qd Q r q k=>k _ _ _ _ (Grow.refl R.sub R.reel) (fun n=>n.set i x) (R.set (w:=.d x) (Grow.refl R.sub R.reel) r trivial (fun _ z=>by cases z) i) q⟩
noncomputable def qm:g7:=fun xs ρ Q=>xs=[]/\Q ρ
noncomputable def j9(g:vf)(gs:g7):g7:=fun xs ρ Q=>∃y r,xs=y::r/\g y ρ fun ρ'=>gs r ρ' Q
theorem cU:pi X rl [] qm:=⟨_,lO,fun R vs xs Qd Q r ⟨e,q⟩ k=>by subst e;exact⟨r.nil_iff,k _ _ _ _ (Grow.refl R.sub R.reel) (fun n=>n) R q⟩⟩
theorem aZ{g:vf}{gs:g7}(h1:vG X rl e g)(h2:pi X rl es gs)(hs:autoParam ((yn (e::es) X.env).map (·.2)=BQ e X.env::(yn es X.env).map (·.2)) æa._auto_1):pi X rl (e::es) (j9 g gs):=by
 obtain⟨G,p,k⟩:=h1;obtain⟨G2,p2,k2⟩:=h2;refine⟨_,jO p p2 hs,fun R vs xs Qd Q r ⟨y,ys,ex,q⟩ h=>?_⟩;subst ex
 cases r with
 | cons r1 r2 =>
   refine⟨_,_,rfl,k R _ y _ _ r1 q fun F1 H1 σ1 ρ1 s1 n1 R1 q1=>?_⟩;exact k2 R1 _ ys _ _ (r2.mono s1.fs) q1 fun F2 H2 σ2 ρ2 s2 n2 R2 q2=>h F2 H2 σ2 ρ2 (s1.trans s2) (fun n=>n2 (n1 n)) R2 q2
noncomputable def qk(n:Nat)(gs:g7):vf:=fun x ρ Q=>∃xs,x = .tuple xs/\xs.length=n/\gs xs ρ Q
theorem d_{kk:Nat}{gs:g7}(hc:X.calm=true)(h:pi X rl es gs)(hn:autoParam ((yn es X.env).length=n) æa._auto_1)(hst:autoParam ((yn es X.env).findIdx? (·.1)=none) æa._auto_1):vG X rl (.Tuple es kk pos) (qk n gs):=by
 obtain⟨G,p,k⟩:=h;refine⟨_,nX hc p hn hst,fun R v x Qd Q r ⟨xs,ex,hl,q⟩ h=>?_⟩;subst ex
 cases r with
 | tup sq rs=>exact⟨_,_,rfl,dJ R.sub sq,by rw[rs.length];exact hl,k R _ xs _ _ rs q h⟩
noncomputable def pR(fa:TV)(g:vf):vd:=fun D ρ=>fa ρ fun w=>∃x,w = .d x/\g x ρ D.nx
theorem g9{g:vf}(he:PV X rl e fa)(hg:vG X rl tg g)(hs:autoParam (Am [tg] e pos.line X.env=pure false) æa._auto_1)(hw:autoParam (An [tg] e X.env=pure none) æa._auto_1)
 (h1:autoParam ((yn [tg] X.env).map (·.2)=[BQ tg X.env]) æa._auto_1):vB X rl (.Assign [tg] e pos) (pR fa g):=by
 obtain⟨t,p,k⟩:=he;obtain⟨G,p2,k2⟩:=hg;refine⟨_,eO p p2 hs hw h1,fun R Dv D ok q=>k R _ _ q fun v w F1 H1 g1 r1 n1 ⟨x,ew,q1⟩=>?_⟩;subst ew;exact k2 (R.grow g1) v x _ _ r1 q1 fun F2 H2 σ2 ρ2 s2 n2 R2 q2=>ok.nx _ _ _ _ (g1.fs.trans s2.fs) R2 q2
noncomputable def rG(i j:Nat)(fs:vb):vd:=fun D ρ=>fs ρ fun ws=>∃x y,dZ ws=some [x,y]/\D.nx ((ρ.set i (some (.d x))).set j (some (.d y)))
theorem cS(i j:Nat){y:Str}{px py pt:Pos}{kt k2 pt2}(hc:X.calm=true)(hN:X.N.Nodup)(ha:vy X rl [a,b] fs)
 (hw:autoParam (An [.Tuple [.Name x px,.Name y py] kt pt] (.Tuple [a,b] k2 pt2) X.env=pure (some [x,y])) æa._auto_1)(hi:autoParam (X.N[i]?=some x) æa._auto_1)(hj:autoParam (X.N[j]?=some y) æa._auto_1)(hij:autoParam (i≠j) æb._auto_1)
 (hx:autoParam (X.env.scope.names.lookup x=some .local) æa._auto_1)(hy:autoParam (X.env.scope.names.lookup y=some .local) æa._auto_1)
 (hs:autoParam (Am [.Tuple [.Name x px,.Name y py] kt pt] (.Tuple [a,b] k2 pt2) pos.line X.env=pure false) æa._auto_1) :
 vB X rl (.Assign [.Tuple [.Name x px,.Name y py] kt pt] (.Tuple [a,b] k2 pt2) pos) (rG i j fs):=by
 obtain⟨t,p,k⟩:=ha;refine⟨_,nU hc hN hi hj hij hx hy p hw hs,fun R Dv D ok q=>k R _ _ q fun vs ws F1 H1 g1 r1 ⟨x,y,e1,q1⟩=>?_⟩;have rs:=b9 r1 e1
 cases rs with
 | cons rx rs =>
   cases rs with
   | cons ry rs =>
     cases rs;have R1:=(R.grow g1).set (w:=.d x) (Grow.refl g1.sub g1.reel) rx trivial (fun _ z=>by cases z) i;exact⟨_,_,rfl,ok.nx _ _ _ _ g1.fs (R1.set (w:=.d y) (Grow.refl g1.sub g1.reel) ry trivial (fun _ z=>by cases z) j) q1⟩
structure VIt (K:W.Frag) (rl:Option Addr) (F:Hp) (J:It) (xs:List v7):Prop where
 go:∀i H x,xs[i]?=some x->aS F H->J.go i H
 stop:∀i H,xs.length<=i->aS F H->J.stop i H
 yld:∀i H v H' x F2,xs[i]?=some x->aS F F2->aS F2 H->vw rl F2 H->J.yld i H v H'->∃F3,Grow rl F2 H F3 H'/\Rep K F3 v x
theorem VIt.of{K:W.Frag}{rl:Option Addr}{J:It}{xs:List v7}(go:∀i H x,xs[i]?=some x->aS F H->J.go i H)(stop:∀i H,xs.length<=i->aS F H->J.stop i H)
 (yld:∀i H v H' x,xs[i]?=some x->aS F H->J.yld i H v H'->H'=H/\Rep K F v x):VIt K rl F J xs :=
 ⟨go,stop,fun i H v H' x F2 e s s2 ra y=>by
  obtain⟨e1,r⟩:=yld i H v H' x e (s.trans s2) y;subst e1
  exact⟨F2,Grow.refl s2 ra,r.mono s⟩⟩
noncomputable def vD(X:Cx)(rl:Option Addr)(tg iter:Expr)(fi:En->(List v7->Prop)->Prop):Prop:=∃wi,PI X tg iter wi/\∀{F₀ H₀ F H:Hp}{σ:St}{ρ:En},VR X.K rl F₀ H₀ F H σ ρ->∀(Qd:List v7->Prop)(R:It->Hp->Prop),fi ρ Qd ->
 (∀J xs F' H',Grow rl F H F' H'->VIt X.K rl F' J xs->Qd xs->R J H')->wi σ H R
end
section
variable{X:Cx}{rl:Option Addr}{st:Stmt}{rest body:List Stmt}{t u:vd}{a b c e:Expr}{es:List Expr}{fa fb:TV}{fs:vb}{f:TB}{pos p:Pos}{tg:Expr}
noncomputable def pP(i:Nat)(t:vd):vd:=fun D ρ=>∃xs,ρ[i]?=some (some (.ml xs))/\t D (ρ.set i (some (.d (.list xs))))
theorem kg{K:W.Frag}{ρ:En}(r:VR K rl F₀ H₀ F H σ ρ){xs:List v7}(e:ρ[i]?=some (some (.ml xs))):∃F1,aS F F1/\VR K rl F₀ H₀ F1 H σ (ρ.set i (some (.d (.list xs)))):=by
 obtain⟨v,h1,h2,h3⟩:=r.sl i _ e;obtain⟨a,vs,ev,f,hr,hh,q⟩:=(show d8 K rl F H v xs from h2);obtain⟨F1,R1⟩:=r.freeze e;obtain⟨v',k1,k2,k3⟩:=R1.sl i _ (wC (wo.mp e).1);have neF:∀b u,F b=some u->b≠a:=fun b u q z=>by subst z;rw[f]at q;cases q
 have fsm:aS F (upd F a (.lst vs)):=fun b u z=>by rw[upd_ne (neF b u z)];exact z
 have hi:i<ρ.length:=(wo.mp e).1;refine⟨upd F a (.lst vs),fsm,r.g.freeze (h3 a ev) hh f hr,fun j w e1=>?_,R1.ap,R1.np,R1.len⟩;by_cases hj:i=j
 · subst hj;rw[wC hi]at e1;cases e1;exact⟨v,h1,by rw[ev];exact .lst ai (q.mono fsm),trivial⟩
 · rw[wB hj]at e1;obtain⟨u,g1,g2,g3⟩:=r.sl j w e1;refine⟨u,g1,?_,g3⟩
   cases w with
   | d x=>exact Rep.mono fsm g2
   | reel=>exact g2
   | vv u=>exact g2
   | ml ys =>
     obtain⟨b,us,eb,f1,f2,f3,f4⟩:=(show d8 K rl F H u ys from g2);have ne:b≠a:=fun z=>r.ap i j _ _ v hj e e1 rfl rfl h1 (by rw[g1,eb,z,ev])
     exact⟨b,us,eb,by rw[upd_ne ne];exact f1,f2,f3,f4.mono fsm⟩
   | pk ys=>exact absurd e1 (r.np j ys)
   | md ys =>
     obtain⟨b,us,eb,f1,f2,f3,f4⟩:=(show mG K rl F H u ys from g2);have ne:b≠a:=fun z=>r.ap i j _ _ v hj e e1 rfl rfl h1 (by rw[g1,eb,z,ev])
     exact⟨b,us,eb,by rw[upd_ne ne];exact f1,f2,f3,xT.mapP f4 fun _ _ z=>⟨z.1,z.2.mono fsm⟩⟩
   | mk ys =>
     obtain⟨b,us,eb,f1,f2,f3,f4⟩:=(show mF K rl F H u ys from g2);have ne:b≠a:=fun z=>r.ap i j _ _ v hj e e1 rfl rfl h1 (by rw[g1,eb,z,ev])
     exact⟨b,us,eb,by rw[upd_ne ne];exact f1,f2,f3,xT.mapP f4 fun _ _ z=>⟨z.1,z.2.mono fsm⟩⟩
   | xm ys =>
     obtain⟨b,us,eb,f1,f2,f3,f4⟩:=(show mE K rl F H u ys from g2);have ne:b≠a:=fun z=>r.ap i j _ _ v hj e e1 rfl rfl h1 (by rw[g1,eb,z,ev])
     exact⟨b,us,eb,by rw[upd_ne ne];exact f1,f2,f3,KX.mono f4 fsm⟩
   | nt ds=>obtain⟨b,us,eb,f1,f2⟩:=g2;exact⟨b,us,eb,fsm _ _ f1,f2.mono fsm⟩
   | lk=>trivial
   | sc ns=>obtain⟨b,eb,f1⟩:=g2;exact⟨b,eb,jH fsm f1⟩
   | fd kvs=>obtain⟨b,us,eb,f1,f2⟩:=g2;exact⟨b,us,eb,fsm _ _ f1,xT.mapP f2 fun _ _ z=>⟨z.1,z.2.mono fsm⟩⟩
   | xr kvs=>obtain⟨b,us,eb,f1,f2⟩:=g2;exact⟨b,us,eb,fsm _ _ f1,KX.mono f2 fsm⟩
   | fw kvs=>obtain⟨b,us,o,eb,f1,f2⟩:=g2;exact⟨b,us,o,eb,fsm _ _ f1,xT.mapP f2 fun _ _ z=>⟨z.1,z.2.mono fsm⟩⟩
   | ft kvs=>obtain⟨b,us,o,eb,f1,f2⟩:=g2;exact⟨b,us,o,eb,fsm _ _ f1,xT.mapP f2 fun _ _ z=>⟨z.1,z.2.mono fsm⟩⟩
   | xc _ _=>obtain⟨b,dx,us,C,eb,n,f1,f3,f2⟩:=g2;exact⟨b,dx,us,C,eb,n,fsm _ _ f1,fsm _ _ f3,xT.mapP f2 fun _ _ z=>⟨z.1,z.2.mono fsm⟩⟩
   | dp _ _=>obtain⟨c,b,us,u,o,eb,f1,f3,f2,z⟩:=g2;exact⟨c,b,us,u,o,eb,fsm _ _ f1,fsm _ _ f3,xT.mapP f2 fun _ _ z=>⟨z.1,z.2.mono fsm⟩,z.mono fsm⟩
theorem mK(i:Nat)(h:vB X rl st t):vB X rl st (pP i t):=by
 obtain⟨T,p,k⟩:=h;refine⟨T,p,fun R Dv D ok ⟨xs,e,q⟩=>?_⟩;obtain⟨F1,s1,R1⟩:=kg R e;exact k R1 Dv D (ok.on s1) q
noncomputable def iL(fa:TV):En->(List v7->Prop)->Prop:=fun ρ Q=>fa ρ fun w=>∃xs,w.fz = .d (.list xs)/\Q xs
noncomputable def iT(fa:TV):En->(List v7->Prop)->Prop:=fun ρ Q=>fa ρ fun w=>∃xs,w.fz = .d (.tuple xs)/\Q xs
theorem hG{l:Expr}(hl:PV X rl l fa):vD X rl tg l (iL fa):=by
 obtain⟨t,p,k⟩:=hl;refine⟨_,lN p,fun R Qd Q q h=>k R _ _ q fun v w F1 H1 g1 r1 n1 ⟨xs,ew,q1⟩=>?_⟩;obtain⟨F2,g2,s2,r2⟩:=ca.fz g1 r1 n1;rw[ew]at r2
 cases(show Rep X.K F2 v (.list xs)from r2)with
 | @lst a vs _ sq rs =>
   have sqH:∀H,aS F2 H->vp X.K H a vs:=fun H s=>.inl (.inl (s _ _ sq));refine⟨a,rfl,⟨vs,sqH H1 g2.sub⟩,h _ xs F2 H1 g2 (.of (fun i H x e s=>?_) (fun i H hl s=>⟨vs,sqH H s,by rw[rs.length];exact hl⟩) (fun i H v H' x e s y=>?_)) q1⟩
   · obtain⟨v,ev,_⟩:=rs.get e;exact⟨vs,v,sqH H s,ev⟩
   · obtain⟨e',hy⟩:=y;obtain⟨v',ev,rv⟩:=rs.get e;have:=hy vs (sqH H s);rw[ev]at this;cases this;exact⟨e',rv⟩
theorem kA{l:Expr}(hl:PV X rl l fa):vD X rl tg l (iT fa):=by
 obtain⟨t,p,k⟩:=hl;refine⟨_,nW p,fun R Qd Q q h=>k R _ _ q fun v w F1 H1 g1 r1 n1 ⟨xs,ew,q1⟩=>?_⟩;obtain⟨F2,g2,s2,r2⟩:=ca.fz g1 r1 n1;rw[ew]at r2
 cases(show Rep X.K F2 v (.tuple xs)from r2)with
 | @tup a vs _ sq rs =>
   have sqH:∀H,aS F2 H->vj X.K H a vs:=fun H s=>dJ s sq;refine⟨a,rfl,⟨vs,sqH H1 g2.sub⟩,h _ xs F2 H1 g2 (.of (fun i H x e s=>?_) (fun i H hl s=>⟨vs,sqH H s,by rw[rs.length];exact hl⟩) (fun i H v H' x e s y=>?_)) q1⟩
   · obtain⟨v,ev,_⟩:=rs.get e;exact⟨vs,v,sqH H s,ev⟩
   · obtain⟨e',hy⟩:=y;obtain⟨v',ev,rv⟩:=rs.get e;have:=hy vs (sqH H s);rw[ev]at this;cases this;exact⟨e',rv⟩
noncomputable def au(lo:Int)(n:Nat):List v7:=(wI n).map fun(i:Nat)=>.int (lo+i)
theorem dq{lo:Int}{x:v7}(h:(au lo n)[i]?=some x):i<n/\x = .int (lo+i):=by
 unfold au at h;rw[xf]at h;by_cases hi:i<n
 · rw[wz (by simpa using hi)]at h;simp at h;exact⟨hi,h.symm⟩
 · rw[List.getElem?_eq_none (by simpa using hi)]at h;cases h
theorem bA{lo:Int}:(au lo n).length=n:=by simp[au]
theorem hE{K:W.Frag}(lo:Int)(n:Nat):VIt K rl F (vS lo n) (au lo n) :=
 .of (fun i H x e s=>(dq e).1) (fun i H hl s=>by rw[bA]at hl;exact hl) (fun i H v H' x e s y=>by
  obtain⟨e1,e2⟩:=y;subst e2;rw[(dq e).2]
  exact⟨e1,.int _⟩)
noncomputable def uS(fs:vb):En->(List v7->Prop)->Prop:=fun ρ Q=>fs ρ fun ws=>∃j:Int,ws=[.d (.int j)]/\(-(2^62)<=j/\j<2^62)/\Q (au 0 j.toNat)
noncomputable def uR(fs:vb):En->(List v7->Prop)->Prop:=fun ρ Q=>fs ρ fun ws=>∃i j:Int,ws=[.d (.int i),.d (.int j)]/\(-(2^62)<=i/\i<2^62 /\ -(2^62)<=j/\j<2^62)/\Q (au i (j-i).toNat)
theorem bZ(hm:X.mg "range" = none)(ha:vy X rl [a] fs)(hg:autoParam (Gl X "range") æa._auto_1)(hs:autoParam (wm [a] X.env=[(false,eval a X.env)]) æa._auto_1):vD X rl tg (.Call (.Name "range" p) [a] [] pos) (uS fs):=by
 obtain⟨t,p1,k⟩:=ha;refine⟨_,iD hg hm p1 hs,fun R Qd Q q h=>k R _ _ q fun vs ws F1 H1 g1 r1 ⟨j,ew,b,q1⟩=>?_⟩;subst ew;obtain⟨v,rfl,rv⟩:=jJ r1;have e:=aT rv;subst e;exact⟨j,rfl,b.1,b.2,h _ _ F1 H1 g1 (hE 0 _) q1⟩
theorem VR.own{K:W.Frag}{F₀ H₀ F H:Hp}{σ:St}{ρ:En}(r:VR K rl F₀ H₀ F H σ ρ){i:Nat}{xs ys:List v7}{a:Addr}{us:List V}(e:ρ[i]?=some (some (.ml xs)))(es:σ[i]?=some (some (.ref a)))(rs:Reps K F us ys) :
 VR K rl F₀ H₀ F (upd H a (.lst us)) σ (ρ.set i (some (.ml ys))):=by
 obtain⟨v,h1,h2,h3⟩:=r.sl i _ e;rw[es]at h1;cases h1;obtain⟨a',vs,ev,f,hr,hh,q⟩:=(show d8 K rl F H (.ref a) xs from h2);cases ev;have n0:H₀ a=none:=h3 a rfl;have hi:i<ρ.length:=(wo.mp e).1;have neF:∀b u,F b=some u->b≠a:=fun b u q z=>by subst z;rw[f]at q;cases q
 have g:Grow rl F₀ H₀ F (upd H a (.lst us)):=by
  refine⟨fun b o q1 n=>by rw[upd_ne (aw q1 n0)];exact r.g.same b o q1 n,r.g.fs,fun b o q1=>by rw[upd_ne (neF b o q1)];exact r.sub b o q1,r.g.old,fun y z=>?_⟩;obtain⟨z1,⟨u,h1,h2⟩⟩:=r.reel y z;exact⟨z1,⟨u,by rw[upd_ne (fun q=>hr (by rw[<- q];exact z))];exact h1,h2⟩⟩
 refine⟨g,fun j w e1=>?_,fun j k ys' zs u hjk e1 e2 w1 w2 s1 s2=>?_,fun j ys' z=>?_,by simp[r.len]⟩
 · by_cases hj:i=j
   · subst hj;rw[wC hi]at e1;cases e1;exact⟨_,es,⟨a,us,rfl,f,hr,ai,rs⟩,h3⟩
   · rw[wB hj]at e1;obtain⟨u,g1,g2,g3⟩:=r.sl j w e1;refine⟨u,g1,?_,g3⟩
     cases w with
     | d x=>exact g2
     | reel=>exact g2
     | vv u=>exact g2
     | ml zs =>
       obtain⟨b,us',eb,f1,f2,f3,f4⟩:=(show d8 K rl F H u zs from g2);have ne:b≠a:=fun z=>r.ap i j _ _ (.ref a) hj e e1 rfl rfl es (by rw[g1,eb,z])
       exact⟨b,us',eb,f1,f2,by rw[upd_ne ne];exact f3,f4⟩
     | pk zs=>exact absurd e1 (r.np j zs)
     | md zs =>
       obtain⟨b,us',eb,f1,f2,f3,f4⟩:=(show mG K rl F H u zs from g2);have ne:b≠a:=fun z=>r.ap i j _ _ (.ref a) hj e e1 rfl rfl es (by rw[g1,eb,z])
       exact⟨b,us',eb,f1,f2,by rw[upd_ne ne];exact f3,f4⟩
     | mk zs =>
       obtain⟨b,us',eb,f1,f2,f3,f4⟩:=(show mF K rl F H u zs from g2);have ne:b≠a:=fun z=>r.ap i j _ _ (.ref a) hj e e1 rfl rfl es (by rw[g1,eb,z])
       exact⟨b,us',eb,f1,f2,by rw[upd_ne ne];exact f3,f4⟩
     | xm zs =>
       obtain⟨b,us',eb,f1,f2,f3,f4⟩:=(show mE K rl F H u zs from g2);have ne:b≠a:=fun z=>r.ap i j _ _ (.ref a) hj e e1 rfl rfl es (by rw[g1,eb,z])
       exact⟨b,us',eb,f1,f2,by rw[upd_ne ne];exact f3,f4⟩
     | nt ds=>exact g2
     | lk=>trivial
     | sc _=>exact g2
     | fd _=>exact g2
     | xr _=>exact g2
     | fw _=>exact g2
     | ft _=>exact g2
     | xc _ _=>exact g2
     | dp _ _=>exact g2
 · have nd:∀(j:Nat)(z:W),(ρ.set i (some (W.ml ys)))[j]?=some (some z)->z.own=true->∃z',ρ[j]?=some (some z')/\z'.own=true:=fun j zs z o=>by
     by_cases hj:i=j
     · subst hj;exact⟨_,e,rfl⟩
     · rw[wB hj]at z;exact⟨zs,z,o⟩
   obtain⟨_,d1,o1⟩:=nd j _ e1 w1;obtain⟨_,d2,o2⟩:=nd k _ e2 w2;exact r.ap j k _ _ u hjk d1 d2 o1 o2 s1 s2
 · rw[xg]at z;split at z
   · first|cases z|(split at z<;>cases z)
   · exact r.np j ys' z
noncomputable def sA(K:W.Frag)(rl:Option Addr)(r:V->List V->Hp->VK->Prop)(g:List v7->List W->(List v7->Prop)->Prop):Prop :=
 ∀ {F H:Hp}{a:Addr}{vs args:List V}{xs:List v7}{ws:List W}(Qn:List v7->Prop)(Q:VK),aS F H->H a=some (.lst vs)->Reps K F vs xs->cI K rl F H args ws->g xs ws Qn ->
   (∀us ys,Reps K F us ys->Qn ys->Q .non (upd H a (.lst us)))->r (.ref a) args H Q
noncomputable def o7(i:Nat)(g:List v7->List W->(List v7->Prop)->Prop)(fs:vb):vd:=fun D ρ=>∃xs,ρ[i]?=some (some (.ml xs))/\fs ρ fun ws=>g xs ws fun ys=>D.nx (ρ.set i (some (.ml ys)))
theorem mJ(i:Nat){nm:Str}{id:String}{r:V->List V->Hp->VK->Prop}{g:List v7->List W->(List v7->Prop)->Prop}{px apos cpos:Pos}(slot:Slot "list" nm id)(hty:typeOf (.builtin id)=pure (.type "method_descriptor"))(hm:vK X id r)(vm:sA X.K rl r g)(ha:vy X rl (e::es) fs)
 (hN:autoParam (X.N[i]?=some x) æa._auto_1)(hv:autoParam (u9 X.env.scope x) æe._auto_1)
 (hd:autoParam ((x==("__debug__" : Str))=false) æb._auto_1)(hcd:autoParam ((x==("__classdict__" : Str))=false) æb._auto_1)
 (hbase:autoParam (Bc (.Name x px) nm X.env (eval (.Name x px) X.env)=eval (.Name x px) X.env) æa._auto_1)
 (hfew:autoParam (((yr cpos (wm (e::es) X.env)).all (fun x=>!x.1)&&(backToKw cpos (BG [] X.env)).all (fun x=>x.1.isSome)
  && decide ((e::es).length+([]:List Bg).length+(if([]:List Bg).isEmpty then 0 else 1)<30))=true) æa._auto_1)
 (hline:autoParam ((apos.endLine==cpos.line)=true) æa._auto_1)(hs:autoParam (wm (e::es) X.env=(false,eval e X.env)::wm es X.env) æa._auto_1)(hplain:autoParam ((yr cpos (wm es X.env)).any (·.1)=false) æa._auto_1)
 (hsw:autoParam (Af (.Call (.Attribute (.Name x px) nm apos) (e::es) [] cpos) none pos.line X.env=pure false) æa._auto_1) :
 vB X rl (.Expr (.Call (.Attribute (.Name x px) nm apos) (e::es) [] cpos) pos) (o7 i g fs):=by
 obtain⟨t,p1,k⟩:=ha;refine⟨_,lK (p9 PySem.F.plainAttrs_list slot hty hm (iE hN hv hd hcd) p1 hbase hfew hline hs hplain) hsw,fun{F₀ H₀ F H σ ρ} R Dv D ok ⟨xs,e1,q⟩=>?_⟩;obtain⟨v,h1,h2,h3⟩:=R.sl i _ e1;obtain⟨a,vs,rfl,f,hr,hh,rs⟩:=(show d8 X.K rl F H v xs from h2);refine⟨.ref a,h1,.inl ⟨rfl,vs,.inl (.inl hh)⟩,k R _ _ q fun args ws F1 H1 g1 r1 q1=>?_⟩;refine vm _ _ g1.sub (g1.same a _ hh hr) (rs.mono g1.fs) r1 q1 fun us ys r2 q2=>?_;exact ok.nx _ _ _ _ g1.fs ((R.grow g1).own e1 h1 r2) q2
noncomputable def pf:List v7->List W->(List v7->Prop)->Prop:=fun xs ws Q=>∃x,dZ ws=some [x]/\xs.length<sizeLine/\Q (xs++[x])
theorem mM{K:W.Frag}:sA K rl iw pf:=fun{F H a vs args xs ws} Qn Q s ha rs ra ⟨x,e,z,q⟩ k=>by
 have r2:=b9 ra e
 cases r2 with
 | cons rx r3 =>
   cases r3;exact⟨a,vs,_,rfl,rfl,ha,by rw[rs.length];exact z,k _ _ (rs.snoc rx) q⟩
noncomputable def su:List v7->List W->(List v7->Prop)->Prop:=fun xs ws Q=>∃ys,dZ ws=some [.list ys]/\xs.length+ys.length<=sizeLine/\Q (xs++ys)
theorem dj(i:Nat){px apos cpos:Pos}(ha:vy X rl [e] fs)(hN:autoParam (X.N[i]?=some x) æa._auto_1)(hv:autoParam (u9 X.env.scope x) æe._auto_1)
 (hd:autoParam ((x==("__debug__" : Str))=false) æb._auto_1)(hcd:autoParam ((x==("__classdict__" : Str))=false) æb._auto_1)
 (hbase:autoParam (Bc (.Name x px) "append" X.env (eval (.Name x px) X.env)=eval (.Name x px) X.env) æa._auto_1)
 (hfew:autoParam (((yr cpos (wm [e] X.env)).all (fun x=>!x.1)&&(backToKw cpos (BG [] X.env)).all (fun x=>x.1.isSome)
  && decide (([e]).length+([]:List Bg).length+(if([]:List Bg).isEmpty then 0 else 1)<30))=true) æa._auto_1)
 (hline:autoParam ((apos.endLine==cpos.line)=true) æa._auto_1)(hs:autoParam (wm [e] X.env=(false,eval e X.env)::wm [] X.env) æa._auto_1)(hplain:autoParam ((yr cpos (wm [] X.env)).any (·.1)=false) æa._auto_1)
 (hsw:autoParam (Af (.Call (.Attribute (.Name x px) "append" apos) [e] [] cpos) none pos.line X.env=pure false) æa._auto_1) :
 vB X rl (.Expr (.Call (.Attribute (.Name x px) "append" apos) [e] [] cpos) pos) (o7 i pf fs) :=
 mJ i PySem.F.slot_list_append PySem.F.type_list_append eQ mM ha hN hv hd hcd hbase hfew hline hs hplain hsw
noncomputable def cx:W->Bool
 | .ml _=>false
 | .md _=>false
 | .mk _=>false
 | .xm _=>false
 | .pk _=>false
 | _=>true
noncomputable def tU(K:W.Frag)(rl:Option Addr)(P:List W->(v7->Prop)->Prop):Sp:=fun vs H Q _=>∃F ws,aS F H/\vw rl F H/\cI K rl F H vs ws/\ws.all cx=true/\P ws fun d=>∀v F' H',Grow rl F H F' H'->Rep K F' v d->Q v H'
noncomputable def bQ(N:List Str)(ws:List W):En:=ws.map some++x8 (N.length-ws.length) none
theorem eN{K:W.Frag}{F H:Hp}:∀{vs:List V}{ws:List W}{i:Nat}{w:W},cI K rl F H vs ws->ws[i]?=some w->∃v,vs[i]?=some v/\ca K rl F H v w
 | _,_,_,_,.nil,e=>by simp at e
 | _,_,0,_,.cons h _,e=>by simp at e;subst e;exact⟨_,rfl,h⟩
 | _,_,i+1,w,.cons _ r,e=>by
   obtain⟨v,h1,h2⟩:=eN (i:=i) (w:=w) r (by simpa using e);exact⟨v,by simpa using h1,h2⟩
theorem eA{ws:List W}{w:W}(h:(bQ N ws)[i]?=some (some w)):ws[i]?=some w:=by
 unfold bQ at h;by_cases hi:i<ws.length
 · rw[yQ (by simpa using hi),xf]at h
   cases q:ws[i]? with
   | none=>rw[q]at h;cases h
   | some x=>rw[q]at h;cases h;rfl
 · rw[zY (by simpa using hi),Ao]at h;split at h<;>cases h
theorem fR{K:W.Frag}{ws:List W}(s:aS F H)(ra:vw rl F H)(r:cI K rl F H vs ws)(ok:ws.all cx=true):VR K rl F H F H (start N vs) (bQ N ws):=by
 have hl:vs.length=ws.length:=zF r;have no:∀(i:Nat) w,(bQ N ws)[i]?=some (some w)->cx w=true:=fun i w e=>(zx.mp ok) w (yb (eA e));refine⟨Grow.refl s ra,fun i w e=>?_,fun i j xs ys v _ e1 _ o _ _ _=>(by have:=no i _ e1;cases xs<;>first|exact Bool.noConfusion o|exact Bool.noConfusion this),fun i xs e=>(by have:=no i _ e;cases this),?_⟩
 · obtain⟨v,h1,h2⟩:=eN r (eA e);refine⟨v,?_,h2,?_⟩
   · unfold start;rw[yQ (by simpa using(wo.mp h1).1),xf,h1];rfl
   · have:=no i w e
     cases w with
     | ml xs=>cases this
     | md xs=>cases this
     | mk xs=>cases this
     | xm xs=>cases this
     | nt _=>trivial
     | lk=>trivial
     | sc _=>trivial
     | fd _=>trivial
     | xr _=>trivial
     | fw _=>trivial
     | ft _=>trivial
     | xc _ _=>trivial
     | dp _ _=>trivial
     | d _=>trivial
     | pk _=>trivial
     | reel=>trivial
     | vv _=>trivial
 · unfold bQ start;simp[hl]
noncomputable def jE(Q:v7->Prop):VEnds:=⟨fun _=>Q .none,fun w=>∃d,w.fz = .d d/\Q d,fun _=>False,fun _=>False⟩
theorem tV{P:wD}{w:wR}{K:W.Frag}{mg:Str->Option v9}{base:Heap}{st:Stmt}{fa:Addr}{fd:yj}{Pd:List W->(v7->Prop)->Prop}{t:vd}
 (Fn:Fun K x qual st fa fd)(S:FnScope N ps (defScope st))(len:∀ws Q,Pd ws Q->ws.length=ps.length)
 (hbody:∀(cdv:v9)(A:wS)(outer:List Env)(s:v_)(H:Hp)(E:XK),Room k (A.deeper (At qual (defScope st) s.heap.objs.size fa cdv)) ->
  gX (jw vX P w K mg base N qual (defScope st) fa cdv A outer s H E).nox rl (defBody st) t)
 (hread:∀ws Q,Pd ws Q->t (jE Q) (bQ N ws)):FnOk P w K mg base vX (k+1) fa fd ps (tU K rl Pd):=by
 refine Fn.ok S (fun vs H Q E ⟨F,ws,_,_,r,_,q⟩=>(zF r).trans (len ws _ q)) fun cdv A outer s H vs Q E hr h=>?_;obtain⟨F,ws,sm,ra,r,ok,q⟩:=h;obtain⟨T,p,kk⟩:=hbody cdv A outer s H E hr;refine⟨T,p,kk (fR sm ra r ok) (jE _) _ ⟨?_,?_,fun _ _ _ _ _ _ z=>xJ z,fun _ _ _ _ _ _ z=>xJ z⟩ (hread ws _ q)⟩
 · intro F1 H1 σ1 ρ1 _ R1 q1;exact q1 .non F1 H1 R1.g .non
 · rintro v w1 F1 H1 g1 r1 n1 ⟨d,ed,q1⟩;obtain⟨F2,g2,s2,r2⟩:=ca.fz g1 r1 n1;rw[ed]at r2;exact q1 v F2 H1 g2 r2
structure Dfn (P:wD) (w:wR) (K:W.Frag) (mg:Str->Option v9) (base:Heap) (rl:Option Addr) (x:Str) (ps:List Str) (k:Nat) (Pd:List W->(v7->Prop)->Prop):Prop where
 mono:∀ws Q Q',(∀d,Q d->Q' d)->Pd ws Q->Pd ws Q'
 ex:∃f fd,mg x=some (.ref f)/\W.keepIn K (.ref f)=true/\Binds K fd ps []/\FnOk P w K mg base vX k f fd ps (tU K rl Pd)
noncomputable def rn(Pd:List W->(v7->Prop)->Prop)(fs:vb):TV:=fun ρ Q=>fs ρ fun ws=>ws.all cx=true/\Pd ws fun d=>Q (.d d)
theorem ax{Pd:List W->(v7->Prop)->Prop}(D:Dfn X.prog X.w X.K X.mg X.base rl x ps k Pd)(hr:Room k X.A)(ha:vy X rl (e::es) fs)(hg:autoParam (Gl X x) æa._auto_1)
 (hdb:autoParam ((x==("__debug__" : Str))=false) æb._auto_1)(he:autoParam (wm (e::es) X.env=(false,eval e X.env)::wm es X.env) æa._auto_1)(hpl:autoParam ((yr pos (wm es X.env)).any (·.1)=false) æa._auto_1) :
 PV X rl (.Call (.Name x p) (e::es) [] pos) (rn Pd fs):=by
 obtain⟨f,fd,hm,hk,hb,F⟩:=D.ex;obtain⟨t,p1,kk⟩:=ha;refine⟨_,iF F hr hg hm hk hb .nil n6 p1 hdb he hpl,fun R Qd Q q h=>kk R _ _ q fun vs ws F1 H1 g1 r1 ⟨ok,q1⟩=>?_⟩;refine⟨F1,ws,g1.sub,g1.reel,by rw[xX];exact r1,ok,?_⟩;exact D.mono ws _ _ (fun d qd v F2 H2 g2 r2=>h v (.d d) F2 H2 (g1.trans g2) r2 trivial qd) q1
end
end L2.VL
variable{w:L2.VL.W}{ρ:L2.VL.En}
namespace L2
theorem cr{env:Env}:∀(names:List (Str×ze))(acc:List (Str×Addr)),(∀x∈names,x.2 = .free->∃c,env.cells.lookup x.1=some c)->(∀x c,acc.lookup x=some c->env.cells.lookup x=some c) ->
 ∃ cl,(forIn names acc (fun(x:Str×ze)(cs:List (Str×Addr))=>if(x.2==wU)=true then do let c <- cellOf env x.1;pure (yC ((x.1,c)::cs))else pure (yC cs)):Sem (List (Str×Addr)))=pure cl /\
   (∀x c,cl.lookup x=some c->env.cells.lookup x=some c)/\(∀x,(acc.lookup x).isSome=true->(cl.lookup x).isSome=true)/\∀x,(x,wU)∈names->(cl.lookup x).isSome=true
 | [],acc,_,h2=>⟨acc,rfl,h2,fun _ z=>z,fun _ z=>nomatch z⟩
 | (n,k)::r,acc,h1,h2=>by
   by_cases hk:k = .free
   · subst hk;obtain⟨c,hc⟩:=h1 (n,.free) wg rfl
     have h2':∀x c',((n,c)::acc).lookup x=some c'->env.cells.lookup x=some c':=fun x c' z=>by
      rw[wV]at z
      cases e:x==n with
      | true =>
        rw[e]at z;have e':x=n:=by simpa using e
        cases z;rw[e']
        exact hc
      | false =>
        rw[e]at z;exact h2 x c' z
     obtain⟨cl,e,g1,g2,g3⟩:=cr r ((n,c)::acc) (fun x hx=>h1 x (wf _ hx)) h2';refine⟨cl,?_,g1,fun x z=>g2 x ?_,fun x z=>?_⟩
     · rw[AB];simp only[beq_self_eq_true,if_true];have e0:cellOf env n=pure c:=by unfold cellOf;rw[hc]
       rw[e0,pure_bind,pure_bind];exact e
     · rw[wV];split
       · rfl
       · exact z
     · rcases wE.mp z with z|z
       · cases z;refine g2 _ ?_;rw[wV];simp
       · exact g3 x z
   · obtain⟨cl,e,g1,g2,g3⟩:=cr r acc (fun x hx=>h1 x (wf _ hx)) h2;refine⟨cl,?_,g1,g2,fun x z=>?_⟩
     · rw[AB];have hb:(k==wU)=false:=by simpa using hk
       simp only[hb,yt,if_false];rw[pure_bind];exact e
     · rcases wE.mp z with z|z
       · cases z;exact absurd rfl hk
       · exact g3 x z
theorem fK{env:Env}(h:∀x∈scope.names,x.2 = .free->∃c,env.cells.lookup x.1=some c) :
 ∃cl,closureFor scope env=pure cl/\(∀x c,cl.lookup x=some c->env.cells.lookup x=some c)/\∀x,(x,wU)∈scope.names->(cl.lookup x).isSome=true:=by
 obtain⟨cl,e,g1,_,g3⟩:=cr scope.names [] h (fun _ _ z=>by cases z);refine⟨cl,?_,g1,g3⟩;unfold closureFor
 first
  | exact e
  | (simp only[bind_pure];exact e)
theorem eM{env:Env}(h:(relabel scope env).names.lookup x=some .cell\/(relabel scope env).names.lookup x=some .free):(x,wU)∈scope.names\/(x,xV)∈scope.names:=by
 have key:∀names:List (Str×ze),∀k,(k = .cell\/k = .free) ->
  (names.map fun(n,k)=>if(k==wU&&env.scope.kind == .function&&env.kindOf n==some .cell)then(n,xV)else(n,k)).lookup x=some k->(x,wU)∈names\/(x,xV)∈names:=by
  intro names
  induction names with
  | nil=>intro k _ z;cases z
  | cons y r ih =>
    intro k hk z;obtain⟨n,kn⟩:=y;have step:((x,wU)∈r\/(x,xV)∈r)->((x,wU)∈(n,kn)::r\/(x,xV)∈(n,kn)::r):=fun z=>z.imp (wf _) (wf _);rw[xw]at z;dsimp only at z;by_cases hc:(kn==wU&&env.scope.kind == .function&&env.kindOf n==some .cell)=true
    · rw[if_pos hc,wV]at z
      have hf:kn = .free:=by
       have:=(wK.mp (wK.mp hc).1).1;simpa using this
      cases e:x==n with
      | true =>
        have e':x=n:=by simpa using e
        rw[e',<- hf]
        exact .inl wg
      | false =>
        rw[e]at z;exact step (ih k hk z)
    · rw[if_neg hc,wV]at z
      cases e:x==n with
      | true =>
        rw[e]at z;have e':x=n:=by simpa using e
        cases z;rcases hk with hk|hk
        · rw[e',hk];exact .inr wg
        · rw[e',hk];exact .inl wg
      | false =>
        rw[e]at z;exact step (ih k hk z)
 rcases h with h|h
 · exact key scope.names .cell (.inl rfl) h
 · exact key scope.names .free (.inr rfl) h
theorem aF:∀(names:List (Str×ze))(n:Nat)(acc:List (Str×Addr)),xH n names acc=xH n names []++acc
 | [],_,_=>rfl
 | (x,k)::r,n,acc=>by
   unfold xH;split
   · rw[aF r (n+1) ((x,n)::acc),aF r (n+1) [(x,n)],yM];rfl
   · exact aF r n acc
theorem bE{x:Str}{c:Addr}:∀{names:List (Str×ze)}{n:Nat},(x,c)∈xH n names []->(x,xV)∈names
 | (y,k)::r,n,h=>by
   unfold xH at h;split at h
   · rename_i hk;rw[aF]at h;rcases yx.mp h with h|h
     · exact wf _ (bE h)
     · simp at h;have:k = .cell:=by simpa using hk
       rw[h.1,this];exact wg
   · exact wf _ (bE h)
theorem cp{a b:List (Str×Addr)}:(a++b).lookup x=(a.lookup x).or (b.lookup x):=by
 induction a with
 | nil=>simp
 | cons y a ih =>
   obtain⟨n,c⟩:=y;rw[List.cons_append,wV,wV];cases x==n<;>simp[ih]
theorem fE{M:Model}{A:wS}{E:v9->v_->Prop}{s:v_}{globals:Addr}{cl:List (Str×Addr)}{o:Env}{Q:Env->v_->Prop}
 (hQ:Q {scope,locals:=s.heap.objs.size,globals,cells:=xH (s.heap.objs.size+1) scope.names cl,qual,func:=none,code:=o.code,frame:=o.frame,builtins:=o.builtins} {s with heap:=BH (s.heap.push {cls:=.type "dict", data:=.dict #[]}) scope.names}) :
 wM M A (Ab scope globals cl [] qual none .none (some o)) Q E s:=by
 simp only[Ab,Option.isSome_some,if_true];refine v8 (wpAny_alloc ?_);refine v8 (wpAny_layCells _ (fun name kind cells=>by cases hkc:kind==xV<;>simp[hkc]) _ _ _ _ ?_);rw[show({s with heap:=s.heap.push {cls:=.type "dict", data:=.dict #[]}}:v_).heap.objs.size=s.heap.objs.size+1 from yo ..];exact v8 (wb (wb hQ))
noncomputable def aW(X:Cx)(N':List Str)(scope:Scope)(cl:List (Str×Addr))(fp:List Addr)(pn:List (Addr×Obj))(s:v_)(H:Hp):Cx :=
 {X with N:=N',s₀:=s,H₀:=H,env:={compEnvC scope cl s.heap.objs.size X.env with cells:=xH (s.heap.objs.size+1) scope.names cl},outer:=X.stack,ex:=fp,fn:=fun x=>scope.names.lookup x==some .cell,pn:=pn,xe:=fun _ _=>False}
abbrev h8(ifs:List Expr)(env:Env):Sem Bool:=forIn ifs true fun c r=>if r=true then do let ok <- isTrue c env (eval c env);pure (yC ok)else pure (yC r)
noncomputable def vz(X:Cx)(ifs:List Expr)(t:TT):Prop :=
 ∀(pins:List (Addr×Obj))(s:v_)(σ:St)(H:Hp)(Q:Bool->Hp->Prop),Inv X pins σ H s->t σ H Q->wM (wZ X.prog X.w) X.A (h8 ifs X.env) (TP X pins σ Q) X.xe s
theorem lH{X:Cx}:vz X [] (fun _ H Q=>Q true H):=fun _ _ _ H _ I h=>wpAny_tests_nil ⟨H,I,h⟩
theorem ji{prog:wD}{w:wR}{A:wS}{R:Result->v_->Prop}{s:v_}{elt target iter:Expr}{ifs:List Expr}{it acc:v9}{env:Env}(I:Nat->v_->Prop)
 (turn:∀n s,I n s->wM (wZ prog w) A (As it) (fun r s₁=>(r=none/\R (.ok .next) s₁)\/∃v,r=some v /\
  wM (wZ prog w) A (zN target it v) (fun _ s₂=>wM (wZ prog w) A (BQ target env v) (fun _ s₃=>wM (wZ prog w) A (h8 ifs env) (fun ok s₄ =>
   if ok=true then wM (wZ prog w) A (eval elt env) (fun x s₅=>wM (wZ prog w) A (call (.builtin "list.append") [acc,x]) (fun _ s₆=>∃m,m<n/\I m s₆) (fun _ _=>False) s₅) (fun _ _=>False) s₄
   else ∃m,m<n/\I m s₄) (fun _ _=>False) s₃) (fun _ _=>False) s₂) (fun _ _=>False) s₁) (fun _ _=>False) s)
 (n:Nat)(h:I n s):zP (wZ prog w) A (.compLoop (.ListComp elt [⟨target,iter,ifs,0⟩] scope pos) 0 it acc env) R s:=by
 refine codeAny_loop rfl I (fun n s hI=>?_) n h;show wM _ A ((compTurn (.ListComp elt [⟨target,iter,ifs,0⟩] scope pos) 0 it acc env).onRaise (fun x=>do noteFrame x env;theTreesLotGoes x)) _ _ s;refine wpAny_noted ?_;rw[compTurn_list];refine v8 (Ba (v8 (y_ (turn n s hI) (fun r s₁ h₁=>?_) fun _ _ h'=>h'.elim)));rcases h₁ with⟨rfl,h₁⟩|⟨v,rfl,h₁⟩
 · exact wb h₁
 · refine v8 (y_ h₁ (fun _ s₂ h₂=>v8 (y_ h₂ (fun _ s₃ h₃=>v8 (y_ h₃ (fun ok s₄ h₄=>?_) fun _ _ z=>z.elim)) fun _ _ z=>z.elim)) fun _ _ z=>z.elim)
   cases ok with
   | false=>exact wb ⟨rfl,h₄⟩
   | true=>exact v8 (v8 (y_ h₄ (fun x s₅ h₅=>v8 (y_ h₅ (fun _ s₆ h₆=>wb (wb ⟨rfl,h₆⟩)) fun _ _ z=>z.elim)) fun _ _ z=>z.elim))
noncomputable def ki(fr:List (Option Nat))(σ:St):St:=fr.map fun o=>o.bind fun j=>(σ[j]?).join
noncomputable def ph(fr:List (Option Nat))(N' N:List Str)(sc scX:Scope):Bool :=
 decide (fr.length=N'.length)&&(wI fr.length).all fun i=>match fr[i]? with
  | some (some j)=>match N'[i]? with
    | some x=>decide (N[j]?=some x)&&decide (sc.names.lookup x=some .free)&&(decide (scX.names.lookup x=some .cell)||decide (scX.names.lookup x=some .free))
    | none=>false
  | _=>true
noncomputable def rT(sc scX:Scope):Bool :=
 decide (sc.kind = .function)&&sc.names.all fun y=>(decide (y.2 ≠ .cell)||decide (sc.names.lookup y.1=some .cell))&&(decide (y.2 ≠ .local)||decide (sc.names.lookup y.1=some .local)) &&
  (decide (y.2 ≠ .free)||(decide (scX.names.lookup y.1=some .cell)||decide (scX.names.lookup y.1=some .free)))
theorem ph.get{fr:List (Option Nat)}{N':List Str}{sc scX:Scope}(h:ph fr N' N sc scX=true):fr.length=N'.length/\∀(i j:Nat),fr[i]?=some (some j)->∃x,N'[i]?=some x/\N[j]?=some x/\sc.names.lookup x=some .free/\(scX.names.lookup x=some .cell\/scX.names.lookup x=some .free):=by
 unfold ph at h;obtain⟨h1,h2⟩:=wK.mp h;refine⟨of_decide_eq_true h1,fun i j e=>?_⟩;have hi:i<fr.length:=(wo.mp e).1;have q:=zx.mp h2 i (xv.mpr hi);rw[e]at q;dsimp only at q
 cases en:N'[i]? with
 | none=>rw[en]at q;cases q
 | some x =>
   rw[en]at q;dsimp only at q;obtain⟨q1,q2⟩:=wK.mp q;obtain⟨q3,q4⟩:=wK.mp q1;exact⟨x,rfl,of_decide_eq_true q3,of_decide_eq_true q4,(yk.mp q2).imp of_decide_eq_true of_decide_eq_true⟩
theorem gO{k:ze}:∀{names:List (Str×ze)},names.lookup x=some k->(x,k)∈names:=fun h=>xb h
structure CompA where
 cl:List (Str×Addr)
 fp:List Addr
 pn:List (Addr×Obj)
 s:v_
 H:Hp
abbrev blk(X:Cx)(N':List Str)(scope:Scope)(y:CompA):Cx:=aW X N' scope y.cl y.fp y.pn y.s y.H
noncomputable def ny(wi:TI)(fr:List (Option Nat))(g:CompA->TG)(tt:CompA->TT)(te:CompA->TE):TE:=fun σ H Q=>wi σ H fun J H1=>∀D,H1 D=none->∃Wv:Nat->Nat->List V->St->Hp->Prop,(∃m,Wv 0 m [] (ki fr σ) (upd H1 D (.lst []))) /\
 ∀ (z:CompA) i m acc σc H,Wv i m acc σc H->(J.stop i H/\Q (.ref D) H)\/(J.go i H/\∀x H',J.yld i H x H'->g z x σc H' fun σ2 H2=>tt z σ2 H2 fun b H3 =>
   if b=true then te z σ2 H3 fun y H4=>H4 D=some (.lst acc)/\acc.length<sizeLine/\∃m',m'<m/\Wv (i+1) m' (acc++[y]) σ2 (upd H4 D (.lst (acc++[y])))else ∃m',m'<m/\Wv (i+1) m' acc σ2 H3)
theorem cB{env:Env}:∀{names:List (Str×ze)}{x:Str},names.lookup x=some .free ->
 (names.map fun(n,k)=>if(k==wU&&env.scope.kind == .function&&env.kindOf n==some .cell)then(n,xV)else(n,k)).lookup x=some .cell \/
 (names.map fun(n,k)=>if(k==wU&&env.scope.kind == .function&&env.kindOf n==some .cell)then(n,xV)else(n,k)).lookup x=some .free
 | [],_,h=>by simp at h
 | (n,k)::r,x,h=>by
   have ih:=@cB env r x;rw[xw];dsimp only
   cases hx:x==n with
   | true =>
     simp only[wV,hx]at h;cases h;by_cases hc:((wU==wU)&&env.scope.kind == .function&&env.kindOf n==some .cell)=true
     · rw[if_pos hc];simp[wV,hx]
     · rw[if_neg hc];simp[wV,hx]
   | false =>
     simp only[wV,hx]at h;by_cases hc:(k==wU&&env.scope.kind == .function&&env.kindOf n==some .cell)=true
     · rw[if_pos hc];simp only[wV,hx];exact ih h
     · rw[if_neg hc];simp only[wV,hx];exact ih h
theorem fI{X:Cx}{ex:Expr}{H3:Hp}{s3:v_}{it D:Addr}{tn:Nat->Heap->Prop}{J:It}{Q:VK}
 {cl:List (Str×Addr)}(N':List Str)(fr:List (Option Nat))(hc:X.calm=true)(hkind:scope.kind = .function)(hcell:∀y∈scope.names,y.2 = .cell->scope.names.lookup y.1=some .cell)
 (hfree:∀y∈scope.names,y.2 = .free->X.env.kindOf y.1=some .cell\/X.env.kindOf y.1=some .free)(frl:fr.length=N'.length)
 (frg:∀(i j:Nat),fr[i]?=some (some j)->∃x,N'[i]?=some x/\X.N[j]?=some x/\scope.names.lookup x=some .free/\(X.env.scope.names.lookup x=some .cell\/X.env.scope.names.lookup x=some .free))
 (cl1:∀x c,cl.lookup x=some c->X.env.cells.lookup x=some c)(cl2:∀x,(x,wU)∈scope.names->(cl.lookup x).isSome=true)
 (I3:Inv X pins σ H3 s3)(T:Turn X.prog X.w X.K tg J fp it tn)(tn3:tn 0 s3.heap)(fpD:∀b∈fp,H3 b=none)(fp3:∀b∈fp,b<s3.heap.objs.size)
 (fpk:∀b∈fp,b≠X.env.locals/\b∉X.fs/\(b∈X.ex\/X.s₀.heap.objs.size<=b)/\(∀x c,X.env.cells.lookup x=some c->c≠b)/\∀p∈X.pn++pins,p.1≠b)
 (loop:∀s',Inv (aW X N' scope cl fp (X.pn++pins) s3 H3) [] (ki fr σ) H3 s'->tn 0 s'.heap->(∀{H':Hp},(∀b∈fp,H' b=none)->∀b∈fp,jx (aW X N' scope cl fp (X.pn++pins) s3 H3) [] H' b) ->
  zP (wZ X.prog X.w) X.A (.compStart ex 0 (.ref it) (.ref D) (aW X N' scope cl fp (X.pn++pins) s3 H3).env) (fun r s5=>r = .ok .next/\∃σ5 H4,Inv (aW X N' scope cl fp (X.pn++pins) s3 H3) [] σ5 H4 s5/\Q (.ref D) H4) s')
 {Rp:Addr->Result->v_->Prop}(fin:∀s5 H4 m,s5.heap.Ns s3.heap.objs.size m->(∀h',yy s3.heap.objs.size s5.heap h'->Inv X pins σ H4 {s5 with heap:=h' })->jx X pins H4 s3.heap.objs.size->Q (.ref D) H4->Rp s3.heap.objs.size (.ok .next) s5) :
 wM (wZ X.prog X.w) X.A (Ab scope X.env.globals cl [] X.env.qual none .none (some X.env)) (fun cenv s₄ =>
  zP (wZ X.prog X.w) X.A (.compStart ex 0 (.ref it) (.ref D) {cenv with scope:=relabel scope X.env})
   (Rp cenv.locals) s₄) X.xe s3:=by
 refine fE ?_;have ok:=cellsFrom_ok scope.names (s3.heap.push {cls:=.type "dict", data:=.dict #[]}) (s3.heap.objs.size+1) [] ⟨fun _ _ hm=>(nomatch hm),Bd.nil⟩ (by rw[yo];exact we _);rw[yo]at ok;have kp:∀b o,s3.heap.get? b=some o->(BH (s3.heap.push {cls:=.type "dict", data:=.dict #[]}) scope.names).get? b=some o:=fun b o e=>pushCells_keeps _ _ b o (wc _ e);have hns₁:(BH (s3.heap.push {cls:=.type "dict", data:=.dict #[]}) scope.names).Ns s3.heap.objs.size (fun _=>none):=(Heap.Ns.new s3.heap (.type "dict")).keeps (pushCells_keeps _ _);generalize BH (s3.heap.push {cls:=.type "dict", data:=.dict #[]}) scope.names=h₁ at ok kp hns₁ ⊢
 have cs:∀x c,(xH (s3.heap.objs.size+1) scope.names cl).lookup x=some c->(xH (s3.heap.objs.size+1) scope.names []).lookup x=some c\/cl.lookup x=some c:=fun x c e=>by
  rw[aF,cp]at e
  cases q:(xH (s3.heap.objs.size+1) scope.names []).lookup x with
  | none=>rw[q]at e;exact .inr (by simpa using e)
  | some c'=>rw[q]at e;exact .inl (by simpa using e)
 have own:∀x c,(xH (s3.heap.objs.size+1) scope.names []).lookup x=some c->h₁.IsCell c none/\s3.heap.objs.size+1<=c:=fun x c e=>ok.empty x c (xb e)
 have clt:∀x c,cl.lookup x=some c->c<s3.heap.objs.size:=fun x c e=>by
  obtain⟨v,o,ho,_⟩:=I3.cell x c (cl1 x c e);exact wl ho
 have frn:∀x,scope.names.lookup x=some .free->(xH (s3.heap.objs.size+1) scope.names []).lookup x=none:=fun x e=>by
  cases q:(xH (s3.heap.objs.size+1) scope.names []).lookup x with
  | none=>rfl
  | some c =>
    have:=hcell (x,.cell) (bE (xb q)) rfl;rw[e]at this;cases this
 have notC:∀b o,s3.heap.get? b=some o->b≠s3.heap.objs.size:=fun b o e=>wT (wl e);have fpstk:∀b∈fp,b∉frs X.stack:=fun b hb z=>(wE.mp (I3.stkSub b z)).elim (fpk b hb).1 (fpk b hb).2.1;have cellK:∀c v,s3.heap.IsCell c v->h₁.IsCell c v:=fun c v ⟨o,ho,hd⟩=>⟨o,kp c o ho,hd⟩
 have IY:Inv (aW X N' scope cl fp (X.pn++pins) s3 H3) [] (ki fr σ) H3 {s3 with heap:=h₁}:=by
  refine⟨⟨I3.ok.mod,hkind,I3.ok.glob,I3.ok.blt,we _,fun x y c e1 e2=>?_,fun x hx=>?_,fun x c _ e=>?_,I3.ok.hd,I3.ok.frames,.inl rfl,
   fun b hb=>⟨wT (fp3 b hb),fun x c e=>?_⟩,I3.bs,xP I3.ok.bsz I3.sz,fun b o e hb=>?_,fun b hb=>fpstk b hb,I3.stack,I3.stkFree⟩,
   rfl,I3.bare,Un.kept kp,⟨_,hns₁,fun i x v e1 e2 e3=>?_⟩,fun x c e=>?_,I3.hok.fresh (we _),fun x c e=>?_,fun p hp=>?_,I3.hok.kept kp,?_⟩
  · rcases cs x c e1 with q1|q1<;>rcases cs y c e2 with q2|q2
    · exact name_of_addr ok.apart (xb q1) (xb q2)
    · exact absurd (wa (clt y c q2) (yN (own x c q1).2)) (xM _)
    · exact absurd (wa (clt x c q1) (yN (own y c q2).2)) (xM _)
    · exact I3.ok.inj x y c (cl1 x c q1) (cl1 y c q2)
  · refine yd.mp ?_;show((xH (s3.heap.objs.size+1) scope.names cl).lookup x).isSome=true;rcases eM hx with q|q
    · exact W.cellsFrom_some _ _ _ (.inr (cl2 x q))
    · exact W.cellsFrom_some _ _ _ (.inl (hcell _ q rfl))
  · rename_i hfn;rcases cs x c e with q|q
    · have:=(own x c q).2;show s3.heap.objs.size<=c;omega
    · have hfn:(scope.names.lookup x==some xV)=true:=hfn;have hl:scope.names.lookup x=some .cell:=by simpa using hfn
      obtain⟨c',ec'⟩:=yd.mp (W.cellsFrom_some scope.names (s3.heap.objs.size+1) [] (.inl hl));have e':(xH (s3.heap.objs.size+1) scope.names cl).lookup x=some c:=e;rw[aF,cp,ec']at e';simp at e';subst e';exact yN (own x c' ec').2
  · rcases cs x c e with q|q
    · exact fun z=>absurd (wa (fp3 b hb) (yN (by rw[<- z];exact(own x c q).2))) (xM _)
    · exact(fpk b hb).2.2.2.1 x c (cl1 x c q)
  · rcases(fpk b hb).2.2.1 with z|z
    · exact I3.ok.noex b o e z
    · exact absurd (wa (wl e) (xP I3.ok.bsz z)) (xM _)
  · have e2':(fr[i]?).map (fun o=>o.bind fun j=>(σ[j]?).join)=some (some v):=by unfold ki at e2;rw[xf]at e2;exact e2
    cases ef:fr[i]? with
    | none=>rw[ef]at e2';cases e2'
    | some o =>
      cases o with
      | none=>rw[ef]at e2';cases e2'
      | some j =>
        rw[ef]at e2';have e3':(σ[j]?).join=some v:=wL e2'
        have e4:σ[j]?=some (some v):=by
         cases q:σ[j]? with
         | none=>rw[q]at e3';cases e3'
         | some z=>rw[q]at e3';cases e3';rfl
        obtain⟨x',n1,n2,n3,n4⟩:=frg i j ef;have ex:x'=x:=wL (n1.symm.trans e1);subst ex;obtain⟨m,hn,hl⟩:=I3.loc;obtain⟨u,ru,lk⟩:=hl j x' v n2 e4 (n4.elim (fun z=>.inr (.inl z)) fun z=>.inr (.inr z));refine⟨u,ru,?_⟩;rcases lk with⟨kl,_⟩|⟨_,c,ec,hcl⟩
        · exact absurd (show X.env.scope.names.lookup x'=some .local from kl) (by rcases n4 with z|z<;>rw[z]<;>decide)
        · obtain⟨c',ec'⟩:=yd.mp (cl2 x' (gO n3));have:=cl1 x' c' ec';rw[ec]at this;cases this;refine .inr ⟨cB n3,c,?_,cellK _ _ hcl⟩;show(xH (s3.heap.objs.size+1) scope.names cl).lookup x'=some c;rw[aF,cp,frn x' n3];simpa using ec'
  · rcases cs x c e with q|q
    · exact⟨_,(own x c q).1⟩
    · obtain⟨v,z⟩:=I3.cell x c (cl1 x c q);exact⟨v,cellK _ _ z⟩
  · rcases cs x c e with q|q
    · exact I3.hok.fresh (by have:=(own x c q).2;omega)
    · exact I3.freeC x c (cl1 x c q)
  · rw[xX]at hp;obtain⟨e,n,ne,nf,d⟩:=I3.pin p hp;exact⟨kp _ _ e,n,notC _ _ e,fun z=>(wE.mp (I3.stkSub p.1 z)).elim ne nf,d⟩
  · unfold ki;rw[wp];exact frl
 have stat:∀{H':Hp},(∀b∈fp,H' b=none)->∀b∈fp,jx (aW X N' scope cl fp (X.pn++pins) s3 H3) [] H' b:=fun hn b hb =>
  ⟨hn b hb,wT (fp3 b hb),fpstk b hb,.inl hb,fun x c e=>(by
   rcases cs x c e with q|q
   · exact fun z=>absurd (wa (fp3 b hb) (yN (by rw[<- z];exact(own x c q).2))) (xM _)
   · exact(fpk b hb).2.2.2.1 x c (cl1 x c q)),fun p hp=>by rw[xX]at hp;exact(fpk b hb).2.2.2.2 p hp⟩
 refine zt (loop _ IY (T.keep _ _ _ tn3 fun b _ o e=>kp b o e) stat) fun r s5 ⟨hr,σ5,H4,I5,qn⟩=>?_;subst hr;obtain⟨m,hn,_⟩:=I5.loc;refine fin s5 H4 m hn (fun h' hs'=>?_) (I3.fpOk (we _) I5.free) qn;have k':∀b o,b≠s3.heap.objs.size->s5.heap.get? b=some o->h'.get? b=some o:=fun b o nb e=>hs'.extBut b o nb e;have u5:Un (frs X.stack) fp H3 H4 s3.heap s5.heap:=I5.base
 have un:Un (frs X.stack) fp H3 H4 s3.heap h' :=
  ⟨fun b o e n hb hx=>k' b o (notC b o e) (u5.keep b o e n hb hx),fun b o e n hb hx=>by obtain⟨sl,q⟩:=u5.slot b o e n hb hx;exact⟨sl,k' b _ (notC b o e) q⟩,u5.free,
   fun b o e hx=>by obtain⟨o',q⟩:=u5.there b o e hx;exact⟨o',k' b _ (notC b o e) q⟩,u5.tups,u5.frzs,u5.tbls⟩
 have nC:H4 s3.heap.objs.size=none:=I5.free
 have hok':vU X.prog X.w H4 h':=fun b u e=>(I5.hok b u e).stay (fun c v hcv q=>k' c v (by
  rintro rfl;rcases hcv with z|z
  · rw[<- z]at e;rw[nC]at e;cases e
  · rw[nC]at z;cases z) q) (fun _ q=>q) fun _ _ q=>q
 obtain⟨hh,g5,d5,t5,os5⟩:=s5;have os':os5=s3.os:=I5.os;subst os';have I':=Inv.call (s:=s3) (h':=h') (g':=g5) (d':=d5) (t':=t5) (ch:=fp) I3 un hok' I5.bare (fun b hb=>⟨(fpk b hb).2.2.1,(fpk b hb).1,(fpk b hb).2.2.2.1,(fpk b hb).2.2.2.2⟩);exact I'
theorem gT{X:Cx}{elt iter:Expr}{ifs:List Expr}{g:TG}{tt:TT}{te:TE}{H3:Hp}{s3:v_}{it D:Addr}{tn:Nat->Heap->Prop}{J:It}{Q:VK}
 {cl:List (Str×Addr)}(N':List Str)(fr:List (Option Nat))(hc:X.calm=true)(hkind:scope.kind = .function)(hcell:∀y∈scope.names,y.2 = .cell->scope.names.lookup y.1=some .cell)
 (hfree:∀y∈scope.names,y.2 = .free->X.env.kindOf y.1=some .cell\/X.env.kindOf y.1=some .free)(frl:fr.length=N'.length)
 (frg:∀(i j:Nat),fr[i]?=some (some j)->∃x,N'[i]?=some x/\X.N[j]?=some x/\scope.names.lookup x=some .free/\(X.env.scope.names.lookup x=some .cell\/X.env.scope.names.lookup x=some .free))
 (cl1:∀x c,cl.lookup x=some c->X.env.cells.lookup x=some c)(cl2:∀x,(x,wU)∈scope.names->(cl.lookup x).isSome=true)
 (I3:Inv X pins σ H3 s3)(T:Turn X.prog X.w X.K tg J fp it tn)(tn3:tn 0 s3.heap)(fpD:∀b∈fp,H3 b=none)(fp3:∀b∈fp,b<s3.heap.objs.size)
 (fpk:∀b∈fp,b≠X.env.locals/\b∉X.fs/\(b∈X.ex\/X.s₀.heap.objs.size<=b)/\(∀x c,X.env.cells.lookup x=some c->c≠b)/\∀p∈X.pn++pins,p.1≠b)
 (hg:PG (aW X N' scope cl fp (X.pn++pins) s3 H3) tg g)(ht:vz (aW X N' scope cl fp (X.pn++pins) s3 H3) ifs tt)(he:PE (aW X N' scope cl fp (X.pn++pins) s3 H3) elt te)
 {Wv:Nat->Nat->List V->St->Hp->Prop}{m0:Nat}(w0:Wv 0 m0 [] (ki fr σ) H3)
 (turn:∀i m acc σc H,Wv i m acc σc H->(J.stop i H/\Q (.ref D) H)\/(J.go i H/\∀x H',J.yld i H x H'->g x σc H' fun σ2 H2=>tt σ2 H2 fun b H3 =>
  if b=true then te σ2 H3 fun y H4=>H4 D=some (.lst acc)/\acc.length<sizeLine/\∃m',m'<m/\Wv (i+1) m' (acc++[y]) σ2 (upd H4 D (.lst (acc++[y])))else ∃m',m'<m/\Wv (i+1) m' acc σ2 H3))
 {Rp:Addr->Result->v_->Prop}(fin:∀s5 H4 m,s5.heap.Ns s3.heap.objs.size m->(∀h',yy s3.heap.objs.size s5.heap h'->Inv X pins σ H4 {s5 with heap:=h' })->jx X pins H4 s3.heap.objs.size->Q (.ref D) H4->Rp s3.heap.objs.size (.ok .next) s5) :
 wM (wZ X.prog X.w) X.A (Ab scope X.env.globals cl [] X.env.qual none .none (some X.env)) (fun cenv s₄ =>
  zP (wZ X.prog X.w) X.A (.compStart (.ListComp elt [⟨tg,iter,ifs,0⟩] scope pos) 0 (.ref it) (.ref D) {cenv with scope:=relabel scope X.env})
   (Rp cenv.locals) s₄) X.xe s3:=by
 refine fI N' fr hc hkind hcell hfree frl frg cl1 cl2 I3 T tn3 fpD fp3 fpk (fun s' IY tY stat=>?_) fin
 have loop:zP (wZ X.prog X.w) X.A (.compLoop (.ListComp elt [⟨tg,iter,ifs,0⟩] scope pos) 0 (.ref it) (.ref D) (aW X N' scope cl fp (X.pn++pins) s3 H3).env)
  (fun r s5=>r = .ok .next/\∃σ5 H4,Inv (aW X N' scope cl fp (X.pn++pins) s3 H3) [] σ5 H4 s5/\Q (.ref D) H4) s':=by
  refine ji (fun n s'=>∃i acc σ' H',Inv (aW X N' scope cl fp (X.pn++pins) s3 H3) [] σ' H' s'/\tn i s'.heap/\(∀b∈fp,H' b=none)/\Wv i n acc σ' H') ?_ m0
   ⟨0,[],_,_,IY,tY,fpD,w0⟩
  rintro n s4 ⟨i,acc,σ4,H4,I4,st4,fr4,w4⟩;rcases turn i n acc σ4 H4 w4 with⟨stop,qn⟩|⟨go,step⟩
  · exact ud (T.done (aW X N' scope cl fp (X.pn++pins) s3 H3) rfl rfl rfl hc i [] s4 σ4 H4 (fun _ _=>False) I4 (stat fr4) st4 stop) fun r s5 ⟨hr,I5⟩=>.inl ⟨hr,rfl,σ4,H4,I5,qn⟩
  · refine ud (T.item (aW X N' scope cl fp (X.pn++pins) s3 H3) rfl rfl rfl hc i [] s4 σ4 H4 (fun _ _=>False) I4 (stat fr4) st4 go) fun r s5 ⟨u,hr,h5⟩=>.inr ⟨u,hr,?_⟩;refine ud h5 fun _ s6 ⟨x,H6,I6,r6,y6,st6,fr6⟩=>?_;have I6':=I6.pinned (stat fr6) (T.obj _ _ st6)
    have again:∀{σ7:St}{H7:Hp}{s7:v_},Inv (aW X N' scope cl fp (X.pn++pins) s3 H3) ([]++eP fp s6.heap) σ7 H7 s7->∀{acc':List V}{m':Nat},m'<n->Wv (i+1) m' acc' σ7 H7 ->
     ∃m,m<n/\∃i acc σ' H',Inv (aW X N' scope cl fp (X.pn++pins) s3 H3) [] σ' H' s7/\tn i s7.heap/\(∀b∈fp,H' b=none)/\Wv i m acc σ' H':=fun{σ7 H7 s7} I7 {acc' m'} hm w7=>by
     refine⟨m',hm,i+1,acc',σ7,H7,I7.unpinned,T.keep _ _ _ st6 fun b hb o e=>(I7.pin (b,o) (wN _ (wN _ (bM hb e)))).1,fun b hb=>?_,w7⟩;obtain⟨o,e,d⟩:=T.obj _ _ st6 b hb;exact(I7.pin (b,o) (wN _ (wN _ (bM hb e)))).2.1
    refine ud (hg _ s6 σ4 H6 x u _ I6' r6 (step x H6 y6)) fun _ s7 ⟨σ7,H7,I7,q7⟩=>?_;refine ud (ht _ s7 σ7 H7 _ I7 q7) fun ok s8 ⟨H8,I8,q8⟩=>?_
    cases ok with
    | false =>
      rw[if_neg ww]at q8 ⊢;obtain⟨m',hm,w8⟩:=q8
      exact again I8 hm w8
    | true =>
      rw[if_pos rfl]at q8 ⊢;refine ud (he _ s8 σ7 H8 _ I8 q8) fun y s9 ⟨yv,H9,I9,r9,eD,hl,m',hm,w9⟩=>?_
      exact ud (eQ (X:=aW X N' scope cl fp (X.pn++pins) s3 H3) _ s9 σ7 H9 (.ref D) [yv] (.ref D) [y] (fun _ H'=>H'=upd H9 D (.lst (acc++[yv]))) I9 rfl (.cons r9 .nil) ⟨D,acc,yv,rfl,rfl,eD,hl,rfl⟩)
       fun _ s10 ⟨_,H10,I10,_,e10⟩=>by subst e10;exact again I10 hm w9
 exact codeAny_compStart_list loop (T.self X.A 0 _ _ _ tY loop)
section
variable{X:Cx}{elt tg iter:Expr}{ifs:List Expr}{scope:Scope}{pos:Pos}{wi:TI}{g:CompA->TG}{tt:CompA->TT}{te:CompA->TE}
theorem jQ(N':List Str)(fr:List (Option Nat))(hc:X.calm=true)(hi:PI X tg iter wi)(hfr:ph fr N' X.N scope X.env.scope=true)(hsc:rT scope X.env.scope=true)
 (hg:∀y,PG (blk X N' scope y) tg (g y))(ht:∀y,vz (blk X N' scope y) ifs (tt y))(he:∀y,PE (blk X N' scope y) elt (te y))
 (hs:autoParam (∀x,zj iter X.env x=pure x) æc._auto_1):PE X (.ListComp elt [⟨tg,iter,ifs,0⟩] scope pos) (ny wi fr g tt te):=by
 intro pins s σ H Q I h;obtain⟨sk,sn⟩:=wK.mp hsc;have hkind:scope.kind = .function:=of_decide_eq_true sk;have hall:=zx.mp sn
 have hcell:∀y∈scope.names,y.2 = .cell->scope.names.lookup y.1=some .cell:=fun y hy hl=>by
  rcases yk.mp (wK.mp (wK.mp (hall y hy)).1).1 with z|z
  · exact absurd hl (of_decide_eq_true z)
  · exact of_decide_eq_true z
 have hnames:∀y∈scope.names,y.2 = .local->scope.names.lookup y.1=some .local:=fun y hy hl=>by
  rcases yk.mp (wK.mp (wK.mp (hall y hy)).1).2 with z|z
  · exact absurd hl (of_decide_eq_true z)
  · exact of_decide_eq_true z
 have hfree:∀y∈scope.names,y.2 = .free->X.env.kindOf y.1=some .cell\/X.env.kindOf y.1=some .free:=fun y hy hl=>by
  rcases yk.mp (wK.mp (hall y hy)).2 with z|z
  · exact absurd hl (of_decide_eq_true z)
  · exact(yk.mp z).imp of_decide_eq_true of_decide_eq_true
 obtain⟨frl,frg⟩:=ph.get hfr;obtain⟨cl,hclos,cl1,cl2⟩:=fK (env:=X.env) (scope:=scope) fun y hy hl=>I.ok.has y.1 (hfree y hy hl);rw[eval_ListComp];refine wpAny_comprehension_free (use:=none) rfl hs hclos hkind hnames (ud (hi pins s σ H _ I h) fun v s1 h1=>ud h1 fun itv s2 h2=>?_);obtain⟨it,fp,tn,J,H2,e,I2,T,st2,f2,q2⟩:=h2;subst e;refine wW ?_;have hD:H2 s2.heap.objs.size=none:=I2.hok.fresh (we _)
 have I3:Inv X pins σ (upd H2 s2.heap.objs.size (.lst [])) {s2 with heap:=s2.heap.push {cls:=.type "list", data:=.seq ([]:List v9).toArray}} :=
  I2.laid (t':=s2.toks) (fun b u e=>wc _ e) (we _) ⟨by show 0<=sizeLine;exact xx _,[],0,.nil,wu _ rfl⟩
 obtain⟨Wv,⟨m0,w0⟩,turn⟩:=q2 _ hD;have tn3:tn 0 (s2.heap.push {cls:=.type "list", data:=.seq ([]:List v9).toArray}):=T.keep _ _ _ st2 fun b _ o e=>wc _ e
 have fpD:∀b∈fp,(upd H2 s2.heap.objs.size (.lst [])) b=none:=fun b hb=>by
  obtain⟨o,e,_⟩:=T.obj _ _ st2 b hb;rw[upd_ne (wT (wl e))];exact(f2 b hb).1
 have fp3:∀b∈fp,b<(s2.heap.push {cls:=.type "list", data:=.seq ([]:List v9).toArray}).objs.size:=fun b hb=>by
  obtain⟨o,e,_⟩:=T.obj _ _ tn3 b hb;exact wl e
 exact gT N' fr hc hkind hcell hfree frl frg cl1 cl2 I3 T tn3 fpD fp3 (fun b hb=>(f2 b hb).2) (hg ⟨cl,fp,X.pn++pins,_,_⟩) (ht ⟨cl,fp,X.pn++pins,_,_⟩) (he ⟨cl,fp,X.pn++pins,_,_⟩) w0 (turn ⟨cl,fp,X.pn++pins,_,_⟩)
  (Rp:=compPost (wZ X.prog X.w) X.A X.xe none (EP X pins σ Q) (.ref s2.heap.objs.size)) fun s5 H4 m hn k _ qn=>⟨m,hn,fun h' hs'=>⟨.ref _,H4,k h' hs',rfl,qn⟩⟩
end
end L2
namespace L2.VL
noncomputable def W.cap:W->Option W
 | .d x=>some (.d x)
 | .reel=>some .reel
 | .vv u=>some (.vv u)
 | .sc ns=>some (.sc ns)
 | .fd kvs=>some (.fd kvs)
 | .xr kvs=>some (.xr kvs)
 | .fw kvs=>some (.fw kvs)
 | .ft kvs=>some (.ft kvs)
 | .xc x fs=>some (.xc x fs)
 | .dp kvs x=>some (.dp kvs x)
 | _=>none
noncomputable def gZ(fr:List (Option Nat))(ρ:En):En:=fr.map fun o=>o.bind fun j=>((ρ[j]?).join).bind W.cap
noncomputable def qC(X:Cx)(rl:Option Addr)(ifs:List Expr)(f:TB):Prop:=∃t,vz X ifs t/\∀{F₀ H₀ F H:Hp}{σ:St}{ρ:En},VR X.K rl F₀ H₀ F H σ ρ->∀(Qd:Bool->Prop)(Q:Bool->Hp->Prop),f ρ Qd ->
 (∀b F' H',Grow rl F H F' H'->Qd b->Q b H')->t σ H Q
theorem fQ{X:Cx}:qC X rl [] (fun _ Q=>Q true):=⟨_,lH,fun R Qd Q q k=>k true _ _ (Grow.refl R.sub R.reel) q⟩
theorem cR{fr:List (Option Nat)}(h:(gZ fr ρ)[i]?=some (some w)):∃j w',fr[i]?=some (some j)/\ρ[j]?=some (some w')/\w'.cap=some w:=by
 unfold gZ at h;rw[xf]at h
 cases ef:fr[i]? with
 | none=>rw[ef]at h;cases h
 | some o =>
   cases o with
   | none=>rw[ef]at h;cases h
   | some j =>
     rw[ef]at h;have h':((ρ[j]?).join).bind W.cap=some w:=wL h
     cases q:ρ[j]? with
     | none=>rw[q]at h';cases h'
     | some o =>
       cases o with
       | none=>rw[q]at h';cases h'
       | some w'=>rw[q]at h';exact⟨j,w',rfl,q,h'⟩
theorem gt{w':W}(h:w'.cap=some w):w=w'/\w.own=false/\∀xs,w ≠ .pk xs:=by
 cases w'<;>cases h<;>exact⟨rfl,rfl,(fun _ z=>by cases z)⟩
theorem jA{K:W.Frag}{fr:List (Option Nat)}(R:VR K rl F₀ H₀ F H σ ρ)(g:Grow rl F H F H'):VR K rl F H F H' (ki fr σ) (gZ fr ρ):=by
 refine⟨g,fun i w e=>?_,fun i j xs ys v _ e1 _ o1 _ _ _=>?_,fun i xs e=>?_,by simp[ki,gZ]⟩
 · obtain⟨j,w',e1,e2,e3⟩:=cR e;obtain⟨rfl,n1,n2⟩:=gt e3;obtain⟨v,s1,r1,_⟩:=R.sl j w e2;refine⟨v,?_,r1.grow g,?_⟩
   · unfold ki;rw[xf,e1];show some ((σ[j]?).join)=_;rw[s1];rfl
   · cases w with
     | ml xs=>cases n1
     | md xs=>cases n1
     | mk xs=>cases n1
     | xm xs=>cases n1
     | nt _=>trivial
     | lk=>trivial
     | sc _=>trivial
     | fd _=>trivial
     | xr _=>trivial
     | fw _=>trivial
     | ft _=>trivial
     | xc _ _=>trivial
     | dp _ _=>trivial
     | d _=>trivial
     | pk _=>trivial
     | reel=>trivial
     | vv _=>trivial
 · obtain⟨_,_,_,_,e3⟩:=cR e1;rw[(gt e3).2.1]at o1;cases o1
 · obtain⟨_,_,_,_,e3⟩:=cR e;exact absurd rfl ((gt e3).2.2 xs)
theorem gL{fr:List (Option Nat)}:kz (gZ fr ρ):=fun i xs e=>by
 obtain⟨_,_,_,_,e3⟩:=cR e;exact(gt e3).2.1
theorem VR.other{K:W.Frag}(R:VR K rl F₀ H₀ F H σ ρ)(n:kz ρ){D:Addr}{o:HO}(h0:H₀ D=none)(f:F D=none)(hr:rl≠some D):VR K rl F₀ H₀ F (upd H D o) σ ρ:=by
 have neF:∀b u,F b=some u->b≠D:=fun b u q z=>by subst z;rw[f]at q;cases q
 have g:Grow rl F₀ H₀ F (upd H D o):=by
  refine⟨fun b o q1 n=>by rw[upd_ne (aw q1 h0)];exact R.g.same b o q1 n,R.g.fs,fun b o q1=>by rw[upd_ne (neF b o q1)];exact R.sub b o q1,R.g.old,fun y z=>?_⟩;obtain⟨z1,⟨u,h1,h2⟩⟩:=R.reel y z;exact⟨z1,⟨u,by rw[upd_ne (fun q=>hr (by rw[<- q];exact z))];exact h1,h2⟩⟩
 refine⟨g,fun i w e=>?_,R.ap,R.np,R.len⟩;obtain⟨v,h1,h2,h3⟩:=R.sl i w e;refine⟨v,h1,?_,h3⟩
 cases w with
 | d x=>exact h2
 | reel=>exact h2
 | vv u=>exact h2
 | ml xs=>cases n i _ e
 | md xs=>cases n i _ e
 | mk xs=>cases n i _ e
 | xm xs=>cases n i _ e
 | nt ds=>exact h2
 | lk=>trivial
 | sc _=>exact h2
 | fd _=>exact h2
 | xr _=>exact h2
 | fw _=>exact h2
 | ft _=>exact h2
 | xc _ _=>exact h2
 | dp _ _=>exact h2
 | pk xs=>exact absurd e (R.np i xs)
section
variable{X:Cx}{rl:Option Addr}{elt tg iter:Expr}{ifs:List Expr}{scope:Scope}{pos:Pos}{fi:En->(List v7->Prop)->Prop}{g:vf}{ft:TB}{fe:TV}
end
mutual
def mH:v7->Prop
 | .none=>True
 | .bool _=>True
 | .int i=>i.natAbs<2^1900
 | .str x=>v7.strOk x=true
 | .list xs=>c7 xs
 | .tuple xs=>c7 xs
 | .dict _=>False
def c7:List v7->Prop
 | []=>True
 | x::xs=>mH x/\c7 xs
end
theorem gP(h:n<2^k)(hk:0<k):n.log2<k:=by
 by_cases h0:n=0
 · subst h0;simpa using hk
 · exact(Nat.log2_lt h0).mpr h
mutual
theorem mH.facts:∀d:v7,mH d->d.showable=true/\d.canLay0=true/\d.hasDict=false/\d.leavesShort 1921=true
 | .none,_=>⟨rfl,rfl,rfl,rfl⟩
 | .bool _,_=>⟨rfl,rfl,rfl,rfl⟩
 | .int i,h=>by
   have hl:i.natAbs.log2<1920:=gP (wa (show i.natAbs<2^1900 from h) (wj (by decide) (by decide))) (by decide);refine⟨by simp[zR,hl],rfl,rfl,?_⟩;simp only[zf,decide_eq_true_eq]
   exact int_text_len_1921 hl
 | .str x,h=>by
   refine⟨rfl,(show Ac (.str x)=true by simp only[Ac];exact h),rfl,?_⟩;have h:x.cps.all (· < 0x110000)=true:=h;simp only[zf];rw[zx];intro c hc;have:=(Array.all_eq_true_iff_forall_mem.mp h) c (by simpa using hc);simp at this ⊢
   omega
 | .list xs,h=>by
   obtain⟨a,b,c,d⟩:=c7.facts xs h
   exact⟨by simpa[zR]using a,by simpa[Ac]using b,by simpa[v7.hasDict]using c,by simpa[zf]using d⟩
 | .tuple xs,h=>by
   obtain⟨a,b,c,d⟩:=c7.facts xs h
   exact⟨by simpa[zR]using a,by simpa[Ac]using b,by simpa[v7.hasDict]using c,by simpa[zf]using d⟩
 | .dict _,h=>xJ h
theorem c7.facts:∀xs:List v7,c7 xs->v7.showableAll xs=true/\zm xs=true/\v7.hasDictAll xs=false/\AC 1921 xs=true
 | [],_=>⟨rfl,rfl,rfl,rfl⟩
 | x::xs,h=>by
   obtain⟨a,b,c,d⟩:=mH.facts x h.1;obtain⟨a',b',c',d'⟩:=c7.facts xs h.2;exact⟨by simp[v7.showableAll,a,a'],by simp[zm,b,b'],by simp[v7.hasDictAll,c,c'],by simp[AC,d,d']⟩
end
noncomputable def vt(d:v7):Prop:=mH d/\d.depth<=60/\d.bulk<=8000
theorem vt.len{d:v7}(h:vt d):d.shown.length<=sizeLine:=by
 have q:=v7.shown_le_bulk 1921 (by decide) d (mH.facts d h.1).2.2.2;have:=h.2.2;have e:sizeLine=16777216:=by decide
 omega
section
variable{X:Cx}{rl:Option Addr}{a b e:Expr}{es:List Expr}{fa fb fc:TV}{fs:vb}{pos p:Pos}
noncomputable def nK(K:W.Frag):List V->Hp->VK->Prop:=fun xs H Q=>∃x d,xs=[x]/\Rep K H x d/\vt d/\Q (.str d.shown) H
theorem jn(hgd:X.A.guards=some [])(hu:X.A.units+64<cLine):cb X (.builtin "repr") (nK X.K):=by
 intro pins s σ H xs us Q I r ⟨x,d,ex,rx,sh,q⟩;subst ex;obtain⟨u,rfl,ru⟩:=vals1 r;have fin:∀tk h' , (∀b o,s.heap.get? b=some o->h'.get? b=some o)->∀t,EP X pins σ Q (.str d.shown t) {s with heap:=h',toks:=tk}:=fun tk h' k t=>⟨.str d.shown,H,I.kept k,⟨t,rfl⟩,q⟩;obtain⟨as,rd⟩:=Rep.reads I (.refl H) rx u ru;have hs:=(mH.facts d sh.1)
 cases rx with
 | non=>cases(show u=yK from ru);exact P.repr_of_none (fin _ _ (fun _ _ e=>e) _)
 | bl b=>cases(show u=Bf b from ru);exact P.repr_of_bool (fin _ _ (fun _ _ e=>e) _)
 | int i =>
   obtain⟨t,e⟩:=(show ∃t,u=Az i t from ru);cases e
   exact P.repr_of_int (by simpa[zR]using hs.1) (fin _ _ (fun _ _ e=>e) _)
 | str x =>
   obtain⟨t,e⟩:=(show ∃t,u=By x t from ru);cases e
   exact P.repr_of_str (fin _ _ (fun _ _ e=>e) _) sh.len
 | tup sq rs =>
   cases(show u=zK _ from ru)
   exact repr_of_reads' rd hs.1 (v7.noDict_hsm hs.2.2.1) hgd (by have:=sh.2.1;omega) (fun _ _ e=>e) (fun h' t tk hk=>fin tk h' hk t) sh.len
 | lst sq rs =>
   cases(show u=zK _ from ru);exact repr_of_reads' rd hs.1 (v7.noDict_hsm hs.2.2.1) hgd (by have:=sh.2.1;omega) (fun _ _ e=>e) (fun h' t tk hk=>fin tk h' hk t) sh.len
noncomputable def ke:List W->(W->Prop)->Prop:=fun ws Q=>∃w d,ws=[w]/\w.dat=some d/\vt d/\Q (.d (.str d.shown))
theorem lh:c6 X rl (nK X.K) ke:=fun{F H vs ws} Qd Q s ra r ⟨w,d,ew,e1,sh,q⟩ k=>by
 subst ew;obtain⟨v,rfl,r1⟩:=jJ r;exact⟨v,d,rfl,r1.dat s e1,sh,k _ (.d _) _ _ (Grow.refl s ra) (.str _) trivial q⟩
theorem cz(hr:Room 0 X.A)(hm:X.mg "repr" = none)(ha:vy X rl [e] fs)(hg:autoParam (Gl X "repr") æa._auto_1)(he:autoParam (wm [e] X.env=(false,eval e X.env)::wm [] X.env) æa._auto_1)(hpl:autoParam ((yr pos (wm [] X.env)).any (·.1)=false) æa._auto_1) :
 PV X rl (.Call (.Name "repr" p) [e] [] pos) (cF ke fs):=ce (jn hr.gd hr.units) lh hm (by first|rfl|exact boot_repr) ha hg (by decide) (by decide) he hpl
noncomputable def t9:v7->String
 | .none => "NoneType"
 | .bool _ => "bool"
 | .int _ => "int"
 | .str _ => "str"
 | .list _ => "list"
 | .tuple _ => "tuple"
 | .dict _ => "dict"
noncomputable def r_(d:v7)(T:String):Bool:=t9 d==T||(t9 d == "bool" && T == "int")
noncomputable def rN(T:String):Bool:=["int", "bool", "str", "list", "tuple"].contains T
noncomputable def si:List W->(W->Prop)->Prop:=fun ws Q=>∃w d T,ws=[w,.vv (.ty T)]/\w.dat=some d/\rN T=true/\Q (.d (.bool (r_ d T)))
theorem pG(hm:X.mg "len" = none)(ha:vy X rl [a] fs)(hg:autoParam (Gl X "len") æa._auto_1)(he:autoParam (wm [a] X.env=(false,eval a X.env)::wm [] X.env) æa._auto_1)(hpl:autoParam ((yr pos (wm [] X.env)).any (·.1)=false) æa._auto_1) :
 PV X rl (.Call (.Name "len" p) [a] [] pos) (cF pd fs):=ce bu mP hm boot_len ha hg (by decide) (by decide) he hpl
theorem mY(hm:X.mg "abs" = none)(ha:vy X rl [a] fs)(hg:autoParam (Gl X "abs") æa._auto_1)(he:autoParam (wm [a] X.env=(false,eval a X.env)::wm [] X.env) æa._auto_1)(hpl:autoParam ((yr pos (wm [] X.env)).any (·.1)=false) æa._auto_1) :
 PV X rl (.Call (.Name "abs" p) [a] [] pos) (cF pg fs):=ce d4 mQ hm (by first|rfl|exact boot_abs) ha hg (by decide) (by decide) he hpl
noncomputable def oF:List W->(W->Prop)->Prop:=fun ws Q=>∃i,ws=[.d (.int i)]/\i.natAbs.log2<1920/\Q (.d (.str (toString i)))
end
structure FnIn (K:W.Frag) (mg:Str->Option v9) (x:Str) (st:Stmt) (ps:List Str):Prop where
 ex:∃f fd,mg x=some (.ref f)/\Fun K x x st f fd/\Binds K fd ps []
structure Bz (mg:Str->Option v9):Prop where
 int_:mg "int" = none
 bool_:mg "bool" = none
 str_:mg "str" = none
 list_:mg "list" = none
 tuple_:mg "tuple" = none
 dict_:mg "dict" = none
 isinstance_:mg "isinstance" = none
 len_:mg "len" = none
 abs_:mg "abs" = none
 repr_:mg "repr" = none
 range_:mg "range" = none
 all_:mg "all" = none
 any_:mg "any" = none
 sum_:mg "sum" = none
 min_:mg "min" = none
 max_:mg "max" = none
 sorted_:mg "sorted" = none
 zip_:mg "zip" = none
 enumerate_:mg "enumerate" = none
 reversed_:mg "reversed" = none
 divmod_:mg "divmod" = none
 set_:mg "set" = none
section
variable{P:wD}{w:wR}{K:W.Frag}{mg:Str->Option v9}{base:Heap}{rl:Option Addr}{x:Str}{st:Stmt}{N ps:List Str}{k:Nat}{Pd:List W->(v7->Prop)->Prop}{t:vd}
theorem Dfn.of(Fn:FnIn K mg x st ps)(S:FnScope N ps (defScope st))(mono:∀ws Q Q',(∀d,Q d->Q' d)->Pd ws Q->Pd ws Q')(len:∀ws Q,Pd ws Q->ws.length=ps.length)
 (hbody:∀{f:Addr}(cdv:v9)(A:wS)(outer:List Env)(s:v_)(H:Hp)(E:XK),Room k (A.deeper (At x (defScope st) s.heap.objs.size f cdv)) ->
  gX (jw vX P w K mg base N x (defScope st) f cdv A outer s H E).nox rl (defBody st) t)
 (hread:∀ws Q,Pd ws Q->t (jE Q) (bQ N ws)):Dfn P w K mg base rl x ps (k+1) Pd:=by
 obtain⟨f,fd,hm,F,hb⟩:=Fn.ex;exact⟨mono,f,fd,hm,F.kp,hb,tV F S len hbody hread⟩
end
section
variable{X:Cx}{rl:Option Addr}{e:Expr}{es:List Expr}{fa fb fc:TV}{fs:vb}{pos p:Pos}
end
noncomputable def dO:List W->(v7->Prop)->Prop:=fun ws Q=>∃m:Int,ws=[.reel,.d (.int m)]/\0<m/\m<2^60/\∀k:Int,0<=k->k<m->Q (.int k)
theorem dO.mono:∀ws (Q Q':v7->Prop),(∀d,Q d->Q' d)->dO ws Q->dO ws Q':=fun _ _ _ h ⟨m,e,p,z,q⟩=>⟨m,e,p,z,fun k a b=>h _ (q k a b)⟩
theorem dO.len:∀ws (Q:v7->Prop),dO ws Q->ws.length=2:=fun _ _ ⟨m,e,_⟩=>by subst e;rfl
theorem fz_d(x:v7):(W.d x).fz = .d x:=rfl
theorem fz_ml(x:List v7):(W.ml x).fz = .d (.list x):=rfl
theorem fz_pk(x:List v7):(W.pk x).fz = .pk x:=rfl
theorem fz_reel:W.reel.fz = .reel:=rfl
theorem fz_vv(x:V):(W.vv x).fz = .vv x:=rfl
theorem pk_d(x:v7):L2.VL.W.peek (.d x) = .d x:=rfl
theorem pk_ml(x:List v7):L2.VL.W.peek (.ml x) = .pk x:=rfl
theorem pk_reel:L2.VL.W.peek .reel = .reel:=rfl
theorem pk_vv(x:V):L2.VL.W.peek (.vv x) = .vv x:=rfl
theorem dat_d(x:v7):(W.d x).dat=some x:=rfl
theorem dat_ml(x:List v7):(W.ml x).dat=some (.list x):=rfl
theorem dat_pk(x:List v7):(W.pk x).dat=some (.list x):=rfl
theorem isPk_d(x:v7):(W.d x).isPk=false:=rfl
theorem isPk_ml(x:List v7):(W.ml x).isPk=false:=rfl
theorem isPk_reel:W.reel.isPk=false:=rfl
theorem dats_nil:dZ []=some []:=rfl
theorem dats_d(x:v7)(r:List W):dZ (.d x::r)=(dZ r).map (x :: ·):=rfl
theorem arg_d(x:v7):cx (.d x)=true:=rfl
theorem arg_reel:cx .reel=true:=rfl
theorem item_l(xs:List v7)(i:Int):L2.VL.itemAt (.list xs) i=L2.atI xs i:=rfl
theorem item_t(xs:List v7)(i:Int):L2.VL.itemAt (.tuple xs) i=L2.atI xs i:=rfl
theorem len_l(xs:List v7):l4 (.list xs)=some xs.length:=rfl
theorem len_t(xs:List v7):l4 (.tuple xs)=some xs.length:=rfl
theorem at0{α:Type}(x:α)(r:List α):L2.atI (x::r) 0=some x:=by simp[L2.atI,L2.ixN]
theorem at1{α:Type}(x y:α)(r:List α):L2.atI (x::y::r) 1=some y:=by
 have:(1:Int)<((x::y::r).length:Int):=by simp;omega
 simp only[L2.atI,L2.ixN];rw[if_pos (by decide),if_pos this];rfl
theorem bW{x y:Int}(h:y≠0):(x.fmod y).natAbs<y.natAbs:=by
 rcases Int.lt_or_gt_of_ne h with hy|hy
 · have h1:=AD x y
   have e:x.fmod y = -((-x).fmod (-y)):=by
    have:=Int.neg_fmod_neg x y;omega
   have p:0 < -y:=by omega
   have b1:=xh (-x) p;have b2:=xU (-x) p;omega
 · have b1:=xh x hy;have b2:=xU x hy;omega
theorem cQ(x y:Int):wX y (x.fmod y)=wX x y:=by
 have e:x.fmod y=x+y*(-(x.fdiv y)):=by
  have:=AD x y;rw[Int.mul_neg];omega
 rw[e,Int.gcd_add_mul_left_right];exact Bn y x
theorem eqv_ii(a b:Int):ye (.int a) (.int b)=(a==b):=by simp[ye]
theorem shaped_i(a:Int):x6 (.int a)=true:=rfl
theorem shaped_b(a:Bool):x6 (.bool a)=true:=rfl
theorem bL{x y:Int}(h:y≠0)(b:y.natAbs<2^64):(x.fmod y).natAbs<2^64:=Nat.lt_trans (bW h) b
theorem bP.of{i j:Int}(h:j≠0)(b:j.natAbs<2^64):bP i j:=⟨h,wa b (wj (by decide) (by decide))⟩
theorem mf{a:Int}(h:b≠0):0<(wX a b:Int):=by
 have:=zG a h;omega
theorem oD{a:Int}(h:b≠0):(wX a b)<=b.natAbs:=Nat.le_of_dvd (by omega) (Int.gcd_dvd_natAbs_right a b)
structure Lf (d:v7):Prop where
 nice:mH d
 dep:d.depth<=2
 wt:d.bulk<=2000
theorem Lf.int{i:Int}(h:i.natAbs<2^1000):Lf (.int i) :=
 ⟨Nat.lt_trans h (Nat.pow_lt_pow_right (by decide) (by decide)),by simp[Bo],by simp[v7.bulk]⟩
theorem qA{xs:List α}{k:Int}(h0:0<=k)(h1:k<(xs.length:Int)):∃z,L2.atI xs k=some z/\z∈xs:=by
 obtain⟨n,rfl⟩:=yl h0;have hn:n<xs.length:=by omega
 exact⟨xs[n],cu (wz hn),x5 hn⟩
theorem ip{K:W.Frag}{i:Str}(h:Rep K F v (.str i)):v = .str i:=by cases h;rfl
noncomputable def qr(neg:Bool):W->W->(W->Prop)->Prop:=fun x y Q=>∃a b:Str,x = .d (.str a)/\y = .d (.str b)/\Q (.d (.bool (if neg then !decide (a=b)else decide (a=b))))
theorem fS{X:Cx}:u_ X rl uw (qr true):=fun{F H x y wx wy} Qd Q s ra r1 r2 q k=>by
 obtain⟨a,b,rfl,rfl,q⟩:=q;have e1:=ip r1;have e2:=ip r2;subst e1 e2
 have e:decide (V.str a=V.str b)=decide (a=b):=by
  by_cases h:a=b
  · subst h;simp
  · rw[decide_eq_false h,decide_eq_false fun z=>h (by injection z)]
 exact⟨rfl,by rw[e];exact k _ (.d _) _ _ (Grow.refl s ra) (.bl _) trivial q⟩
section
variable{P:wD}{w:wR}{K:W.Frag}{mg:Str->Option v9}{base:Heap}{rl:Option Addr}{x:Str}{st:Stmt}{N ps:List Str}{k:Nat}{Pd:List W->(List v7->Prop)->Prop}{t:vd}
end
section
variable{X:Cx}{rl:Option Addr}{e:Expr}{es:List Expr}{fs:vb}{pos p:Pos}
noncomputable def pI(Pd:List W->(List v7->Prop)->Prop)(fs:vb):TV:=fun ρ Q=>fs ρ fun ws=>ws.all cx=true/\Pd ws fun xs=>Q (.ml xs)
theorem lJ(X:Cx)(rest:List Stmt):vA X rest (fun D σ H=>∀pins s,Inv X pins σ H s->wM (wZ X.prog X.w) X.A (execs rest X.env) (SP X pins D) X.xe s):=fun pins s σ H D I h=>h pins s I
end
theorem ko(h:ns.length<=63):mB (ns.map V.int) none (some 63)=ns.map V.int:=by
 unfold mB;rw[HT.sIx_none]
 have e:HT.sIx (ns.map V.int).length (ns.map V.int).length (some 63)=(ns.map V.int).length:=by
  have:=HT.sIx_nat (ns.map V.int).length (ns.map V.int).length 63;rw[show((63:Nat):Int)=63 from rfl]at this;rw[this,wp];omega
 rw[e];simp;exact xI (by simp)
section
variable{X:Cx}{rl:Option Addr}{a b c e:Expr}{es:List Expr}{fa fb fc:TV}{fs:vb}{pos p:Pos}
noncomputable def dm:v7->Option (List v7)
 | .list xs=>some xs
 | .tuple xs=>some xs
 | _=>none
theorem seq_l(xs:List v7):dm (.list xs)=some xs:=rfl
theorem seq_t(xs:List v7):dm (.tuple xs)=some xs:=rfl
theorem dm.of{o:Option v7}{d:v7}{xs:List v7}(h:o=some d)(e:dm d=some xs):o=some (.list xs)\/o=some (.tuple xs):=by
 cases d<;>cases e
 · exact .inl h
 · exact .inr h
noncomputable def ka:List W->(W->Prop)->Prop:=fun ws Q=>∃w d xs,ws=[w]/\w.dat=some d/\dm d=some xs/\Q (.d (.tuple xs))
theorem mN:c6 X rl (fun xs H Q=>∃p ys,xs=[.ref p]/\((vp X.K H p ys/\∀l,H l=none->Q (.ref l) (upd H l (.tup ys)))\/(vj X.K H p ys/\Q (.ref p) H))) ka:=fun{F H vs ws} Qd Q s ra r ⟨w,d,xs,ew,ed1,ed2,q⟩ k=>by
 have ed:=dm.of ed1 ed2;subst ew;obtain⟨v,rfl,r1⟩:=jJ r;rcases ed with ed|ed
 · obtain⟨a,us,rfl,sq,rs⟩:=r1.items s ed;refine⟨a,us,rfl,.inl ⟨sq,fun l hl=>?_⟩⟩;have g:=Grow.data (a:=l) (o:=.tup us) s ra hl;exact k _ (.d (.tuple xs)) _ _ g (.tup (.inl (.inl ai)) (rs.mono g.fs)) trivial q
 · cases w with
   | d y =>
     cases ed
     cases(show Rep X.K F v (.tuple xs)from r1)with
     | tup sq rs=>exact⟨_,_,rfl,.inr ⟨dJ s sq,k _ (.d (.tuple xs)) _ _ (Grow.refl s ra) (.tup sq rs) trivial q⟩⟩
   | ml ys=>cases ed
   | pk ys=>cases ed
   | reel=>cases ed
   | vv u=>cases ed
   | md u=>cases ed
   | mk u=>cases ed
   | xm u=>cases ed
   | lk=>cases ed
   | sc _=>cases ed
   | fd _=>cases ed
   | xr _=>cases ed
   | fw _=>cases ed
   | ft _=>cases ed
   | xc _ _=>cases ed
   | dp _ _=>cases ed
   | nt ds =>
     cases ed;obtain⟨b,us,rfl,h,q'⟩:=r1;exact⟨_,_,rfl,.inr ⟨.inl (.inl (s _ _ h)),k _ (.d (.tuple xs)) _ _ (Grow.refl s ra) (.tup (.inl (.inl h)) q') trivial q⟩⟩
theorem cc(hm:X.mg "tuple" = none)(ha:vy X rl [a] fs)(hg:autoParam (Gl X "tuple") æa._auto_1)(he:autoParam (wm [a] X.env=(false,eval a X.env)::wm [] X.env) æa._auto_1)(hpl:autoParam ((yr pos (wm [] X.env)).any (·.1)=false) æa._auto_1) :
 PV X rl (.Call (.Name "tuple" p) [a] [] pos) (cF ka fs):=jC d3 mN hm (by rfl) ha hg (by decide) (by decide) he hpl
noncomputable def oM:List W->(W->Prop)->Prop:=fun ws Q=>∃w d xs,ws=[w]/\w.dat=some d/\dm d=some xs/\Q (.ml xs)
noncomputable def pL(i j l:Nat)(fs:vb):vd:=fun D ρ=>fs ρ fun ws=>∃x y z,dZ ws=some [x,y,z]/\D.nx (((ρ.set i (some (.d x))).set j (some (.d y))).set l (some (.d z)))
end
section
variable{X:Cx}{rl:Option Addr}
noncomputable def so:W->W->(W->Prop)->Prop:=fun x y Q=>∃b c,x = .d (.bool b)/\y = .d (.bool c)/\Q (.d (.bool (b==c)))
end
section
variable{X:Cx}{rl:Option Addr}{a b c e:Expr}{es:List Expr}{fa fb fc:TV}{fs:vb}{pos p p2:Pos}
noncomputable def uW(f:Int->Int->v7):List W->(W->Prop)->Prop:=fun ws Q=>∃i j,ws=[.d (.int i),.d (.int j)]/\Q (.d (f i j))
theorem pE{f:Int->Int->V}{g:Int->Int->v7}(h:∀K F i j,Rep K F (f i j) (g i j)):c6 X rl (fun xs H Q=>∃i j,xs=[.int i,.int j]/\Q (f i j) H) (uW g):=fun{F H vs ws} Qd Q s ra r ⟨i,j,ew,q⟩ k=>by
 subst ew;obtain⟨v,u,rfl,r1,r2⟩:=p5 r;have e1:=aT r1;have e2:=aT r2;subst e1 e2;exact⟨i,j,rfl,k _ (.d _) _ _ (Grow.refl s ra) (h _ _ i j) trivial q⟩
theorem kB(hm:X.mg "min" = none)(ha:vy X rl [a,b] fs)(hc:autoParam (X.calm=true) æa._auto_1)(hg:autoParam (Gl X "min") æa._auto_1)(he:autoParam (wm [a,b] X.env=(false,eval a X.env)::wm [b] X.env) æa._auto_1)(hpl:autoParam ((yr pos (wm [b] X.env)).any (·.1)=false) æa._auto_1) :
 PV X rl (.Call (.Name "min" p) [a,b] [] pos) (cF (uW fun i j=>.int (min i j)) fs) :=
 ce (jo hc) (pE (f:=fun i j=>.int (if j<i then j else i)) fun _ _ i j=>(show(if j<i then j else i)=min i j by split<;>omega) ▸ .int _) hm (by rfl) ha hg (by decide) (by decide) he hpl
noncomputable def dX:List W->(W->Prop)->Prop:=fun ws Q=>∃i j,ws=[.d (.int i),.d (.int j)]/\0<j/\j<1073741824/\Q (.d (.tuple [.int (i / j),.int (i%j)]))
theorem hJ:c6 X rl (fun xs H Q=>∃i j,xs=[.int i,.int j]/\sD i j/\∀p,H p=none->Q (.ref p) (upd H p (.tup [.int (i / j),.int (i%j)]))) dX:=fun{F H vs ws} Qd Q s ra r ⟨i,j,ew,h1,h2,q⟩ k=>by
 subst ew;obtain⟨v,u,rfl,r1,r2⟩:=p5 r;have e1:=aT r1;have e2:=aT r2;subst e1 e2;refine⟨i,j,rfl,⟨h1,h2⟩,fun p hp=>?_⟩;have g:=Grow.data (a:=p) (o:=.tup [.int (i / j),.int (i%j)]) s ra hp;exact k _ (.d _) _ _ g (.tup (.inl (.inl ai)) (.cons (.int _) (.cons (.int _) .nil))) trivial q
theorem jB(hm:X.mg "divmod" = none)(ha:vy X rl [a,b] fs)(hg:autoParam (Gl X "divmod") æa._auto_1)(he:autoParam (wm [a,b] X.env=(false,eval a X.env)::wm [b] X.env) æa._auto_1)(hpl:autoParam ((yr pos (wm [b] X.env)).any (·.1)=false) æa._auto_1) :
 PV X rl (.Call (.Name "divmod" p) [a,b] [] pos) (cF dX fs):=ce fL hJ hm (by rfl) ha hg (by decide) (by decide) he hpl
noncomputable def oO:List W->(W->Prop)->Prop:=fun ws Q=>(∃i,ws=[.d (.int i)]/\Q (.d (.int i)))\/∃k:Bool,ws=[.d (.bool k)]/\Q (.d (.int (if k then 1 else 0)))
noncomputable def rJ(i:Nat)(C:Int->Int->Prop)(f:Int->Int->Int)(fa:TV):vd:=fun D ρ=>∃n,ρ[i]?=some (some (.d (.int n)))/\fa ρ fun w=>∃m,w = .d (.int m)/\C n m/\D.nx (ρ.set i (some (.d (.int (f n m)))))
noncomputable def cutD(xs:List v7)(lo hi:Option Int):List v7:=(xs.drop (HT.sIx xs.length 0 lo)).take (HT.sIx xs.length xs.length hi-HT.sIx xs.length 0 lo)
abbrev ve:=En->(Option Int->Prop)->Prop
noncomputable def uE:ve:=fun _ Q=>Q none
noncomputable def uF(fa:TV):ve:=fun ρ Q=>fa ρ fun w=>∃i,w = .d (.int i)/\Q (some i)
noncomputable def rA(fa:TV)(fl fh:ve):TV:=fun ρ Q=>fa ρ fun w=>fl ρ fun l=>fh ρ fun h=>∃xs,w.dat=some (.list xs)/\Q (.ml (cutD xs l h))
noncomputable def kf:W->W->(W->Prop)->Prop:=fun x y Q=>∃xs ys,x.dat=some (.list xs)/\y.dat=some (.list ys)/\xs.length+ys.length<=sizeLine/\Q (.ml (xs++ys))
theorem ca.lst{K:W.Frag}{F H:Hp}{v:V}{w:W}{xs:List v7}(s:aS F H)(r:ca K rl F H v w)(e:w.dat=some (.list xs)):∃a vs,v = .ref a/\H a=some (.lst vs)/\Reps K F vs xs:=by
 have own:d8 K rl F H v xs->∃a vs,v = .ref a/\H a=some (.lst vs)/\Reps K F vs xs:=fun⟨a,vs,e1,_,_,e2,e3⟩=>⟨a,vs,e1,e2,e3⟩
 cases w with
 | d y =>
   cases e
   cases(show Rep K F v (.list xs)from r)with
   | lst h q=>exact⟨_,_,rfl,s _ _ h,q⟩
 | ml ys=>cases e;exact own r
 | pk ys=>cases e;exact own r
 | reel=>cases e
 | vv u=>cases e
 | md u=>cases e
 | mk u=>cases e
 | xm u=>cases e
 | nt u=>cases e
 | lk=>cases e
 | sc _=>cases e
 | fd _=>cases e
 | xr _=>cases e
 | fw _=>cases e
 | ft _=>cases e
 | xc _ _=>cases e
 | dp _ _=>cases e
theorem lc:u_ X rl rY kf:=fun{F H x y wx wy} Qd Q s ra r1 r2 q k=>by
 obtain⟨xs,ys,e1,e2,z,q⟩:=q;obtain⟨a,vs,rfl,h1,q1⟩:=r1.lst s e1;obtain⟨b,us,rfl,h2,q2⟩:=r2.lst s e2;refine⟨a,b,vs,us,rfl,rfl,h1,h2,by rw[q1.length,q2.length];exact z,fun p hp=>?_⟩;exact k _ (.ml _) _ _ (Grow.laid s ra hp) (dP s ra hp (q1.append q2)) (fun a ea=>by cases ea;exact hp) q
theorem mX(ha:PV X rl a fa)(hb:PV X rl b fb):PV X rl (.BinOp a .Add b pos) (tZ kf fa fb):=fB oa lc ha hb
noncomputable def ng(p p':Int->Int->Bool)(fa fb fc:TV):TV:=fun ρ Q=>fa ρ fun x=>fb ρ fun y=>∃i j,x = .d (.int i)/\y = .d (.int j) /\
 if p i j=true then fc ρ fun z=>∃k,z = .d (.int k)/\Q (.d (.bool (p' j k)))else Q (.d (.bool false))
structure GlD (K:W.Frag) (mg:Str->Option v9) (x:Str) (d:v7):Prop where
 ex:∃v u,mg x=some u/\RelV v u/\∀F,Rep K F v d
theorem mW{d:v7}(G:GlD X.K X.mg x d)(hg:autoParam (Gl X x) æa._auto_1)(hd:autoParam ((x==("__debug__" : Str))=false) æb._auto_1):PV X rl (.Name x pos) (vC d):=by
 obtain⟨v,u,h1,h2,h3⟩:=G.ex;exact lF h1 h2 h3 hg hd
structure GlK (K:W.Frag) (x:Str) (d:v7):Prop where
 ex:∃v u,W.nsIn K wP x=some (some u)/\RelV v u/\∀F,Rep K F v d
theorem GlK.of{K:W.Frag}{d:v7}{mg:Str->Option v9}(k:GlK K x d)(Y:K.In h)(G:h.Ns wP mg):GlD K mg x d:=by
 obtain⟨v,u,h1,h2,h3⟩:=k.ex;exact⟨v,u,W.mg_of Y G h1,h2,h3⟩
end
end L2.VL
namespace L2
section
variable{X:Cx}{a b:Expr}{ta:TA}{p q pos pos2:Pos}
end
end L2
namespace L2.VL
section
variable{X:Cx}{rl:Option Addr}{a b c e:Expr}{es:List Expr}{fa fb fc:TV}{fs:vb}{pos pos2 p q:Pos}
noncomputable def sJ(fs:vb):TV:=fun ρ Q=>fs ρ fun ws=>∃i j:Int,ws=[.d (.int i),.d (.int j)]/\(-(2^62)<=i/\i<2^62 /\ -(2^62)<=j/\j<2^62)/\(j-i).toNat<=2^24/\Q (.ml (au i (j-i).toNat))
noncomputable def sK(fs:vb):TV:=fun ρ Q=>fs ρ fun ws=>∃j:Int,ws=[.d (.int j)]/\(-(2^62)<=j/\j<2^62)/\j.toNat<=2^24/\Q (.ml (au 0 j.toNat))
noncomputable def hW(i j:Nat)(fa:TV):vd:=fun D ρ=>∃xs ys,ρ[i]?=some (some (.ml xs))/\ρ[j]?=some (some (.ml ys))/\fa ρ fun w=>∃k y,w = .d (.int k)/\0<=k/\k<(ys.length:Int)/\ys.length<2^62/\ys[k.toNat]?=some y/\xs.length<sizeLine /\
 D.nx ((ρ.set j (some (.ml (ys.eraseIdx k.toNat)))).set i (some (.ml (xs++[y]))))
end
theorem dv{β:Type}{xs:List α}{f:β->α->β}{a:β}(h:i<xs.length):(xs.take (i+1)).foldl f a=f ((xs.take i).foldl f a) xs[i]:=by
 rw[ya h,List.foldl_append];rfl
structure Sm (dp bk:Nat) (d:v7):Prop where
 nice:mH d
 dep:d.depth<=dp
 blk:d.bulk<=bk
theorem dt:∀{xs:List v7},(∀d∈xs,mH d)->c7 xs
 | [],_=>trivial
 | x::xs,h=>⟨h x wg,dt fun d hd=>h d (wf _ hd)⟩
theorem c3{k:Nat}:∀{xs:List v7},(∀d∈xs,d.depth<=k)->AE xs<=k+1
 | [],_=>by simp[AE]
 | x::xs,h=>by
   have h1:=h x wg;have h2:=c3 (k:=k) (xs:=xs) fun d hd=>h d (wf _ hd);simp only[AE];omega
theorem dB{k:Nat}:∀{xs:List v7},(∀d∈xs,d.bulk<=k)->Ad xs<=(k+1)*xs.length
 | [],_=>by simp[Ad]
 | x::xs,h=>by
   have h1:=h x wg;have h2:=dB (k:=k) (xs:=xs) fun d hd=>h d (wf _ hd);simp only[Ad,wF,Nat.mul_succ];omega
theorem Sm.seq{dp bk:Nat}{xs:List v7}(h:∀d∈xs,Sm dp bk d)(hl:xs.length<=n):Sm (dp+2) ((bk+1)*n) (.tuple xs)/\Sm (dp+2) ((bk+1)*n) (.list xs):=by
 have a:=dt fun d hd=>(h d hd).nice;have b:=c3 fun d hd=>(h d hd).dep;have c:Ad xs<=(bk+1)*n:=xP (dB fun d hd=>(h d hd).blk) (Nat.mul_le_mul_left _ hl);refine⟨⟨a,?_,c⟩,⟨a,?_,c⟩⟩<;>simp only[Bo]<;>omega
theorem Sm.shw{dp bk:Nat}{d:v7}(h:Sm dp bk d)(h1:dp<=60)(h2:bk<=8000):vt d:=⟨h.nice,by have:=h.dep;omega,by have:=h.blk;omega⟩
theorem Sm.int{i:Int}(h:i.natAbs<2^1000):Sm 0 0 (.int i):=⟨(Lf.int h).nice,by simp[Bo],by simp[v7.bulk]⟩
theorem Sm.mono{dp bk dp' bk':Nat}{d:v7}(h:Sm dp bk d)(h1:dp<=dp')(h2:bk<=bk'):Sm dp' bk' d:=⟨h.nice,xP h.dep h1,xP h.blk h2⟩
theorem Sm.pair{a:Int}(ha:a.natAbs<2^1000)(hb:b.natAbs<2^1000):Sm 2 2 (.tuple [.int a,.int b]) :=
 (Sm.seq (dp:=0) (bk:=0) (n:=2) (xs:=[.int a,.int b]) (fun d hd=>by
  rcases wE.mp hd with rfl|hd
  · exact Sm.int ha
  · rcases wE.mp hd with rfl|hd
    · exact Sm.int hb
    · cases hd) (we _)).1
end L2.VL
namespace L2
section
variable{X:Cx}{tg e:Expr}{ta te:TE}{p p2 pos:Pos}
end
end L2
namespace L2.VL
section
variable{X:Cx}{rl:Option Addr}{a b c e tg:Expr}{es:List Expr}{fa fb fc:TV}{fs:vb}{pos pos2 p p2 q:Pos}
theorem Reps.rev{K:W.Frag}{F:Hp}:∀{vs:List V}{ds:List v7},Reps K F vs ds->Reps K F vs.reverse ds.reverse
 | _,_,.nil=>.nil
 | _,_,.cons h r=>by rw[yL,yL];exact(Reps.rev r).snoc h
noncomputable def m6(fa:TV):TV:=fun ρ Q=>fa ρ fun w=>∃xs,w.dat=some (.list xs)/\Q (.ml xs.reverse)
end
end L2.VL
namespace L2
section
variable{X:Cx}
end
end L2
namespace L2.VL
section
variable{X:Cx}{rl:Option Addr}{a b c e:Expr}{es:List Expr}{fa fb fc:TV}{fs:vb}{pos p p2:Pos}
noncomputable def sw(f:List Bool->Bool):List W->(W->Prop)->Prop:=fun ws Q=>∃(w:W)(bs:List Bool),ws=[w]/\w.dat=some (.list (bs.map .bool))/\Q (.d (.bool (f bs)))
end
end L2.VL
namespace L2.TM
section
variable{prog:wD}{w:wR}{A:wS}{E:v9->v_->Prop}{s:v_}{k:Int}{t:Tok}{l:Addr}{its:Array v9}
end
end L2.TM
namespace L2
section
variable{X:Cx}
end
end L2
namespace L2.VL
section
variable{X:Cx}{rl:Option Addr}{a b c e:Expr}{es:List Expr}{fa fb fc:TV}{fs:vb}{pos p p2:Pos}
noncomputable def oH:W->W->(W->Prop)->Prop:=fun x y Q=>∃xs k,x = .d (.tuple xs)/\y = .d (.int k)/\xs≠[]/\1<=k/\k<2^62/\xs.length*k.toNat<=sizeLine/\Q (.d (.tuple (x8 k.toNat xs).flatten))
end
end L2.VL
namespace L2
section
variable{X:Cx}
section
variable{prog:wD}{w:wR}{A:wS}{E:v9->v_->Prop}{s:v_}
end
theorem gw{vs:List v9}(h:yY vs ns):bm (ns.map V.int) vs:=by
 induction h with
 | nil=>exact .nil
 | cons n t r ih=>exact .cons ⟨t,rfl⟩ ih
end
end L2
namespace L2.VL
section
variable{X:Cx}{rl:Option Addr}{a b c e:Expr}{es:List Expr}{fa fb fc:TV}{fs:vb}{pos p p2:Pos}
noncomputable def oR:W->W->(W->Prop)->Prop:=fun x y Q=>∃xs ys,x = .d (.tuple xs)/\y = .d (.tuple ys)/\xs.length+ys.length<=sizeLine/\Q (.d (.tuple (xs++ys)))
theorem dL{K:W.Frag}{F:Hp}:∀{vs:List V}{ns:List Int},Reps K F vs (ns.map .int)->vs=ns.map V.int
 | _,[],h=>h.nil_iff
 | _,n::ns,.cons h r=>by rw[aT h,dL r];rfl
theorem gi{K:W.Frag}{F:Hp}:∀{ns:List Int},Reps K F (ns.map V.int) (ns.map .int)
 | []=>.nil
 | n::ns=>.cons (.int n) gi
noncomputable def oG:List W->(W->Prop)->Prop:=fun ws Q=>∃(ns:List Int),ws=[.d (.tuple (ns.map .int))]/\ns.length<64/\∀ns':List Int,ns'.Perm ns->ns'.Pairwise (· <= ·)->Q (.ml (ns'.map .int))
end
end L2.VL
namespace L2.TO
section
variable{prog:wD}{w:wR}{A:wS}{E:v9->v_->Prop}{s:v_}
theorem gK(n:Nat):yR ((n:Int)-1) (-1) (-1)=n:=by
 unfold yR;rw[if_neg (by decide)];by_cases h:n=0
 · subst h;decide
 · rw[if_pos (by omega),show(- -1:Int)=1 by decide,Int.ediv_one];omega
theorem fP{sl:Addr}{vk:v9}{Q:Int×Int×Nat->v_->Prop}(hs:s.heap.IsSliceOf sl .none .none vk)(pk:IsPart vk (some (-1)))
 (h:Q ((n:Int)-1,-1,n) s):wM (wZ prog w) A (zZ (.ref sl) (pure (n:Int))) Q E s:=by
 obtain⟨o1,hos,_,hds⟩:=hs;unfold zZ Builtin.Slice.sliceFields;refine v8 (v8 (yZ hos hds (x:=.none) rfl (v8 (yZ hos hds (x:=.none) rfl (v8 (yZ hos hds (x:=vk) rfl (wb ?_)))))));refine v8 (HT.slicePart_ pk ?_);show wM _ _ (if((-1:Int)==0)=true then _ else _) _ _ s;rw[if_neg (by decide)];refine v8 (HT.slicePart_ .none (v8 (HT.slicePart_ .none (v8 (wb ?_)))));show wM _ _ (pure ((n:Int)-1,(-1:Int),yR ((n:Int)-1) (-1) (-1))) _ _ s;rw[gK];exact wb h
theorem jN(xs:Array v9):((wI xs.size).filterMap fun(k:Nat)=>xs[((xs.size:Int)-1+(k:Int) * -1).toNat]?).toArray=xs.toList.reverse.toArray:=by
 have e:(fun(k:Nat)=>xs[((xs.size:Int)-1+(k:Int) * -1).toNat]?)=fun k=>xs[xs.size-1-k]?:=by
  funext k;have:((xs.size:Int)-1+(k:Int) * -1).toNat=xs.size-1-k:=by omega
  rw[this]
 rw[e];have e2:(wI xs.size).filterMap (fun k=>xs[xs.size-1-k]?)=((wI xs.size).map fun k=>xs.size-1-k).filterMap (xs[·]?):=by rw[z8];rfl
 rw[e2,W.krv_range,List.filterMap_reverse,W.krv_all]
theorem get_rev{t sl:Addr}{items:Array v9}{vk:v9}{Q:v9->v_->Prop}(ht:IsTup s.heap t items)(hs:s.heap.IsSliceOf sl .none .none vk)(pk:IsPart vk (some (-1)))
 (h:Q (.ref s.heap.objs.size) {s with heap:=s.heap.push {cls:=.type "tuple", data:=.seq items.toList.reverse.toArray}})
 (hsz:items.size<=sizeLine):wM (wZ prog w) A (BS (.ref t) (.ref sl)) Q E s:=by
 have hz:sizeOk (.seq items.toList.reverse.toArray):=by
  show items.toList.reverse.toArray.size<=sizeLine;rw[wk,xK,wd];exact hsz
 have ty:s.TypeIs (.ref sl) "slice" := let ⟨o,h1,h2,_⟩:=hs;⟨o,h1,h2⟩
 have key:wM (wZ prog w) A (call (.builtin "tuple.__getitem__") [.ref t,.ref sl]) Q E s:=by
  refine xG xL ht.typeIs entry_tuple_getitem ?_ (args_tuple_getitem _ _);show wM _ _ (z4 (.ref t) >>= _) _ _ s;refine v8 (tupleItemsOf_ ht (v8 (wpAny_typeOf ty ?_)));rw[if_pos (by decide)];refine v8 (fP hs pk ?_);show wM _ _ (if((items.size:Int)-1==0&&(-1:Int)==1&&items.size==items.size)=true then _ else _) _ _ s;rw[if_neg (by simp),jN]
  first
   | exact v8 (m:=yf _) (wW (wb ⟨_,rfl,h⟩) hz)
   | exact v8 (m:=yf _) (wW (v8 (wb (wb ⟨_,rfl,h⟩))) hz)
   | exact v8 (v8 (m:=yf _) (wW (wb (wb ⟨_,rfl,h⟩)) hz))
   | exact v8 (v8 (m:=yf _) (wW (wb ⟨_,rfl,h⟩) hz))
 unfold BS;try with_reducible refine yi ?_
 first|exact v8 (wb (v8 (wpAny_sequenceKey ht.typeIs (by decide) (v8 (xA (name:=yD "__getitem__") ht.typeIs xL (ud key fun v s' q=>wb q))))))|exact v8 (wpAny_sequenceKey ht.typeIs (by decide) (v8 (xA (name:=yD "__getitem__") ht.typeIs xL (ud key fun v s' q=>wb q))))
end
end L2.TO
namespace L2
section
variable{X:Cx}{a b e:Expr}{ta:TA}{te:TE}{p p2 q pos pos2:Pos}
noncomputable def pV(K:W.Frag)(te:TE):TE:=fun σ H Q=>te σ H fun x H1=>∃a xs,x = .ref a/\vj K H1 a xs/\∀l,H1 l=none->Q (.ref l) (upd H1 l (.tup xs.reverse))
theorem lQ{p3 p4:Pos}(he:PE X e te):PE X (.Subscript e (.Slice none none (some (.UnaryOp .USub (.Constant (.int 1) j p3) p4)) p2) pos) (pV X.K te):=by
 intro pins s σ H Q I h;refine Subscript_ (ud (he pins s σ H _ I h) fun v s1 ⟨x,H1,I1,r1,q1⟩=>?_);obtain⟨a,xs,rfl,hq,q⟩:=q1;cases r1;refine wpAny_Slice ?_;rw[Bb];refine wb (wb ?_);refine ud (iC (X:=X) (nY kF aj) pins s1 σ H1 (fun o H=>o=some (-1)/\H=H1) I1 ⟨1,rfl,-1,rfl,rfl,rfl⟩) fun vk s3 ⟨o,H3,I3,pk,eo,eH⟩=>?_;subst eo eH;have I4:Inv X pins σ H3 {s3 with heap:=s3.heap.push {cls:=.type "slice", data:=.fields #[.none,.none,vk]}}:=I3.kept (t':=s3.toks) fun b ob q=>wc _ q;obtain⟨its,rv,p,hz⟩:=I4.tuple hq;have hl:=rv.length;refine tail_any (ops:=[.ref a,.ref s3.heap.objs.size]) p.typeIs xL.lookup ?_ (by with_unfolding_all rfl);refine TO.get_rev p (Heap.IsSliceOf.new ..) pk ?_ (by rw[wk]<;>omega);refine⟨.ref _,_,I4.laid (t':=s3.toks) (o:=.tup xs.reverse) (fun b ob q=>wc _ q) (we _) ?_,rfl,q _ (I4.hok.fresh (we _))⟩;exact⟨by rw[xK];exact hz,its.reverse,rv.reverse,ju.new _ _⟩
end
end L2
namespace L2.VL
section
variable{X:Cx}{rl:Option Addr}{a b c e:Expr}{es:List Expr}{fa fb fc:TV}{fs:vb}{pos pos2 p q p2:Pos}
noncomputable def sG(fs:vb):TV:=fun ρ Q=>fs ρ fun ws=>∃j:Int,ws=[.d (.int j)]/\(-(2^62)<=j/\j<2^62)/\j.toNat<=2^24/\Q (.d (.tuple (au 0 j.toNat)))
noncomputable def lm(fa:TV):TV:=fun ρ Q=>fa ρ fun w=>∃xs,w = .d (.tuple xs)/\Q (.d (.tuple xs.reverse))
theorem mU{p3 p4:Pos}(ha:PV X rl e fa):PV X rl (.Subscript e (.Slice none none (some (.UnaryOp .USub (.Constant (.int 1) j p3) p4)) p2) pos) (lm fa):=by
 obtain⟨t,p1,k⟩:=ha;refine⟨_,lQ p1,fun R Qd Q q h=>k R _ _ q fun v w F1 H1 g1 r1 n1 ⟨xs,ew,q1⟩=>?_⟩;subst ew
 cases(show Rep X.K F1 v (.tuple xs)from r1)with
 | @tup a vs _ sq rs =>
   refine⟨a,vs,rfl,dJ g1.sub sq,fun l hl=>?_⟩;have g:=Grow.data (a:=l) (o:=.tup vs.reverse) g1.sub g1.reel hl;exact h _ (.d _) _ _ (g1.trans g) (.tup (.inl (.inl ai)) (rs.rev.mono g.fs)) trivial q1
end
end L2.VL
namespace L2.TW
section
variable{prog:wD}{w:wR}{A:wS}{E:v9->v_->Prop}{s:v_}
end
end L2.TW
namespace L2
section
variable{X:Cx}
end
end L2
namespace L2.VL
section
variable{X:Cx}{rl:Option Addr}{a b c e:Expr}{es:List Expr}{fa fb fc:TV}{fs:vb}{pos p p2:Pos}
noncomputable def rB(fa:TV)(fl fh:ve):TV:=fun ρ Q=>fa ρ fun w=>fl ρ fun l=>fh ρ fun h=>∃xs,w = .d (.tuple xs)/\Q (.d (.tuple (cutD xs l h)))
end
end L2.VL
namespace L2
abbrev sM(D:List (Str×Int)):List (v7×v7):=(D.map fun q=>(q.1,wO q.2)).map fun q=>(v7.str q.1,q.2)
section
variable{X:Cx}{e:Expr}{ty:TE}{px apos cpos:Pos}
end
end L2
namespace L2.VL
section
variable{X:Cx}{rl:Option Addr}{a b c e:Expr}{es:List Expr}{fa fb fc:TV}{fs:vb}{pos p p2 px apos cpos:Pos}
noncomputable def nq(D:List (Str×Int))(k:Str):v7:=(PySem.Spec.lookup (.str k) (sM D)).getD .none
noncomputable def mZ(D:List (Str×Int))(fk:TV):TV:=fun ρ Q=>fk ρ fun w=>∃k,w = .d (.str k)/\Q (.d (nq D k))
end
end L2.VL
set_option exponentiation.threshold 10000
namespace L2.VL
noncomputable def mv(a b:Int):v7:=.tuple [.int (a.fdiv (wX a b)),.int (b.fdiv (wX a b))]
theorem dW{a:Int}(hb:0<b)(z:b.natAbs<2^8000)(i:Int):bP i (wX a b:Int):=by
 have h1:=mf (a:=a) (b:=b) (by omega);have h2:=oD (a:=a) (b:=b) (by omega);exact⟨by omega,zg (by omega) (wa z (wj (by decide) (by decide)))⟩
noncomputable def o5(bs:List Int):Prop:=bs.length=4/\(∀b∈bs,2<=b/\b<=16)/\bs.Pairwise fun x y=>wX x y=1
instance (bs:List Int):Decidable (o5 bs):=by unfold o5;infer_instance
noncomputable def pr(a b:Int):v7:=.tuple [.int a,.int b]
theorem GlK.pair{K:W.Frag}{a:Int}{p:Addr}{sl:Array (Option v9)}{t u:Tok}(h1:W.nsIn K wP x=some (some (.ref p)))
 (h2:K.lookup p=some ⟨.type "tuple", none,.seq #[.int a t,.int b u] n,sl⟩):GlK K x (pr a b):=by
 refine⟨.ref p,.ref p,h1,rfl,fun F=>.tup (vs:=[.int a,.int b]) (.inr ⟨_,_,n,h2,rfl,rfl,(by show 2<=sizeLine;decide),.cons ⟨t,rfl⟩ (.cons ⟨u,rfl⟩ .nil),rfl⟩) (.cons (.int a) (.cons (.int b) .nil))⟩
end L2.VL
set_option exponentiation.threshold 10000
namespace L2.VL
noncomputable def stepT(b:Int)(p:List Int)(t:Int)(a:Nat):Int:=t*b+p.getD a 0
noncomputable def t7:v7->Int
 | .int i=>i
 | _=>0
section
variable{P:wD}{w:wR}{K:W.Frag}{mg:Str->Option v9}{base:Heap}{rl:Option Addr}{x:Str}{st:Stmt}{N ps:List Str}{k:Nat}{Pd:List W->(List v7->Prop)->Prop}{t:vd}
end
section
variable{X:Cx}{rl:Option Addr}{a b c e:Expr}{es:List Expr}{fa fb fc:TV}{fs:vb}{pos p p2 px apos cpos:Pos}
end
end L2.VL
namespace L2.IX
section
variable{prog:wD}{w:wR}{A:wS}{E:v9->v_->Prop}{s:v_}
end
end L2.IX
namespace L2
section
variable{X:Cx}
end
end L2
namespace L2.VL
section
variable{X:Cx}{rl:Option Addr}{a b c e:Expr}{es:List Expr}{fa fb fc:TV}{fs:vb}{pos p p2 px apos cpos:Pos}
noncomputable def eU:v7->Bool
 | .none=>true
 | _=>false
noncomputable def sj(neg:Bool):W->W->(W->Prop)->Prop:=fun x y Q=>∃d,x.dat=some d/\y = .d .none/\Q (.d (.bool (if neg then !eU d else eU d)))
noncomputable def oI:W->W->(W->Prop)->Prop:=fun x y Q=>∃xs k,x.dat=some (.list xs)/\y = .d (.int k) /\ -(2^63)<=k/\k<2^63/\xs.length*k.toNat<=sizeLine/\Q (.ml (x8 k.toNat xs).flatten)
noncomputable def m8(i:Nat):vd:=fun D ρ=>∃xs,ρ[i]?=some (some (.ml xs))/\D.rt (.ml xs)
noncomputable def nh(i:Nat)(fa:TV):vd:=fun D ρ=>∃xs,ρ[i]?=some (some (.ml xs))/\fa ρ fun w=>∃ys,w.isPk=false/\w.dat=some (.list ys)/\xs.length+ys.length<=sizeLine/\D.nx (ρ.set i (some (.ml (xs++ys))))
end
end L2.VL
namespace L2.ZP
section
variable{prog:wD}{w:wR}{A:wS}{E:v9->v_->Prop}{s:v_}{it a:Addr}{k:Nat}{xs:Array v9}{v:v9}
end
section
variable{prog:wD}{w:wR}{A:wS}{E:v9->v_->Prop}{s:v_}{it a:Addr}{k:Nat}{xs:Array v9}{v:v9}
end
section
variable{prog:wD}{w:wR}{A:wS}{E:v9->v_->Prop}{s:v_}{z ti to i1 i2 a1 a2:Addr}{k1 k2:Nat}{xs ys:Array v9}{x y p q:v9}
end
noncomputable def uL(b:Bool):String:=bif b then "tuple_iterator" else "list_iterator"
section
variable{prog:wD}{w:wR}{A:wS}{E:v9->v_->Prop}{s:v_}{b b1 b2:Bool}{a a1 a2:Addr}{xs ys:Array v9}
abbrev y1(h:Heap)(b1:Bool)(a1:Addr):Heap:=h.push {cls:=.type (uL b1),data:=.fields #[.ref a1,.int 0 0]}
abbrev y2(h:Heap)(b1 b2:Bool)(a1 a2:Addr):Heap:=(y1 h b1 a1).push {cls:=.type (uL b2),data:=.fields #[.ref a2,.int 0 0]}
abbrev y3(h:Heap)(b1 b2:Bool)(a1 a2:Addr):Heap:=(y2 h b1 b2 a1 a2).push {cls:=.type "tuple", data:=.seq #[.ref h.objs.size,.ref (y1 h b1 a1).objs.size]}
abbrev y4(h:Heap)(b1 b2:Bool)(a1 a2:Addr):Heap:=(y3 h b1 b2 a1 a2).push {cls:=.type "tuple", data:=.seq #[.none,.none]}
abbrev y5(h:Heap)(b1 b2:Bool)(a1 a2:Addr):Heap:=(y4 h b1 b2 a1 a2).push {cls:=.type "zip", data:=.fields #[.none,.bool false,.bool false,.ref (y2 h b1 b2 a1 a2).objs.size,.ref (y3 h b1 b2 a1 a2).objs.size]}
end
end L2.ZP
namespace L2
open PySem PySem.Spec PyProof.Rows L2.ZP
open PySem PySem.Spec PyProof.Rows L2.ZP
section
variable{X:Cx}{e1 e2:Expr}{ta:TA}{elts:List Expr}{kt:Nat}{pt p pos:Pos}
end
end L2
namespace L2.VL
section
variable{X:Cx}{rl:Option Addr}{a b:Expr}{elts:List Expr}{kt:Nat}{pt p pos:Pos}{fs:vb}
noncomputable def o6(xs ys:List v7):List v7:=List.zipWith (fun x y=>.tuple [x,y]) xs ys
noncomputable def cq:v7->Bool
 | .tuple _=>true
 | _=>false
noncomputable def uQ(b1 b2:Bool)(fs:vb):En->(List v7->Prop)->Prop:=fun ρ Q=>fs ρ fun ws=>∃dx dy xs ys,ws=[.d dx,.d dy]/\dm dx=some xs/\dm dy=some ys/\cq dx=b1/\cq dy=b2/\Q (o6 xs ys)
end
theorem nr{α:Sort u}{a b:α}(h:a=b):a=b:=h
abbrev Mo(α:Type):=(α->Prop)->Prop
noncomputable def ret{α:Type}(a:α):Mo α:=fun Q=>Q a
noncomputable def u0{α β:Type}(m:Mo α)(f:α->Mo β):Mo β:=fun Q=>m fun a=>f a Q
noncomputable def uT{α:Type}(P:Prop)(m:Mo α):Mo α:=fun Q=>P/\m Q
noncomputable def stk{α:Type}:Mo α:=fun _=>False
noncomputable def anyM{α:Type}(P:α->Prop):Mo α:=fun Q=>∀a,P a->Q a
noncomputable def am{α β:Type}(o:Option α)(f:α->Mo β):Mo β:=match o with
 | some a=>f a
 | none=>stk
section
variable{α β γ:Type}
theorem bnd_ret(a:α)(f:α->Mo β):u0 (ret a) f=f a:=nr rfl
theorem bnd_bnd(m:Mo α)(f:α->Mo β)(g:β->Mo γ):u0 (u0 m f) g=u0 m fun a=>u0 (f a) g:=nr rfl
theorem bnd_grd(P:Prop)(m:Mo α)(f:α->Mo β):u0 (uT P m) f=uT P (u0 m f):=nr rfl
theorem bnd_stk(f:α->Mo β):u0 stk f=stk:=nr rfl
theorem bnd_ite(c:Prop)[Decidable c](a b:Mo α)(f:α->Mo β):u0 (if c then a else b) f=if c then u0 a f else u0 b f:=by split<;>rfl
theorem bnd_opt(o:Option α)(k:α->Mo β)(f:β->Mo γ):u0 (am o k) f=am o fun a=>u0 (k a) f:=by cases o<;>rfl
theorem opt_some(a:α)(k:α->Mo β):am (some a) k=k a:=nr rfl
theorem opt_none(k:α->Mo β):am none k=stk:=nr rfl
theorem al{P:Prop}(h:P)(m:Mo α):uT P m=m:=by funext Q;exact propext ⟨fun z=>z.2,fun z=>⟨h,z⟩⟩
theorem grd_T(m:Mo α):uT True m=m:=al trivial m
theorem cD(c:Prop)[Decidable c](a b:Mo α)(Q:α->Prop):(if c then a else b) Q=if c then a Q else b Q:=by split<;>rfl
theorem ac{m n:Mo α}(h:∀Q,m Q↔n Q):m=n:=funext fun Q=>propext (h Q)
end
noncomputable def asI:W->Option Int
 | .d (.int i)=>some i
 | _=>none
noncomputable def asB:W->Option Bool
 | .d (.bool b)=>some b
 | _=>none
noncomputable def asS:W->Option Str
 | .d (.str b)=>some b
 | _=>none
noncomputable def asD:W->Option v7
 | .d x=>some x
 | _=>none
noncomputable def lstD:v7->Option (List v7)
 | .list xs=>some xs
 | _=>none
noncomputable def tupD:v7->Option (List v7)
 | .tuple xs=>some xs
 | _=>none
noncomputable def u8(w:W):Option (List v7):=w.dat.bind lstD
noncomputable def u6(w:W):Option (List v7):=(asD w).bind tupD
noncomputable def u7(w:W):Option (List v7):=w.dat.bind dm
noncomputable def uc:W->Option Int
 | .d (.int i)=>some i
 | .d (.bool b)=>some (if b then 1 else 0)
 | _=>none
noncomputable def isiT:W->Option String
 | .vv (.ty T)=>some T
 | _=>none
noncomputable def kZ:List v7->Option (List Bool)
 | []=>some []
 | .bool b::r=>(kZ r).map (b :: ·)
 | _=>none
noncomputable def df:List v7->Option (List Int)
 | []=>some []
 | .int b::r=>(df r).map (b :: ·)
 | _=>none
theorem blsD_map:∀bs:List Bool,kZ (bs.map .bool)=some bs
 | []=>rfl
 | b::bs=>by show(kZ (bs.map .bool)).map (b :: ·)=_;rw[blsD_map bs];rfl
theorem fM:∀{xs:List v7}{bs:List Bool},kZ xs=some bs->xs=bs.map .bool
 | [],bs,h=>by cases h;rfl
 | .bool b::r,bs,h=>by
   have h:(kZ r).map (b :: ·)=some bs:=h
   cases q:kZ r with
   | none=>rw[q]at h;cases h
   | some cs=>rw[q]at h;cases h;rw[fM q];rfl
 | .none::_,_,h=>by cases h
 | .int _::_,_,h=>by cases h
 | .str _::_,_,h=>by cases h
 | .list _::_,_,h=>by cases h
 | .tuple _::_,_,h=>by cases h
 | .dict _::_,_,h=>by cases h
theorem aU:∀bs:List Int,df (bs.map .int)=some bs
 | []=>rfl
 | b::bs=>by show(df (bs.map .int)).map (b :: ·)=_;rw[aU bs];rfl
theorem cP:∀{xs:List v7}{bs:List Int},df xs=some bs->xs=bs.map .int
 | [],bs,h=>by cases h;rfl
 | .int b::r,bs,h=>by
   have h:(df r).map (b :: ·)=some bs:=h
   cases q:df r with
   | none=>rw[q]at h;cases h
   | some cs=>rw[q]at h;cases h;rw[cP q];rfl
 | .none::_,_,h=>by cases h
 | .bool _::_,_,h=>by cases h
 | .str _::_,_,h=>by cases h
 | .list _::_,_,h=>by cases h
 | .tuple _::_,_,h=>by cases h
 | .dict _::_,_,h=>by cases h
theorem asI_d(i:Int):asI (.d (.int i))=some i:=rfl
theorem asB_d(i:Bool):asB (.d (.bool i))=some i:=rfl
theorem asS_d(i:Str):asS (.d (.str i))=some i:=rfl
theorem asD_d(i:v7):asD (.d i)=some i:=rfl
theorem asT_d(x:v7):u6 (.d x)=tupD x:=rfl
theorem asL_d(x:v7):u8 (.d x)=lstD x:=rfl
theorem asL_ml(x:List v7):u8 (.ml x)=some x:=rfl
theorem asL_pk(x:List v7):u8 (.pk x)=some x:=rfl
theorem asQ_d(x:v7):u7 (.d x)=dm x:=rfl
theorem asQ_ml(x:List v7):u7 (.ml x)=some x:=rfl
theorem asQ_pk(x:List v7):u7 (.pk x)=some x:=rfl
theorem lstD_l(x:List v7):lstD (.list x)=some x:=rfl
theorem tupD_t(x:List v7):tupD (.tuple x)=some x:=rfl
theorem toI_i(i:Int):uc (.d (.int i))=some i:=rfl
theorem toI_b(i:Bool):uc (.d (.bool i))=some (if i then 1 else 0):=rfl
theorem isiT_t(T:String):isiT (.vv (.ty T))=some T:=rfl
theorem bh{i:Int}:asI w=some i↔w = .d (.int i):=by
 constructor
 · intro h;unfold asI at h;split at h<;>simp_all
 · rintro rfl;rfl
theorem c5{i:Bool}:asB w=some i↔w = .d (.bool i):=by
 constructor
 · intro h;unfold asB at h;split at h<;>simp_all
 · rintro rfl;rfl
theorem k4{i:Str}:asS w=some i↔w = .d (.str i):=by
 constructor
 · intro h;unfold asS at h;split at h<;>simp_all
 · rintro rfl;rfl
theorem gv{i:v7}:asD w=some i↔w = .d i:=by
 constructor
 · intro h;unfold asD at h;split at h<;>simp_all
 · rintro rfl;rfl
theorem l6{i:String}:isiT w=some i↔w = .vv (.ty i):=by
 constructor
 · intro h;unfold isiT at h;split at h<;>simp_all
 · rintro rfl;rfl
theorem lY{w:v7}{i:List v7}:lstD w=some i↔w = .list i:=by
 constructor
 · intro h;unfold lstD at h;split at h<;>simp_all
 · rintro rfl;rfl
theorem ln{w:v7}{i:List v7}:tupD w=some i↔w = .tuple i:=by
 constructor
 · intro h;unfold tupD at h;split at h<;>simp_all
 · rintro rfl;rfl
theorem gu{i:List v7}:u6 w=some i↔w = .d (.tuple i):=by
 constructor
 · intro h;unfold u6 at h
   cases q:asD w with
   | none=>rw[q]at h;cases h
   | some x=>rw[q]at h;rw[gv.mp q,ln.mp h]
 · rintro rfl;rfl
theorem dC{i:List v7}:u8 w=some i↔w.dat=some (.list i):=by
 unfold u8;constructor
 · intro h
   cases q:w.dat with
   | none=>rw[q]at h;cases h
   | some x=>rw[q]at h;rw[lY.mp h]
 · intro h;rw[h];rfl
theorem ae{β:Type}{o:Option α}{k:α->Mo β}{Q:β->Prop}:am o k Q↔∃a,o=some a/\k a Q:=by
 cases o with
 | none=>exact⟨fun z=>z.elim,fun⟨_,z,_⟩=>by cases z⟩
 | some a=>exact⟨fun z=>⟨a,rfl,z⟩,fun⟨_,e,z⟩=>by cases e;exact z⟩
section
variable{fa fb fc:TV}{fs:vb}{f g:TB}{ρ:En}{t u:vd}
theorem m_vC(x:v7):vC x ρ=ret (.d x):=nr rfl
theorem aR(i:Nat):c9 i ρ=am ((ρ[i]?).join) fun w=>ret w.peek:=by
 refine ac fun Q=>?_;rw[ae];constructor
 · rintro⟨w,e,q⟩;exact⟨w,by rw[e];rfl,q⟩
 · rintro⟨w,e,q⟩;refine⟨w,?_,q⟩
   cases h:ρ[i]? with
   | none=>rw[h]at e;cases e
   | some o=>rw[h]at e;cases o with
     | none=>cases e
     | some x=>cases e;rfl
theorem m_vOp(h:W->W->(W->Prop)->Prop):tZ h fa fb ρ=u0 (fa ρ) fun x=>u0 (fb ρ) fun y=>h x y:=nr rfl
theorem m_gI(C:Int->Int->Prop)(h:Int->Int->v7)(x y:W):gI C h x y=am (asI x) fun i=>am (asI y) fun j=>uT (C i j) (ret (.d (h i j))):=by
 refine ac fun Q=>?_;simp only[ae,bh,gI,uT,ret];exact⟨fun⟨i,j,a,b,c,q⟩=>⟨i,a,j,b,c,q⟩,fun⟨i,a,j,b,c,q⟩=>⟨i,j,a,b,c,q⟩⟩
theorem m_gI0(h:Int->Int->v7)(x y:W):uX h x y=am (asI x) fun i=>am (asI y) fun j=>ret (.d (h i j)):=by
 refine ac fun Q=>?_;simp only[ae,bh,uX,ret];exact⟨fun⟨i,j,a,b,q⟩=>⟨i,a,j,b,q⟩,fun⟨i,a,j,b,q⟩=>⟨i,j,a,b,q⟩⟩
theorem m_vNeg:pM fa ρ=u0 (fa ρ) fun x=>am (asI x) fun i=>ret (.d (.int (-i))):=by
 refine ac fun Q=>?_;simp only[pM,u0,ae,bh,ret]
theorem m_vTest{f:TV}:jD f ρ=u0 (f ρ) fun w=>am (asB w) ret:=by
 refine ac fun Q=>?_;simp only[jD,u0,ae,c5,ret]
theorem m_gEqD(neg:Bool)(x y:W):qt neg x y=am x.dat fun dx=>am y.dat fun dy=>uT (x6 dx=true) (uT (x6 dy=true) (ret (.d (.bool (if neg then !ye dx dy else ye dx dy))))):=by
 refine ac fun Q=>?_;simp only[ae,qt,uT,ret];exact⟨fun⟨i,j,a,b,c,d,q⟩=>⟨i,a,j,b,c,d,q⟩,fun⟨i,a,j,b,c,d,q⟩=>⟨i,j,a,b,c,d,q⟩⟩
theorem oZ{i:List v7}:u7 w=some i↔(w.dat=some (.list i)\/w.dat=some (.tuple i)):=by
 unfold u7;constructor
 · intro h
   cases q:w.dat with
   | none=>rw[q]at h;cases h
   | some x=>rw[q]at h;exact dm.of (o:=some x) rfl h
 · rintro(h|h)<;>rw[h]<;>rfl
theorem m_gInD(neg:Bool)(x y:W):sr neg x y=am x.dat fun dx=>am (u7 y) fun ys=>uT (x6 dx=true) (uT (zm ys=true) (ret (.d (.bool (if neg then !(ys.any fun z=>ye z dx)else ys.any fun z=>ye z dx))))):=by
 refine ac fun Q=>?_;simp only[ae,oZ,sr,uT,ret];exact⟨fun⟨i,j,a,b,c,d,q⟩=>⟨i,a,j,b,c,d,q⟩,fun⟨i,a,j,b,c,d,q⟩=>⟨i,j,a,b,c,d,q⟩⟩
theorem m_vAnd:rK f g ρ=u0 (f ρ) fun b=>if b=true then g ρ else ret false:=by
 refine ac fun Q=>?_;simp only[rK,u0,cD,ret]
theorem m_vOr:tX f g ρ=u0 (f ρ) fun b=>if b=true then ret true else g ρ:=by
 refine ac fun Q=>?_;simp only[tX,u0,cD,ret]
theorem m_vNot:sI f ρ=u0 (f ρ) fun b=>ret (!b):=nr rfl
theorem m_vAndV:ni fa fb ρ=u0 (fa ρ) fun w=>am (asB w) fun b=>if b=true then fb ρ else ret (.d (.bool false)):=by
 refine ac fun Q=>?_;simp only[ni,u0,ae,c5,cD,ret]
theorem m_vOrV:rH fa fb ρ=u0 (fa ρ) fun w=>am (asB w) fun b=>if b=true then ret (.d (.bool true))else fb ρ:=by
 refine ac fun Q=>?_;simp only[rH,u0,ae,c5,cD,ret]
theorem m_vNotV:m9 fa ρ=u0 (fa ρ) fun w=>am (asB w) fun b=>ret (.d (.bool (!b))):=by
 refine ac fun Q=>?_;simp only[m9,u0,ae,c5,ret]
theorem m_vIf{t:TB}:t4 t fa fb ρ=u0 (t ρ) fun c=>if c=true then fa ρ else fb ρ:=by
 refine ac fun Q=>?_;simp only[t4,u0,cD]
theorem m_vTup:pJ fs ρ=u0 (fs ρ) fun ws=>am (dZ ws) fun ds=>uT (ds.length<=sizeLine) (ret (.d (.tuple ds))):=by
 refine ac fun Q=>?_;simp only[pJ,u0,ae,uT,ret]
theorem m_vLst:pN fs ρ=u0 (fs ρ) fun ws=>am (dZ ws) fun ds=>uT (ds.length<=sizeLine) (ret (.ml ds)):=by
 refine ac fun Q=>?_;simp only[pN,u0,ae,uT,ret]
theorem m_gIx(x y:W):uV x y=am x.dat fun dx=>am (asI y) fun i=>am (itemAt dx i) fun z=>ret (.d z):=by
 refine ac fun Q=>?_;simp only[uV,ae,bh,ret];exact⟨fun⟨i,j,z,a,b,c,q⟩=>⟨i,a,j,b,z,c,q⟩,fun⟨i,a,j,b,z,c,q⟩=>⟨i,j,z,a,b,c,q⟩⟩
theorem m_vCall(h:List W->(W->Prop)->Prop):cF h fs ρ=u0 (fs ρ) h:=nr rfl
theorem m_gAbs(w:W):pg [w]=am (asI w) fun i=>ret (.d (.int (if i<0 then -i else i))):=by
 refine ac fun Q=>?_;simp only[pg,ae,bh,ret,wH,and_true]
theorem m_gLen(w:W):pd [w]=am w.dat fun d=>am (l4 d) fun n=>ret (.d (.int n)):=by
 refine ac fun Q=>?_;simp only[pd,ae,ret,wH,and_true];exact⟨fun⟨w',d,n,e,a,b,q⟩=>by subst e;exact⟨d,a,n,b,q⟩,fun⟨d,a,n,b,q⟩=>⟨w,d,n,rfl,a,b,q⟩⟩
theorem m_gRepr(w:W):ke [w]=am w.dat fun d=>uT (vt d) (ret (.d (.str d.shown))):=by
 refine ac fun Q=>?_;simp only[ke,ae,ret,uT,wH,and_true];exact⟨fun⟨w',d,e,a,b,q⟩=>by subst e;exact⟨d,a,b,q⟩,fun⟨d,a,b,q⟩=>⟨w,d,rfl,a,b,q⟩⟩
theorem m_gIsi(w v:W):si [w,v]=am w.dat fun d=>am (isiT v) fun T=>uT (rN T=true) (ret (.d (.bool (r_ d T)))):=by
 refine ac fun Q=>?_;simp only[si,ae,l6,ret,uT,wH,and_true];exact⟨fun⟨w',d,T,⟨e,e'⟩,a,b,q⟩=>by subst e;exact⟨d,a,T,e',b,q⟩,fun⟨d,a,T,e',b,q⟩=>⟨w,d,T,⟨rfl,e'⟩,a,b,q⟩⟩
theorem m_gStrI(w:W):oF [w]=am (asI w) fun i=>uT (i.natAbs.log2<1920) (ret (.d (.str (toString i)))):=by
 refine ac fun Q=>?_;simp only[oF,ae,bh,ret,uT,wH,and_true]
theorem m_gTupO(w:W):ka [w]=am (u7 w) fun xs=>ret (.d (.tuple xs)):=by
 refine ac fun Q=>?_;simp only[ka,ae,ret,wH,and_true];constructor
 · rintro⟨w',d,xs,e,a,b,q⟩;subst e;exact⟨xs,by unfold u7;rw[a];exact b,q⟩
 · rintro⟨xs,e,q⟩;unfold u7 at e
   cases h:w.dat with
   | none=>rw[h]at e;cases e
   | some d=>rw[h]at e;exact⟨w,d,xs,rfl,h,e,q⟩
theorem m_gLstO(w:W):oM [w]=am (u7 w) fun xs=>ret (.ml xs):=by
 refine ac fun Q=>?_;simp only[oM,ae,ret,wH,and_true];constructor
 · rintro⟨w',d,xs,e,a,b,q⟩;subst e;exact⟨xs,by unfold u7;rw[a];exact b,q⟩
 · rintro⟨xs,e,q⟩;unfold u7 at e
   cases h:w.dat with
   | none=>rw[h]at e;cases e
   | some d=>rw[h]at e;exact⟨w,d,xs,rfl,h,e,q⟩
theorem m_gIsB(x y:W):so x y=am (asB x) fun i=>am (asB y) fun j=>ret (.d (.bool (i==j))):=by
 refine ac fun Q=>?_;simp only[ae,c5,so,ret];exact⟨fun⟨i,j,a,b,q⟩=>⟨i,a,j,b,q⟩,fun⟨i,a,j,b,q⟩=>⟨i,j,a,b,q⟩⟩
theorem m_gIsN(neg:Bool)(x:W):sj neg x (.d .none)=am x.dat fun d=>ret (.d (.bool (if neg then !eU d else eU d))):=by
 refine ac fun Q=>?_;simp only[ae,sj,ret,true_and]
theorem m_gI2(h:Int->Int->v7)(x y:W):uW h [x,y]=am (asI x) fun i=>am (asI y) fun j=>ret (.d (h i j)):=by
 refine ac fun Q=>?_;simp only[ae,bh,uW,ret,wH,and_true];exact⟨fun⟨i,j,⟨a,b⟩,q⟩=>⟨i,a,j,b,q⟩,fun⟨i,a,j,b,q⟩=>⟨i,j,⟨a,b⟩,q⟩⟩
theorem m_gDivmod(x y:W):dX [x,y]=am (asI x) fun i=>am (asI y) fun j=>uT (0<j) (uT (j<1073741824) (ret (.d (.tuple [.int (i / j),.int (i%j)])))):=by
 refine ac fun Q=>?_;simp only[ae,bh,dX,uT,ret,wH,and_true];exact⟨fun⟨i,j,⟨a,b⟩,c,d,q⟩=>⟨i,a,j,b,c,d,q⟩,fun⟨i,a,j,b,c,d,q⟩=>⟨i,j,⟨a,b⟩,c,d,q⟩⟩
theorem nn{i:Int}:uc w=some i↔(w = .d (.int i)\/∃b:Bool,w = .d (.bool b)/\i=if b then 1 else 0):=by
 constructor
 · intro h;unfold uc at h;split at h
   · cases h;exact .inl rfl
   · cases h;exact .inr ⟨_,rfl,rfl⟩
   · cases h
 · rintro(rfl|⟨b,rfl,rfl⟩)<;>rfl
theorem m_gInt1(w:W):oO [w]=am (uc w) fun i=>ret (.d (.int i)):=by
 refine ac fun Q=>?_;simp only[ae,nn,oO,ret,wH,and_true];constructor
 · rintro(⟨i,rfl,q⟩|⟨k,rfl,q⟩)
   · exact⟨i,.inl rfl,q⟩
   · exact⟨_,.inr ⟨k,rfl,rfl⟩,q⟩
 · rintro⟨i,rfl|⟨b,rfl,rfl⟩,q⟩
   · exact .inl ⟨i,rfl,q⟩
   · exact .inr ⟨b,rfl,q⟩
theorem m_oNo:uE ρ=ret none:=nr rfl
theorem m_oIt:uF fa ρ=u0 (fa ρ) fun w=>am (asI w) fun i=>ret (some i):=by
 refine ac fun Q=>?_;simp only[uF,u0,ae,bh,ret]
theorem m_vSlL{fl fh:ve}:rA fa fl fh ρ=u0 (fa ρ) fun w=>u0 (fl ρ) fun l=>u0 (fh ρ) fun h=>am (u8 w) fun xs=>ret (.ml (cutD xs l h)):=by
 refine ac fun Q=>?_;simp only[rA,u0,ae,dC,ret]
theorem m_vSlA{fl fh:ve}:rB fa fl fh ρ=u0 (fa ρ) fun w=>u0 (fl ρ) fun l=>u0 (fh ρ) fun h=>am (u6 w) fun xs=>ret (.d (.tuple (cutD xs l h))):=by
 refine ac fun Q=>?_;simp only[rB,u0,ae,gu,ret]
theorem m_gCatD(x y:W):kf x y=am (u8 x) fun xs=>am (u8 y) fun ys=>uT (xs.length+ys.length<=sizeLine) (ret (.ml (xs++ys))):=by
 refine ac fun Q=>?_;simp only[kf,ae,dC,uT,ret];exact⟨fun⟨i,j,a,b,c,q⟩=>⟨i,a,j,b,c,q⟩,fun⟨i,a,j,b,c,q⟩=>⟨i,j,a,b,c,q⟩⟩
theorem m_gCatA(x y:W):oR x y=am (u6 x) fun xs=>am (u6 y) fun ys=>uT (xs.length+ys.length<=sizeLine) (ret (.d (.tuple (xs++ys)))):=by
 refine ac fun Q=>?_;simp only[oR,ae,gu,uT,ret];exact⟨fun⟨i,j,a,b,c,q⟩=>⟨i,a,j,b,c,q⟩,fun⟨i,a,j,b,c,q⟩=>⟨i,j,a,b,c,q⟩⟩
theorem m_vChain(p p':Int->Int->Bool):ng p p' fa fb fc ρ=u0 (fa ρ) fun x=>u0 (fb ρ) fun y=>am (asI x) fun i=>am (asI y) fun j=>if p i j=true then u0 (fc ρ) fun z=>am (asI z) fun k=>ret (.d (.bool (p' j k)))else ret (.d (.bool false)):=by
 show(u0 (fa ρ) fun x=>u0 (fb ρ) fun y=>fun(Q:W->Prop)=>∃i j,x = .d (.int i)/\y = .d (.int j)/\if p i j=true then fc ρ fun z=>∃k,z = .d (.int k)/\Q (.d (.bool (p' j k)))else Q (.d (.bool false)))=_;congr 1;funext x;congr 1;funext y;refine ac fun Q=>?_;simp only[u0,ae,bh,ret,cD];exact⟨fun⟨i,j,a,b,q⟩=>⟨i,a,j,b,q⟩,fun⟨i,a,j,b,q⟩=>⟨i,j,a,b,q⟩⟩
theorem m_vLR1:sK fs ρ=u0 (fs ρ) fun ws=>am (ws.head?.bind asI) fun j=>uT (ws.length=1) (uT (-(2^62)<=j/\j<2^62) (uT (j.toNat<=2^24) (ret (.ml (au 0 j.toNat))))):=by
 show(u0 (fs ρ) fun ws=>fun(Q:W->Prop)=>∃j:Int,ws=[.d (.int j)]/\(-(2^62)<=j/\j<2^62)/\j.toNat<=2^24/\Q (.ml (au 0 j.toNat)))=_;congr 1;funext ws;refine ac fun Q=>?_;simp only[ae,uT,ret];constructor
 · rintro⟨j,rfl,a,b,q⟩;exact⟨j,rfl,rfl,a,b,q⟩
 · rintro⟨j,e,l,a,b,q⟩
   match ws,l with
   | [w],_=>rw[show w = .d (.int j)from bh.mp e];exact⟨j,rfl,a,b,q⟩
theorem m_vTR1:sG fs ρ=u0 (fs ρ) fun ws=>am (ws.head?.bind asI) fun j=>uT (ws.length=1) (uT (-(2^62)<=j/\j<2^62) (uT (j.toNat<=2^24) (ret (.d (.tuple (au 0 j.toNat)))))):=by
 show(u0 (fs ρ) fun ws=>fun(Q:W->Prop)=>∃j:Int,ws=[.d (.int j)]/\(-(2^62)<=j/\j<2^62)/\j.toNat<=2^24/\Q (.d (.tuple (au 0 j.toNat))))=_;congr 1;funext ws;refine ac fun Q=>?_;simp only[ae,uT,ret];constructor
 · rintro⟨j,rfl,a,b,q⟩;exact⟨j,rfl,rfl,a,b,q⟩
 · rintro⟨j,e,l,a,b,q⟩
   match ws,l with
   | [w],_=>rw[show w = .d (.int j)from bh.mp e];exact⟨j,rfl,a,b,q⟩
noncomputable def t_(ws:List W):Option (Int×Int):=match ws with
 | [a,b]=>(asI a).bind fun i=>(asI b).map fun j=>(i,j)
 | _=>none
theorem two_d(a b:Int):t_ [.d (.int a),.d (.int b)]=some (a,b):=rfl
theorem kG{ws:List W}{p:Int×Int}:t_ ws=some p↔ws=[.d (.int p.1),.d (.int p.2)]:=by
 constructor
 · intro h
   match ws with
   | []=>cases h
   | [_]=>cases h
   | _::_::_::_=>cases h
   | [a,b] =>
     have h:((asI a).bind fun i=>(asI b).map fun j=>(i,j))=some p:=h
     cases ha:asI a with
     | none=>rw[ha]at h;cases h
     | some i =>
       cases hb:asI b with
       | none=>rw[ha,hb]at h;cases h
       | some j=>rw[ha,hb]at h;cases h;rw[bh.mp ha,bh.mp hb]
 · rintro rfl;rfl
theorem m_vLR2:sJ fs ρ=u0 (fs ρ) fun ws=>am (t_ ws) fun p=>uT (-(2^62)<=p.1/\p.1<2^62 /\ -(2^62)<=p.2/\p.2<2^62) (uT ((p.2-p.1).toNat<=2^24) (ret (.ml (au p.1 (p.2-p.1).toNat)))):=by
 show(u0 (fs ρ) fun ws=>fun(Q:W->Prop)=>∃i j:Int,ws=[.d (.int i),.d (.int j)]/\(-(2^62)<=i/\i<2^62 /\ -(2^62)<=j/\j<2^62)/\(j-i).toNat<=2^24/\Q (.ml (au i (j-i).toNat)))=_;congr 1;funext ws;refine ac fun Q=>?_;simp only[ae,kG,uT,ret];exact⟨fun⟨i,j,a,b,c,q⟩=>⟨(i,j),a,b,c,q⟩,fun⟨p,a,b,c,q⟩=>⟨p.1,p.2,a,b,c,q⟩⟩
theorem m_iL:iL fa ρ=u0 (fa ρ) fun w=>am ((asD w.fz).bind lstD) ret:=by
 show(u0 (fa ρ) fun w=>fun(Q:List v7->Prop)=>∃xs,w.fz = .d (.list xs)/\Q xs)=_;congr 1;funext w;refine ac fun Q=>?_;simp only[ae,ret];constructor
 · rintro⟨xs,e,q⟩;exact⟨xs,by rw[e];rfl,q⟩
 · rintro⟨xs,e,q⟩
   cases h:asD w.fz with
   | none=>rw[h]at e;cases e
   | some x=>rw[h]at e;rw[gv.mp h,lY.mp e];exact⟨xs,rfl,q⟩
theorem m_iT:iT fa ρ=u0 (fa ρ) fun w=>am ((asD w.fz).bind tupD) ret:=by
 show(u0 (fa ρ) fun w=>fun(Q:List v7->Prop)=>∃xs,w.fz = .d (.tuple xs)/\Q xs)=_;congr 1;funext w;refine ac fun Q=>?_;simp only[ae,ret];constructor
 · rintro⟨xs,e,q⟩;exact⟨xs,by rw[e];rfl,q⟩
 · rintro⟨xs,e,q⟩
   cases h:asD w.fz with
   | none=>rw[h]at e;cases e
   | some x=>rw[h]at e;rw[gv.mp h,ln.mp e];exact⟨xs,rfl,q⟩
theorem m_iR1:uS fs ρ=u0 (fs ρ) fun ws=>am (ws.head?.bind asI) fun j=>uT (ws.length=1) (uT (-(2^62)<=j/\j<2^62) (ret (au 0 j.toNat))):=by
 show(u0 (fs ρ) fun ws=>fun(Q:List v7->Prop)=>∃j:Int,ws=[.d (.int j)]/\(-(2^62)<=j/\j<2^62)/\Q (au 0 j.toNat))=_;congr 1;funext ws;refine ac fun Q=>?_;simp only[ae,uT,ret];constructor
 · rintro⟨j,rfl,a,q⟩;exact⟨j,rfl,rfl,a,q⟩
 · rintro⟨j,e,l,a,q⟩
   match ws,l with
   | [w],_=>rw[show w = .d (.int j)from bh.mp e];exact⟨j,rfl,a,q⟩
theorem m_iR2:uR fs ρ=u0 (fs ρ) fun ws=>am (t_ ws) fun p=>uT (-(2^62)<=p.1/\p.1<2^62 /\ -(2^62)<=p.2/\p.2<2^62) (ret (au p.1 (p.2-p.1).toNat)):=by
 show(u0 (fs ρ) fun ws=>fun(Q:List v7->Prop)=>∃i j:Int,ws=[.d (.int i),.d (.int j)]/\(-(2^62)<=i/\i<2^62 /\ -(2^62)<=j/\j<2^62)/\Q (au i (j-i).toNat))=_;congr 1;funext ws;refine ac fun Q=>?_;simp only[ae,kG,uT,ret];exact⟨fun⟨i,j,a,b,q⟩=>⟨(i,j),a,b,q⟩,fun⟨p,a,b,q⟩=>⟨p.1,p.2,a,b,q⟩⟩
noncomputable def pq(b1 b2:Bool)(ws:List W):Option (List v7):=match ws with
 | [.d x,.d y]=>if cq x=b1/\cq y=b2 then(dm x).bind fun xs=>(dm y).map fun ys=>o6 xs ys else none
 | _=>none
theorem m_iZb(b1 b2:Bool):uQ b1 b2 fs ρ=u0 (fs ρ) fun ws=>am (pq b1 b2 ws) ret:=by
 show(u0 (fs ρ) fun ws=>fun(Q:List v7->Prop)=>∃dx dy xs ys,ws=[.d dx,.d dy]/\dm dx=some xs/\dm dy=some ys/\cq dx=b1/\cq dy=b2/\Q (o6 xs ys))=_;congr 1;funext ws;refine ac fun Q=>?_;simp only[ae,ret];constructor
 · rintro⟨dx,dy,xs,ys,rfl,a,b,c,d,q⟩;exact⟨_,by show(if cq dx=b1/\cq dy=b2 then(dm dx).bind fun xs=>(dm dy).map fun ys=>o6 xs ys else none)=_;rw[if_pos ⟨c,d⟩,a,b];rfl,q⟩
 · rintro⟨zs,e,q⟩;unfold pq at e;split at e
   · rename_i dx dy;split at e
     · rename_i c
       cases ha:dm dx with
       | none=>rw[ha]at e;cases e
       | some xs =>
         cases hb:dm dy with
         | none=>rw[ha,hb]at e;cases e
         | some ys=>rw[ha,hb]at e;cases e;exact⟨dx,dy,xs,ys,rfl,ha,hb,c.1,c.2,q⟩
     · cases e
   · cases e
theorem m_vUse(Pd:List W->(v7->Prop)->Prop):rn Pd fs ρ=u0 (fs ρ) fun ws=>uT (ws.all cx=true) (u0 (Pd ws) fun d=>ret (.d d)):=nr rfl
theorem m_vUseL(Pd:List W->(List v7->Prop)->Prop):pI Pd fs ρ=u0 (fs ρ) fun ws=>uT (ws.all cx=true) (u0 (Pd ws) fun d=>ret (.ml d)):=nr rfl
theorem m_gAll(h:List Bool->Bool)(w:W):sw h [w]=am ((u8 w).bind kZ) fun bs=>ret (.d (.bool (h bs))):=by
 refine ac fun Q=>?_;simp only[sw,ae,ret,wH,and_true];constructor
 · rintro⟨w',bs,rfl,e,q⟩;exact⟨bs,by rw[dC.mpr e];exact blsD_map bs,q⟩
 · rintro⟨bs,e,q⟩
   cases hl:u8 w with
   | none=>rw[hl]at e;cases e
   | some xs=>rw[hl]at e;refine⟨w,bs,rfl,?_,q⟩;rw[<- fM e];exact dC.mp hl
theorem m_gRepT(x y:W):oH x y=am (u6 x) fun xs=>am (asI y) fun k=>uT (xs≠[]/\1<=k/\k<2^62/\xs.length*k.toNat<=sizeLine) (ret (.d (.tuple (x8 k.toNat xs).flatten))):=by
 refine ac fun Q=>?_;simp only[oH,ae,gu,bh,uT,ret];exact⟨fun⟨i,j,a,b,c,d,e,f,q⟩=>⟨i,a,j,b,⟨c,d,e,f⟩,q⟩,fun⟨i,a,j,b,⟨c,d,e,f⟩,q⟩=>⟨i,j,a,b,c,d,e,f,q⟩⟩
theorem m_gRepL(x y:W):oI x y=am (u8 x) fun xs=>am (asI y) fun k=>uT (-(2^63)<=k/\k<2^63/\xs.length*k.toNat<=sizeLine) (ret (.ml (x8 k.toNat xs).flatten)):=by
 refine ac fun Q=>?_;simp only[oI,ae,dC,bh,uT,ret];exact⟨fun⟨i,j,a,b,c,d,e,q⟩=>⟨i,a,j,b,⟨c,d,e⟩,q⟩,fun⟨i,a,j,b,⟨c,d,e⟩,q⟩=>⟨i,j,a,b,c,d,e,q⟩⟩
theorem m_vRevT:lm fa ρ=u0 (fa ρ) fun w=>am (u6 w) fun xs=>ret (.d (.tuple xs.reverse)):=by
 refine ac fun Q=>?_;simp only[lm,u0,ae,gu,ret]
theorem m_vRevL:m6 fa ρ=u0 (fa ρ) fun w=>am (u8 w) fun xs=>ret (.ml xs.reverse):=by
 refine ac fun Q=>?_;simp only[m6,u0,ae,dC,ret]
theorem m_gEqS(neg:Bool)(x y:W):qr neg x y=am (asS x) fun i=>am (asS y) fun j=>ret (.d (.bool (if neg then !decide (i=j)else decide (i=j)))):=by
 refine ac fun Q=>?_;simp only[ae,k4,qr,ret];exact⟨fun⟨i,j,a,b,q⟩=>⟨i,a,j,b,q⟩,fun⟨i,a,j,b,q⟩=>⟨i,j,a,b,q⟩⟩
theorem m_vTGet(D:List (Str×Int)):mZ D fa ρ=u0 (fa ρ) fun w=>am (asS w) fun k=>ret (.d (nq D k)):=by
 refine ac fun Q=>?_;simp only[mZ,u0,ae,k4,ret]
noncomputable def sy(w:W):Option (List Int):=(u6 w).bind df
theorem m_gSrtT(w:W):oG [w]=am (sy w) fun ns=>uT (ns.length<64) (u0 (anyM fun ns':List Int=>ns'.Perm ns/\ns'.Pairwise (· <= ·)) fun ns'=>ret (.ml (ns'.map .int))):=by
 refine ac fun Q=>?_;simp only[oG,ae,ret,uT,u0,anyM,wH,and_true];constructor
 · rintro⟨ns,rfl,a,q⟩;exact⟨ns,aU ns,a,fun n' ⟨h1,h2⟩=>q n' h1 h2⟩
 · rintro⟨ns,e,a,q⟩;unfold sy at e
   cases hl:u6 w with
   | none=>rw[hl]at e;cases e
   | some xs=>rw[hl]at e;exact⟨ns,by rw[gu.mp hl,<- cP e],a,fun n' h1 h2=>q n' ⟨h1,h2⟩⟩
end
inductive Fl where
 | nx (ρ:En)|rt (w:W)|bk (ρ:En)|ct (ρ:En)
noncomputable def mS(t:vd)(ρ:En):Mo Fl:=fun Q=>t ⟨fun ρ=>Q (.nx ρ),fun w=>Q (.rt w),fun ρ=>Q (.bk ρ),fun ρ=>Q (.ct ρ)⟩ ρ
noncomputable def sq(m:Mo Fl)(k:En->Mo Fl):Mo Fl:=u0 m fun fl=>match fl with
 | .nx ρ=>k ρ
 | .rt w=>ret (.rt w)
 | .bk ρ=>ret (.bk ρ)
 | .ct ρ=>ret (.ct ρ)
noncomputable def oV(Q:v7->Prop):Fl->Prop
 | .nx _=>Q .none
 | .rt w=>∃d,w.fz = .d d/\Q d
 | _=>False
section
variable{fa fb fc:TV}{fs:vb}{f g:TB}{ρ:En}{t u:vd}{k:En->Mo Fl}
theorem aJ{Q:v7->Prop}(h:mS t ρ (oV Q)):t (jE Q) ρ:=h
theorem end_d(Q:v7->Prop)(d:v7):oV Q (.rt (.d d))=Q d:=propext ⟨fun⟨_,e,q⟩=>by cases e;exact q,fun q=>⟨d,rfl,q⟩⟩
theorem end_ml(Q:v7->Prop)(d:List v7):oV Q (.rt (.ml d))=Q (.list d):=propext ⟨fun⟨_,e,q⟩=>by cases e;exact q,fun q=>⟨_,rfl,q⟩⟩
theorem end_nx(Q:v7->Prop)(ρ:En):oV Q (.nx ρ)=Q .none:=nr rfl
theorem sq_nx:sq (ret (.nx ρ)) k=k ρ:=nr rfl
theorem sq_rt(w:W):sq (ret (.rt w)) k=ret (.rt w):=nr rfl
theorem sq_bk:sq (ret (.bk ρ)) k=ret (.bk ρ):=nr rfl
theorem sq_ct:sq (ret (.ct ρ)) k=ret (.ct ρ):=nr rfl
theorem sq_grd(P:Prop)(m:Mo Fl):sq (uT P m) k=uT P (sq m k):=nr rfl
theorem sq_stk:sq stk k=stk:=nr rfl
theorem sq_ite(c:Prop)[Decidable c](a b:Mo Fl):sq (if c then a else b) k=if c then sq a k else sq b k:=by split<;>rfl
theorem nz(o:Option α)(h:α->Mo Fl):sq (am o h) k=am o fun a=>sq (h a) k:=by cases o<;>rfl
theorem s_next:mS m_ ρ=ret (.nx ρ):=nr rfl
theorem s_seq:mS (rE t u) ρ=sq (mS t ρ) (mS u):=by
 refine ac fun Q=>?_;show t ⟨fun ρ=>u ⟨_,_,_,_⟩ ρ,_,_,_⟩ ρ↔_;exact A5
theorem s_drop:mS (pQ fa) ρ=u0 (fa ρ) fun _=>ret (.nx ρ):=nr rfl
theorem s_ret:mS (rF fa) ρ=u0 (fa ρ) fun w=>ret (.rt w):=nr rfl
theorem s_retN:mS pK ρ=ret (.rt (.d .none)):=nr rfl
theorem s_ifS:mS (pO f t u) ρ=u0 (f ρ) fun b=>if b=true then mS t ρ else mS u ρ:=by
 refine ac fun Q=>?_;simp only[mS,pO,u0,cD]
theorem s_set(i:Nat):mS (rC i fa) ρ=u0 (fa ρ) fun w=>uT (w.isPk=false) (ret (.nx (ρ.set i (some w)))):=nr rfl
theorem s_never:mS (fun _ _=>False) ρ=stk:=nr rfl
theorem m_hName(i:Nat)(x:v7):oC i x ρ=ret (ρ.set i (some (.d x))):=nr rfl
theorem oo(xs:List v7):qm xs ρ=uT (xs=[]) (ret ρ):=nr rfl
theorem lX{g:vf}{gs:g7}(xs:List v7):j9 g gs xs ρ=am (match xs with | []=>none|y::r=>some (y,r)) fun p=>u0 (g p.1 ρ) fun ρ'=>gs p.2 ρ':=by
 refine ac fun Q=>?_;simp only[ae,j9,u0];constructor
 · rintro⟨y,r,rfl,q⟩;exact⟨(y,r),rfl,q⟩
 · rintro⟨p,e,q⟩
   cases xs with
   | nil=>cases e
   | cons y r=>cases e;exact⟨y,r,rfl,q⟩
theorem m_hCons_c{g:vf}{gs:g7}(y:v7)(r:List v7):j9 g gs (y::r) ρ=u0 (g y ρ) fun ρ'=>gs r ρ':=by rw[lX];rfl
theorem m_hNil_n:qm [] ρ=ret ρ:=by rw[oo,al rfl]
theorem m_hTup(n:Nat){gs:g7}(x:v7):qk n gs x ρ=am (tupD x) fun xs=>uT (xs.length=n) (gs xs ρ):=by
 refine ac fun Q=>?_;simp only[ae,ln,qk,uT]
theorem s_asg{g:vf}:mS (pR fa g) ρ=u0 (fa ρ) fun w=>am (asD w) fun x=>u0 (g x ρ) fun ρ'=>ret (.nx ρ'):=by
 refine ac fun Q=>?_;simp only[mS,pR,u0,ae,gv,ret]
theorem s_par(i j:Nat):mS (rG i j fs) ρ=u0 (fs ρ) fun ws=>am (dZ ws) fun ds=>am (match ds with | [x,y]=>some (x,y)|_=>none) fun p=>ret (.nx ((ρ.set i (some (.d p.1))).set j (some (.d p.2)))):=by
 show(u0 (fs ρ) fun ws=>fun(Q:Fl->Prop)=>∃x y,dZ ws=some [x,y]/\Q (.nx ((ρ.set i (some (.d x))).set j (some (.d y)))))=_;congr 1;funext ws;refine ac fun Q=>?_;simp only[ae,ret];constructor
 · rintro⟨x,y,e,q⟩;exact⟨_,e,(x,y),rfl,q⟩
 · rintro⟨ds,e,p,e2,q⟩;split at e2
   · cases e2;exact⟨_,_,e,q⟩
   · cases e2
theorem s_par3(i j l:Nat):mS (pL i j l fs) ρ=u0 (fs ρ) fun ws=>am (dZ ws) fun ds=>am (match ds with | [x,y,z]=>some (x,y,z)|_=>none) fun p=>ret (.nx (((ρ.set i (some (.d p.1))).set j (some (.d p.2.1))).set l (some (.d p.2.2)))):=by
 show(u0 (fs ρ) fun ws=>fun(Q:Fl->Prop)=>∃x y z,dZ ws=some [x,y,z]/\Q (.nx (((ρ.set i (some (.d x))).set j (some (.d y))).set l (some (.d z)))))=_;congr 1;funext ws;refine ac fun Q=>?_;simp only[ae,ret];constructor
 · rintro⟨x,y,z,e,q⟩;exact⟨_,e,(x,y,z),rfl,q⟩
 · rintro⟨ds,e,p,e2,q⟩;split at e2
   · cases e2;exact⟨_,_,_,e,q⟩
   · cases e2
noncomputable def ut(ρ:En)(i:Nat):Option Int:=((ρ[i]?).join).bind asI
noncomputable def asM:W->Option (List v7)
 | .ml xs=>some xs
 | _=>none
noncomputable def ur(ρ:En)(i:Nat):Option (List v7):=((ρ[i]?).join).bind asM
theorem asM_ml(xs:List v7):asM (.ml xs)=some xs:=rfl
theorem sx{xs:List v7}:asM w=some xs↔w = .ml xs:=by
 constructor
 · intro h;unfold asM at h;split at h<;>simp_all
 · rintro rfl;rfl
theorem eE{xs:List v7}:ur ρ i=some xs↔ρ[i]?=some (some (.ml xs)):=by
 unfold ur;constructor
 · intro h
   cases q:ρ[i]? with
   | none=>rw[q]at h;cases h
   | some o=>rw[q]at h;cases o with
     | none=>cases h
     | some w=>rw[sx.mp h]
 · intro h;rw[h];rfl
theorem nA{n:Int}:ut ρ i=some n↔ρ[i]?=some (some (.d (.int n))):=by
 unfold ut;constructor
 · intro h
   cases q:ρ[i]? with
   | none=>rw[q]at h;cases h
   | some o=>rw[q]at h;cases o with
     | none=>cases h
     | some w=>rw[bh.mp h]
 · intro h;rw[h];rfl
theorem s_aug(i:Nat)(C:Int->Int->Prop)(h:Int->Int->Int):mS (rJ i C h fa) ρ=am (ut ρ i) fun n=>u0 (fa ρ) fun w=>am (asI w) fun m=>uT (C n m) (ret (.nx (ρ.set i (some (.d (.int (h n m))))))):=by
 refine ac fun Q=>?_;simp only[mS,rJ,u0,ae,nA,bh,uT,ret]
theorem s_augL(i:Nat):mS (nh i fa) ρ=am (ur ρ i) fun xs=>u0 (fa ρ) fun w=>am (u8 w) fun ys=>uT (w.isPk=false) (uT (xs.length+ys.length<=sizeLine) (ret (.nx (ρ.set i (some (.ml (xs++ys))))))):=by
 refine ac fun Q=>?_;simp only[mS,nh,ae,eE];refine exists_congr fun xs=>and_congr_right fun _=>?_;show(fa ρ fun w=>∃ys,w.isPk=false/\w.dat=some (.list ys)/\_/\_)↔(fa ρ fun w=>_)
 have:(fun w:W=>∃ys,w.isPk=false/\w.dat=some (.list ys)/\xs.length+ys.length<=sizeLine/\Q (.nx (ρ.set i (some (.ml (xs++ys))))))=fun w=>(am (u8 w) fun ys=>uT (w.isPk=false) (uT (xs.length+ys.length<=sizeLine) (ret (.nx (ρ.set i (some (.ml (xs++ys)))))))) Q:=by
  funext w;refine propext ?_;rw[ae];simp only[dC,uT,ret];exact⟨fun⟨ys,a,b,c,d⟩=>⟨ys,b,a,c,d⟩,fun⟨ys,b,a,c,d⟩=>⟨ys,a,b,c,d⟩⟩
 rw[this]
theorem s_frz(i:Nat):mS (pP i t) ρ=am (ur ρ i) fun xs=>mS t (ρ.set i (some (.d (.list xs)))):=by
 refine ac fun Q=>?_;simp only[mS,pP,ae,eE]
theorem s_mut(i:Nat)(h:List v7->List W->(List v7->Prop)->Prop):mS (o7 i h fs) ρ=am (ur ρ i) fun xs=>u0 (fs ρ) fun ws=>u0 (h xs ws) fun ys=>ret (.nx (ρ.set i (some (.ml ys)))):=by
 refine ac fun Q=>?_;simp only[mS,o7,u0,ae,eE,ret]
theorem m_gApp(xs:List v7)(w:W):pf xs [w]=am (asD w) fun x=>uT (xs.length<sizeLine) (ret (xs++[x])):=by
 refine ac fun Q=>?_;simp only[pf,ae,gv,uT,ret];constructor
 · rintro⟨x,e,a,q⟩;cases w<;>first|(cases e;exact⟨_,rfl,a,q⟩)|cases e
 · rintro⟨x,rfl,a,q⟩;exact⟨x,rfl,a,q⟩
theorem m_gExt(xs:List v7)(w:W):su xs [w]=am ((asD w).bind lstD) fun ys=>uT (xs.length+ys.length<=sizeLine) (ret (xs++ys)):=by
 refine ac fun Q=>?_;simp only[su,ae,uT,ret];constructor
 · rintro⟨x,e,a,q⟩;cases w<;>first|(cases e;exact⟨_,rfl,a,q⟩)|cases e
 · rintro⟨x,e,a,q⟩
   cases h:asD w with
   | none=>rw[h]at e;cases e
   | some d=>rw[h]at e;rw[gv.mp h,lY.mp e];exact⟨x,rfl,a,q⟩
theorem s_retO(i:Nat):mS (m8 i) ρ=am (ur ρ i) fun xs=>ret (.rt (.ml xs)):=by
 refine ac fun Q=>?_;simp only[mS,m8,ae,eE,ret]
theorem s_appPop(i j:Nat):mS (hW i j fa) ρ=am (ur ρ i) fun xs=>am (ur ρ j) fun ys=>u0 (fa ρ) fun w=>am (asI w) fun k=>uT (0<=k/\k<(ys.length:Int)/\ys.length<2^62) (am (ys[k.toNat]?) fun y=>uT (xs.length<sizeLine) (ret (.nx ((ρ.set j (some (.ml (ys.eraseIdx k.toNat)))).set i (some (.ml (xs++[y]))))))):=by
 refine ac fun Q=>?_;simp only[mS,hW,ae,eE]
 have:∀xs ys:List v7,(fun w:W=>∃k y,w = .d (.int k)/\0<=k/\k<(ys.length:Int)/\ys.length<2^62/\ys[k.toNat]?=some y/\xs.length<sizeLine/\Q (.nx ((ρ.set j (some (.ml (ys.eraseIdx k.toNat)))).set i (some (.ml (xs++[y]))))))=fun w=>(am (asI w) fun k=>uT (0<=k/\k<(ys.length:Int)/\ys.length<2^62) (am (ys[k.toNat]?) fun y=>uT (xs.length<sizeLine) (ret (.nx ((ρ.set j (some (.ml (ys.eraseIdx k.toNat)))).set i (some (.ml (xs++[y])))))))) Q:=by
  intro xs ys;funext w;refine propext ?_;simp only[ae,bh,uT,ret];exact⟨fun⟨k,y,a,b,c,d,e,f,q⟩=>⟨k,a,⟨b,c,d⟩,y,e,f,q⟩,fun⟨k,a,⟨b,c,d⟩,y,e,f,q⟩=>⟨k,y,a,b,c,d,e,f,q⟩⟩
 constructor
 · rintro⟨xs,ys,e1,e2,q⟩;refine⟨xs,e1,ys,e2,?_⟩;rw[this]at q;exact q
 · rintro⟨xs,e1,ys,e2,q⟩;refine⟨xs,ys,e1,e2,?_⟩;rw[this];exact q
end
noncomputable def Le(a b:En):Prop:=a.length=b.length/\∀(i:Nat) w,a[i]?=some (some w)->b[i]?=some (some w)
theorem Le.refl(a:En):Le a a:=⟨rfl,fun _ _ h=>h⟩
theorem Le.trans{a b c:En}(h:Le a b)(h':Le b c):Le a c:=⟨h.1.trans h'.1,fun i w e=>h'.2 i w (h.2 i w e)⟩
theorem le_nil:Le [] []=True:=propext ⟨fun _=>trivial,fun _=>Le.refl _⟩
theorem le_cn(x:Option W)(a b:En):Le (none::a) (x::b)=Le a b:=by
 refine propext ⟨fun h=>⟨by have:=h.1;simpa using this,fun i w e=>by have:=h.2 (i+1) w (by simpa using e);simpa using this⟩,fun h=>⟨by simp[h.1],fun i w e=>?_⟩⟩
 cases i with
 | zero=>simp at e
 | succ i=>simpa using h.2 i w (by simpa using e)
theorem le_cs(x:Option W)(a b:En):Le (x::a) (x::b)=Le a b:=by
 refine propext ⟨fun h=>⟨by have:=h.1;simpa using this,fun i w e=>by have:=h.2 (i+1) w (by simpa using e);simpa using this⟩,fun h=>⟨by simp[h.1],fun i w e=>?_⟩⟩
 cases i with
 | zero=>simpa using e
 | succ i=>simpa using h.2 i w (by simpa using e)
theorem VR.le{K:W.Frag}{ρ0:En}(R:VR K rl F₀ H₀ F H σ ρ)(h:Le ρ0 ρ):VR K rl F₀ H₀ F H σ ρ0 :=
 ⟨R.g,fun i w e=>R.sl i w (h.2 i w e),fun i j x y v n e1 e2=>R.ap i j x y v n (h.2 i x e1) (h.2 j y e2),fun i xs e=>R.np i xs (h.2 i _ e),h.1.trans R.len⟩
noncomputable def fo:List Nat->En->En
 | [],ρ=>ρ
 | i::l,ρ=>fo l (ρ.set i none)
theorem ot(ρ:En)(i:Nat):Le (ρ.set i none) ρ:=by
 refine⟨by simp,fun j w e=>?_⟩;rw[xg]at e;split at e
 · split at e
   · cases e
   · cases e
 · exact e
theorem dR:∀(l:List Nat)(ρ:En),Le (fo l ρ) ρ
 | [],ρ=>Le.refl ρ
 | i::l,ρ=>(dR l (ρ.set i none)).trans (ot ρ i)
theorem fo_nil(ρ:En):fo [] ρ=ρ:=rfl
theorem fo_cons(i:Nat)(l:List Nat)(ρ:En):fo (i::l) ρ=fo l (ρ.set i none):=rfl
noncomputable def bI(fl:List Nat)(g:vf)(t:vd):List v7->vd
 | [],D,ρ=>D.nx ρ
 | x::xs,D,ρ=>g x ρ fun ρ2=>t {D with nx:=fun ρ'=>bI fl g t xs D (fo fl ρ'),ct:=fun ρ'=>bI fl g t xs D (fo fl ρ'),bk:=fun ρ'=>D.nx (fo fl ρ')} ρ2
noncomputable def nc(fl:List Nat)(fi:En->(List v7->Prop)->Prop)(g:vf)(t:vd):vd:=fun D ρ=>fi ρ fun xs=>bI fl g t xs D (fo fl ρ)
section
variable{X:Cx}{rl:Option Addr}{st:Stmt}{rest body:List Stmt}{t u:vd}{a b c e:Expr}{es:List Expr}{fa fb:TV}{fs:vb}{f:TB}{pos p:Pos}
theorem cT(fl:List Nat){iter:Expr}{fi:En->(List v7->Prop)->Prop}{g:vf}(hp:BB (wZ X.prog X.w) X.A X.env X.xe)(hc:X.calm=true)(hi:vD X rl tg iter fi)(hg:vG X rl tg g)(hb:gX X rl body t)
 (hs:autoParam (∀x,zj iter X.env x=pure x) æc._auto_1):vB X rl (.For tg iter body [] pos) (nc fl fi g t):=by
 obtain⟨wi,p0,k0⟩:=hi;obtain⟨G,p1,k1⟩:=hg;obtain⟨T,p2,k2⟩:=hb;refine⟨_,nV hp hc p0 p1 p2 hs,fun{F₀ H₀ F H σ ρ} R Dv D ok q=>k0 R _ _ q fun J xs F1 H1 g1 vi q1=>?_⟩;refine⟨fun i m σ H=>m=xs.length-i/\i<=xs.length/\∃F ρ,aS F1 F/\VR X.K rl F₀ H₀ F H σ ρ/\bI fl g t (xs.drop i) Dv ρ,⟨xs.length,by simp,xx _,F1,fo fl ρ,.refl _,(R.grow g1).le (dR fl ρ),by simpa using q1⟩,?_⟩;rintro i m σ H ⟨rfl,hi,F2,ρ2,s2,R2,j2⟩;have sH:aS F1 H:=s2.trans R2.sub;by_cases hlt:i<xs.length
 · have ei:xs[i]?=some xs[i]:=by simp[hlt]
   rw[x9 hlt]at j2;refine .inr ⟨vi.go i H _ ei sH,fun σ' H'=>∃F ρ,aS F1 F/\VR X.K rl F₀ H₀ F H' σ' ρ/\bI fl g t (xs.drop (i+1)) Dv ρ,fun σ' H' z=>⟨xs.length-(i+1),by omega,rfl,hlt,z⟩,fun v H' y=>?_⟩;obtain⟨Fy,gy,rv⟩:=vi.yld i H v H' _ F2 ei s2 R2.sub R2.reel y;refine k1 (R2.grow gy) v _ _ _ rv j2 fun F3 H3 σ3 ρ3 s3 n3 R3 q3=>?_;have s13:aS F1 F3:=s2.trans (gy.fs.trans s3.fs)
   exact k2 R3 {Dv with nx:=fun ρ'=>bI fl g t (xs.drop (i+1)) Dv (fo fl ρ'),ct:=fun ρ'=>bI fl g t (xs.drop (i+1)) Dv (fo fl ρ'),bk:=fun ρ'=>Dv.nx (fo fl ρ')} _
    ⟨fun F4 H4 σ4 ρ4 s4 R4 q4=>⟨F4,fo fl ρ4,s13.trans s4,R4.le (dR fl ρ4),q4⟩,ok.rt,fun F4 H4 σ4 ρ4 s4 R4 q4=>ok.nx _ _ _ _ (g1.fs.trans (s13.trans s4)) (R4.le (dR fl ρ4)) q4,fun F4 H4 σ4 ρ4 s4 R4 q4=>⟨F4,fo fl ρ4,s13.trans s4,R4.le (dR fl ρ4),q4⟩⟩ q3
 · have e:i=xs.length:=by omega
   subst e;rw[List.drop_length]at j2;exact .inl ⟨vi.stop _ H (we _) sH,ok.nx _ _ _ _ (g1.fs.trans s2) R2 j2⟩
noncomputable def tW(fl:List Nat)(f:TB)(t:vd)(m:Nat):vd:=fun D ρ=>f ρ fun b=>if b=true then t {D with nx:=fun ρ'=>∃k,∃h:k<m,tW fl f t k D (fo fl ρ'),ct:=fun ρ'=>∃k,∃h:k<m,tW fl f t k D (fo fl ρ'),bk:=fun ρ'=>D.nx (fo fl ρ')} ρ else D.nx ρ
termination_by m
noncomputable def hU(fl:List Nat)(f:TB)(t:vd):vd:=fun D ρ=>∃m,tW fl f t m D (fo fl ρ)
theorem kC(fl:List Nat)(f:TB)(t:vd)(m:Nat)(D:VEnds)(ρ:En):tW fl f t m D ρ=f ρ fun b=>if b=true then t {D with nx:=fun ρ'=>∃k,∃h:k<m,tW fl f t k D (fo fl ρ'),ct:=fun ρ'=>∃k,∃h:k<m,tW fl f t k D (fo fl ρ'),bk:=fun ρ'=>D.nx (fo fl ρ')} ρ else D.nx ρ:=by
 conv=>lhs;unfold tW
theorem bX(fl:List Nat)(hp:BB (wZ X.prog X.w) X.A X.env X.xe)(hc:PB X rl c f)(hb:gX X rl body t):vB X rl (.While c body [] pos) (hU fl f t):=by
 obtain⟨t0,p0,k0⟩:=hc;obtain⟨t1,p1,k1⟩:=hb;refine⟨_,fX hp p0 p1,fun{F₀ H₀ F H σ ρ} R Dv D ok q=>?_⟩;obtain⟨m,j0⟩:=q;refine⟨fun m σ' H'=>∃F' ρ',aS F F'/\VR X.K rl F₀ H₀ F' H' σ' ρ'/\tW fl f t m Dv ρ',⟨m,F,fo fl ρ,.refl _,R.le (dR fl ρ),j0⟩,?_⟩;rintro m σ2 H2 ⟨F2,ρ2,s2,R2,j⟩;rw[kC]at j;refine k0 R2 _ _ j fun b F1 H1 g1 q1=>?_
 cases b with
 | false=>exact ok.nx _ _ _ _ (s2.trans g1.fs) (R2.grow g1) q1
 | true =>
   refine⟨fun σ' H'=>∃F' ρ',aS F F'/\VR X.K rl F₀ H₀ F' H' σ' ρ'/\∃m',m'<m/\tW fl f t m' Dv ρ',fun σ' H' ⟨F',ρ',s',R',m',hm,j⟩=>⟨m',hm,F',ρ',s',R',j⟩,?_⟩
   exact k1 (R2.grow g1) {Dv with nx:=fun ρ'=>∃k,∃h:k<m,tW fl f t k Dv (fo fl ρ'),ct:=fun ρ'=>∃k,∃h:k<m,tW fl f t k Dv (fo fl ρ'),bk:=fun ρ'=>Dv.nx (fo fl ρ')} _
    ⟨fun F3 H3 σ3 ρ3 s3 R3 ⟨m',hm,q3⟩=>⟨F3,fo fl ρ3,(s2.trans g1.fs).trans s3,R3.le (dR fl ρ3),m',hm,q3⟩,ok.rt,fun F3 H3 σ3 ρ3 s3 R3 q3=>ok.nx _ _ _ _ ((s2.trans g1.fs).trans s3) (R3.le (dR fl ρ3)) q3,fun F3 H3 σ3 ρ3 s3 R3 ⟨m',hm,q3⟩=>⟨F3,fo fl ρ3,(s2.trans g1.fs).trans s3,R3.le (dR fl ρ3),m',hm,q3⟩⟩ q1
end
noncomputable def uK(fl:List Nat)(k:En->Mo Fl):Fl->Mo Fl
 | .nx ρ=>k (fo fl ρ)
 | .ct ρ=>k (fo fl ρ)
 | .bk ρ=>ret (.nx (fo fl ρ))
 | .rt w=>ret (.rt w)
noncomputable def bO(fl:List Nat)(b:v7->En->Mo Fl):List v7->En->Mo Fl
 | [],ρ=>ret (.nx ρ)
 | x::xs,ρ=>u0 (b x ρ) (uK fl (bO fl b xs))
theorem iW(fl:List Nat)(g:vf)(t:vd):∀(xs:List v7)(ρ:En),mS (bI fl g t xs) ρ=bO fl (fun x ρ=>u0 (g x ρ) (mS t)) xs ρ
 | [],ρ=>rfl
 | x::xs,ρ=>by
   refine ac fun Q=>?_;show(g x ρ fun ρ2=>t ⟨fun ρ'=>mS (bI fl g t xs) (fo fl ρ') Q,fun w=>Q (.rt w),fun ρ'=>Q (.nx (fo fl ρ')),fun ρ'=>mS (bI fl g t xs) (fo fl ρ') Q⟩ ρ2)↔_;simp only[iW fl g t xs];exact A5
noncomputable def u4(g:vf)(t:vd):v7->En->Mo Fl:=fun x ρ=>u0 (g x ρ) (mS t)
theorem bdy_ap(g:vf)(t:vd)(x:v7)(ρ:En):u4 g t x ρ=u0 (g x ρ) (mS t):=nr rfl
theorem s_for(fl:List Nat)(fi:En->(List v7->Prop)->Prop)(g:vf)(t:vd)(ρ:En):mS (nc fl fi g t) ρ=u0 (fi ρ) fun xs=>bO fl (u4 g t) xs (fo fl ρ):=by
 refine ac fun Q=>?_;show(fi ρ fun xs=>mS (bI fl g t xs) (fo fl ρ) Q)↔_;simp only[iW];exact A5
noncomputable def uJ(fl:List Nat)(J:En->Prop)(Q:Fl->Prop):Fl->Prop
 | .nx ρ=>J (fo fl ρ)
 | .ct ρ=>J (fo fl ρ)
 | .bk ρ=>Q (.nx (fo fl ρ))
 | .rt w=>Q (.rt w)
section
variable{α σ:Type}{fl:List Nat}{b:v7->En->Mo Fl}
theorem gg(J:Nat->En->Prop){Q:Fl->Prop}:∀{xs:List v7}{ρ:En}(n:Nat),J n ρ->(∀i x ρ,xs[i]?=some x->J (n+i) ρ->∀k:Fl->Prop,(∀r,uJ fl (J (n+i+1)) Q r->k r)->b x ρ k)->(∀ρ,J (n+xs.length) ρ->Q (.nx ρ))->bO fl b xs ρ Q
 | [],ρ,n,h0,_,fin=>fin ρ h0
 | x::xs,ρ,n,h0,step,fin=>by
   refine step 0 x ρ rfl h0 (fun r=>uK fl (bO fl b xs) r Q) fun r hr=>?_;have rc:∀ρ',J (n+1) ρ'->bO fl b xs ρ' Q:=fun ρ' h'=>gg J (n+1) h' (fun i y ρ e j k hk=>step (i+1) y ρ (by simpa using e) (by rw[show n+(i+1)=n+1+i by omega];exact j) k (by rw[show n+(i+1)+1=n+1+i+1 by omega];exact hk)) (fun ρ j=>fin ρ (by rw[wF,show n+(xs.length+1)=n+1+xs.length by omega];exact j))
   cases r with
   | nx ρ'=>exact rc _ hr
   | ct ρ'=>exact rc _ hr
   | bk ρ'=>exact hr
   | rt w=>exact hr
theorem iX{xs:List α}{enc:α->v7}{Q:Fl->Prop}(J:Nat->En->Prop)(h0:J 0 ρ)
 (step:∀i (h:i<xs.length) ρ,J i ρ->∀k:Fl->Prop,(∀r,uJ fl (J (i+1)) Q r->k r)->b (enc xs[i]) ρ k)(fin:∀ρ,J xs.length ρ->Q (.nx ρ)):bO fl b (xs.map enc) ρ Q:=by
 refine gg J 0 h0 (fun i x ρ e j k hk=>?_) (fun ρ j=>fin ρ (by simpa using j));have hi:i<xs.length:=by have:=(wo.mp e).1;simpa using this
 rw[xf,wz hi]at e;cases e;rw[za]at j hk;exact step i hi ρ j k hk
theorem jV{lo:Int}{Q:Fl->Prop}(J:Nat->En->Prop)(h0:J 0 ρ)
 (step:∀i,i<n->∀ρ,J i ρ->∀k:Fl->Prop,(∀r,uJ fl (J (i+1)) Q r->k r)->b (.int (lo+i)) ρ k)(fin:∀ρ,J n ρ->Q (.nx ρ)):bO fl b (au lo n) ρ Q:=by
 refine iX (xs:=wI n) J h0 (fun i h ρ j k hk=>?_) (fun ρ j=>fin ρ (by simpa using j));rw[List.getElem_range];exact step i (by simpa using h) ρ j k hk
theorem gN{lo:Int}(st:Nat->En)(h0:∀i,i<n->∃ρ',b (.int (lo+i)) (st i)=ret (.nx ρ')/\fo fl ρ'=st (i+1)):bO fl b (au lo n) (st 0)=ret (.nx (st n)):=by
 have key:∀k m,m+k=n->bO fl b ((au lo n).drop m) (st m)=ret (.nx (st n)):=by
  intro k
  induction k with
  | zero => intro m e;have e:m=n:=by omega
            subst e;rw[Ax (by rw[bA];omega)];rfl
  | succ k ih =>
    intro m e;have hm:m<(au lo n).length:=by rw[bA];omega
    rw[x9 hm];have ex:(au lo n)[m] = .int (lo+m):=by simp[au]
    rw[ex];obtain⟨ρ',e1,e2⟩:=h0 m (by omega);show u0 (b (.int (lo+m)) (st m)) (uK fl (bO fl b ((au lo n).drop (m+1))))=_;rw[e1,bnd_ret];show bO fl b _ (fo fl ρ')=_;rw[e2];exact ih (m+1) (by omega)
 have:=key n 0 (by omega);simpa using this
end
noncomputable def dg(fl:List Nat)(f:TB)(t:vd)(ρ:En):Mo Fl:=fun Q=>∃m,mS (tW fl f t m) ρ Q
theorem s_while(fl:List Nat)(f:TB)(t:vd)(ρ:En):mS (hU fl f t) ρ=dg fl f t (fo fl ρ):=nr rfl
theorem jy(fl:List Nat)(f:TB)(t:vd)(m:Nat)(ρ:En):mS (tW fl f t m) ρ=u0 (f ρ) fun b=>if b=true then u0 (mS t ρ) (uK fl fun ρ'=>fun Q=>∃k,∃h:k<m,mS (tW fl f t k) ρ' Q)else ret (.nx ρ):=by
 refine ac fun Q=>?_;show tW fl f t m _ ρ↔_;rw[kC];simp only[u0,cD];exact A5
theorem k9{fl:List Nat}{f:TB}{t:vd}(h:f ρ=ret false):dg fl f t ρ=ret (.nx ρ):=by
 refine ac fun Q=>?_;constructor
 · rintro⟨m,q⟩;rw[jy,h,bnd_ret,if_neg (by decide)]at q;exact q
 · intro q;refine⟨0,?_⟩;rw[jy,h,bnd_ret,if_neg (by decide)];exact q
theorem k7{fl:List Nat}{f:TB}{t:vd}{ρ':En}(h:f ρ=ret true)(h2:mS t ρ=ret (.nx ρ')):dg fl f t ρ=dg fl f t (fo fl ρ'):=by
 refine ac fun Q=>?_;constructor
 · rintro⟨m,q⟩;rw[jy,h,bnd_ret,if_pos rfl,h2,bnd_ret]at q;obtain⟨k,_,q⟩:=q;exact⟨k,q⟩
 · rintro⟨m,q⟩;refine⟨m+1,?_⟩;rw[jy,h,bnd_ret,if_pos rfl,h2,bnd_ret];exact⟨m,Au m,q⟩
theorem g8{σ:Type}{fl:List Nat}{f:TB}{t:vd}(st:σ->En)(c:σ->Bool)(nxt:σ->σ)(μ:σ->Nat)(I:σ->Prop)
 (hf:∀s,I s->f (st s)=ret (c s))(ht:∀s,I s->c s=true->I (nxt s)/\μ (nxt s)<μ s/\∃ρ',mS t (st s)=ret (.nx ρ')/\fo fl ρ'=st (nxt s))(s:σ)(hs:I s):∃s',I s'/\c s'=false/\dg fl f t (st s)=ret (.nx (st s')):=by
 induction hm:μ s using Nat.strongRecOn generalizing s with
 | ind n ih =>
   subst hm
   cases hc:c s with
   | false=>exact⟨s,hs,hc,k9 (by rw[hf s hs,hc])⟩
   | true =>
     obtain⟨i1,m1,ρ',e1,e2⟩:=ht s hs hc;obtain⟨s',a,b,e⟩:=ih _ m1 (nxt s) i1 rfl;exact⟨s',a,b,by rw[k7 (by rw[hf s hs,hc]) e1,e2,e]⟩
noncomputable def kD(ρ0:En)(g:vf)(ft:TB)(fe:TV):List v7->List v7->(List v7->Prop)->Prop
 | [],acc,Q=>Q acc
 | x::xs,acc,Q=>g x ρ0 fun ρ2=>Le ρ0 ρ2/\ft ρ2 fun b=>if b=true then fe ρ2 fun w=>∃d,w.fz = .d d/\acc.length<sizeLine/\kD ρ0 g ft fe xs (acc++[d]) Q else kD ρ0 g ft fe xs acc Q
noncomputable def hV(fi:En->(List v7->Prop)->Prop)(fr:List (Option Nat))(g:vf)(ft:TB)(fe:TV):TV:=fun ρ Q=>fi ρ fun xs=>kD (gZ fr ρ) g ft fe xs [] fun ds=>Q (.ml ds)
section
variable{X:Cx}{rl:Option Addr}{elt tg iter:Expr}{ifs:List Expr}{scope:Scope}{pos:Pos}{fi:En->(List v7->Prop)->Prop}{g:vf}{ft:TB}{fe:TV}
theorem jX{N':List Str}{wi:TI}(fr:List (Option Nat))(k0:∀{F₀ H₀ F H:Hp}{σ:St}{ρ:En},VR X.K rl F₀ H₀ F H σ ρ->∀(Qd:List v7->Prop)(R:It->Hp->Prop),fi ρ Qd ->
 (∀J xs F' H',Grow rl F H F' H'->VIt X.K rl F' J xs->Qd xs->R J H')->wi σ H R)
 (hg:∀y,vG (blk X N' scope y) rl tg g)(ht:∀y,qC (blk X N' scope y) rl ifs ft)(he:∀y,PV (blk X N' scope y) rl elt fe)
 (R:VR X.K rl F₀ H₀ F H σ ρ)(Qd:W->Prop)(Q:VK)(q:hV fi fr g ft fe ρ Qd)
 (k:∀v w F' H',Grow rl F H F' H'->ca X.K rl F' H' v w->c8 H v w->Qd w->Q v H'):ny wi fr (fun y=>Av (hg y)) (fun y=>Av (ht y)) (fun y=>Av (he y)) σ H Q:=by
 refine k0 R _ _ q fun J xs F1 H1 g1 vi q1=>?_;intro D hD;have rD:rl≠some D:=fun e=>by obtain⟨o,z⟩:=g1.reel.live e;rw[hD]at z;cases z
 have FD:F1 D=none:=g1.sub.free hD;have gD:Grow rl F1 H1 F1 (upd H1 D (.lst [])):=Grow.laid g1.sub g1.reel hD;have R1:=R.grow g1;have n0:kz (gZ fr ρ):=gL
 refine⟨fun i m acc σc Hc=>m=xs.length-i/\i<=xs.length/\∃Fc ds,VR X.K rl F1 H1 Fc Hc σc (gZ fr ρ)/\Hc D=some (.lst acc)/\Fc D=none/\Reps X.K Fc acc ds/\kD (gZ fr ρ) g ft fe (xs.drop i) ds (fun ds=>Qd (.ml ds)),
  ⟨xs.length,by simp,xx _,F1,[],jA R1 gD,ai,FD,.nil,by simpa using q1⟩,?_⟩
 rintro z i m acc σc Hc ⟨rfl,hi,Fc,ds,Rc,hDc,fDc,rs,q2⟩;have sH:aS F1 Hc:=Rc.g.fs.trans Rc.sub;by_cases hlt:i<xs.length
 · have ei:xs[i]?=some xs[i]:=by simp[hlt]
   have ed:xs.drop i=xs[i]::xs.drop (i+1):=x9 hlt;rw[ed]at q2;refine .inr ⟨vi.go i Hc _ ei sH,fun v H' y=>?_⟩;obtain⟨Fy,gy,rv⟩:=vi.yld i Hc v H' _ Fc ei Rc.g.fs Rc.sub Rc.reel y;refine(xR (hg z)).2 (Rc.grow gy) v _ _ _ rv q2 fun F3 H3 σ3 ρ3 g3 n3 R3 ⟨le3,q3⟩=>?_;refine(xR (ht z)).2 R3 _ _ q3 fun b F4 H4 g4 q4=>?_;have R4:=R3.grow g4;have g34:=(gy.trans g3).trans g4;have keepD:∀{Fx Hx:Hp},Grow rl Fc Hc Fx Hx->Hx D=some (.lst acc)/\Fx D=none:=fun gx=>⟨gx.same D _ hDc rD,by rw[gx.old D _ hDc];exact fDc⟩
   cases b with
   | false=>exact⟨xs.length-(i+1),by omega,rfl,hlt,F4,ds,R4.le le3,(keepD g34).1,(keepD g34).2,rs.mono g34.fs,q4⟩
   | true =>
     refine(xR (he z)).2 R4 _ _ q4 fun v5 w5 F5 H5 g5 r5 n5 ⟨d,ed5,hl,q5⟩=>?_;obtain⟨F6,g6,s6,r6⟩:=ca.fz g5 r5 n5;rw[ed5]at r6;have g36:=g34.trans g6;refine⟨(keepD g36).1,by rw[rs.length];exact hl,xs.length-(i+1),by omega,rfl,hlt,F6,ds++[d],((R4.grow g6).le le3).other n0 hD (keepD g36).2 rD,ai,(keepD g36).2,(rs.mono g36.fs).snoc r6,q5⟩
 · have e:i=xs.length:=by omega
   subst e;rw[List.drop_length]at q2;refine .inl ⟨vi.stop _ Hc (we _) sH,k _ (.ml ds) Fc Hc (g1.trans Rc.g) ⟨D,acc,rfl,fDc,rD,hDc,rs⟩ (fun a ea=>by cases ea;exact g1.freeB hD) q2⟩
theorem cL(N':List Str)(fr:List (Option Nat))(hc:X.calm=true)(hi:vD X rl tg iter fi)
 (hg:∀y,vG (blk X N' scope y) rl tg g)(ht:∀y,qC (blk X N' scope y) rl ifs ft)(he:∀y,PV (blk X N' scope y) rl elt fe)
 (hfr:autoParam (ph fr N' X.N scope X.env.scope=true) æa._auto_1)(hsc:autoParam (rT scope X.env.scope=true) æa._auto_1)
 (hs:autoParam (∀x,zj iter X.env x=pure x) æc._auto_1):PV X rl (.ListComp elt [⟨tg,iter,ifs,0⟩] scope pos) (hV fi fr g ft fe):=by
 obtain⟨wi,p0,k0⟩:=hi;exact⟨_,jQ N' fr hc p0 hfr hsc (fun y=>(xR (hg y)).1) (fun y=>(xR (ht y)).1) (fun y=>(xR (he y)).1) hs,fun R Qd Q q k=>jX fr k0 hg ht he R Qd Q q k⟩
end
noncomputable def uN(ρ0:En)(g:vf)(ft:TB)(fe:TV)(x:v7):Mo (Option v7):=u0 (g x ρ0) fun ρ2=>uT (Le ρ0 ρ2) (u0 (ft ρ2) fun b=>if b=true then u0 (fe ρ2) fun w=>am (asD w.fz) fun d=>ret (some d)else ret none)
noncomputable def bK(b:v7->Mo (Option v7)):List v7->List v7->Mo (List v7)
 | [],acc=>ret acc
 | x::xs,acc=>u0 (b x) fun o=>match o with
   | some d=>uT (acc.length<sizeLine) (bK b xs (acc++[d]))
   | none=>bK b xs acc
theorem jj(ρ0:En)(g:vf)(ft:TB)(fe:TV):∀(xs acc:List v7),kD ρ0 g ft fe xs acc=bK (uN ρ0 g ft fe) xs acc
 | [],acc=>rfl
 | x::xs,acc=>by
   refine ac fun Q=>?_;show(g x ρ0 fun ρ2=>Le ρ0 ρ2/\ft ρ2 fun b=>if b=true then fe ρ2 fun w=>∃d,w.fz = .d d/\acc.length<sizeLine/\kD ρ0 g ft fe xs (acc++[d]) Q else kD ρ0 g ft fe xs acc Q)↔(u0 (uN ρ0 g ft fe x) _) Q;simp only[jj ρ0 g ft fe xs]
   have:∀(ρ2:En)(b:Bool),(if b=true then fe ρ2 fun w=>∃d,w.fz = .d d/\acc.length<sizeLine/\bK (uN ρ0 g ft fe) xs (acc++[d]) Q else bK (uN ρ0 g ft fe) xs acc Q)=(u0 (if b=true then u0 (fe ρ2) fun w=>am (asD w.fz) fun d=>ret (some d)else ret none) fun o=>match o with
   | some d=>uT (acc.length<sizeLine) (bK (uN ρ0 g ft fe) xs (acc++[d]))
   | none=>bK (uN ρ0 g ft fe) xs acc) Q:=by
     intro ρ2 b
     cases b with
     | false=>rfl
     | true =>
       rw[if_pos rfl,if_pos rfl];show _=fe ρ2 fun w=>_;congr 1;funext w;refine propext ?_;show _↔(u0 (am (asD w.fz) fun d=>ret (some d)) _) Q;rw[bnd_opt,ae];simp only[gv];exact A5
   simp only[this];exact A5
theorem m_comp(fi:En->(List v7->Prop)->Prop)(fr:List (Option Nat))(g:vf)(ft:TB)(fe:TV)(ρ:En):hV fi fr g ft fe ρ=u0 (fi ρ) fun xs=>u0 (bK (uN (gZ fr ρ) g ft fe) xs []) fun ds=>ret (.ml ds):=by
 refine ac fun Q=>?_;show(fi ρ fun xs=>kD (gZ fr ρ) g ft fe xs [] fun ds=>Q (.ml ds))↔_;simp only[jj];exact A5
section
variable{α:Type}{b:v7->Mo (Option v7)}
theorem c4{enc:α->v7}(f:α->Option v7):∀(xs:List α)(acc:List v7),(∀x∈xs,b (enc x)=ret (f x))->acc.length+xs.length<=sizeLine->bK b (xs.map enc) acc=ret (acc++xs.filterMap f)
 | [],acc,_,_=>by simp[bK]
 | x::xs,acc,h,hl=>by
   show u0 (b (enc x)) _=_;rw[h x wg,bnd_ret];simp at hl
   cases e:f x with
   | none =>
     show bK b (xs.map enc) acc=_
     rw[c4 f xs acc (fun y hy=>h y (wf _ hy)) (by omega),List.filterMap_cons_none e]
   | some d =>
     show uT (acc.length<sizeLine) (bK b (xs.map enc) (acc++[d]))=_;rw[al (by omega),c4 f xs (acc++[d]) (fun y hy=>h y (wf _ hy)) (by simp;omega),List.filterMap_cons_some e];simp
theorem mm{xs:List α}{enc:α->v7}(f:α->Option v7)(h:∀x∈xs,b (enc x)=ret (f x))(hl:xs.length<=sizeLine):bK b (xs.map enc) []=ret (xs.filterMap f):=by
 have:=c4 f xs [] h (by simpa using hl);simpa using this
theorem comp_map{xs:List α}{enc:α->v7}(f:α->v7)(h:∀x∈xs,b (enc x)=ret (some (f x)))(hl:xs.length<=sizeLine):bK b (xs.map enc) []=ret (xs.map f):=by
 rw[mm (fun x=>some (f x)) h hl,List.filterMap_eq_map']
theorem jh{lo:Int}(f:Nat->v7)(h:∀j,j<n->b (.int (lo+j))=ret (some (f j)))(hl:n<=sizeLine):bK b (au lo n) []=ret ((wI n).map f) :=
 comp_map (xs:=wI n) f (fun j hj=>h j (xv.mp hj)) (by simpa using hl)
end
section
variable(c:Prop)[Decidable c]
theorem ite_nx(a b:En):(if c then ret (Fl.nx a)else ret (Fl.nx b))=ret (Fl.nx (if c then a else b)):=by split<;>rfl
theorem ite_rt(a b:W):(if c then ret (Fl.rt a)else ret (Fl.rt b))=ret (Fl.rt (if c then a else b)):=by split<;>rfl
theorem ite_retd(a b:v7):(if c then ret (W.d a)else ret (W.d b))=ret (W.d (if c then a else b)):=by split<;>rfl
theorem ite_retb(a b:Bool):(if c then ret a else ret b)=ret (if c then a else b):=by split<;>rfl
theorem ite_rets(a b:v7):(if c then ret (some a)else ret (some b))=ret (some (if c then a else b)):=by split<;>rfl
theorem ite_cons{α:Type}(x y:α)(l m:List α):(if c then x::l else y::m)=(if c then x else y)::(if c then l else m):=by split<;>rfl
theorem ite_some{α:Type}(x y:α):(if c then some x else some y)=some (if c then x else y):=by split<;>rfl
theorem ite_d(a b:v7):(if c then W.d a else W.d b)=W.d (if c then a else b):=by split<;>rfl
theorem ite_pi(a b:Int):(if c then wO a else wO b)=wO (if c then a else b):=by split<;>rfl
theorem ite_pb(a b:Bool):(if c then A6 a else A6 b)=A6 (if c then a else b):=by split<;>rfl
theorem itb_tt(b y:Bool):(if b=true then true else y)=(b||y):=by cases b<;>rfl
theorem itb_ff(b y:Bool):(if b=true then y else false)=(b&&y):=by cases b<;>rfl
theorem itb_ft(b y:Bool):(if b=true then false else y)=(!b&&y):=by cases b<;>rfl
theorem itb_tf(b y:Bool):(if b=true then y else true)=(!b||y):=by cases b<;>rfl
end
theorem af(h:n<=1000):(n<=sizeLine)=True:=by have:=wY;exact propext ⟨fun _=>trivial,fun _=>by omega⟩
theorem tup2(x y:v7):(match [x,y]with | [x,y]=>some (x,y)|_=>none)=some (x,y):=rfl
theorem bnd_tt{α β:Type}(a:α)(f:α->Mo β):u0 (fun Q=>Q a) f=f a:=nr rfl
section
variable{α β:Type}
theorem aA{P:α->Prop}{f:α->Mo β}{Q:β->Prop}(h:∀a,P a->f a Q):u0 (anyM P) f Q:=h
end
theorem a_{Q:v7->Prop}{d:v7}(h:Q d):ret (Fl.rt (.d d)) (oV Q):=⟨d,rfl,h⟩
section
variable{α:Type}{k:En->Mo Fl}{Q:Fl->Prop}
theorem um{m:Mo α}{h:α->Mo Fl}(z:u0 m (fun a=>sq (h a) k) Q):sq (u0 m h) k Q:=z
theorem ul{o:Option α}{h:α->Mo Fl}(z:am o (fun a=>sq (h a) k) Q):sq (am o h) k Q:=by rw[nz];exact z
noncomputable def kc(k1 k2:En->Mo Fl):En->Mo Fl:=fun ρ=>sq (k1 ρ) k2
theorem kc_ap(k1 k2:En->Mo Fl)(ρ:En):kc k1 k2 ρ=sq (k1 ρ) k2:=nr rfl
theorem sq_sq(m:Mo Fl)(k1 k2:En->Mo Fl):sq (sq m k1) k2=sq m (kc k1 k2):=by
 refine ac fun Q=>?_;show m _↔m _;have:∀fl:Fl,(sq (match fl with | .nx ρ=>k1 ρ | .rt w=>ret (.rt w) | .bk ρ=>ret (.bk ρ) | .ct ρ=>ret (.ct ρ)) k2) Q=(match fl with | .nx ρ=>kc k1 k2 ρ | .rt w=>ret (.rt w) | .bk ρ=>ret (.bk ρ) | .ct ρ=>ret (.ct ρ):Mo Fl) Q:=by intro fl;cases fl<;>rfl
 exact Iff.of_eq (congrArg m (funext this))
theorem aI{P:α->Prop}{f:α->Mo Fl}(z:∀a,P a->sq (f a) k Q):sq (u0 (anyM P) f) k Q:=z
end
theorem pk_sc(x:List Int):L2.VL.W.peek (.sc x) = .sc x:=rfl
theorem fz_sc(x:List Int):(W.sc x).fz = .sc x:=rfl
theorem arg_sc(x:List Int):cx (.sc x)=true:=rfl
theorem isPk_sc(x:List Int):(W.sc x).isPk=false:=rfl
section
variable{X:Cx}{rl:Option Addr}{a b c e:Expr}{es:List Expr}{fa fb fc:TV}{fs:vb}{pos p p2:Pos}{ρ:En}
noncomputable def oN:List W->(W->Prop)->Prop:=fun ws Q=>∃ns,ws=[.sc ns]/\Q (.d (.int ns.length))
noncomputable def asSc:W->Option (List Int)
 | .sc ns=>some ns
 | _=>none
theorem asSc_s(ns:List Int):asSc (.sc ns)=some ns:=rfl
theorem fO{i:List Int}:asSc w=some i↔w = .sc i:=by
 constructor
 · intro h;unfold asSc at h;split at h<;>simp_all
 · rintro rfl;rfl
theorem m_gLenS(w:W):oN [w]=am (asSc w) fun ns=>ret (.d (.int ns.length)):=by
 refine ac fun Q=>?_;simp only[oN,ae,fO,ret,wH,and_true]
noncomputable def sg:W->W->(W->Prop)->Prop:=fun x y Q=>∃ns i n,x = .sc ns/\y = .d (.int i)/\atI ns i=some n/\Q (.d (.int n))
theorem cw{β:Type}(f:α->β)(xs:List α)(i:Int):atI (xs.map f) i=(atI xs i).map f:=by
 unfold atI;rw[wp];cases ixN xs.length i<;>simp
theorem m_gIxS(x y:W):sg x y=am (asSc x) fun ns=>am (asI y) fun i=>am (atI ns i) fun n=>ret (.d (.int n)):=by
 refine ac fun Q=>?_;simp only[sg,ae,fO,bh,ret];exact⟨fun⟨i,j,z,a,b,c,q⟩=>⟨i,a,j,b,z,c,q⟩,fun⟨i,a,j,b,z,c,q⟩=>⟨i,j,z,a,b,c,q⟩⟩
noncomputable def rq(fa:TV)(fl fh:ve):TV:=fun ρ Q=>fa ρ fun w=>fl ρ fun l=>fh ρ fun h=>∃ns:List Int,w = .sc ns/\Q (.ml (cutD (ns.map .int) l h))
theorem m_vSlS{fl fh:ve}:rq fa fl fh ρ=u0 (fa ρ) fun w=>u0 (fl ρ) fun l=>u0 (fh ρ) fun h=>am (asSc w) fun ns=>ret (.ml (cutD (ns.map .int) l h)):=by
 refine ac fun Q=>?_;simp only[rq,u0,ae,fO,ret]
end
noncomputable def uo(K:W.Frag)(pre:List W->Prop):Sp:=fun vs H Q _=>∃F ws,aS F H/\cI K none F H vs ws/\ws.all cx=true/\pre ws/\∀r F' H',H r=none->Grow none F H F' H'->vw (some r) F' H'->Q (.ref r) H'
structure DfnR (P:wD) (w:wR) (K:W.Frag) (mg:Str->Option v9) (base:Heap) (x:Str) (ps:List Str) (k:Nat) (pre:List W->Prop):Prop where
 ex:∃f fd,mg x=some (.ref f)/\W.keepIn K (.ref f)=true/\Binds K fd ps []/\FnOk P w K mg base vX k f fd ps (uo K pre)
noncomputable def uG:Option W->Option W
 | some .reel=>none
 | o=>o
noncomputable def nR(ρ:En):En:=ρ.map uG
noncomputable def W.isR:W->Bool
 | .reel=>true
 | _=>false
noncomputable def na(i:Nat)(pre:List W->Prop)(fs:vb)(t:vd):vd:=fun D ρ=>fs ρ fun ws=>ws.all cx=true/\pre ws/\t ⟨fun ρ'=>D.nx (nR ρ'),fun w=>w.isR=false/\D.rt w,fun ρ'=>D.bk (nR ρ'),fun ρ'=>D.ct (nR ρ')⟩ (ρ.set i (some .reel))
theorem l_(g:Grow none F₀ H₀ F H)(ra:vw (some r) F H):Grow (some r) F₀ H₀ F H:=⟨fun b o e _=>g.same b o e (by simp),g.fs,g.sub,g.old,ra⟩
theorem gj(g:Grow (some r) F₀ H₀ F H)(n:H₀ r=none):Grow none F₀ H₀ F H:=⟨fun b o e _=>g.same b o e (fun z=>by cases z;rw[n]at e;cases e),g.fs,g.sub,g.old,fun _ z=>by cases z⟩
theorem nG{K:W.Frag}(h:ca K none F H v w)(ne:∀a,w.own=true\/(∃xs,w = .pk xs)->v = .ref a->a≠r):ca K (some r) F H v w:=by
 cases w with
 | d x=>exact h
 | ml xs=>obtain⟨a,vs,e,f,_,g⟩:=h;exact⟨a,vs,e,f,fun z=>ne a (.inl rfl) e (by cases z;rfl),g⟩
 | pk xs=>obtain⟨a,vs,e,f,_,g⟩:=h;exact⟨a,vs,e,f,fun z=>ne a (.inr ⟨_,rfl⟩) e (by cases z;rfl),g⟩
 | reel=>obtain⟨_,z,_⟩:=h;cases z
 | vv u=>exact h
 | md kvs=>obtain⟨a,vs,e,f,_,g⟩:=h;exact⟨a,vs,e,f,fun z=>ne a (.inl rfl) e (by cases z;rfl),g⟩
 | mk kvs=>obtain⟨a,vs,e,f,_,g⟩:=h;exact⟨a,vs,e,f,fun z=>ne a (.inl rfl) e (by cases z;rfl),g⟩
 | xm kvs=>obtain⟨a,vs,e,f,_,g⟩:=h;exact⟨a,vs,e,f,fun z=>ne a (.inl rfl) e (by cases z;rfl),g⟩
 | nt ds=>exact h
 | lk=>trivial
 | sc ns=>exact h
 | fd _=>exact h
 | xr _=>exact h
 | fw _=>exact h
 | ft _=>exact h
 | xc _ _=>exact h
 | dp _ _=>exact h
theorem ir{K:W.Frag}(h:ca K (some r) F H v w)(n:w.isR=false):ca K none F H v w:=by
 cases w with
 | d x=>exact h
 | ml xs=>obtain⟨a,vs,e,f,_,g⟩:=h;exact⟨a,vs,e,f,by simp,g⟩
 | pk xs=>obtain⟨a,vs,e,f,_,g⟩:=h;exact⟨a,vs,e,f,by simp,g⟩
 | reel=>cases n
 | vv u=>exact h
 | md kvs=>obtain⟨a,vs,e,f,_,g⟩:=h;exact⟨a,vs,e,f,by simp,g⟩
 | mk kvs=>obtain⟨a,vs,e,f,_,g⟩:=h;exact⟨a,vs,e,f,by simp,g⟩
 | xm kvs=>obtain⟨a,vs,e,f,_,g⟩:=h;exact⟨a,vs,e,f,by simp,g⟩
 | nt ds=>exact h
 | lk=>trivial
 | sc ns=>exact h
 | fd _=>exact h
 | xr _=>exact h
 | fw _=>exact h
 | ft _=>exact h
 | xc _ _=>exact h
 | dp _ _=>exact h
theorem ge(h:(nR ρ)[i]?=some (some w)):ρ[i]?=some (some w)/\w.isR=false:=by
 unfold nR at h;rw[xf]at h
 cases e:ρ[i]? with
 | none=>rw[e]at h;cases h
 | some o =>
   rw[e]at h
   cases o with
   | none=>cases h
   | some u=>cases u<;>first|(cases h;exact⟨rfl,rfl⟩)|cases h
theorem VR.out{K:W.Frag}(R:VR K (some r) F₀ H₀ F H σ ρ)(n:H₀ r=none):VR K none F₀ H₀ F H σ (nR ρ):=by
 refine⟨gj R.g n,fun i w e=>?_,fun i j x y v hn e1 e2=>R.ap i j x y v hn (ge e1).1 (ge e2).1,fun i xs e=>R.np i xs (ge e).1,?_⟩
 · obtain⟨e1,e2⟩:=ge e;obtain⟨v,h1,h2,h3⟩:=R.sl i w e1;exact⟨v,h1,ir h2 e2,h3⟩
 · have:=R.len;simpa[nR]using this
theorem VR.into{K:W.Frag}(R:VR K none F₀ H₀ F H σ ρ)(n:H r=none)(g:Grow none F H F' H')(ra:vw (some r) F' H')(i:Nat):VR K (some r) F₀ H₀ F' H' (σ.set i (some (.ref r))) (ρ.set i (some .reel)):=by
 have R1:=R.grow g;refine⟨l_ R1.g ra,fun j w e=>?_,fun j k x y v hn e1 e2 o1 o2 s1 s2=>?_,fun j xs e=>?_,by simp[R.len]⟩
 · by_cases hj:i=j
   · subst hj
     have hi:i<ρ.length:=by
      rw[xg]at e;by_cases hi:i<ρ.length
      · exact hi
      · simp[hi]at e
     rw[wC hi]at e;cases e;exact⟨.ref r,by rw[wC (by rw[<- R.len];exact hi)],⟨r,rfl,rfl⟩,trivial⟩
   · rw[wB hj]at e;obtain⟨v,h1,h2,h3⟩:=R1.sl j w e;refine⟨v,by rw[wB hj];exact h1,nG h2 fun a ow ea z=>?_,h3⟩;obtain⟨v0,h10,h20,_⟩:=R.sl j w e;rw[h1]at h10;cases h10;rcases ow with ow|⟨xs,rfl⟩
     · obtain⟨b,o,eb,hb⟩:=h20.live ow;rw[ea]at eb;cases eb;rw[z,n]at hb;cases hb
     · exact absurd e (R.np j xs)
 · have key:∀(m:Nat)(z:W),(ρ.set i (some W.reel))[m]?=some (some z)->z.own=true->i≠m/\ρ[m]?=some (some z):=fun m z e o=>by
     by_cases hm:i=m
     · subst hm;rw[xg]at e;split at e
       · split at e
         · cases e;cases o
         · cases e
       · exact absurd rfl (by assumption)
     · rw[wB hm]at e;exact⟨hm,e⟩
   obtain⟨n1,d1⟩:=key j x e1 o1;obtain⟨n2,d2⟩:=key k y e2 o2;rw[wB n1]at s1;rw[wB n2]at s2;exact R1.ap j k x y v hn d1 d2 o1 o2 s1 s2
 · rw[xg]at e;split at e
   · split at e
     · cases e
     · cases e
   · exact R1.np j xs e
section
variable{X:Cx}{st:Stmt}{rest body:List Stmt}{t u:vd}{a b c e:Expr}{es:List Expr}{fa fb:TV}{fs:vb}{pos p px cpos:Pos}{ρ:En}
theorem la(i:Nat){f:Str}{pre:List W->Prop}(D:DfnR X.prog X.w X.K X.mg X.base f ps k pre)(hr:Room k X.A)(hN:X.N.Nodup)(ha:vy X none (e::es) fs)(hrest:∀r,gX X (some r) rest t)
 (hi:autoParam (X.N[i]?=some x) æa._auto_1)(hx:autoParam (Loc X.env.scope x) æf._auto_1)(hg:autoParam (Gl X f) æa._auto_1)(hdb:autoParam ((f==("__debug__" : Str))=false) æb._auto_1)
 (he:autoParam (wm (e::es) X.env=(false,eval e X.env)::wm es X.env) æa._auto_1)(hpl:autoParam ((yr cpos (wm es X.env)).any (·.1)=false) æa._auto_1)
 (hs:autoParam (Af (.Call (.Name f p) (e::es) [] cpos) (some (.Name x px)) pos.line X.env=pure false) æa._auto_1)(hf:autoParam (X.fn x=true\/X.env.scope.names.lookup x=some .local) æg._auto_1) :
 gX X none (.Assign [.Name x px] (.Call (.Name f p) (e::es) [] cpos) pos::rest) (na i pre fs t):=by
 obtain⟨fa,fd,hm,hk,hb,F⟩:=D.ex;obtain⟨ta,p1,k1⟩:=ha;refine⟨_,aN (cC hN hi hx (iF F hr hg hm hk hb .nil n6 p1 hdb he hpl) hs hf) (lJ X rest),fun{F₀ H₀ F H σ ρ} R Dv D ok q=>k1 R _ _ q fun vs ws F1 H1 g1 r1 ⟨ao,pw,q1⟩=>?_⟩;have R1:=R.grow g1;refine⟨F1,ws,g1.sub,by rw[xX];exact r1,ao,pw,fun r F2 H2 hr2 g2 ra=>?_⟩;intro pins s I;obtain⟨T,pT,kT⟩:=hrest r;have h0:H₀ r=none:=R1.g.freeB hr2;refine pT pins s _ H2 D I (kT (R1.into hr2 g2 ra i) _ D ⟨fun F3 H3 σ3 ρ3 s3 R3 q3=>?_,fun v w F3 H3 g3 r3 n3 q3=>?_,fun F3 H3 σ3 ρ3 s3 R3 q3=>?_,fun F3 H3 σ3 ρ3 s3 R3 q3=>?_⟩ q1)
 · exact ok.nx F3 H3 σ3 _ (g1.fs.trans (g2.fs.trans s3)) (R3.out h0) q3
 · exact ok.rt v w F3 H3 (gj g3 h0) (ir r3 q3.1) n3 q3.2
 · exact ok.bk F3 H3 σ3 _ (g1.fs.trans (g2.fs.trans s3)) (R3.out h0) q3
 · exact ok.ct F3 H3 σ3 _ (g1.fs.trans (g2.fs.trans s3)) (R3.out h0) q3
end
noncomputable def t6:Fl->Mo Fl
 | .nx ρ=>ret (.nx (nR ρ))
 | .rt w=>uT (w.isR=false) (ret (.rt w))
 | .bk ρ=>ret (.bk (nR ρ))
 | .ct ρ=>ret (.ct (nR ρ))
theorem s_newR(i:Nat)(pre:List W->Prop)(fs:vb)(t:vd)(ρ:En):mS (na i pre fs t) ρ=u0 (fs ρ) fun ws=>uT (ws.all cx=true) (uT (pre ws) (u0 (mS t (ρ.set i (some .reel))) t6)):=nr rfl
theorem nR_nil:nR []=[]:=rfl
theorem nR_r(l:En):nR (some .reel::l)=none::nR l:=rfl
theorem nR_n(l:En):nR (none::l)=none::nR l:=rfl
theorem nR_d(x:v7)(l:En):nR (some (.d x)::l)=some (.d x)::nR l:=rfl
theorem nR_ml(x:List v7)(l:En):nR (some (.ml x)::l)=some (.ml x)::nR l:=rfl
theorem nR_sc(x:List Int)(l:En):nR (some (.sc x)::l)=some (.sc x)::nR l:=rfl
noncomputable def dk(K:W.Frag):Sp:=fun vs H Q _=>∃(a:Addr)(ns:List Int),vs=[.ref a]/\vp K H a (ns.map V.int)/\ns.length<=63/\∀H',Q (.bl true) H'
noncomputable def sW:VEnds:=⟨fun _=>False,fun w=>w = .d (.bool true),fun _=>False,fun _=>False⟩
noncomputable def mw:Fl->Prop
 | .rt w=>w = .d (.bool true)
 | _=>False
theorem un_law(m:Mo Fl):u0 m t6 mw=m mw:=by
 show m (fun fl=>t6 fl mw)=m mw;congr 1;funext fl
 cases fl with
 | rt w=>exact propext ⟨fun⟨_,h⟩=>h,fun h=>⟨by rw[show w = .d (.bool true)from h];rfl,h⟩⟩
 | _=>rfl
theorem l5:ret (Fl.rt (.d (.bool true))) mw:=rfl
section
variable{P:wD}{w:wR}{K:W.Frag}{mg:Str->Option v9}{base:Heap}{st:Stmt}{N:List Str}{k:Nat}{t:vd}{x:Str}
theorem lV{fd:yj}(F:Fun K "law" "law" st f fd)(S:FnScope N [x] (defScope st))
 (hbody:∀(cdv:v9)(A:wS)(outer:List Env)(s:v_)(H:Hp)(E:XK),Room k (A.deeper (At "law" (defScope st) s.heap.objs.size f cdv))->gX (jw vX P w K mg base N "law" (defScope st) f cdv A outer s H E).nox none (defBody st) t)
 (hread:∀ns:List Int,ns.length<=63->mS t (bQ N [.sc ns]) mw):FnOk P w K mg base vX (k+1) f fd [x] (dk K):=by
 refine F.ok S (fun vs H Q E h=>?_) (fun cdv A outer s H vs Q E hr h=>?_)
 · obtain⟨a,ns,rfl,_⟩:=h;rfl
 · obtain⟨a,ns,rfl,hS,hl,kq⟩:=h;obtain⟨T,p,kk⟩:=hbody cdv A outer s H E hr;have rw0:cI K none H H [.ref a] [.sc ns]:=.cons ⟨a,rfl,hS⟩ .nil;have R:VR K none H H H H (start N [.ref a]) (bQ N [.sc ns]):=fR (.refl H) (fun _ z=>by cases z) rw0 rfl;refine⟨T,p,kk R sW _ ⟨fun _ _ _ _ _ _ z=>xJ z,?_,fun _ _ _ _ _ _ z=>xJ z,fun _ _ _ _ _ _ z=>xJ z⟩ (hread ns hl)⟩;rintro v w1 F1 H1 g1 r1 n1 z;have z:w1 = .d (.bool true):=z;subst z;have e:=iq r1;subst e;exact kq H1
end
noncomputable def m5(i:Nat)(fa:TV):vd:=fun D ρ=>fa ρ fun w=>∃d,w.fz = .d d/\D.nx (ρ.set i (some (.d d)))
section
variable{X:Cx}{rl:Option Addr}{st:Stmt}{rest body:List Stmt}{t u:vd}{a b c e:Expr}{es:List Expr}{fa fb:TV}{fs:vb}{f:TB}{pos p:Pos}{ρ:En}
theorem aO(i:Nat){pos':Pos}(hN:X.N.Nodup)(he:PV X rl e fa)(hi:autoParam (X.N[i]?=some x) æa._auto_1)(hx:autoParam (Loc X.env.scope x) æf._auto_1)
 (hs:autoParam (Af e (some (.Name x pos')) pos.line X.env=pure false) æa._auto_1)(hf:autoParam (X.fn x=true\/X.env.scope.names.lookup x=some .local) æg._auto_1) :
 vB X rl (.Assign [.Name x pos'] e pos) (m5 i fa):=by
 obtain⟨t,p,k⟩:=he;refine⟨_,cC hN hi hx p hs hf,fun R Dv D ok q=>k R _ _ q fun v w F1 H1 g1 r1 n1 ⟨d,ed,q1⟩=>?_⟩;obtain⟨F2,g2,s2,r2⟩:=ca.fz g1 r1 n1;rw[ed]at r2;exact ok.nx _ _ _ _ g2.fs (R.set g2 r2 trivial (fun xs z=>by cases z) i) q1
theorem s_setZ(i:Nat):mS (m5 i fa) ρ=u0 (fa ρ) fun w=>am (asD w.fz) fun d=>ret (.nx (ρ.set i (some (.d d)))):=by
 show(u0 (fa ρ) fun w=>fun(Q:Fl->Prop)=>∃d,w.fz = .d d/\Q (.nx (ρ.set i (some (.d d)))))=_;congr 1;funext w;refine ac fun Q=>?_;simp only[ae,gv,ret]
end
section
variable{X:Cx}{rl:Option Addr}{elt tg iter:Expr}{ifs:List Expr}{scope:Scope}{pos:Pos}{fi:En->(List v7->Prop)->Prop}{g:vf}{ft:TB}{fe:TV}
end
noncomputable def o8(xs:List Int):v7:=.tuple (xs.map .int)
noncomputable def qf(xs:List Int):v7:=.list (xs.map .int)
theorem bU:∀{xs ys:List Int},xs.map wO=ys.map wO↔xs=ys:=by
 intro xs ys;constructor
 · intro h;have:=congrArg df h;rw[aU,aU]at this;exact wL this
 · rintro rfl;rfl
theorem fU{xs ys:List Int}:o8 xs=o8 ys↔xs=ys:=by
 unfold o8;rw[xB,bU]
theorem jU{xs ys:List Int}:qf xs=qf ys↔xs=ys:=by
 unfold qf;rw[v7.list.injEq,bU]
theorem be{α:Type}{f:α->v7}(h:∀a b,f a=f b↔a=b):∀{xs ys:List α},xs.map f=ys.map f↔xs=ys
 | [],[]=>by simp
 | [],_::_=>by simp
 | _::_,[]=>by simp
 | x::xs,y::ys=>by simp[h,be h (xs:=xs) (ys:=ys)]
noncomputable def pS(xs:List (List Int)):v7:=.tuple (xs.map o8)
theorem jF{xs ys:List (List Int)}:pS xs=pS ys↔xs=ys:=by
 unfold pS;rw[xB,be fun _ _=>fU]
section
variable{α σ:Type}{fl:List Nat}{b:v7->En->Mo Fl}{k:En->Mo Fl}{Q:Fl->Prop}{ρ:En}
theorem cJ{f:TB}{t:vd}(st:σ->En)(c:σ->Bool)(nxt:σ->σ)(μ:σ->Nat)(I:σ->Prop)(s:σ)(h0:ρ=st s)(hs:I s)
 (hf:∀s,I s->f (st s)=ret (c s))(ht:∀s,I s->c s=true->I (nxt s)/\μ (nxt s)<μ s/\∃ρ',mS t (st s)=ret (.nx ρ')/\fo fl ρ'=st (nxt s))(fin:∀s,I s->c s=false->k (st s) Q):sq (dg fl f t ρ) k Q:=by
 subst h0;obtain⟨s',a,b,e⟩:=g8 st c nxt μ I hf ht s hs;rw[e];exact fin s' a b
theorem gm{lo:Int}(st:Nat->En)(h0:ρ=st 0)(step:∀i,i<n->∃ρ',b (.int (lo+i)) (st i)=ret (.nx ρ')/\fo fl ρ'=st (i+1))(fin:k (st n) Q):sq (bO fl b (au lo n) ρ) k Q:=by
 subst h0;rw[gN st step];exact fin
noncomputable def uI(fl:List Nat)(J:En->Prop)(k:En->Mo Fl)(Q:Fl->Prop):Fl->Prop
 | .nx ρ=>J (fo fl ρ)
 | .ct ρ=>J (fo fl ρ)
 | .bk ρ=>k (fo fl ρ) Q
 | .rt w=>Q (.rt w)
theorem eS{J:En->Prop}{ρ:En}(h:J (fo fl ρ)):uI fl J k Q (.nx ρ):=h
theorem kO{xs:List α}{enc:α->v7}{xs':List v7}(J:Nat->En->Prop)(hx:xs'=xs.map enc)(h0:J 0 ρ)
 (step:∀i (h:i<xs.length) ρ,J i ρ->∀K:Fl->Prop,(∀r,uI fl (J (i+1)) k Q r->K r)->b (enc xs[i]) ρ K)(fin:∀ρ,J xs.length ρ->k ρ Q):sq (bO fl b xs' ρ) k Q:=by
 subst hx;refine iX (Q:=fun r=>(match r with | .nx ρ=>k ρ | .rt w=>ret (.rt w) | .bk ρ=>ret (.bk ρ) | .ct ρ=>ret (.ct ρ):Mo Fl) Q) J h0 (fun i hi ρ j K hK=>step i hi ρ j K fun r hr=>hK r ?_) fin;cases r<;>exact hr
theorem l7{lo:Int}(J:Nat->En->Prop)(h0:J 0 ρ)
 (step:∀i,i<n->∀ρ,J i ρ->∀K:Fl->Prop,(∀r,uI fl (J (i+1)) k Q r->K r)->b (.int (lo+i)) ρ K)(fin:∀ρ,J n ρ->k ρ Q):sq (bO fl b (au lo n) ρ) k Q:=by
 refine jV (Q:=fun r=>(match r with | .nx ρ=>k ρ | .rt w=>ret (.rt w) | .bk ρ=>ret (.bk ρ) | .ct ρ=>ret (.ct ρ):Mo Fl) Q) J h0 (fun i hi ρ j K hK=>step i hi ρ j K fun r hr=>hK r ?_) fin;cases r<;>exact hr
theorem kj{lo:Int}(step:∀i,i<n->∀K:Fl->Prop,(∀r,uI fl (fun ρ'=>ρ'=ρ) k Q r->K r)->b (.int (lo+i)) ρ K)(fin:k ρ Q):sq (bO fl b (au lo n) ρ) k Q :=
 l7 (fun _ ρ'=>ρ'=ρ) rfl (fun i h ρ' e K hK=>by subst e;exact step i h K hK) fun ρ' e=>by subst e;exact fin
end
section
variable{α β:Type}{b:v7->Mo (Option v7)}{k:List v7->Mo β}{Q:β->Prop}
theorem fJ{xs:List α}{enc:α->v7}{xs':List v7}(f:α->v7)(hx:xs'=xs.map enc)(h:∀x∈xs,b (enc x)=ret (some (f x)))(hl:xs.length<=sizeLine)(fin:k (xs.map f) Q):u0 (bK b xs' []) k Q:=by
 subst hx;rw[comp_map f h hl];exact fin
theorem kr{lo:Int}(f:Nat->v7)(h:∀j,j<n->b (.int (lo+j))=ret (some (f j)))(hl:n<=sizeLine)(fin:k ((wI n).map f) Q):u0 (bK b (au lo n) []) k Q:=by
 rw[jh f h hl];exact fin
end
section
variable{α β:Type}
theorem iQ{xs:List v7}{i:Int}{k:v7->Mo β}{Q:β->Prop}(h0:0<=i)(h1:i<(xs.length:Int))(h:∀z∈xs,k z Q):am (atI xs i) k Q:=by
 obtain⟨z,e,m⟩:=qA h0 h1;rw[e];exact h z m
theorem cn{xs:List α}{enc:α->v7}{xs':List v7}{i:Int}{k:v7->Mo β}{Q:β->Prop}(P:α->Prop)(hx:xs'=xs.map enc)(h0:0<=i)(h1:i<(xs.length:Int))(hP:∀z∈xs,P z)(h:∀z,P z->k (enc z) Q):am (atI xs' i) k Q:=by
 subst hx;refine iQ h0 (by simpa using h1) fun z mz=>?_;obtain⟨x,hx,rfl⟩:=yE.mp mz;exact h x (hP x hx)
end
section
variable{X:Cx}{rl:Option Addr}{a b c o e:Expr}{es:List Expr}{fa fb:TV}{fs:vb}{pos p apos cpos:Pos}{ρ:En}
noncomputable def t3(g:List v7->List W->(W->Prop)->Prop)(fa:TV)(fs:vb):TV:=fun ρ Q=>fa ρ fun x=>∃xs,x.dat=some (.list xs)/\fs ρ fun ws=>g xs ws Q
theorem m_vML(g:List v7->List W->(W->Prop)->Prop):t3 g fa fs ρ=u0 (fa ρ) fun x=>am (u8 x) fun xs=>u0 (fs ρ) fun ws=>g xs ws:=by
 show(u0 (fa ρ) fun x=>fun(Q:W->Prop)=>∃xs,x.dat=some (.list xs)/\fs ρ fun ws=>g xs ws Q)=_;congr 1;funext x;refine ac fun Q=>?_;rw[ae];simp only[dC];exact A5
noncomputable def i8:List v7->List W->(W->Prop)->Prop:=fun xs ws Q=>∃(bs:List Bool)(k:Bool),xs=bs.map .bool/\ws=[.d (.bool k)]/\Q (.d (.int (bs.count k)))
theorem m_gCountB(xs:List v7)(w:W):i8 xs [w]=am (kZ xs) fun bs=>am (asB w) fun k=>ret (.d (.int (bs.count k))):=by
 refine ac fun Q=>?_;simp only[i8,ae,c5,ret,wH,and_true];constructor
 · rintro⟨bs,k,rfl,e,q⟩;exact⟨bs,blsD_map bs,k,e,q⟩
 · rintro⟨bs,e,k,e',q⟩;exact⟨bs,k,fM e,e',q⟩
noncomputable def oJ:W->W->(W->Prop)->Prop:=fun x y Q=>∃b c,x = .d (.bool b)/\y = .d (.bool c)/\Q (.d (.bool (b != c)))
theorem m_gNotB(x y:W):oJ x y=am (asB x) fun i=>am (asB y) fun j=>ret (.d (.bool (i != j))):=by
 refine ac fun Q=>?_;simp only[ae,c5,oJ,ret];exact⟨fun⟨i,j,a,b,q⟩=>⟨i,a,j,b,q⟩,fun⟨i,a,j,b,q⟩=>⟨i,j,a,b,q⟩⟩
end
end L2.VL
namespace L2
section
variable{X:Cx}{pos:Pos}
end
end L2
namespace L2.VL
section
variable{X:Cx}{rl:Option Addr}{es:List Expr}{pos:Pos}{ρ:En}
noncomputable def sf(n:Nat)(gs:g7):vf:=fun x ρ Q=>∃xs,x = .list xs/\xs.length=n/\gs xs ρ Q
theorem m_hLst(n:Nat){gs:g7}(x:v7):sf n gs x ρ=am (lstD x) fun xs=>uT (xs.length=n) (gs xs ρ):=by
 refine ac fun Q=>?_;simp only[ae,lY,sf,uT]
end
section
variable{α:Type}{a0 a1 a2 a3 a4 a5 a6 a7 a8 a9 a10 a11 a12 a13 a14 a15 a16 a17 a18 a19 x y:α}{l:List α}
theorem gt0:(x::l)[0]?=some x:=nr rfl
theorem st0:(x::l).set 0 y=y::l:=nr rfl
theorem gt1:(a0::x::l)[1]?=some x:=nr rfl
theorem st1:(a0::x::l).set 1 y=a0::y::l:=nr rfl
theorem gt2:(a0::a1::x::l)[2]?=some x:=nr rfl
theorem st2:(a0::a1::x::l).set 2 y=a0::a1::y::l:=nr rfl
theorem gt3:(a0::a1::a2::x::l)[3]?=some x:=nr rfl
theorem st3:(a0::a1::a2::x::l).set 3 y=a0::a1::a2::y::l:=nr rfl
theorem gt4:(a0::a1::a2::a3::x::l)[4]?=some x:=nr rfl
theorem st4:(a0::a1::a2::a3::x::l).set 4 y=a0::a1::a2::a3::y::l:=nr rfl
theorem gt5:(a0::a1::a2::a3::a4::x::l)[5]?=some x:=nr rfl
theorem st5:(a0::a1::a2::a3::a4::x::l).set 5 y=a0::a1::a2::a3::a4::y::l:=nr rfl
theorem gt6:(a0::a1::a2::a3::a4::a5::x::l)[6]?=some x:=nr rfl
theorem st6:(a0::a1::a2::a3::a4::a5::x::l).set 6 y=a0::a1::a2::a3::a4::a5::y::l:=nr rfl
theorem gt7:(a0::a1::a2::a3::a4::a5::a6::x::l)[7]?=some x:=nr rfl
theorem st7:(a0::a1::a2::a3::a4::a5::a6::x::l).set 7 y=a0::a1::a2::a3::a4::a5::a6::y::l:=nr rfl
theorem gt8:(a0::a1::a2::a3::a4::a5::a6::a7::x::l)[8]?=some x:=nr rfl
theorem st8:(a0::a1::a2::a3::a4::a5::a6::a7::x::l).set 8 y=a0::a1::a2::a3::a4::a5::a6::a7::y::l:=nr rfl
theorem gt9:(a0::a1::a2::a3::a4::a5::a6::a7::a8::x::l)[9]?=some x:=nr rfl
theorem st9:(a0::a1::a2::a3::a4::a5::a6::a7::a8::x::l).set 9 y=a0::a1::a2::a3::a4::a5::a6::a7::a8::y::l:=nr rfl
theorem gt10:(a0::a1::a2::a3::a4::a5::a6::a7::a8::a9::x::l)[10]?=some x:=nr rfl
theorem st10:(a0::a1::a2::a3::a4::a5::a6::a7::a8::a9::x::l).set 10 y=a0::a1::a2::a3::a4::a5::a6::a7::a8::a9::y::l:=nr rfl
theorem gt11:(a0::a1::a2::a3::a4::a5::a6::a7::a8::a9::a10::x::l)[11]?=some x:=nr rfl
theorem st11:(a0::a1::a2::a3::a4::a5::a6::a7::a8::a9::a10::x::l).set 11 y=a0::a1::a2::a3::a4::a5::a6::a7::a8::a9::a10::y::l:=nr rfl
theorem gt12:(a0::a1::a2::a3::a4::a5::a6::a7::a8::a9::a10::a11::x::l)[12]?=some x:=nr rfl
theorem st12:(a0::a1::a2::a3::a4::a5::a6::a7::a8::a9::a10::a11::x::l).set 12 y=a0::a1::a2::a3::a4::a5::a6::a7::a8::a9::a10::a11::y::l:=nr rfl
theorem gt13:(a0::a1::a2::a3::a4::a5::a6::a7::a8::a9::a10::a11::a12::x::l)[13]?=some x:=nr rfl
theorem st13:(a0::a1::a2::a3::a4::a5::a6::a7::a8::a9::a10::a11::a12::x::l).set 13 y=a0::a1::a2::a3::a4::a5::a6::a7::a8::a9::a10::a11::a12::y::l:=nr rfl
theorem gt14:(a0::a1::a2::a3::a4::a5::a6::a7::a8::a9::a10::a11::a12::a13::x::l)[14]?=some x:=nr rfl
theorem st14:(a0::a1::a2::a3::a4::a5::a6::a7::a8::a9::a10::a11::a12::a13::x::l).set 14 y=a0::a1::a2::a3::a4::a5::a6::a7::a8::a9::a10::a11::a12::a13::y::l:=nr rfl
theorem gt15:(a0::a1::a2::a3::a4::a5::a6::a7::a8::a9::a10::a11::a12::a13::a14::x::l)[15]?=some x:=nr rfl
theorem st15:(a0::a1::a2::a3::a4::a5::a6::a7::a8::a9::a10::a11::a12::a13::a14::x::l).set 15 y=a0::a1::a2::a3::a4::a5::a6::a7::a8::a9::a10::a11::a12::a13::a14::y::l:=nr rfl
theorem gt16:(a0::a1::a2::a3::a4::a5::a6::a7::a8::a9::a10::a11::a12::a13::a14::a15::x::l)[16]?=some x:=nr rfl
theorem st16:(a0::a1::a2::a3::a4::a5::a6::a7::a8::a9::a10::a11::a12::a13::a14::a15::x::l).set 16 y=a0::a1::a2::a3::a4::a5::a6::a7::a8::a9::a10::a11::a12::a13::a14::a15::y::l:=nr rfl
theorem gt17:(a0::a1::a2::a3::a4::a5::a6::a7::a8::a9::a10::a11::a12::a13::a14::a15::a16::x::l)[17]?=some x:=nr rfl
theorem st17:(a0::a1::a2::a3::a4::a5::a6::a7::a8::a9::a10::a11::a12::a13::a14::a15::a16::x::l).set 17 y=a0::a1::a2::a3::a4::a5::a6::a7::a8::a9::a10::a11::a12::a13::a14::a15::a16::y::l:=nr rfl
theorem gt18:(a0::a1::a2::a3::a4::a5::a6::a7::a8::a9::a10::a11::a12::a13::a14::a15::a16::a17::x::l)[18]?=some x:=nr rfl
theorem st18:(a0::a1::a2::a3::a4::a5::a6::a7::a8::a9::a10::a11::a12::a13::a14::a15::a16::a17::x::l).set 18 y=a0::a1::a2::a3::a4::a5::a6::a7::a8::a9::a10::a11::a12::a13::a14::a15::a16::a17::y::l:=nr rfl
theorem gt19:(a0::a1::a2::a3::a4::a5::a6::a7::a8::a9::a10::a11::a12::a13::a14::a15::a16::a17::a18::x::l)[19]?=some x:=nr rfl
theorem st19:(a0::a1::a2::a3::a4::a5::a6::a7::a8::a9::a10::a11::a12::a13::a14::a15::a16::a17::a18::x::l).set 19 y=a0::a1::a2::a3::a4::a5::a6::a7::a8::a9::a10::a11::a12::a13::a14::a15::a16::a17::a18::y::l:=nr rfl
end
section
variable{a0 a1 a2 a3 a4 a5 a6 a7 a8 a9 a10 a11 a12 a13 a14 a15 a16 a17 a18 a19:Option W}{w:W}{l:En}
theorem vv0:c9 0 (some w::l)=ret w.peek:=(aR 0).trans rfl
theorem vv1:c9 1 (a0::some w::l)=ret w.peek:=(aR 1).trans rfl
theorem vv2:c9 2 (a0::a1::some w::l)=ret w.peek:=(aR 2).trans rfl
theorem vv3:c9 3 (a0::a1::a2::some w::l)=ret w.peek:=(aR 3).trans rfl
theorem vv4:c9 4 (a0::a1::a2::a3::some w::l)=ret w.peek:=(aR 4).trans rfl
theorem vv5:c9 5 (a0::a1::a2::a3::a4::some w::l)=ret w.peek:=(aR 5).trans rfl
theorem vv6:c9 6 (a0::a1::a2::a3::a4::a5::some w::l)=ret w.peek:=(aR 6).trans rfl
theorem vv7:c9 7 (a0::a1::a2::a3::a4::a5::a6::some w::l)=ret w.peek:=(aR 7).trans rfl
theorem vv8:c9 8 (a0::a1::a2::a3::a4::a5::a6::a7::some w::l)=ret w.peek:=(aR 8).trans rfl
theorem vv9:c9 9 (a0::a1::a2::a3::a4::a5::a6::a7::a8::some w::l)=ret w.peek:=(aR 9).trans rfl
theorem vv10:c9 10 (a0::a1::a2::a3::a4::a5::a6::a7::a8::a9::some w::l)=ret w.peek:=(aR 10).trans rfl
theorem vv11:c9 11 (a0::a1::a2::a3::a4::a5::a6::a7::a8::a9::a10::some w::l)=ret w.peek:=(aR 11).trans rfl
theorem vv12:c9 12 (a0::a1::a2::a3::a4::a5::a6::a7::a8::a9::a10::a11::some w::l)=ret w.peek:=(aR 12).trans rfl
theorem vv13:c9 13 (a0::a1::a2::a3::a4::a5::a6::a7::a8::a9::a10::a11::a12::some w::l)=ret w.peek:=(aR 13).trans rfl
theorem vv14:c9 14 (a0::a1::a2::a3::a4::a5::a6::a7::a8::a9::a10::a11::a12::a13::some w::l)=ret w.peek:=(aR 14).trans rfl
theorem vv15:c9 15 (a0::a1::a2::a3::a4::a5::a6::a7::a8::a9::a10::a11::a12::a13::a14::some w::l)=ret w.peek:=(aR 15).trans rfl
theorem vv16:c9 16 (a0::a1::a2::a3::a4::a5::a6::a7::a8::a9::a10::a11::a12::a13::a14::a15::some w::l)=ret w.peek:=(aR 16).trans rfl
theorem vv17:c9 17 (a0::a1::a2::a3::a4::a5::a6::a7::a8::a9::a10::a11::a12::a13::a14::a15::a16::some w::l)=ret w.peek:=(aR 17).trans rfl
theorem vv18:c9 18 (a0::a1::a2::a3::a4::a5::a6::a7::a8::a9::a10::a11::a12::a13::a14::a15::a16::a17::some w::l)=ret w.peek:=(aR 18).trans rfl
theorem vv19:c9 19 (a0::a1::a2::a3::a4::a5::a6::a7::a8::a9::a10::a11::a12::a13::a14::a15::a16::a17::a18::some w::l)=ret w.peek:=(aR 19).trans rfl
end
section
variable{f1 f2 f3 f4 f5 f6 f7 f8 f9:TV}{fs:vb}{ρ:En}
theorem vk1:ay f1 jv ρ=u0 (f1 ρ) fun w1=>ret [w1.fz]:=nr rfl
theorem vk2:(ay f1 (ay f2 jv)) ρ=u0 (f1 ρ) fun w1=>u0 (f2 ρ) fun w2=>ret [w1.fz,w2.fz]:=nr rfl
theorem vk3:(ay f1 (ay f2 (ay f3 jv))) ρ=u0 (f1 ρ) fun w1=>u0 (f2 ρ) fun w2=>u0 (f3 ρ) fun w3=>ret [w1.fz,w2.fz,w3.fz]:=nr rfl
theorem vk4:(ay f1 (ay f2 (ay f3 (ay f4 jv)))) ρ=u0 (f1 ρ) fun w1=>u0 (f2 ρ) fun w2=>u0 (f3 ρ) fun w3=>u0 (f4 ρ) fun w4=>ret [w1.fz,w2.fz,w3.fz,w4.fz]:=nr rfl
theorem vk5:(ay f1 (ay f2 (ay f3 (ay f4 (ay f5 jv))))) ρ=u0 (f1 ρ) fun w1=>u0 (f2 ρ) fun w2=>u0 (f3 ρ) fun w3=>u0 (f4 ρ) fun w4=>u0 (f5 ρ) fun w5=>ret [w1.fz,w2.fz,w3.fz,w4.fz,w5.fz]:=nr rfl
theorem vk6:(ay f1 (ay f2 (ay f3 (ay f4 (ay f5 (ay f6 jv)))))) ρ=u0 (f1 ρ) fun w1=>u0 (f2 ρ) fun w2=>u0 (f3 ρ) fun w3=>u0 (f4 ρ) fun w4=>u0 (f5 ρ) fun w5=>u0 (f6 ρ) fun w6=>ret [w1.fz,w2.fz,w3.fz,w4.fz,w5.fz,w6.fz]:=nr rfl
theorem vk7:(ay f1 (ay f2 (ay f3 (ay f4 (ay f5 (ay f6 (ay f7 jv))))))) ρ=u0 (f1 ρ) fun w1=>u0 (f2 ρ) fun w2=>u0 (f3 ρ) fun w3=>u0 (f4 ρ) fun w4=>u0 (f5 ρ) fun w5=>u0 (f6 ρ) fun w6=>u0 (f7 ρ) fun w7=>ret [w1.fz,w2.fz,w3.fz,w4.fz,w5.fz,w6.fz,w7.fz]:=nr rfl
theorem vk8:(ay f1 (ay f2 (ay f3 (ay f4 (ay f5 (ay f6 (ay f7 (ay f8 jv)))))))) ρ=u0 (f1 ρ) fun w1=>u0 (f2 ρ) fun w2=>u0 (f3 ρ) fun w3=>u0 (f4 ρ) fun w4=>u0 (f5 ρ) fun w5=>u0 (f6 ρ) fun w6=>u0 (f7 ρ) fun w7=>u0 (f8 ρ) fun w8=>ret [w1.fz,w2.fz,w3.fz,w4.fz,w5.fz,w6.fz,w7.fz,w8.fz]:=nr rfl
theorem vk9:(ay f1 (ay f2 (ay f3 (ay f4 (ay f5 (ay f6 (ay f7 (ay f8 (ay f9 fs))))))))) ρ=u0 (f1 ρ) fun w1=>u0 (f2 ρ) fun w2=>u0 (f3 ρ) fun w3=>u0 (f4 ρ) fun w4=>u0 (f5 ρ) fun w5=>u0 (f6 ρ) fun w6=>u0 (f7 ρ) fun w7=>u0 (f8 ρ) fun w8=>u0 (ay f9 fs ρ) fun ws=>ret (w1.fz::w2.fz::w3.fz::w4.fz::w5.fz::w6.fz::w7.fz::w8.fz::ws):=nr rfl
theorem vk0:jv ρ=ret []:=nr rfl
end
noncomputable def qN:=v6 @bnd_tt (v6 @bnd_ret (v6 @bnd_bnd (v6 @bnd_grd (v6 @bnd_stk (v6 @bnd_ite (v6 @bnd_opt (v6 @opt_some (v6 @opt_none (v6 @grd_T (v6 @sq_nx (v6 @sq_rt (v6 @sq_bk (v6 @sq_ct (v6 @sq_grd (v6 @sq_stk (v6 @sq_ite (v6 @sq_sq (@kc_ap))))))))))))))))))
noncomputable def qQ:=v6 @ite_nx (v6 @ite_rt (v6 @ite_retd (v6 @ite_retb (v6 @ite_rets (v6 @ite_cons (v6 @ite_some (v6 @ite_d (v6 @ite_pi (v6 @ite_pb (v6 @itb_tt (v6 @itb_ff (v6 @itb_ft (v6 @itb_tf (@ite_self.{1}))))))))))))))
noncomputable def qT:=v6 @m_vC (v6 @m_vOp (v6 @m_gI (v6 @m_gI0 (v6 @m_vNeg (v6 @m_vTest (v6 @m_gEqD (v6 @m_gInD (v6 @m_vAnd (v6 @m_vOr (v6 @m_vNot (v6 @m_vAndV (v6 @m_vOrV (v6 @m_vNotV (v6 @m_vIf (v6 @m_vTup (v6 @m_vLst (v6 @m_gIx (v6 @m_vCall (v6 @m_gAbs (v6 @m_gLen (v6 @m_gRepr (v6 @m_gIsi (@m_gStrI)))))))))))))))))))))))
noncomputable def qS:=v6 @m_gTupO (v6 @m_gLstO (v6 @m_gIsB (v6 @m_gIsN (v6 @m_gI2 (v6 @m_gDivmod (v6 @m_gInt1 (v6 @m_oNo (v6 @m_oIt (v6 @m_vSlL (v6 @m_vSlA (v6 @m_gCatD (v6 @m_gCatA (v6 @m_vChain (v6 @m_vLR1 (v6 @m_vLR2 (v6 @m_vTR1 (v6 @m_iL (v6 @m_iT (v6 @m_iR1 (v6 @m_iR2 (v6 @m_iZb (v6 @m_vUse (@m_vUseL)))))))))))))))))))))))
noncomputable def qR:=v6 @m_gAll (v6 @m_gRepT (v6 @m_gRepL (v6 @m_vRevT (v6 @m_vRevL (v6 @m_gEqS (v6 @m_vTGet (v6 @m_gSrtT (v6 @m_comp (v6 @m_gLenS (v6 @m_gIxS (v6 @m_vSlS (v6 @m_hLst (v6 @m_vML (v6 @m_gCountB (@m_gNotB)))))))))))))))
noncomputable def qG:=v6 @s_next (v6 @s_seq (v6 @s_drop (v6 @s_ret (v6 @s_retN (v6 @s_ifS (v6 @s_set (v6 @s_setZ (v6 @s_never (v6 @s_asg (v6 @s_par (v6 @s_par3 (v6 @s_aug (v6 @s_augL (v6 @s_frz (v6 @s_mut (v6 @s_retO (v6 @s_appPop (v6 @s_for (v6 @bdy_ap (v6 @s_while (v6 @s_newR (v6 @m_hName (@m_hNil_n)))))))))))))))))))))))
noncomputable def qF:=v6 @m_hCons_c (v6 @m_hTup (v6 @m_gApp (@m_gExt)))
noncomputable def qJ:=v6 @pk_sc (v6 @fz_sc (v6 @arg_sc (v6 @isPk_sc (v6 @asI_d (v6 @asB_d (v6 @asS_d (v6 @asD_d (v6 @asT_d (v6 @asL_d (v6 @asL_ml (v6 @asL_pk (v6 @asQ_d (v6 @asQ_ml (v6 @asQ_pk (v6 @lstD_l (v6 @tupD_t (v6 @toI_i (v6 @toI_b (v6 @isiT_t (v6 @asM_ml (v6 @asSc_s (v6 @two_d (@fz_d)))))))))))))))))))))))
noncomputable def qI:=v6 @fz_ml (v6 @fz_pk (v6 @fz_reel (v6 @fz_vv (v6 @pk_d (v6 @pk_ml (v6 @pk_reel (v6 @pk_vv (v6 @dat_d (v6 @dat_ml (v6 @dat_pk (v6 @isPk_d (v6 @isPk_ml (v6 @isPk_reel (v6 @dats_nil (v6 @dats_d (v6 @arg_d (v6 @arg_reel (v6 @item_l (v6 @item_t (v6 @len_l (v6 @len_t (v6 @seq_l (@seq_t)))))))))))))))))))))))
noncomputable def qH:=v6 @at0 (v6 @at1 (v6 @blsD_map (v6 @tup2 (v6 @fo_nil (v6 @fo_cons (v6 @nR_nil (v6 @nR_r (v6 @nR_n (v6 @nR_d (v6 @nR_ml (v6 @nR_sc (v6 @le_nil (v6 @le_cn (v6 @le_cs (v6 @end_d (v6 @end_ml (v6 @end_nx (@un_law))))))))))))))))))
noncomputable def qP:=v6 @xw.{0,0} (v6 @zu.{0,0} (v6 @wF.{0} (v6 @yA.{0} (v6 @List.set_nil.{0} (v6 @List.cons_append.{0} (v6 @List.nil_append.{0} (v6 @List.all_cons.{0} (v6 @List.all_nil.{0} (v6 @List.head?_cons.{0} (v6 @Bool.and_true (v6 @Option.some.injEq.{0} (v6 @Option.map_some.{0,0} (v6 @Option.bind_some.{0,0} (v6 @Option.bind_none.{0,0} (v6 @Option.join_some.{0} (v6 @Option.join_none.{0} (v6 @yt (v6 @and_self (v6 @and_true (v6 @true_and (v6 @shaped_i (v6 @eqv_ii (@shaped_b)))))))))))))))))))))))
noncomputable def qO:=v6 @Bool.true_and (v6 @Bool.and_self (v6 @yO (v6 @Bool.not_false (v6 @wp.{0,0} (v6 @xp (v6 @Bool.true_eq_false (v6 @decide_true (v6 @decide_false (v6 @List.isEmpty_cons.{0} (v6 @zy.{0} (@List.isEmpty_map.{0,0})))))))))))
noncomputable def qM:=v6 @gt0 (v6 @gt1 (v6 @gt2 (v6 @gt3 (v6 @gt4 (v6 @gt5 (v6 @gt6 (v6 @gt7 (v6 @gt8 (v6 @gt9 (v6 @gt10 (v6 @gt11 (v6 @gt12 (v6 @gt13 (v6 @gt14 (v6 @gt15 (v6 @gt16 (v6 @gt17 (v6 @gt18 (v6 @gt19 (v6 @st0 (v6 @st1 (v6 @st2 (@st3)))))))))))))))))))))))
noncomputable def qL:=v6 @st4 (v6 @st5 (v6 @st6 (v6 @st7 (v6 @st8 (v6 @st9 (v6 @st10 (v6 @st11 (v6 @st12 (v6 @st13 (v6 @st14 (v6 @st15 (v6 @st16 (v6 @st17 (v6 @st18 (v6 @st19 (v6 @vv0 (v6 @vv1 (v6 @vv2 (v6 @vv3 (v6 @vv4 (v6 @vv5 (v6 @vv6 (@vv7)))))))))))))))))))))))
noncomputable def qK:=v6 @vv8 (v6 @vv9 (v6 @vv10 (v6 @vv11 (v6 @vv12 (v6 @vv13 (v6 @vv14 (v6 @vv15 (v6 @vv16 (v6 @vv17 (v6 @vv18 (v6 @vv19 (v6 @vk0 (v6 @vk1 (v6 @vk2 (v6 @vk3 (v6 @vk4 (v6 @vk5 (v6 @vk6 (v6 @vk7 (v6 @vk8 (@vk9)))))))))))))))))))))
section
variable{α β:Type}
end
noncomputable def uY(c:Addr)(a l t:Int):HO:=.lst [.ref c,.int a,.int l,.int t]
theorem bR{K:W.Frag}{xs:List V}{k:Int}{Q:VK}(h:H r=some (.lst xs))(e:L2.atI xs k=some v)(q:Q v H):ux K (.ref r) (.int k) H Q:=.inl ⟨r,xs,k,v,rfl,rfl,.inl (.inl h),e,q⟩
theorem gQ{xs:List V}{k:Int}{Q:Hp->Prop}(h:H r=some (.lst xs))(e:ixN xs.length k=some j)(q:Q (upd H r (.lst (xs.set j v)))):nJ (.ref r) (.int k) v H Q:=⟨r,xs,k,j,rfl,rfl,h,e,q⟩
theorem d7{k:Int}(h0:0<=k)(h1:k.toNat<ns.length):L2.atI (ns.map V.int) k=some (.int ns[k.toNat]):=by
 obtain⟨n,rfl⟩:=yl h0;have h1:n<ns.length:=h1;exact cu (by rw[xf,wz h1];rfl)
theorem uM{b:Bool}{A B:Prop}(h:b=true)(a:A):if b=true then A else B:=by rw[if_pos h];exact a
theorem uO{b:Bool}{A B:Prop}(h:b=false)(x:B):if b=true then A else B:=by rw[if_neg (by rw[h];decide)];exact x
theorem pD{l:Int}(h:l≠0):decide (V.int l=V.int 0)=false:=decide_eq_false fun z=>h (by injection z)
theorem Grow.turn{o:HO}(s:aS F H)(ra:vw (some r) F H)(h:RO F o):Grow (some r) F H F (upd H r o):=by
 have fr:F r=none:=(ra r rfl).1;have neF:∀b u,F b=some u->b≠r:=fun b u q z=>by subst z;rw[fr]at q;cases q
 refine⟨fun b u q n=>by rw[upd_ne (fun z=>n (by rw[z]))];exact q,.refl F,fun b u q=>by rw[upd_ne (neF b u q)];exact s b u q,fun _ _ _=>rfl,fun y z=>?_⟩;cases z;exact⟨fr,⟨o,ai,h⟩⟩
section
variable{P:wD}{w:wR}{K:W.Frag}{mg:Str->Option v9}{base:Heap}{rl:Option Addr}{x:Str}{st:Stmt}{N ps:List Str}{k:Nat}{Pd:List W->(v7->Prop)->Prop}
theorem Dfn.hand(Fn:FnIn K mg x st ps)(S:FnScope N ps (defScope st))(mono:∀ws Q Q',(∀d,Q d->Q' d)->Pd ws Q->Pd ws Q')(len:∀ws Q,Pd ws Q->ws.length=ps.length)
 (h:∀(f:Addr)(cdv:v9)(A:wS)(outer:List Env)(s:v_)(H:Hp)(E:XK) vs ws F (Q:v7->Prop) (Qv:VK),Room k (A.deeper (At x (defScope st) s.heap.objs.size f cdv))->aS F H->vw rl F H->cI K rl F H vs ws->Pd ws Q->(∀v F' H' d,Grow rl F H F' H'->Rep K F' v d->Q d->Qv v H') ->
  ∃T,vA (jw vX P w K mg base N x (defScope st) f cdv A outer s H E).nox (defBody st) T/\T {nx:=fun _ H'=>Qv .non H',rt:=Qv} (start N vs) H):Dfn P w K mg base rl x ps (k+1) Pd:=by
 obtain⟨f,fd,hm,F,hb⟩:=Fn.ex;refine⟨mono,f,fd,hm,F.kp,hb,?_⟩;refine F.ok S (fun vs H Q E ⟨F,ws,_,_,r,_,q⟩=>(zF r).trans (len ws _ q)) fun cdv A outer s H vs Q E hr h=>?_;obtain⟨F,ws,sm,ra,r,ok,q⟩:=h;exact h f cdv A outer s H E vs ws F _ Q hr sm ra r q fun v F' H' d g rp qd=>qd v F' H' g rp
end
end L2.VL
namespace L2.TI
section
variable{prog:wD}{w:wR}{A:wS}{E:v9->v_->Prop}{s:v_}{t:Addr}{vs:List v9}{ns:List Int}{k:Int}{tok:Tok}{j:Nat}
theorem dS:∀{vs:List v9}{ns:List Int}{i:Nat}{n:Int},yY vs ns->ns[i]?=some n->∃u,vs[i]?=some (.int n u)
 | _,_,_,_,.nil,e=>by simp at e
 | _,_,0,_,.cons n t r,e=>by simp at e;subst e;exact⟨t,rfl⟩
 | _,_,i+1,_,.cons n t r,e=>by
   obtain⟨u,h⟩:=dS (i:=i) r (by simpa using e);exact⟨u,by simpa using h⟩
theorem scan{Q:Option Fin×Unit->v_->Prop}(hI:yY vs ns)(hj:ns[j]?=some k)(hno:∀m,m<j->ns[m]?≠some k)(q:Q (some (.done (.ret (.int j s.toks))),()) {s with toks:=s.toks+1}) :
 ∀ len start:Nat,start<=j->j<start+len->wM (wZ prog w) A (forIn (List.range' start len) ((none,()):Option Fin×Unit) fun(i:Nat)(_:Option Fin×Unit) =>
   match vs.toArray[i]? with
   | some y=>do
     let b <- eqBool y (Az k tok)
     if b=true then do
      let r <- retInt (i:Int)
      pure (ForInStep.done (some r,()))
     else pure (yC (none,()))
   | _=>pure (yC (none,()))) Q E s
 | 0,start,h1,h2=>by omega
 | len+1,start,h1,h2=>by
   rw[List.range'_succ,AB];have hl:start<ns.length:=by have:=(wo.mp hj).1;omega
   obtain⟨u,hu⟩:=dS (i:=start) (n:=ns[start]) hI (wz hl);have hv:vs.toArray[start]?=some (.int ns[start] u):=by simpa using hu
   refine v8 ?_;rw[hv];refine v8 (wpAny_eqBool_int ?_);by_cases e:ns[start]=k
   · have es:start=j:=by
       rcases Nat.lt_or_eq_of_le h1 with z|z
       · exact absurd (by rw[wz hl,e]) (hno start z)
       · exact z
     subst es;rw[if_pos (by simpa using e)];exact v8 (v8 (wpAny_mkInt (wb (wb (wb q)))))
   · rw[if_neg (by simpa using e)];refine wb ?_;have ne:start≠j:=fun z=>by subst z;rw[wz hl]at hj;exact e (wL hj)
     exact scan hI hj hno q len (start+1) (by omega) (by omega)
theorem body{R:Result->v_->Prop}(tp:IsTup s.heap t vs.toArray)(hI:yY vs ns)(hj:ns[j]?=some k)(hno:∀m,m<j->ns[m]?≠some k)
 (q:R (.ok (.ret (.int j s.toks))) {s with toks:=s.toks+1}) :
 wM (wZ prog w) A.in1 (Builtin.«tuple.index» ⟨[.ref t,.int k tok],[]⟩) (fun fin s'=>match fin with | .done f=>R (.ok f) s' | .again c'=>c'.quiet=true/\zP (wZ prog w) A c' R s') (fun e s'=>R (.error e) s') s:=by
 unfold Builtin.«tuple.index»;show wM _ _ (do let z <- z4 (.ref t);_) _ _ s;refine v8 (tupleItemsOf_ tp ?_);refine v8 (wb (v8 (wb ?_)));dsimp only;rw[Std.Legacy.Range.forIn_eq_forIn_range']
 have hl:j<vs.toArray.size:=by
  have h1:=(wo.mp hj).1;have h2:=hI.length;simp only[wk];omega
 refine v8 (scan hI hj hno ?_ _ 0 (xx _) ?_)
 · exact wb q
 · show j<0+Std.Legacy.Range.size _;simp[Std.Legacy.Range.size];simpa using hl
end
end L2.TI
namespace L2
section
variable{X:Cx}
end
end L2
namespace L2.VL
section
variable{X:Cx}{rl:Option Addr}{a b c o e:Expr}{es:List Expr}{fa fb:TV}{fs:vb}{pos p apos cpos:Pos}{ρ:En}
end
noncomputable def fr(q:Rat):v7:=.tuple [.int q.num,.int q.den]
theorem gl{r:Rat}(h:fr q=fr r):q=r:=by
 simp only[fr,xB,wH,zz,and_true]at h;exact Rat.ext h.1 (by omega)
theorem cO(n:Int)(d:Nat)(h:d≠0):mv n d=fr (Ap n d h):=by
 unfold mv fr;rw[Rat.normalize_eq];have g:(wX n d:Int)=((n.natAbs.gcd d:Nat):Int):=by simp[wX]
 have gp:0<n.natAbs.gcd d:=Nat.gcd_pos_of_pos_right _ (by omega);have e1:n.fdiv (wX n d)=n / ((n.natAbs.gcd d:Nat):Int):=by rw[g,wG _ (by omega)]
 have e2:(d:Int).fdiv (wX n d)=((d / n.natAbs.gcd d:Nat):Int):=by rw[g,wG _ (by omega),Int.natCast_ediv]
 rw[e1,e2]
theorem dQ{a:Int}(hb:0<b):mv a b=fr ((a:Rat) / (b:Rat)):=by
 obtain⟨d,rfl⟩:=yl (show 0<=b by omega);rw[cO a d (by omega)];congr 1;have:(Ap a d (by omega))=mkRat a d:=by rw[Rat.normalize_eq_mkRat]
 rw[this,Rat.mkRat_eq_div];rfl
theorem oT(q r:Rat):mv (q.num*r.den+r.num*q.den) (q.den*r.den)=fr (q+r):=by
 have:=cO (q.num*r.den+r.num*q.den) (q.den*r.den) (Nat.mul_ne_zero q.den_nz r.den_nz);rw[Int.natCast_mul]at this;rw[this,Rat.add_def]
theorem oS(q r:Rat):mv (q.num*r.num) (q.den*r.den)=fr (q*r):=by
 have:=cO (q.num*r.num) (q.den*r.den) (Nat.mul_ne_zero q.den_nz r.den_nz);rw[Int.natCast_mul]at this;rw[this,Rat.mul_def]
theorem qw(q r:Rat):decide (q.num*r.den<r.num*q.den)=decide (q<r):=by
 rw[decide_eq_decide];exact(Rat.lt_iff q r).symm
noncomputable def uA(n:Nat)(q:Rat):Prop:=q.num.natAbs<2^n/\q.den<2^n
theorem uA.mono(h:uA n q)(hm:n<=m):uA m q:=⟨wa h.1 (wj (by decide) hm),wa h.2 (wj (by decide) hm)⟩
theorem jq{i:Int}(h:i.natAbs<2^2000):vY i:=wa h (wj (by decide) (by decide))
theorem uA.bn(h:uA 2000 q):vY q.num:=jq h.1
theorem uA.bd(h:uA 2000 q):vY (q.den:Int):=jq (by rw[xi];exact h.2)
theorem den_pos(q r:Rat):(0:Int)<(q.den:Int)*(r.den:Int):=BI (by have:=q.den_nz;omega) (by have:=r.den_nz;omega)
theorem eX{r:Rat}(h:uA 2000 q)(h':uA 2000 r):((q.den:Int)*(r.den:Int)).natAbs<2^8000:=by
 rw[zp,xi,xi];have:q.den*r.den<2^2000*2^2000:=Nat.mul_lt_mul'' h.2 h'.2;rw[<- Nat.pow_add]at this;exact wa this (wj (by decide) (by decide))
inductive Sd where
 | to (t:Rat)|from(a b:Rat)|round (a b:Rat)
noncomputable def Sd.last:Sd->Rat
 | .to t=>t | .from _ b=>b | .round _ b=>b
noncomputable def uu:Sd->v7
 | .to t=>.tuple [.str "to", fr t]
 | .from a b=>.tuple [.str "from", fr a,fr b]
 | .round a b=>.tuple [.str "round", fr a,fr b]
noncomputable def mx(q r:Rat):Rat:=if q<r then r else q
noncomputable def mn(q r:Rat):Rat:=if q<r then q else r
theorem fr0:pr 0 1=fr 0:=rfl
theorem fr1:pr 1 1=fr 1:=rfl
theorem tq:uA 60 1:=⟨by decide,by decide⟩
theorem fD{n:Int}{d:Nat}(hd:d≠0)(h1:n.natAbs<2^k)(h2:d<2^k):uA k (Ap n d hd):=by
 rw[Rat.normalize_eq];refine⟨?_,zg (Nat.div_le_self _ _) h2⟩;show(n / ((n.natAbs.gcd d:Nat):Int)).natAbs<2^k;have hdv:((n.natAbs.gcd d:Nat):Int)∣n:=Int.ofNat_dvd_left.mpr (Nat.gcd_dvd_left _ _);rw[Int.natAbs_ediv_of_dvd hdv,xi];exact zg (Nat.div_le_self _ _) h1
theorem bw{a b:Nat}(h1:a<2^m)(h2:b<2^n):a*b<2^(m+n):=by
 rw[Nat.pow_add];exact Nat.mul_lt_mul'' h1 h2
theorem kL{r:Rat}(h:uA m q)(h':uA n r):uA (m+n) (q*r):=by
 rw[Rat.mul_def];refine fD _ ?_ (bw h.2 h'.2);rw[zp];exact bw h.1 h'.1
theorem k6{r:Rat}(h:uA m q)(h':uA n r):uA (m+n+1) (q+r):=by
 rw[Rat.add_def];have a1:=bw h.1 h'.2;have a2:=bw h'.1 h.2;rw[Nat.add_comm n m]at a2;have a3:=bw h.2 h'.2;refine fD _ ?_ (wa a3 (wj (by decide) (by omega)));have t:=Int.natAbs_add_le (q.num*r.den) (r.num*q.den);rw[zp,zp,xi,xi]at t;rw[zb];omega
theorem uA.up(h:uA 60 q):uA 2000 q:=h.mono (by decide)
noncomputable def kY(ss:List Sd):v7:=.tuple (ss.map uu)
noncomputable def uC(qs:List Rat):v7:=.tuple (qs.map fr)
noncomputable def lI(ps:List (List Rat)):v7:=.tuple (ps.map uC)
theorem at_last2{α:Type}(x y:α):L2.atI [x,y] (-1)=some y:=rfl
theorem at_last3{α:Type}(x y z:α):L2.atI [x,y,z] (-1)=some z:=rfl
theorem ja{α:Type}(p:α->Bool)(f:α->v7):∀xs:List α,(xs.filterMap fun x=>if p x=true then some (f x)else none).length=(xs.filter p).length
 | []=>rfl
 | x::xs=>by
   have ih:=ja p f xs;cases h:p x<;>simp[h,ih]
theorem at_last1{α:Type}(x:α):L2.atI [x] (-1)=some x:=rfl
theorem fG{r:Rat}:fr q=fr r↔q=r:=⟨gl,fun h=>by rw[h]⟩
theorem cf{s t:Sd}:uu s=uu t↔s=t:=by
 constructor
 · intro h;have n1:¬(yD "from" = yD "round"):=by decide +kernel
   cases s<;>cases t<;>simp[uu,fG,n1,A3 n1]at h ⊢ <;> first|exact h|exact(n1 h.1.symm).elim|exact(n1 h.1).elim
 · rintro rfl;rfl
theorem cj{a b:List Rat}:uC a=uC b↔a=b:=by
 unfold uC;rw[xB,be fun _ _=>fG]
theorem bG{a b:List Sd}:kY a=kY b↔a=b:=by
 unfold kY;rw[xB,be fun _ _=>cf]
theorem bF{a b:List (List Rat)}:lI a=lI b↔a=b:=by
 unfold lI;rw[xB,be fun _ _=>cj]
theorem cH{a b:List Rat}:a.map fr=b.map fr↔a=b:=be fun _ _=>fG
theorem item_fr0(q:Rat):itemAt (fr q) 0=some (.int q.num):=rfl
theorem item_fr1(q:Rat):itemAt (fr q) 1=some (.int q.den):=rfl
theorem tupD_pt(a:List Rat):tupD (uC a)=some (a.map fr):=rfl
theorem seqD_pt(a:List Rat):dm (uC a)=some (a.map fr):=rfl
theorem lenD_pt(a:List Rat):l4 (uC a)=some a.length:=by show some (a.map fr).length=_;rw[wp]
theorem item_pt(a:List Rat)(i:Int):itemAt (uC a) i=(atI a i).map fr:=cw _ _ _
theorem tupD_bx(a:List Sd):tupD (kY a)=some (a.map uu):=rfl
theorem seqD_bx(a:List Sd):dm (kY a)=some (a.map uu):=rfl
theorem lenD_bx(a:List Sd):l4 (kY a)=some a.length:=by show some (a.map uu).length=_;rw[wp]
theorem item_bx(a:List Sd)(i:Int):itemAt (kY a) i=(atI a i).map uu:=cw _ _ _
theorem tupD_ps(a:List (List Rat)):tupD (lI a)=some (a.map uC):=rfl
theorem seqD_ps(a:List (List Rat)):dm (lI a)=some (a.map uC):=rfl
theorem lenD_ps(a:List (List Rat)):l4 (lI a)=some a.length:=by show some (a.map uC).length=_;rw[wp]
theorem item_ps(a:List (List Rat))(i:Int):itemAt (lI a) i=(atI a i).map uC:=cw _ _ _
theorem kind_pt(a:List Rat):cq (uC a)=cq (.tuple []):=rfl
theorem kind_bx(a:List Sd):cq (kY a)=cq (.tuple []):=rfl
noncomputable def qd(a b:Int):Rat:=(a:Rat) / (b:Rat)
theorem gf{a:Int}(hb:0<b):Bp [.int (a.fdiv (wX a b)),.int (b.fdiv (wX a b))]=fr (qd a b):=dQ hb
theorem ix(q:Rat):qd q.num q.den=q:=by
 unfold qd;have:=Rat.mkRat_self q;rw[Rat.mkRat_eq_div]at this;exact this
theorem nO(q r:Rat):qd (q.num*r.den+r.num*q.den) (q.den*r.den)=q+r:=gl (by rw[<- oT];exact(dQ (den_pos q r)).symm)
theorem nN(q r:Rat):qd (q.num*r.num) (q.den*r.den)=q*r:=gl (by rw[<- oS];exact(dQ (den_pos q r)).symm)
theorem jb(q:Rat):(0:Int)<(q.den:Int):=by have:=q.den_nz;omega
theorem lC{a:Int}(hb:0<b)(h1:a.natAbs<2^k)(h2:b.natAbs<2^k):uA k (qd a b):=by
 obtain⟨d,rfl⟩:=yl (show 0<=b by omega);have hd:d≠0:=by omega
 have e:qd a d=Ap a d hd:=gl (by rw[<- cO,dQ (by omega)];rfl);rw[e];exact fD _ h1 (by simpa using h2)
theorem qx(h:uA n q)(hn:n<=1000):Sm 2 2 (fr q) :=
 Sm.pair (wa h.1 (wj (by decide) hn)) (by rw[xi];exact wa h.2 (wj (by decide) hn))
theorem kU(h:uA n q)(hn:n<=1000):vt (fr q):=(qx h hn).shw (by decide) (by decide)
theorem at2(x y z:α)(r:List α):L2.atI (x::y::z::r) 2=some z:=by
 rw[show(2:Int)=((2:Nat):Int)from rfl];exact cu rfl
theorem lD{a:Int}(hb:0<b)(h:0<=a):0<=qd a b:=by
 unfold qd;have h1:(0:Rat)<=(a:Rat):=by exact_mod_cast h
 have h2:(0:Rat)<(b:Rat):=by exact_mod_cast hb
 rw[BJ];exact Rat.mul_nonneg h1 (Rat.le_of_lt (Rat.inv_pos.mpr h2))
theorem iy{a:Int}(hb:0<b)(h:a<b):qd a b<1:=by
 unfold qd;have h1:(a:Rat)<(b:Rat):=by exact_mod_cast h
 have h2:(0:Rat)<(b:Rat):=by exact_mod_cast hb
 exact(Rat.div_lt_iff h2).mpr (by rw[Rat.one_mul];exact h1)
noncomputable def v4:=v6 @item_fr0 (v6 @item_fr1 (v6 @tupD_pt (v6 @seqD_pt (v6 @lenD_pt (v6 @item_pt (v6 @tupD_bx (v6 @seqD_bx (v6 @lenD_bx (v6 @item_bx (v6 @tupD_ps (v6 @seqD_ps (v6 @lenD_ps (v6 @item_ps (v6 @at_last1 (v6 @at_last2 (v6 @at_last3 (v6 @kind_pt (v6 @kind_bx (v6 @fr0 (@fr1))))))))))))))))))))
noncomputable def tv(b:Int)(ds:List Int):Int:=ds.foldl (fun t d=>t*b+d) 0
noncomputable def Fx(b:Int)(N:Nat)(q:Rat):Prop:=∃(T:Int)(k:Nat),q=qd T (b^k)/\0<=T/\T<b^k/\b^k<2^N
section
variable{X:Cx}{rl:Option Addr}{e:Expr}{fa:TV}{pos dpos q1 q2 q3 q4:Pos}{ρ:En}{j1 j2 j3 j4:Nat}{a b x y:Str}
end
theorem lp(q:Rat):tupD (fr q)=some [.int q.num,.int q.den]:=rfl
theorem oE(q:Rat):wX q.num q.den=1:=by
 have:=q.reduced;simpa[wX,BK]using this
end L2.VL
namespace L2
section
variable{X:Cx}{kx vx tg iter:Expr}{ifs:List Expr}{scope:Scope}{pos:Pos}{wi:TI}{g:CompA->TG}{tt:CompA->TT}{tk te:CompA->TE}
end
section
variable{prog:wD}{w:wR}{A:wS}{E:v9->v_->Prop}
end
section
variable{X:Cx}
end
end L2
namespace L2.VL
section
variable{K:W.Frag}{F:Hp}{us:List (vM×V)}{kvs:List (vM×v7)}
end
section
variable{X:Cx}{rl:Option Addr}{kx vx tg iter:Expr}{ifs:List Expr}{scope:Scope}{pos:Pos}{fi:En->(List v7->Prop)->Prop}{g:vf}{ft:TB}{fk fe:TV}
end
section
variable{α:Type}{b:v7->Mo (Option (vM×v7))}
end
section
variable{X:Cx}{rl:Option Addr}{a c e o i:Expr}{es:List Expr}{fa fb:TV}{fs:vb}{pos p kpos:Pos}{ρ:En}
end
end L2.VL
namespace L2
end L2
namespace L2.VL
section
variable{X:Cx}{rl:Option Addr}{tg:Expr}{fa:TV}{ρ:En}
end
end L2.VL
namespace L2
variable{X:Cx}
end L2
namespace L2.VL
section
variable{X:Cx}{rl:Option Addr}{a e:Expr}{es:List Expr}{fs:vb}{pos:Pos}
end
end L2.VL
namespace L2.KS
open PySem PySem.W PyProof.Rows
structure Ord (n:Nat) (c:Nat->Nat->Bool):Prop where
 asym:∀i j,i<n->j<n->c i j=true->c j i=false
 trans:∀i j k,i<n->j<n->k<n->c j i=false->c k j=false->c k i=false
section
variable{n:Nat}{c:Nat->Nat->Bool}
abbrev at_(p:Array Nat)(i:Nat):Nat:=p.getD i 0
noncomputable def Ok(n:Nat)(p:Array Nat):Prop:=p.toList.Perm (wI n)
variable(O:Ord n c)
include O
end
open PySem PySem.W PyProof.Rows
section
variable{prog:wD}{w:wR}{A:wS}{E:v9->v_->Prop}{s:v_}{κ:SortKind}
end
open PySem PySem.W PyProof.Rows
section
variable{prog:wD}{w:wR}{A:wS}{E:v9->v_->Prop}{s:v_}
end
open PySem PySem.W PyProof.Rows
section
variable{prog:wD}{w:wR}{A:wS}{E:v9->v_->Prop}{s:v_}
end
open PySem PySem.W PyProof.Rows
section
variable{prog:wD}{w:wR}{A:wS}{E:v9->v_->Prop}{s:v_}
end
open PySem PySem.W PyProof.Rows
section
variable{prog:wD}{w:wR}{A:wS}{E:v9->v_->Prop}{s:v_}
end
end L2.KS
namespace L2
open PySem PySem.Spec PyProof.Rows KS
section
variable{X:Cx}
end
end L2
namespace L2.VL
open PySem PySem.Spec PyProof.Rows KS
section
variable{X:Cx}{rl:Option Addr}{a:Expr}{fs:vb}{pos p:Pos}
abbrev uP(z:Int×Int):v7:=.tuple [.int z.1,.int z.2]
end
open PySem PySem.Spec PyProof.Rows KS
end L2.VL
namespace L2
open PySem
noncomputable def Up(xs:Array Nat):Prop:=∀i k,i<k->k<xs.size->xs.getD i 0<xs.getD k 0
theorem qo{a b:Nat}(h:i<xs.size):xs.getD i a=xs.getD i b:=by
 simp[zJ,h]
theorem d6{xs:Array Nat}(hr:Up xs)(j:Nat):∀(f lo hi:Nat),hi-lo<=f->lo<=hi->hi<=xs.size->(∀i,i<lo->xs.getD i 0<j)->(∀i,hi<=i->i<xs.size->j<=xs.getD i 0) ->
 zn xs j f lo hi<=xs.size/\(∀i,i<zn xs j f lo hi->xs.getD i 0<j)/\∀i,zn xs j f lo hi<=i->i<xs.size->j<=xs.getD i 0
 | 0,lo,hi,h1,h2,h3,h4,h5=>by
   have e:lo=hi:=by omega
   subst e
   exact⟨h3,h4,h5⟩
 | f+1,lo,hi,h1,h2,h3,h4,h5=>by
   unfold zn;by_cases c:lo<hi
   · rw[if_pos c];have hm:(lo+hi) / 2<xs.size:=by omega
     dsimp only;rw[qo (b:=0) hm];by_cases c2:xs.getD ((lo+hi) / 2) 0<j
     · rw[if_pos c2];refine d6 hr j f _ hi (by omega) (by omega) h3 (fun i hi'=>?_) h5;rcases zc i ((lo+hi) / 2)with h|h
       · have:=hr i _ h hm;omega
       · have e:i=(lo+hi) / 2:=by omega
         rw[e];exact c2
     · rw[if_neg c2];refine d6 hr j f lo _ (by omega) (by omega) (by omega) h4 (fun i hi' hs=>?_);rcases zc ((lo+hi) / 2) i with h|h
       · have:=hr _ i h hs;omega
       · have e:i=(lo+hi) / 2:=by omega
         rw[e];omega
   · rw[if_neg c];have e:lo=hi:=by omega
     subst e;exact⟨h3,h4,h5⟩
theorem b_(hr:Up xs)(j:Nat):wA xs j<=xs.size/\(∀i,i<wA xs j->xs.getD i 0<j)/\∀i,wA xs j<=i->i<xs.size->j<=xs.getD i 0 :=
 d6 hr j _ 0 _ (by omega) (by omega) (we _) (fun i h=>absurd h (zS _)) fun i h1 h2=>by omega
theorem gW(hr:Up xs)(hi:i<xs.size):wA xs (xs.getD i 0+1)=i+1:=by
 obtain⟨h1,h2,h3⟩:=b_ hr (xs.getD i 0+1);rcases zc i (wA xs (xs.getD i 0+1))with h|h
 · rcases zc (i+1) (wA xs (xs.getD i 0+1))with h'|h'
   · have a:=h2 _ h';have b:=hr i (i+1) (by omega) (by omega);omega
   · omega
 · have:=h3 i h hi;omega
theorem gU(xs:Array Nat)(hr:Up xs):wA xs 0=0:=by
 obtain⟨h1,h2,h3⟩:=b_ hr 0;rcases Nat.eq_zero_or_pos (wA xs 0)with h|h
 · exact h
 · exact absurd (h2 0 h) (zS _)
theorem gz(h:xs.toList.Pairwise (· < ·)):Up xs:=by
 intro i k ik hk;have hl:xs.toList.length=xs.size:=wd;have:=List.pairwise_iff_getElem.mp h i k (by omega) (by omega) ik;have e:∀n,(hn:n<xs.size)->xs.getD n 0=xs.toList[n]:=fun n hn=>by simp[zJ,hn]
 rw[e i (by omega),e k hk];exact this
theorem dU(h:i<xs.toList.length):xs.getD i 0=xs.toList[i]:=by
 have h':i<xs.size:=by rw[<- wd];exact h
 simp[zJ,h']
theorem bV(xs:Array α)(p:Nat)(x:α)(hp:p<=xs.size):(xq xs p x).toList=xs.toList.take p++x::xs.toList.drop p:=by
 unfold xq
 have e:(xs.extract p xs.size).toList=xs.toList.drop p:=by
  rw[AT];simp[List.extract,xI]
 have e2:(xs.extract 0 p).toList=xs.toList.take p:=by
  rw[AT];simp[List.extract]
 rw[Array.toList_append,Ai,e,e2,yM];rfl
theorem i6(h:xs.toList.Pairwise (· < ·))(hj:j∉xs.toList):(xq xs (wA xs j) j).toList.Pairwise (· < ·):=by
 obtain⟨h1,h2,h3⟩:=b_ (gz h) j;rw[bV _ _ _ h1]
 have a:∀x∈xs.toList.take (wA xs j),x<j:=fun x mx=>by
  obtain⟨i,hi,rfl⟩:=y7 mx;rw[x4]at hi;rw[List.getElem_take,<- dU (by omega)];exact h2 i (by omega)
 have b:∀x∈xs.toList.drop (wA xs j),j<x:=fun x mx=>by
  obtain⟨i,hi,rfl⟩:=y7 mx;rw[List.length_drop]at hi;have hl:xs.toList.length=xs.size:=wd;have hx:xs.toList[wA xs j+i]∈xs.toList:=x5 _;rw[List.getElem_drop];have k:=h3 (wA xs j+i) (by omega) (by omega);rw[dU (by omega)]at k;rcases Nat.lt_or_eq_of_le k with k|k
  · exact k
  · rw[<- k]at hx;exact absurd hx hj
 rw[AU];refine⟨h.sublist (List.take_sublist _ _),yu.mpr ⟨b,h.sublist (List.drop_sublist _ _)⟩,fun x mx y my=>?_⟩;rcases wE.mp my with rfl|my
 · exact a x mx
 · have:=a x mx;have:=b y my;omega
theorem ic{t:xk}(h:t.place.toList.Pairwise (· < ·))(hd:t.dummies = #[])(j:Nat):(j∉t.place.toList/\t.slot j = .empty)\/(j∈t.place.toList/\∃i,t.slot j = .live i):=by
 obtain⟨h1,h2,h3⟩:=b_ (gz h) j;unfold xk.slot;dsimp only;by_cases c:t.place[wA t.place j]?=some j
 · right
   refine⟨?_,_,by rw[c];simp;rfl⟩;rw[<- xt]at c;exact yb c
 · left
   refine⟨fun m=>?_,?_⟩
   · obtain⟨i,hi,e⟩:=y7 m;have hl:t.place.toList.length=t.place.size:=wd;rcases zc i (wA t.place j)with k|k
     · have:=h2 i k;rw[dU hi,e]at this;omega
     · rcases zc (wA t.place j) i with k'|k'
       · have a:=gz h _ i k' (by omega);have b:=h3 (wA t.place j) (we _) (by omega);rw[dU hi,e]at a;omega
       · have e2:wA t.place j=i:=by omega
         rw[e2,<- xt,wz hi,e]at c;exact c rfl
   · have b:(t.place[wA t.place j]?==some j)=false:=by simpa using c
     rw[b,hd];rfl
open PySem
noncomputable def gF:Nat->Nat->Nat
 | 0,x=>x
 | n+1,x=>gF n (5*x+1)
theorem gk:∀(m n x:Nat),gF (m+n) x=gF n (gF m x)
 | 0,n,x=>by rw[za];rfl
 | m+1,n,x=>by rw[show m+1+n=(m+n)+1 by omega];exact gk m n (5*x+1)
theorem du:∀(n x:Nat),gF n x=x+gF n 0*(4*x+1)
 | 0,x=>by show x=x+0*_;rw[Nat.zero_mul];rfl
 | n+1,x=>by
   show gF n (5*x+1)=x+gF n (5*0+1)*(4*x+1);rw[du n (5*x+1),du n (5*0+1)];generalize gF n 0=g;have e:(5*0+1+g*(4*(5*0+1)+1))=1+5*g:=by omega
   rw[e,Nat.add_mul]
   have e2:5*g*(4*x+1)=g*(4*(5*x+1)+1)-0:=by
    rw[Nat.sub_zero,z9 5 g,Nat.mul_assoc];congr 1;omega
   rw[e2];omega
theorem kR:∀n:Nat,gF n 0%2=n%2
 | 0=>rfl
 | n+1=>by
   have h:=gk n 1 0;have h2:gF 1 (gF n 0)=5*gF n 0+1:=rfl;have:=kR n;omega
theorem iK{b a:Nat}(hb:b%2=1)(h:2^k∣a*b):2^k∣a:=by
 refine BK.dvd_of_dvd_mul_right (BK.pow_left k ?_) h;show Nat.gcd 2 b=1;rw[Nat.gcd_rec,hb];rfl
theorem kS:∀(k d:Nat),2^k∣gF d 0->2^k∣d
 | 0,d,_=>by rw[Nat.pow_zero];exact Nat.one_dvd d
 | k+1,d,h=>by
   have p:=kR d;have h2:2∣gF d 0:=Nat.dvd_trans (by rw[zb];exact Nat.dvd_mul_left 2 _) h;obtain⟨m,rfl⟩:2∣d:=by omega
   have e:gF (2*m) 0=2*(gF m 0*(2*gF m 0+1)):=by
    rw[show 2*m=m+m by omega,gk,du m (gF m 0)];generalize gF m 0=g;rw[BL,BL,BL,Nat.mul_one,Nat.mul_left_comm g 4 g,Nat.mul_left_comm g 2 g];omega
   rw[e,zb,z9 (2^k) 2]at h;have h3:=Nat.dvd_of_mul_dvd_mul_left (by decide) h;have h4:=kS k m (iK (by omega) h3);rw[zb,z9 (2^k) 2];exact Nat.mul_dvd_mul_left 2 h4
theorem oP{x:Nat}(hm:m<2^k)(hn:n<2^k)(h:gF m x%2^k=gF n x%2^k):m=n:=by
 have key:∀m n,m<=n->n<2^k->gF m x%2^k=gF n x%2^k->m=n:=by
  intro m n hmn hn h;obtain⟨d,rfl⟩:=zh hmn;rw[gk,du d (gF m x)]at h;generalize gF m x=y at h
  have h5:2^k∣gF d 0*(4*y+1):=by
   have:=Nat.sub_mod_eq_zero_of_mod_eq h.symm;rw[Nat.add_sub_cancel_left]at this;exact Nat.dvd_of_mod_eq_zero this
  have h6:=kS k d (iK (by omega) h5);have:d=0:=Nat.eq_zero_of_dvd_of_lt h6 (by omega);omega
 rcases Nat.le_total m n with c|c
 · exact key m n c hn h
 · exact(key n m c hm h.symm).symm
theorem oQ{x e:Nat}(he:e<2^k):∃n,n<2^k/\gF n x%2^k=e:=by
 by_cases h:∃n,n<2^k/\gF n x%2^k=e
 · exact h
 · exfalso
   have nd:(e::(wI (2^k)).map fun n=>gF n x%2^k).Nodup:=by
    rw[yB];refine⟨fun m=>?_,?_⟩
    · obtain⟨n,hn,q⟩:=yE.mp m;exact h ⟨n,xv.mp hn,q⟩
    · exact List.pairwise_map.mpr ((List.nodup_range).imp_of_mem fun{a b} ma mb ne q=>ne (oP (xv.mp ma) (xv.mp mb) q))
   have sub:∀y∈(e::(wI (2^k)).map fun n=>gF n x%2^k),y∈wI (2^k):=fun y my=>by
    rcases wE.mp my with rfl|my
    · exact xv.mpr he
    · obtain⟨n,hn,rfl⟩:=yE.mp my;exact xv.mpr (Bi _ (Nat.pow_pos (by decide)))
   have:=yh nd sub;rw[wF,wp]at this;omega
noncomputable def uH(mask:Nat):Nat->Nat×Nat->Nat×Nat
 | 0,p=>p
 | c+1,p=>uH mask c (xN mask p.1 p.2)
theorem fF(mask:Nat):∀(a b:Nat)(p:Nat×Nat),uH mask (a+b) p=uH mask b (uH mask a p)
 | 0,b,p=>by rw[za];rfl
 | a+1,b,p=>by rw[show a+1+b=(a+b)+1 by omega];exact fF mask a b _
theorem iS(mask:Nat):∀(c:Nat)(p:Nat×Nat),(uH mask c p).2=p.2 / 32^c
 | 0,p=>by rw[Nat.pow_zero,Nat.div_one];rfl
 | c+1,p=>by
   show(uH mask c _).2=_;rw[iS mask c];show p.2 / 32 / 32^c=_;rw[Nat.div_div_eq_div_mul,zb,z9]
theorem iU{mask k:Nat}(hk:mask+1=2^k):∀(c x:Nat),x<2^k->(uH mask c (x,0)).1=gF c x%2^k
 | 0,x,h=>(Nat.mod_eq_of_lt h).symm
 | c+1,x,h=>by
   show(uH mask c (xN mask x 0)).1=gF c (5*x+1)%2^k
   have e:xN mask x 0=((5*x+1)%2^k,0):=by
    show((x*5+1+0)%(mask+1),0)=_;rw[hk,z9 x 5]
   rw[e,iU hk c _ (Bi _ (Nat.pow_pos (by decide)))];rw[du c ((5*x+1)%2^k),du c (5*x+1)];generalize 5*x+1=y;generalize gF c 0=g;rw[A7,A8,A7 y,A8 g (4*y+1)];have e3:(4*(y%2^k)+1)%2^k=(4*y+1)%2^k:=by rw[A7,A8,Nat.mod_mod,<- A8,<- A7]
   rw[e3,Nat.mod_mod]
theorem iV{mask e:Nat}(hk:mask+1=2^k)(he:e<=mask)(p:Nat×Nat)(hp:p.2<2^64):∃c,c<mask+15/\(uH mask c p).1=e:=by
 have z:(uH mask 13 p).2=0:=by
  rw[iS];exact Nat.div_eq_of_lt (wa hp (by decide))
 have l:(uH mask 13 p).1<2^k:=by
  have e:uH mask 13 p=xN mask (uH mask 12 p).1 (uH mask 12 p).2:=fF mask 12 1 p;rw[e,<- hk];exact Bi _ (by omega)
 obtain⟨n,hn,q⟩:=oQ (k:=k) (x:=(uH mask 13 p).1) (e:=e) (by omega);refine⟨13+n,by omega,?_⟩;rw[fF,show uH mask 13 p=((uH mask 13 p).1,0)from Prod.ext rfl z,iU hk n _ l];exact q
open PySem
section
variable{t:xk}{h:Int}
theorem io(hu:t.place.toList.Pairwise (· < ·))(hd:t.dummies = #[]):∀(m j i q fuel:Nat),
 (∃j',j'∉t.place.toList/\xu t (fun _=>h+1) h (m+1+fuel) ⟨j,m,i,q,none⟩=some (.empty j' none)) \/
 (j∈t.place.toList/\xu t (fun _=>h+1) h (m+1+fuel) ⟨j,m,i,q,none⟩=xu t (fun _=>h+1) h fuel ⟨(xN t.mask i q).1,xC t.mask (xN t.mask i q).1-(xN t.mask i q).1,(xN t.mask i q).1,(xN t.mask i q).2,none⟩)
 | m,j,i,q,fuel=>by
   have ne:(h+1==h)=false:=by simp;omega
   rcases ic hu hd j with⟨a,b⟩|⟨a,l,b⟩
   · left
     refine⟨j,a,?_⟩;rw[show m+1+fuel=(m+fuel)+1 by omega];unfold xu;dsimp only;rw[b]
   · cases m with
     | zero =>
       right
       refine⟨a,?_⟩;rw[show 0+1+fuel=fuel+1 by omega]
       conv=>lhs;unfold xu
       dsimp only;rw[b];dsimp only;rw[ne,if_neg ww];unfold xk.advance;dsimp only
       rw[if_neg (by omega)]
     | succ m =>
       have ih:=io hu hd m (j+1) i q fuel
       have st:xu t (fun _=>h+1) h (m+1+1+fuel) ⟨j,m+1,i,q,none⟩=xu t (fun _=>h+1) h (m+1+fuel) ⟨j+1,m,i,q,none⟩:=by
        rw[show m+1+1+fuel=(m+1+fuel)+1 by omega]
        conv=>lhs;unfold xu
        dsimp only;rw[b];dsimp only;rw[ne,if_neg ww];unfold xk.advance;dsimp only;rw[if_pos (by omega)];rfl
       rw[st];rcases ih with ih|⟨_,ih⟩
       · exact .inl ih
       · exact .inr ⟨a,ih⟩
theorem eK(mask i:Nat):xC mask i-i<=9:=by
 unfold xC;split<;>omega
theorem fZ(hu:t.place.toList.Pairwise (· < ·))(hd:t.dummies = #[]):∀(c i q fuel:Nat),10*(c+1)<=fuel->(uH t.mask c (i,q)).1∉t.place.toList ->
 ∃j',j'∉t.place.toList/\xu t (fun _=>h+1) h fuel ⟨i,xC t.mask i-i,i,q,none⟩=some (.empty j' none)
 | 0,i,q,fuel,hf,hn=>by
   have hm:=eK t.mask i;obtain⟨f,rfl⟩:=zh (show xC t.mask i-i+1<=fuel by omega);rcases io (h:=h) hu hd (xC t.mask i-i) i i q f with r|⟨a,_⟩
   · exact r
   · exact absurd a hn
 | c+1,i,q,fuel,hf,hn=>by
   have hm:=eK t.mask i;obtain⟨f,rfl⟩:=zh (show xC t.mask i-i+1<=fuel by omega);rcases io (h:=h) hu hd (xC t.mask i-i) i i q f with r|⟨_,e⟩
   · exact r
   · rw[e];exact fZ hu hd c _ _ f (by omega) hn
end
theorem jp(h:Int):xl h<2^64:=by unfold xl;omega
structure Gd (t:xk) (n:Nat) (led:Bool):Prop where
 pow:∃k,3<=k/\t.mask+1=2^k
 size:t.place.size=n
 up:t.place.toList.Pairwise (· < ·)
 dum:t.dummies = #[]
 room:n*5<t.mask*3
 plain:t.plain=true
 led:t.led=led
theorem Gd.mask7{t:xk}{led:Bool}(g:Gd t n led):7<=t.mask:=by
 obtain⟨k,k3,e⟩:=g.pow;have:2^3<=2^k:=wj (by decide) k3;omega
theorem Gd.fits{t:xk}{led:Bool}(g:Gd t n led):t.fits n=true:=by
 have m7:=g.mask7;have r:=g.room;unfold Be Aq;rw[g.dum,g.size];simp;omega
theorem kh(led:Bool):Gd (.fresh 0 0 led) 0 led:=⟨⟨3,by decide,rfl⟩,rfl,.nil,rfl,(show 0*5<7*3 by decide),rfl,rfl⟩
theorem ib{xs:List Nat}(hl:xs.length<=m):∃e,e<=m/\e∉xs:=by
 by_cases h:∃e,e<=m/\e∉xs
 · exact h
 · exfalso
   have:(wI (m+1)).length<=xs.length:=yh List.nodup_range fun y my=>by
    by_cases c:y∈xs
    · exact c
    · exact absurd ⟨y,by have:=xv.mp my;omega,c⟩ h
   rw[yg]at this;omega
theorem Gd.free{t:xk}{led:Bool}(g:Gd t n led)(h:Int):∃j,j∉t.place.toList/\t.freeSlot h=some (j,false):=by
 obtain⟨k,k3,ek⟩:=g.pow;have m7:=g.mask7;have r:=g.room;have hl:t.place.toList.length=n:=by rw[wd];exact g.size
 obtain⟨e,he,ne⟩:=ib (xs:=t.place.toList) (m:=t.mask) (by omega);obtain⟨c,hc,q⟩:=iV ek he (xl h%(t.mask+1),xl h) (jp h);obtain⟨j,nj,ej⟩:=fZ (h:=h) g.up g.dum c (xl h%(t.mask+1)) (xl h) (10*zq t.mask) (by unfold zq;omega) (by rw[q];exact ne);refine⟨j,nj,?_⟩;unfold xk.freeSlot xk.probe xk.probeStart;dsimp only;rw[ej];rfl
open PySem
theorem Gd.lay{t:xk}{led:Bool}(g:Gd t n led)(es:Array (Int×v9))(he:es.size=n)(h:Int)(x:v9) :
 ∃es' t',layNew t es h x=(es',t',false,false)/\t'.mask=t.mask/\t'.place.size=n+1/\t'.place.toList.Pairwise (· < ·)/\t'.dummies = #[]/\t'.plain=true/\t'.led=led:=by
 obtain⟨j,nj,ej⟩:=g.free h;have m7:=g.mask7;have r:=g.room;obtain⟨b1,_,_⟩:=b_ (gz g.up) j;have up:=i6 g.up nj
 have sz:(xq t.place (wA t.place j) j).size=n+1:=by
  rw[<- wd,bV _ _ _ b1,wQ,wF,<- Nat.add_assoc,<- wQ,AF,wd,g.size]
 have hd:xk.has t.dummies j=false:=by rw[g.dum];rfl
 have se:(xq es (wA t.place j) (h,x)).size=n+1:=by
  rw[<- wd,bV _ _ _ (by rw[he,<- g.size];exact b1),wQ,wF,<- Nat.add_assoc,<- wQ,AF,wd,he]
 have ep:t.put j=({t with place:=xq t.place (wA t.place j) j,dummies:=t.dummies},wA t.place j):=by
  unfold xk.put;dsimp only;rw[hd,if_neg ww]
 have ft:({t with place:=xq t.place (wA t.place j) j,dummies:=t.dummies}:xk).fits (n+1)=true:=by
  unfold Be Aq;dsimp only;rw[sz,g.dum];simp;omega
 refine⟨xq es (wA t.place j) (h,x),{t with place:=xq t.place (wA t.place j) j,dummies:=t.dummies},?_,rfl,sz,up,g.dum,g.plain,g.led⟩;unfold layNew;rw[ej];dsimp only;rw[ep];dsimp only;rw[se,ft];unfold xk.orStandIn;rw[ft,if_pos rfl];rfl
theorem fW:∀(f k n:Nat),∃k',k<=k'/\yF n f (2^k)=2^k'
 | 0,k,n=>⟨k,we _,rfl⟩
 | f+1,k,n=>by
   unfold yF;by_cases c:2^k<=n
   · rw[if_pos c,<- zb];obtain⟨k',a,b⟩:=fW f (k+1) n;exact⟨k',by omega,b⟩
   · rw[if_neg c];exact⟨k,we _,rfl⟩
theorem ig:∀(f k n:Nat),n<2^(k+f)->n<yF n f (2^k)
 | 0,k,n,h=>h
 | f+1,k,n,h=>by
   unfold yF;by_cases c:2^k<=n
   · rw[if_pos c,<- zb];exact ig f (k+1) n (by rw[show k+1+f=k+(f+1) by omega];exact h)
   · rw[if_neg c];omega
theorem ky(h:n<2^60):∃k,3<=k/\xk.sizeAbove n=2^k/\n<2^k:=by
 obtain⟨k,a,b⟩:=fW 64 3 n;have c:=ig 64 3 n (wa h (wj (by decide) (by decide)));exact⟨k,a,b,by rw[<- b];exact c⟩
theorem i_{owner:Array (Option Nat)}{mask:Nat}:∀(f c i q:Nat),c<f->((owner.getD (uH mask c (i,q)).1 (some 0)).isNone=true)->∃j,xZ mask owner f i q=some j/\(owner.getD j (some 0)).isNone=true
 | 0,c,i,q,h,_=>absurd h (zS _)
 | f+1,c,i,q,h,hn=>by
   unfold xZ
   cases hf:(wI (xC mask i+1-i)).find? fun k=>(owner.getD (i+k) (some 0)).isNone with
   | some k =>
     have:=List.find?_some hf
     exact⟨i+k,by simp[hf],this⟩
   | none =>
     have hno:=List.find?_eq_none.mp hf
     cases c with
     | zero =>
       exfalso;refine hno 0 (xv.mpr ?_) hn;unfold xC
       split<;>omega
     | succ c =>
       obtain⟨j,a,b⟩:=i_ f c (xN mask i q).1 (xN mask i q).2 (by omega) hn;exact⟨j,by simp[hf];exact a,b⟩
theorem ja{xs:List (Option Nat)}(h:(xs.filterMap id).length<xs.length):∃e,e<xs.length/\xs[e]?=some none:=by
 by_cases c:∃e,e<xs.length/\xs[e]?=some none
 · exact c
 · exfalso
   have all:∀x∈xs,∃v,x=some v:=fun x mx=>by
    obtain⟨i,hi,rfl⟩:=y7 mx
    cases e:xs[i]with
    | some v=>exact⟨v,rfl⟩
    | none=>exact absurd ⟨i,hi,by rw[wz hi,e]⟩ c
   have key:∀ys:List (Option Nat),(∀x∈ys,∃v,x=some v)->(ys.filterMap id).length=ys.length:=by
    intro ys
    induction ys with
    | nil=>intro _;rfl
    | cons y ys ih =>
      intro h;obtain⟨v,rfl⟩:=h y wg;simp[ih fun x mx=>h x (wf _ mx)]
   rw[key xs all]at h;omega
theorem kW:∀{xs:List (Option Nat)}{j v:Nat},xs[j]?=some none->((xs.set j (some v)).filterMap id).Perm (v::xs.filterMap id)
 | [],j,v,h=>by cases h
 | x::xs,0,v,h=>by
   have e:x=none:=by simpa using h
   subst e
   exact zr _
 | x::xs,j+1,v,h=>by
   have ih:=kW (v:=v) (show xs[j]?=some none from h)
   cases x with
   | none=>exact ih
   | some y=>exact(ih.cons y).trans (BU.swap _ _ _)
theorem getD_none:(owner.getD j (some 0)).isNone=true↔owner.toList[j]?=some none:=by
 rw[xt];by_cases c:j<owner.size
 · have e:owner.getD j (some 0)=owner[j]:=by simp[zJ,c]
   rw[e,xO c];cases owner[j]<;>simp
 · have e:owner.getD j (some 0)=some 0:=by simp[zJ,c]
   rw[e,yq (by omega)];simp
structure Laid (mask k:Nat) (owner:Array (Option Nat)):Prop where
 size:owner.size=mask+1
 perm:(owner.toList.filterMap id).Perm (wI k)
theorem jY{mask K:Nat}(h:Laid mask k owner)(hK:mask+1=2^K)(hk:k<=mask)(x:Int) :
 ∃j,xZ mask owner (zq mask) (xl x%(mask+1)) (xl x)=some j/\Laid mask (k+1) (owner.setIfInBounds j (some k)):=by
 have hl:owner.toList.length=mask+1:=by rw[wd];exact h.size
 obtain⟨e,he,ee⟩:=ja (xs:=owner.toList) (by rw[h.perm.length_eq,yg];omega);obtain⟨c,hc,q⟩:=iV hK (show e<=mask by omega) (xl x%(mask+1),xl x) (jp x);obtain⟨j,a,b⟩:=i_ (owner:=owner) (mask:=mask) (zq mask) c (xl x%(mask+1)) (xl x) hc (by rw[q];exact getD_none.mpr ee);refine⟨j,a,by rw[Array.size_setIfInBounds];exact h.size,?_⟩;have hj:=getD_none.mp b;rw[Array.toList_setIfInBounds,List.range_succ];exact(kW hj).trans ((h.perm.cons k).trans (List.perm_append_comm (l₁:=[k]) (l₂:=wI k)))
theorem iZ{mask K:Nat}(hK:mask+1=2^K):∀(hs:List Int)(k:Nat)(owner:Array (Option Nat)),Laid mask k owner->k+hs.length<=mask ->
 ∃ owner',(hs.foldl (init:=some (owner,k)) fun acc h=>do
   let (owner,k) <- acc
   let j <- xZ mask owner (zq mask) (xl h%(mask+1)) (xl h)
   pure (owner.setIfInBounds j (some k),k+1))=some (owner',k+hs.length)/\Laid mask (k+hs.length) owner'
 | [],k,owner,h,_=>⟨owner,rfl,h⟩
 | x::hs,k,owner,h,hl=>by
   rw[wF]at hl;obtain⟨j,a,b⟩:=jY h hK (by omega) x;obtain⟨o',c,d⟩:=iZ hK hs (k+1) _ b (by omega);refine⟨o',?_,by rw[wF,show k+(hs.length+1)=k+1+hs.length by omega];exact d⟩;rw[List.foldl_cons,wF,show k+(hs.length+1)=k+1+hs.length by omega,<- c];congr 1;show(do let j <- xZ mask owner _ _ _;pure _)=_;rw[a];rfl
theorem ku{mask K:Nat}(hK:mask+1=2^K)(hs:Array Int)(hl:hs.size<=mask):∃owner,Bj mask hs=some owner/\Laid mask hs.size owner:=by
 have h0:Laid mask 0 (AG (mask+1) none):=⟨Array.size_replicate,by
  rw[Array.toList_replicate];have:∀n,(x8 n (none:Option Nat)).filterMap id=[]:=fun n=>by induction n<;>simp_all [List.replicate_succ]
  rw[this]
  exact zr _⟩
 obtain⟨o',a,b⟩:=iZ hK hs.toList 0 _ h0 (by rw[wd];omega);rw[wd,za]at b;refine⟨o',?_,b⟩;unfold Bj;rw[<- Array.foldl_toList];rw[show(some (AG (mask+1) none,0):Option (Array (Option Nat)×Nat))=some (AG (mask+1) none,0)from rfl];refine(congrArg (Option.map (·.1)) a).trans ?_;rfl
theorem jW(h:owner.size=n):((wI n).filterMap fun j=>(owner.getD j none).map (j,·)).map (·.2)=owner.toList.filterMap id:=by
 rw[List.map_filterMap]
 have:owner.toList=(wI n).map fun j=>owner.getD j none:=by
  refine List.ext_getElem (by rw[wd,wp,yg,h]) fun i h1 h2=>?_;rw[wd]at h1;rw[List.getElem_map,List.getElem_range];simp[zJ,h1]
 conv=>rhs;rw[this]
 rw[z8];congr 1;funext j;simp only[Function.comp,id];cases owner.getD j none<;>rfl
theorem lZ:(((wI n).filterMap fun j=>(owner.getD j none).map (j,·)).map (·.1)).Pairwise (· < ·):=by
 rw[List.pairwise_map];refine Bd.filterMap _ (R:=(· < ·)) (fun a a' hab b hb b' hb'=>?_) List.pairwise_lt_range;obtain⟨v,_,rfl⟩:=xY.mp hb;obtain⟨v',_,rfl⟩:=xY.mp hb';exact hab
theorem oU(es:Array α):(wI es.size).filterMap (fun i=>es[i]?)=es.toList:=by
 have e:(fun i=>es[i]?)=fun i=>es.toList[i]?:=funext fun i=>xt.symm;rw[e,<- wd];generalize es.toList=xs
 induction xs with
 | nil=>rfl
 | cons x xs ih =>
   rw[wF,List.range_succ_eq_map,yX];simp only[List.getElem?_cons_zero,z8];congr 1
theorem jI{t:xk}{led:Bool}(hd:t.dummies = #[])(hp:t.plain=true)(hl:t.led=led)(es:Array (Int×v9))(hn:es.size=n)(h1:1<=n)(h2:n<2^40) :
 ∃es' t',relayAll t es (yS n)=(es',t',false)/\Gd t' n led:=by
 have hw:yS n<2^60/\2*n<=yS n:=by unfold yS;split<;>omega
 generalize yS n=wn at hw;obtain⟨k,k3,ek,lk⟩:=ky hw.1;have k8:2^3<=2^k:=wj (by decide) k3;have hm:(2^k-1)+1=2^k:=by omega
 obtain⟨owner,a,b⟩:=ku hm (es.map (·.1)) (by rw[Array.size_map];omega);rw[Array.size_map,hn]at b;have bs:=b.size;generalize hv:(wI (2^k-1+1)).filterMap (fun j=>(owner.getD j none).map (j,·))=live;have l2:live.map (·.2)=owner.toList.filterMap id:=by rw[<- hv];exact jW bs
 have l1:(live.map (·.1)).Pairwise (· < ·):=by rw[<- hv];exact lZ
 have ll:live.length=n:=by rw[<- wp (f:=(·.2)),l2,b.perm.length_eq,yg]
 have er:t.relaid (es.map (·.1)) wn=some ({mask:=2^k-1,place:=(live.map (·.1)).toArray,dummies:=#[],finger:=t.finger,led:=t.led,moves:=t.movedTo (2^k-1),plain:=t.plain},(live.map (·.2)).toArray):=by
  unfold xk.relaid xk.laid;rw[ek,a,<- hv];rfl
 have pm:(live.map (·.2)).Perm (wI n):=by rw[l2];exact b.perm
 have es':((live.map (·.2)).toArray.filterMap (es[·]?)).size=n:=by
  rw[<- wd,Array.toList_filterMap];have:=(pm.filterMap (fun i=>es[i]?)).length_eq;refine this.trans ?_;rw[<- hn,oU,wd]
 have cv:coversAll (live.map (·.2)).toArray es.size=true:=by
  unfold coversAll;rw[hn];exact List.isPerm_iff.mpr pm
 refine⟨(live.map (·.2)).toArray.filterMap (es[·]?),{mask:=2^k-1,place:=(live.map (·.1)).toArray,dummies:=#[],finger:=t.finger,led:=t.led,moves:=t.movedTo (2^k-1),plain:=t.plain},?_,⟨k,k3,hm⟩,(by show(live.map (·.1)).toArray.size=n;rw[wk,wp];exact ll),l1,rfl,(by show n*5<(2^k-1)*3;omega),hp,hl⟩;unfold relayAll;rw[er];dsimp only;rw[cv,es']
 have ft:({mask:=2^k-1,place:=(live.map (·.1)).toArray,dummies:=#[],finger:=t.finger,led:=t.led,moves:=t.movedTo (2^k-1),plain:=t.plain}:xk).fits n=true:=by
  unfold Be Aq;dsimp only;rw[wk,wp,ll];simp;omega
 rw[ft];rfl
noncomputable def iv:v9->Int
 | .int n _=>n
 | _=>0
noncomputable def cG(w:wR):Bool:=!w.params.followText "set-order"
noncomputable def uZ(l:List (Int×v9)):Prop:=∀e∈l,∃n t,e=(Bx n,.int n t)
structure SetI (w:wR) (h:Heap) (a:Addr) (ks:List Int) (o:Obj) (es:Array (Int×v9)) (ep:Nat) (t:xk):Prop where
 at_:h.get? a=some o
 ex:o.ExactSet
 dat:o.data = .set es ep t
 el:uZ es.toList
 ks:(es.toList.map fun e=>iv e.2).Perm ks
 gd:Gd t es.size (cG w)
 sm:es.size<4000
theorem uZ.of{P:wD}{w:wR}{l:List (Int×v9)}(h:uZ l):ElemsOf (zL P w) l:=fun e m=>by
 obtain⟨n,t,rfl⟩:=h e m;exact⟨⟨n,by simp[zL,AZ],rfl⟩,rfl⟩
section
variable{P:wD}{w:wR}{A:wS}{E:v9->v_->Prop}{s:v_}{a:Addr}{ks:List Int}{o:Obj}{es:Array (Int×v9)}{ep:Nat}{t:xk}
theorem SetI.len(h:SetI w s.heap a ks o es ep t):es.size=ks.length:=by rw[<- h.ks.length_eq,wp,wd]
theorem fV{es':Array (Int×v9)}{t':xk}(H:s.heap.get? a=some o)(ex:o.ExactSet)(hd:o.data = .set es ep t) :
 (s.heap.update a (AR es' t')).get? a=some {o with data:=.set es' (ep+1) t' }:=by
 have u:=xQ (AR es' t') H (by rw[putSet_of es' t' hd];rfl);rw[putSet_of es' t' hd]at u;exact u
theorem nB{k:Int}{tk:Tok}{Q:Bool->v_->Prop}(hS:SetI w s.heap a ks o es ep t)(hb:ks.length<3000)
 (h:∀h' o' es' ep' t',yy a s.heap h'->SetI w h' a (if k∈ks then ks else ks++[k]) o' es' ep' t'->Q (!decide (k∈ks)) {s with heap:=h' }) :
 wM (wZ P w) A (setAddHashed a (.int k tk) (Bx k)) Q E s:=by
 have hl:=hS.len;obtain⟨H,ex,hd,el,hk,gd,sm⟩:=id hS;have hf:=gd.fits;have E1:ElemsOf (zL P w) es.toList:=el.of;have is1:(zL P w).is k (.int k tk)=true:=by simp[zL,AZ]
 have mem:∀e∈es.toList,((zL P w).is k e.2=true↔iv e.2=k):=fun e m=>by
  obtain⟨n,u,rfl⟩:=el e m;simp[zL,AZ,iv]
 unfold setAddHashed;unfold setAddHashedIn;refine yi ?_;refine v8 (zo H hd hf ?_);dsimp only;rw[byScan_of rfl (by unfold scanBound;omega) E1,if_pos rfl];unfold setAddByScan;refine v8 (v8 (wpAny_rule (v8 ?_)));refine wpAny_setScan_of (knd:=zL P w) (k:=k) is1 H hd hf E1 ?_
 cases hr:es.toList.findIdx? (fun e=>(zL P w).is k e.2)with
 | some j =>
   obtain⟨hj,pj,_⟩:=List.findIdx?_eq_some_iff_getElem.mp hr;have mk:k∈ks:=hk.mem_iff.mp (yE.mpr ⟨_,x5 hj,(mem _ (x5 hj)).mp pj⟩);have hh:=h s.heap o es ep t (yy.refl a s.heap) (by rw[if_pos mk];exact hS);rw[decide_eq_true mk]at hh
   dsimp only;exact wb (wb hh)
 | none =>
   have mk:k∉ks:=fun m=>by
    obtain⟨e,me,q⟩:=yE.mp (hk.mem_iff.mpr m);have:=List.findIdx?_eq_none_iff.mp hr e me;rw[(mem e me).mpr q]at this;cases this
   obtain⟨e1,t1,eL,m1,z1,u1,d1,p1,l1⟩:=gd.lay es rfl (Bx k) (.int k tk);have pm:=layNew_perm t es (Bx k) (.int k tk);rw[eL,Ai]at pm;have pm:e1.toList.Perm (es.toList++[(Bx k,.int k tk)]):=pm;have s1:e1.size=es.size+1:=by rw[<- wd,pm.length_eq,wQ,wd];rfl
   have el1:uZ e1.toList:=fun e m=>by
    rcases yx.mp (pm.mem_iff.mp m)with m|m
    · exact el e m
    · exact⟨k,tk,yw.mp m⟩
   have k1:(e1.toList.map fun e=>iv e.2).Perm (ks++[k]):=by
    refine(pm.map _).trans ?_;rw[xD];exact hk.append_right _
   have zl:e1.size<=sizeLine:=by rw[BD];omega
   have g1:=fV (es':=e1) (t':=t1) H ex hd;have sb:=xo s.heap a (AR e1 t1);dsimp only;rw[eL];dsimp only;refine v8 (wb ?_);rw[p1,if_pos rfl];refine v8 ?_;rw[show hashByValue 8 (.int k tk)=pure true from rfl];refine wb ?_;rw[if_pos rfl];refine v8 (wpAny_storeSet_of H hd ?_ zl)
   cases hT:t1.tooFull with
   | false =>
     rw[show(!false&&false)=false from rfl,if_neg ww];refine wb (wb ?_);have m7:=gd.mask7
     have room:(es.size+1)*5<t1.mask*3:=by
      unfold xk.tooFull Aq at hT;rw[z1,d1]at hT;have:=of_decide_eq_false hT;simp at this;omega
     have hh:=h _ _ _ _ _ sb (by rw[if_neg mk];exact⟨g1,ex,rfl,el1,k1,⟨by rw[m1];exact gd.pow,by rw[s1];exact z1,u1,d1,by rw[s1];exact room,p1,l1⟩,by omega⟩);rw[decide_eq_false mk]at hh
     exact hh
   | true =>
     rw[show(!false&&true)=true from rfl,if_pos rfl];obtain⟨e2,t2,eR,gd2⟩:=jI d1 p1 l1 e1 rfl (by omega) (by omega);have pr:=relayAll_perm t1 e1 (yS e1.size);rw[eR]at pr;have pr:e2.toList.Perm e1.toList:=pr;have s2:e2.size=e1.size:=by rw[<- wd,pr.length_eq,wd]
     rw[eR];dsimp only;refine v8 (wb ?_);refine v8 (wpAny_storeSet_of g1 rfl ?_ (by rw[s2];exact zl));refine wb (wb ?_);have g2:=fV (s:={s with heap:=s.heap.update a (AR e1 t1)}) (es':=e2) (t':=t2) g1 ex rfl;have hh:=h _ _ _ _ _ (sb.trans (xo _ a (AR e2 t2))) (by rw[if_neg mk];exact⟨g2,ex,rfl,fun e m=>el1 e (pr.mem_iff.mp m),(pr.map _).trans k1,by rw[s2];exact gd2,by omega⟩);rw[decide_eq_false mk]at hh;exact hh
end
noncomputable def met:List Int->List Int->List Int
 | ks,[]=>ks
 | ks,n::ns=>met (if n∈ks then ks else ks++[n]) ns
theorem iP:∀(ns ks:List Int),(met ks ns).length<=ks.length+ns.length
 | [],ks=>we _
 | n::ns,ks=>by
   have:=iP ns (if n∈ks then ks else ks++[n]);have e:(if n∈ks then ks else ks++[n]).length<=ks.length+1:=by split<;>simp
   show(met _ ns).length<=ks.length+(ns.length+1);omega
theorem iO{x:Int}:∀(ns ks:List Int),x∈met ks ns↔x∈ks\/x∈ns
 | [],ks=>by simp[met]
 | n::ns,ks=>by
   show x∈met _ ns↔_;rw[iO ns,wE];by_cases c:n∈ks
   · rw[if_pos c];constructor
     · rintro(h|h)
       · exact .inl h
       · exact .inr (.inr h)
     · rintro(h|rfl|h)
       · exact .inl h
       · exact .inl c
       · exact .inr h
   · rw[if_neg c,yx,yw,or_assoc]
theorem kM:∀(ns ks:List Int),ks.Nodup->(met ks ns).Nodup
 | [],ks,h=>h
 | n::ns,ks,h=>by
   refine kM ns _ ?_;by_cases c:n∈ks
   · rw[if_pos c];exact h
   · rw[if_neg c];refine List.nodup_append.mpr ⟨h,yB.mpr ⟨yU,List.nodup_nil⟩,fun a ma b mb e=>?_⟩;rw[yw.mp mb]at e;exact c (e▸ma)
section
variable{P:wD}{w:wR}{A:wS}{R:Result->v_->Prop}{I S:Addr}{fp wr:List Addr}{n:Nat}{Pv:Nat->v9->Prop}{St:Nat->Heap->Prop}
noncomputable def gY(w:wR)(h:Heap)(a:Addr)(ks:List Int):Prop:=∃o es ep t,SetI w h a ks o es ep t
theorem gY.keep{h':Heap}{ks:List Int}(x:gY w h a ks)(k:∀o,h.get? a=some o->h'.get? a=some o):gY w h' a ks :=
 let ⟨o,es,ep,t,H⟩:=x;⟨o,es,ep,t,{H with at_:=k o H.at_}⟩
theorem lv(W:Walks P w A.in1 I fp wr n Pv St)(hS:S∉fp)(ns:List Int)(hn:ns.length=n)(hv:∀i v,Pv i v->∃t,v = .int (ns.getD i 0) t)(hb:n<2000) :
 ∀ (k i:Nat)(s:v_)(ks:List Int),n-i=k->i<=n->St i s.heap->ks.length<=i->gY w s.heap S ks ->
   (∀s':v_,s'.gens=s.gens->s'.drawn=s.drawn->s'.os=s.os->(∀b o,b∉S::wr->s.heap.get? b=some o->s'.heap.get? b=some o)->gY w s'.heap S (met ks (ns.drop i))->R (.ok (.ret .none)) s') ->
   zP (wZ P w) A (.builtin "set.update.loop" ⟨[.ref S,.ref I],[]⟩) R s:=by
 have hw:S∉wr:=fun h=>hS (W.sub _ h);intro k
 induction k with
 | zero =>
   intro i s ks hk hi st lk hs hR;have e:i=n:=by omega
   subst e;refine zT F.entry_set_update_loop ?_;rw[zD F.plain_set_update_loop _];show wM _ A.in1 (As (.ref I) >>= _) _ _ s;refine v8 (W.done s _ _ st fun h' tk hk'=>?_);show wM _ A.in1 (ret yK) _ _ _;refine wb (hR {s with heap:=h',toks:=tk} rfl rfl rfl (fun b o hb e=>hk' b o (fun m=>hb (wf _ m)) e) ?_);rw[Ax (by omega)]
   exact hs.keep fun o e=>hk' S o hw e
 | succ k ih =>
   intro i s ks hk hi st lk hs hR;have lt:i<n:=by omega
   refine zT F.entry_set_update_loop ?_;rw[zD F.plain_set_update_loop _];show wM _ A.in1 (As (.ref I) >>= _) _ _ s;refine v8 (W.item i s _ _ lt st fun v h' tk pv st' hk'=>?_);obtain⟨t,rfl⟩:=hv i v pv
   have ed:ns.drop i=ns.getD i 0::ns.drop (i+1):=by
    rw[x9 (by omega)];congr 1;rw[List.getD_eq_getElem?_getD,wz (by omega)];rfl
   generalize ns.getD i 0=x at ed;have hs':gY w h' S ks:=hs.keep fun o e=>hk' S o hw e;obtain⟨o,es,ep,tb,hI⟩:=hs';show wM _ A.in1 (BA [Az x t] (setAdd S (.int x t)) >>= _) _ _ _;refine v8 (yi ?_);unfold setAdd;refine yi ?_;refine v8 ((zL P w).pyHash (k:=x) (intKind_is _ _ _ _) ?_);refine nB (s:={s with heap:=h',toks:=tk+1}) hI (by omega) fun h2 o2 es2 ep2 t2 sb hI2=>?_
   refine wb ⟨plainId_quiet F.plain_set_update_loop _,ih (i+1) _ _ (by omega) lt (W.frame _ _ _ st' fun b hb o e=>?_) (by
    split
    · omega
    · rw[wQ,zv];omega) ⟨o2,es2,ep2,t2,hI2⟩ fun s' a b c d e=>hR s' a b c (fun b' o' hb' e'=>d b' o' hb' ?_) ?_⟩
   · rw[sb.2 b fun h:b=S=>hS (h▸hb)];exact e
   · show h2.get? b'=some o';rw[sb.2 b' fun h:b'=S=>hb' (h▸wg)];exact hk' b' o' (fun m=>hb' (wf _ m)) e'
   · rw[ed];exact e
end
section
variable{P:wD}{w:wR}{A:wS}{E:v9->v_->Prop}{s:v_}
theorem jT(a:v9){Q:v9->v_->Prop}
 (h:Q (.ref s.heap.objs.size) {s with heap:=s.heap.push {cls:=.type "set", dict:=none,data:=.set #[] 0 (.fresh 0 0 (cG w))}}) :
 zP (wZ P w) A (.call (.builtin "set.__new__") ⟨[.type "set", a],[]⟩) (wants Q E) s:=by
 refine codeAny_of_tree ?_
 show wM _ A.in1 (do
  checkBuiltinCall "set.__new__" ⟨[.type "set", a],[]⟩
  again (.builtin "set.__new__" ⟨[.type "set", a],[]⟩)) _ _ s
 refine v8 (yG (F.newCall_set_1 a) (wb ⟨plainId_quiet F.plain_set_new _,zT F.entry_set_new ?_⟩));rw[zD F.plain_set_new _];unfold Builtin.«set.__new__»;unfold Builtin.Frozenset.newClass;have sub:=sub_set_self;obtain⟨hp,g,d,tk,os⟩:=s;dsimp only
 wp_walk
 refine yV (wb ?_);dsimp only;simp only[newObj];exact v8 (wpAny_alloc (wb (wb h)))
theorem mh:gY w (h.push {cls:=.type "set", dict:=none,data:=.set #[] 0 (.fresh 0 0 (cG w))}) h.objs.size [] :=
 ⟨_,#[],0,_,wu _ rfl,⟨rfl,rfl,rfl⟩,rfl,fun e m=>(by cases m),zr _,kh _,by decide⟩
theorem jm{l:Addr}{vs:List v9}{Q:v9->v_->Prop}(hh:A.handled=none)(hl:s.heap.IsList l vs.toArray)(hi:yY vs ns)(hb:ns.length<2000)
 (h:∀h' tk,gY w h' s.heap.objs.size (met [] ns)->(∀b o,s.heap.get? b=some o->h'.get? b=some o)->Q (.ref s.heap.objs.size) {s with heap:=h',toks:=tk}) :
 wM (wZ P w) A (call (.type "set") [.ref l]) Q E s:=by
 obtain⟨c,tl,mro⟩:=F.called_set.mro;have made:=F.called_set.made;have sub:=F.called_set.sub;have lvs:vs.length=ns.length:=yY.length hi;refine wpAny_call (codeAny_of_tree ?_);show wM _ _ (callAny (.type "set") _) _ _ _;refine wb ⟨Code.quiet_builtin _ (by decide +kernel),zT F.entry_type_call ?_⟩;rw[wS.under_plain (weight_type_call_type "set" [.ref l] []) rfl];have h1:=F.called_set.notType;have h2:=F.called_set.canCreate;have ct:=F.typeCall_set_1 (.ref l)
 repeat (any_goals (first|assumption|wp_step))
 refine zt (jT (.ref l) (E:=E) (Q:=fun obj s1=>obj = .ref s.heap.objs.size/\s1={s with heap:=s.heap.push {cls:=.type "set", dict:=none,data:=.set #[] 0 (.fresh 0 0 (cG w))}}) ⟨rfl,rfl⟩) fun r s1 hr=>?_
 cases r with
 | error e=>exact hr
 | ok fl =>
   cases fl with
   | ret obj =>
     obtain⟨rfl,rfl⟩:=hr;have HS:=mh (w:=w) (h:=s.heap);have gS:(s.heap.push {cls:=.type "set", dict:=none,data:=.set #[] 0 (.fresh 0 0 (cG w))}).get? s.heap.objs.size=some {cls:=.type "set", dict:=none,data:=.set #[] 0 (.fresh 0 0 (cG w))}:=wu _ rfl;have ty:v_.TypeIs {s with heap:=s.heap.push {cls:=.type "set", dict:=none,data:=.set #[] 0 (.fresh 0 0 (cG w))}} (.ref s.heap.objs.size) "set" := ⟨_,gS,rfl⟩;have li:=F.called_set.init.lookup;have bi:=F.called_set.init.bind (.ref s.heap.objs.size)
     repeat (any_goals (first|assumption|wp_step))
     refine zt (codeAny_call_builtin (R:=wants (fun r s2=>r = .none/\∃h' tk,s2={s with heap:=h',toks:=tk}/\gY w h' s.heap.objs.size (met [] ns)/\(∀b o,s.heap.get? b=some o->h'.get? b=some o)) E)
      F.called_set.init.plain F.entry_set_init (check_set_init_1 ty ?_)) fun r2 s2 hr2=>?_
     · have hl1:(s.heap.push {cls:=.type "set", dict:=none,data:=.set #[] 0 (.fresh 0 0 (cG w))}).IsList l vs.toArray:=hl.push _;obtain⟨ol,gol,cl,nl,dl⟩:=hl;have tl1:v_.TypeIs {s with heap:=s.heap.push {cls:=.type "set", dict:=none,data:=.set #[] 0 (.fresh 0 0 (cG w))}} (.ref l) "list" := ⟨ol,wc _ gol,cl⟩;have ls:=F.sub_list_set;have lf:=F.sub_list_frozenset;have ne:(v9.type "list" == v9.type "dict")=false:=by decide
       have llt:l<s.heap.objs.size:=wl gol;unfold Builtin.«set.__init__»;unfold noKeywords;unfold Builtin.Frozenset.updateFrom;generalize hPI:pyIter=PI
       wp_walk
       subst hPI;refine Ag hl1 ?_;refine v8 (wpAny_runValue ?_);have h3:A.in1.in1.in1.handled=none:=by simp[hh]
       have nI:l≠(s.heap.push {cls:=.type "set", dict:=none,data:=.set #[] 0 (.fresh 0 0 (cG w))}).objs.size:=by
        rw[yo];exact wT (Nat.lt_succ_of_lt llt)
       have nS:s.heap.objs.size∉[(s.heap.push {cls:=.type "set", dict:=none,data:=.set #[] 0 (.fresh 0 0 (cG w))}).objs.size,l]:=by
        rw[yo];simp only[wE,yU,or_false,not_or];exact⟨wT (Au _),Bl llt⟩
       have ev:∀(i:Nat)(v:v9),vs.toArray[i]?=some v->∃t,v = .int (ns.getD i 0) t:=fun i v hv=>yY.int_at hi i v (by rw[<- xt]at hv;exact hv)
       refine lv (Walks.list h3 _ l nI vs.toArray) nS ns (by rw[wk];exact lvs.symm) ev (by rw[wk];omega) _ 0 _ [] rfl (xx _)
        ⟨⟨_,wu _ rfl,rfl,rfl⟩,(hl1.push _)⟩ (we _) (HS.keep fun o e=>wc _ e) fun s' a b c d e=>?_
       obtain⟨h',g',d',tk',os'⟩:=s';have a:g'=s.gens:=a;have b:d'=s.drawn:=b;have c:os'=s.os:=c;subst a;subst b;subst c;show wM _ _ _ _ _ _;refine wb ?_;show wM _ _ (ret yK) _ _ _;refine wb ⟨rfl,h',tk',rfl,e,fun b o hb=>?_⟩;have lb:=wl hb;refine d b o (fun m=>?_) (wc _ (wc _ hb));rw[yo]at m;simp only[wE,yU,or_false]at m;rcases m with rfl|rfl
       · exact xM _ lb
       · exact absurd lb (Nat.not_lt.mpr (Nat.le_succ _))
     · cases r2 with
       | error e=>exact hr2
       | ok fl2 =>
         cases fl2 with
         | ret r =>
           obtain⟨rfl,h',tk,rfl,hS',hk'⟩:=hr2
           repeat (any_goals (first|assumption|wp_step))
           exact h _ _ hS' hk'
         | _=>exact hr2.elim
   | _=>exact hr.elim
end
theorem bq:Slot "set_iterator" "__next__" "set_iterator.__next__" :=
 .of (owner := "set_iterator") (n := "__next__") (by rw[yH,xS];kernel_rfl) (by decide +kernel) (by decide +kernel) (by decide +kernel) (.inl (by decide +kernel)) (by rw[x_];kernel_rfl)
theorem b8:Bw table "set_iterator.__next__" = some Builtin.«set_iterator.__next__»:=entryFor_of_tree (by kernel_rfl)
set_option maxRecDepth 1000000 in
theorem eV:Bw table "set.__iter__" = some Builtin.«frozenset.__iter__»:=AW (id' := "frozenset.__iter__") (by kernel_rfl) rfl (by decide +kernel) (by kernel_rfl)
theorem cA:Slot "set_iterator" "__iter__" "set_iterator.__iter__" :=
 .of (owner := "set_iterator") (n := "__iter__") (by rw[yH,xS];kernel_rfl) (by decide +kernel) (by decide +kernel) (by decide +kernel) (.inl (by decide +kernel)) (by rw[x_];kernel_rfl)
theorem kJ:Manifest.owners.lookup (String.ofList ['r','o','t','a','r','e','t','i','_','t','e','s'].reverse)=some Manifest.sig_set_iterator:=by kernel_rfl
theorem cE(a:v9):BM "set_iterator.__next__" ⟨[a],[]⟩:=by
 unfold BM;rw[Ar (id := "set_iterator.__next__") (n:=['_','_','t','x','e','n','_','_']) (o:=['r','o','t','a','r','e','t','i','_','t','e','s']) (by kernel_rfl) kJ];kernel_rfl
theorem e8(a:v9):BM "set_iterator.__iter__" ⟨[a],[]⟩:=by
 unfold BM;rw[Ar (id := "set_iterator.__iter__") (n:=['_','_','r','e','t','i','_','_']) (o:=['r','o','t','a','r','e','t','i','_','t','e','s']) (by kernel_rfl) kJ];kernel_rfl
theorem dY:Bw table "set_iterator.__iter__" = some Builtin.«dict_keyiterator.__iter__»:=AW (id' := "dict_keyiterator.__iter__") (by kernel_rfl) rfl (by decide +kernel) (by kernel_rfl)
noncomputable def o4(h:Heap)(it a:Addr)(slot i n ep:Nat):Prop:=∃o,h.get? it=some o/\o.cls = .type "set_iterator" /\ o.data = .fields #[.int slot 0,.int i 0,.ref a,.int n 0,.int ep 0]
theorem o4.ty{s:v_}{it:Addr}{slot ep:Nat}(x:o4 s.heap it a slot i n ep):s.TypeIs (.ref it) "set_iterator" := let ⟨o,e,c,_⟩:=x;⟨o,e,c⟩
section
variable{P:wD}{w:wR}{A:wS}{E:v9->v_->Prop}{s:v_}{a it:Addr}{ks:List Int}{o:Obj}{es:Array (Int×v9)}{ep:Nat}{t:xk}{i slot:Nat}
theorem SetI.ty(x:SetI w s.heap a ks o es ep t):s.TypeIs (.ref a) "set" := ⟨o,x.at_,x.ex.1⟩
theorem lw{Q:v9->v_->Prop}(x:SetI w s.heap a ks o es ep t)
 (z:Q (.ref s.heap.objs.size) {s with heap:=s.heap.push {cls:=.type "set_iterator", data:=.fields #[.int 0 0,.int 0 0,.ref a,.int es.size 0,.int ep 0]}}):wM (wZ P w) A (pyIter (.ref a)) Q E s:=by
 have hf:=x.gd.fits;refine Aj x.ty F.slot_set_iter (xG F.slot_set_iter x.ty eV ?_ (F.args_set_iter_1 _));unfold Builtin.«frozenset.__iter__»;unfold Builtin.Frozenset.slot0;unfold slotArgs;simp only[zy,yO,yt,↓reduceIte,bind_assoc,yA,bne_self_eq_false];unfold Builtin.Frozenset.addrOf;refine v8 (wb ?_);dsimp only;refine v8 (wb ?_);unfold Builtin.Frozenset.sizeOf;refine v8 (v8 (zU x.at_ x.dat hf (wb ?_)));unfold setDrawn;unfold setsByText;refine v8 (v8 (zo x.at_ x.dat hf ?_));dsimp only;refine v8 (v8 (yV (wb ?_)));show wM _ _ (pure (!w.params.followText "set-order" && (!t.plain&&decide (es.size>1)))) _ _ _;rw[x.gd.plain,yO,Aa,Bool.and_false];refine wb ?_;rw[if_neg ww];refine v8 (wb (v8 (wpAny_setEpoch_of x.at_ x.dat hf ?_)));unfold newFields;refine v8 (wW (wb ⟨_,rfl, "set_iterator", _,⟨_,wu _ rfl,rfl⟩,bq.lookup,?_⟩));exact z
noncomputable def fg(w:wR)(a:Addr)(es:Array (Int×v9))(ep:Nat):Array (Int×v9):=if w.params.followText "set-order" = true then pickOrder (w.params.setOrder a ep) es else es
noncomputable def mC(w:wR)(t:xk)(slot i:Nat):Prop:=w.params.followText "set-order" = true\/wA t.place slot=i
theorem ii{Q:Option (v9×Nat)->v_->Prop}(x:SetI w s.heap a ks o es ep t)(hs:mC w t slot i)
 (z:∀r:Option (v9×Nat),r.map (·.1)=((fg w a es ep)[i]?).map (·.2)->(∀v n,r=some (v,n)->mC w t n (i+1))->Q r s):wM (wZ P w) A (setNext a slot i ep) Q E s:=by
 have hf:=x.gd.fits;unfold setNext;unfold setsByText;refine v8 (zo x.at_ x.dat hf ?_);dsimp only;refine v8 (v8 (yV (wb ?_)));show wM _ _ (if w.params.followText "set-order" = true then _ else _) _ _ _;by_cases c:w.params.followText "set-order" = true
 · rw[if_pos c,if_neg (by simp)];unfold setWalk;unfold setsByText;refine v8 (v8 (zo x.at_ x.dat hf ?_));dsimp only;refine v8 (v8 (yV (wb ?_)));show wM _ _ (if w.params.followText "set-order" = true then _ else _) _ _ _;rw[if_pos c];refine v8 (yV (wb (wb ?_)));refine z _ ?_ fun v n _=>.inl c;unfold fg;rw[if_pos c,Option.map_map];rfl
 · rw[if_neg c];have hb:wA t.place slot=i:=hs.resolve_left c;have hl:t.led=true:=by rw[x.gd.led];unfold cG;simpa using c
   show wM _ _ (if(!t.plain&&decide (es.size>1))=true then _ else _) _ _ _;rw[x.gd.plain,yO,Aa,if_neg ww];refine v8 ?_;show wM _ _ (if(!t.led && !es.isEmpty)=true then _ else pure ()) _ _ _;rw[hl,yO,Aa,if_neg ww];refine wb (wb ?_);rw[hb];have ho:fg w a es ep=es:=if_neg c;rcases zc i es.size with k|k
   · have kp:i<t.place.size:=by rw[x.gd.size];exact k
     rw[xO k,xO kp];refine z _ (by rw[ho,xO k];rfl) fun v n e=>.inr ?_;have e:some (es[i].2,t.place[i]+1)=some (v,n):=e;have en:n=t.place[i]+1:=(Prod.ext_iff.mp (wL e)).2.symm;rw[en,show t.place[i]=t.place.getD i 0 by simp[zJ,kp]];exact gW (gz x.gd.up) kp
   · rw[yq k];exact z none (by rw[ho,yq k];rfl) fun v n e=>(by cases e)
theorem lx(hit:o4 s.heap it a slot i n ep)(x:SetI w s.heap a ks o es ep t)(hn:n=es.size)(hs:mC w t slot i){Q:Option v9->v_->Prop}{v:v9}(hv:((fg w a es ep)[i]?).map (·.2)=some v)
 (z:∀h' slot',o4 h' it a slot' (i+1) n ep->mC w t slot' (i+1)->yy it s.heap h'->Q (some v) {s with heap:=h' }):wM (wZ P w) A (As (.ref it)) Q E s:=by
 obtain⟨ob,o1,o2,o3⟩:=id hit;have hf:=x.gd.fits;unfold As;refine v8 (zH (xA (name:=yD "__next__") hit.ty bq (xG bq hit.ty b8 ?_ (cE _))));unfold Builtin.«set_iterator.__next__»;unfold slotArgs;simp only[zy,yO,yt,↓reduceIte,bind_assoc,yA,bne_self_eq_false];refine v8 (wb ?_);dsimp only;refine v8 (wpAny_fieldsOf o1 o3 ?_);dsimp only;refine v8 (zU x.at_ x.dat hf ?_);rw[if_neg (by rw[hn];simp)];rw[xp,xp,xp];refine v8 (ii x hs fun r hr nx=>?_);rw[hv]at hr;obtain⟨⟨v',sl⟩,rfl,e⟩:=xY.mp hr;have e:v'=v:=e;subst e;have sl':=nx _ _ rfl;dsimp only;refine v8 (yT o1 o3 (by simp) ?_);have g1:=xQ (ym (·.setIfInBounds 0 (zB (sl:Int)))) o1 (yI (xE o3 _));have d1:=xE o3 (·.setIfInBounds 0 (zB (sl:Int)));refine v8 (yT (s:={s with heap:=_}) g1 d1 (by simp) ?_);have g2:=xQ (ym (·.setIfInBounds 1 (zB ((i:Int)+1)))) g1 (yI (xE d1 _));have d2:=xE d1 (·.setIfInBounds 1 (zB ((i:Int)+1)));refine wb ⟨_,rfl,wb (z _ sl ⟨_,g2,?_,?_⟩ sl' ((xo ..).trans (xo ..)))⟩
 · rw[Ak,Ak];exact o2
 · rw[d2];simp[zB]
theorem lz(hh:A.handled=none)(hit:o4 s.heap it a slot i n ep)(x:SetI w s.heap a ks o es ep t)(hn:n=es.size)(hs:mC w t slot i){Q:Option v9->v_->Prop}(hv:(fg w a es ep)[i]?=none)
 (z:∀h',BN it s.heap h'->Q none {s with heap:=h' }):wM (wZ P w) A (As (.ref it)) Q E s:=by
 obtain⟨ob,o1,o2,o3⟩:=id hit;have hf:=x.gd.fits;unfold As;refine v8 (zH (xA (name:=yD "__next__") hit.ty bq (xG bq hit.ty b8 ?_ (cE _))));unfold Builtin.«set_iterator.__next__»;unfold slotArgs;simp only[zy,yO,yt,↓reduceIte,bind_assoc,yA,bne_self_eq_false];refine v8 (wb ?_);dsimp only;refine v8 (wpAny_fieldsOf o1 o3 ?_);dsimp only;refine v8 (zU x.at_ x.dat hf ?_);rw[if_neg (by rw[hn];simp)];rw[xp,xp,xp];refine v8 (ii x hs fun r hr nx=>?_);rw[hv]at hr
 cases r with
 | some y=>cases hr
 | none =>
   dsimp only;refine v8 (yT o1 o3 (by simp) ?_);show wM _ _ (newExc (.type "StopIteration") [] >>= _) _ _ _;refine v8 ?_;simp only[newExc,newTuple];refine v8 (wW (v8 (m:=Ae _ _) (yG (a:=yK) (by first|rfl|(simp only[Ae];rfl)) (wW ?_ (by size_fits)))) (by size_fits));simp only[raiseNew];refine v8 (wpAny_handled ?_);rw[show A.in1.handled=none from hh];refine v8 (wb (wpAny_throw ?_));refine v8 (zA (T := "StopIteration") (b:=true) ⟨_,wu _ rfl,rfl⟩ isSubtype_stop ?_);exact wb (z _ (((xo ..).extBut.push _).push _))
theorem iH:(fg w a es ep).size=es.size/\(fg w a es ep).toList.Perm es.toList:=by
 have key:∀(f k:Nat)(next:Nat->Nat)(l:List (Int×v9))(out:Array (Int×v9)),l.length=f->(Bq next f k l out).toList.Perm (out.toList++l):=by
  intro f
  induction f with
  | zero =>
    intro k next l out e
    have:l=[]:=List.length_eq_zero_iff.mp e;subst this;unfold Bq
    rw[xX]
  | succ f ih =>
    intro k next l out e
    unfold Bq;have lt:next k%l.length<l.length:=Bi _ (by omega)
    rw[wz lt];dsimp only;refine(ih (k+1) next _ _ (by rw[List.length_eraseIdx,if_pos lt];omega)).trans ?_;rw[Ai,yM];refine BU.append_left _ ?_
    have pe:∀(xs:List (Int×v9))(j:Nat)(hj:j<xs.length),(xs[j]::xs.eraseIdx j).Perm xs:=by
     intro xs
     induction xs with
     | nil=>intro j hj;exact absurd hj (zS _)
     | cons x xs ih =>
       intro j hj
       cases j with
       | zero=>exact zr _
       | succ j=>exact(BU.swap _ _ _).trans ((ih j (by simpa using hj)).cons x)
    exact pe l _ lt
 have pm:(fg w a es ep).toList.Perm es.toList:=by
  unfold fg;split
  · exact key _ 0 _ es.toList #[] (by rw[wd])
  · exact zr _
 exact⟨by rw[<- wd,pm.length_eq,wd],pm⟩
theorem k_(hh:A.handled=none)(I:Addr)(ne:a≠I) :
 Walks P w A I [I,a] [I] es.size (fun i v=>((fg w a es ep)[i]?).map (·.2)=some v) (fun i h=>∃slot,o4 h I a slot i es.size ep/\mC w t slot i/\SetI w h a ks o es ep t) where
 sub:=fun b hb=>by simp at hb;simp[hb]
 frame:=fun _ _ _ st hk=>by
  obtain⟨slot,⟨ob,g,r⟩,y,x⟩:=st;exact⟨slot,⟨ob,hk I (by simp) ob g,r⟩,y,{x with at_:=hk a (by simp) o x.at_}⟩
 item:=fun i s Q E hi st hQ=>by
  obtain⟨slot,g,y,x⟩:=st;have hz:i<(fg w a es ep).size:=by rw[iH.1];exact hi
  have hx:((fg w a es ep)[i]?).map (·.2)=some ((fg w a es ep)[i]).2:=by rw[xO hz];rfl
  exact lx g x rfl y hx fun h' slot' g' y' sb=>hQ _ h' s.toks hx ⟨slot',g',y',{x with at_:=sb.extBut a o ne x.at_}⟩ fun b o hb e=>sb.extBut b o (fun h=>hb (by simp[h])) e
 done:=fun s Q E st hQ=>by
  obtain⟨slot,g,y,x⟩:=st;exact lz hh g x rfl y (yq (by rw[iH.1];exact we _)) fun h' he=>hQ h' s.toks fun b o hb e=>he b o (fun h=>hb (by simp[h])) e
 self:=fun _ s Q E st hQ=>by
  obtain⟨slot,g,y,x⟩:=st;refine Aj g.ty cA (xG cA g.ty dY ?_ (e8 _));show wM _ _ (ret (.ref I)) _ _ s;exact wb ⟨_,rfl, "set_iterator", _,g.ty,bq.lookup,hQ⟩
end
section
variable{P:wD}{w:wR}{A:wS}{E:v9->v_->Prop}{s:v_}{a:Addr}{ks:List Int}{o:Obj}{es:Array (Int×v9)}{ep:Nat}{t:xk}
theorem ly{Q:Bool->v_->Prop}(hT:s.TypeIs (.ref a) "set")(h:Q false s):wM (wZ P w) A (zV (.ref a)) Q E s:=by
 unfold zV;refine v8 (zW hT PySem.F.slot_set_len.lookup ?_);generalize hi:("set.__len__" : String)=i0
 wp_delta
 rw[show splitId i0=some ("set", "__len__")from by subst hi;decide +kernel];subst hi;refine v8 (zA (T := "set") (b:=true) hT (by rw[x_];kernel_rfl) ?_);refine wpAny_ite_split (fun q=>absurd q (by decide)) fun _=>?_;refine wpAny_ite_split (fun _=>?_) fun q=>absurd (by decide +kernel) q;exact v8 (wpAny_typeOf hT (wb h))
theorem lr(a:Addr)(ks:List Int)(o:Obj)(es:Array (Int×v9))(ep:Nat)(t:xk):W.KdlSrc P w "set" a a es.size (fun i v=>((fg w a es ep)[i]?).map (·.2)=some v) (fun h=>SetI w h a ks o es ep t) where
 type:=fun _ x=>⟨o,x.at_,x.ex.1⟩
 there:=fun _ x=>⟨wl x.at_,wl x.at_⟩
 keep:=fun _ _ x k=>{x with at_:=k a (.inl rfl) o x.at_}
 notList:=by decide
 notTuple:=by decide
 hint:=fun _ _ _ _ x q=>ly x.ty q
 iter:=fun _ _ hh x=>⟨_,_,fun _ _ q=>lw x q,k_ hh _ (wT (wl x.at_)),
  ⟨0,⟨_,wu _ rfl,rfl,rfl⟩,.inr (gU _ (gz x.gd.up)),{x with at_:=wc _ x.at_}⟩⟩
theorem j6{acc:List v9}(x:SetI w s.heap a ks o es ep t)(hl:acc.length=es.size)(h:∀(i:Nat) v,acc[i]?=some v->((fg w a es ep)[i]?).map (·.2)=some v):∃ns,yY acc ns/\ns.Perm ks:=by
 have e:acc=(fg w a es ep).toList.map (·.2):=by
  refine List.ext_getElem (by
   have q:=(iH (w:=w) (a:=a) (es:=es) (ep:=ep)).1;rw[<- wd]at q
   rw[wp];omega) fun i h1 h2=>?_
  have q:=h i _ (wz h1);rw[<- xt,<- xf,wz h2]at q;exact(wL q).symm
 have key:∀l:List (Int×v9),uZ l->yY (l.map (·.2)) (l.map fun e=>iv e.2):=by
  intro l
  induction l with
  | nil=>intro _;exact .nil
  | cons y l ih =>
    intro h;obtain⟨n,u,rfl⟩:=h y wg;exact .cons n u (ih fun e m=>h e (wf _ m))
 have pm:=(iH (w:=w) (a:=a) (es:=es) (ep:=ep)).2;refine⟨_,by rw[e];exact key _ fun y m=>x.el y (pm.mem_iff.mp m),(pm.map _).trans x.ks⟩
theorem gE{Q:v9->v_->Prop}(hh:A.handled=none)(x:SetI w s.heap a ks o es ep t)(h64:ks.length<64)
 (h:∀(h0 h':Heap)(tk:Nat)(out:Array v9)(ns':List Int)(c:Nat),(∀b o,s.heap.get? b=some o->h0.get? b=some o)->(∀b o,h0.get? b=some o->h'.get? b=some o)->h'.get? h0.objs.size=some (BO "list" out c) ->
  yY out.toList ns'->ns'.Perm ks->ns'.Pairwise (· <= ·)->Q (.ref h0.objs.size) {s with heap:=h',toks:=tk}) :
 wM (wZ P w) A (call (.builtin "sorted") [.ref a]) Q E s:=by
 have sz:=wY;have hl:=x.len;refine Calls.call_function_entry kind_sorted plain_sorted entry_sorted (args_sorted1 (.ref a)) ?_;unfold Builtin.«sorted»;refine v8 (m:=checkCount "sorted" 1 1 _) (wb (v8 (W.kdu_collect (A:=A.in1) (lr a ks o es ep t) hh x (by omega) fun h0 tk acc k0 hacc=>v8 (wpAny_newList ?_ ?_))))
 · obtain⟨ns,iA,pn⟩:=j6 x (by rw[wd];exact hacc.1) fun i v e=>hacc.2 i v (by rw[<- xt];exact e);have l64:acc.toList.length<64:=by rw[iA.length,pn.length_eq];exact h64
   have hoL:(h0.push (BO "list" acc.toList.toArray 0)).get? h0.objs.size=some (BO "list" acc.toList.toArray 0):=wu _ rfl;show wM _ _ _ _ _ {s with heap:=h0.push (BO "list" acc.toList.toArray 0),toks:=tk};refine v8 (yi (xG slot_list_sort ⟨_,hoL,rfl⟩ entry_list_sort (list_sort_tree (s:={s with heap:=h0.push (BO "list" acc.toList.toArray 0),toks:=tk}) hoL iA l64 fun out ns' q1 q2 q3=>⟨_,rfl,?_⟩) (args_list_sort _)));have e1:=get?_update_seq hoL (fun _=>#[])
   have e2:((((h0.push (BO "list" acc.toList.toArray 0)).update h0.objs.size (Ah fun _=>#[])).push (BO "tuple" acc.toList.toArray 0)).push (BO "list" #[] 0)).get? h0.objs.size=_ :=
    wc _ (wc _ e1)
   have e3:=get?_update_seq e2 (fun _=>out);refine wb ⟨_,rfl,h h0 _ _ out ns' _ k0 (fun b ob eb=>?_) e3 q1 (q2.trans pn) q3⟩;have ne:h0.objs.size≠b:=Bl (wl eb);exact(yp _ _ ne).trans (wc _ (wc _ ((yp _ _ ne).trans (wc _ eb))))
 · rw[wd,hacc.1];omega
end
section
variable{X:Cx}
noncomputable def p6(w:wR)(K:W.Frag):List V->Hp->VK->Prop:=fun xs H Q=>∃(a:Addr)(ns:List Int),xs=[.ref a]/\vp K H a (ns.map V.int)/\ns.length<2000/\∀l,H l=none->Q (.ref l) (upd H l (.ext fun h=>gY w h l (met [] ns)))
theorem kv(hc:X.calm=true):cb X (.type "set") (p6 X.w X.K):=by
 intro pins s σ H xs us Q I r ⟨a,ns,ex,sq,hb,q⟩;subst ex;obtain⟨u,rfl,ru⟩:=vals1 r;cases ru;obtain⟨its,rv,p,hz⟩:=I.list sq;refine jm (I.ok.hd hc) p.isList (intsAre_of rv) hb fun h' tk hi k=>?_;refine⟨.ref s.heap.objs.size,_,I.laid (t':=tk) (o:=.ext fun h=>gY X.w h s.heap.objs.size (met [] ns)) k (we _) ⟨hi,?_,fun h1 h2 z y=>z.keep y⟩,rfl,q _ (I.hok.fresh (we _))⟩;obtain⟨o,_,_,_,z⟩:=hi;exact⟨o,z.at_⟩
noncomputable def lB(w:wR):List V->Hp->VK->Prop:=fun xs H Q=>∃(a:Addr)(ks:List Int),xs=[.ref a]/\H a=some (.ext fun h=>gY w h a ks)/\ks.length<64/\∀ns':List Int,ns'.Perm ks->ns'.Pairwise (· <= ·)->∀l,H l=none->Q (.ref l) (upd H l (.lst (ns'.map V.int)))
theorem jl(hc:X.calm=true):cb X (.builtin "sorted") (lB X.w):=by
 intro pins s σ H xs us Q I r ⟨a,ks,ex,e,h64,q⟩;subst ex;obtain⟨u,rfl,ru⟩:=vals1 r;cases ru;obtain⟨⟨o,es,ep,t,x⟩,_⟩:=(show cy X.prog X.w H s.heap a (.ext fun h=>gY X.w h a ks)from I.hok a _ e);refine gE (I.ok.hd hc) x h64 fun h0 h' tk out ns' c k0 k1 e a1 a2 a3=>?_;have I1:Inv X pins σ H {s with heap:=h0}:=I.kept (t':=s.toks) k0;have sz:=wY;refine⟨.ref h0.objs.size,_,I1.laid (t':=tk) (o:=.lst (ns'.map V.int)) k1 (we _) ⟨?_,out.toList,c,gw a1,by rw[Array.toArray_toList];exact e⟩,rfl,q ns' a2 a3 _ (I1.hok.fresh (we _))⟩;rw[wp,a2.length_eq];omega
end
end L2
namespace L2.VL
section
variable{X:Cx}{rl:Option Addr}{a b c o e:Expr}{es:List Expr}{fa fb fk fx:TV}{fs:vb}{pos p px p1 p2 pos2 apos cpos:Pos}{ρ:En}
noncomputable def uv(w:wR)(K:W.Frag):List V->Hp->VK->Prop:=fun vs H Q=>p6 w K vs H fun v H1=>lB w [v] H1 Q
noncomputable def kd:List W->(W->Prop)->Prop:=fun ws Q=>∃(v:W)(ns:List Int),ws=[v]/\v.dat=some (.list (ns.map .int))/\ns.length<64/\∀ns':List Int,ns'.Pairwise (· < ·)->(∀x,x∈ns'↔x∈ns)->Q (.ml (ns'.map .int))
theorem lg:c6 X rl (uv X.w X.K) kd:=fun{F H vs ws} Qd Q s ra r ⟨v,ns,ew,ed,hl,q⟩ k=>by
 subst ew;obtain⟨u,rfl,r1⟩:=jJ r;obtain⟨b,us,rfl,sq,rs⟩:=r1.items s ed;cases dL rs;have ml:=iP ns [];rw[yA]at ml;refine⟨b,ns,rfl,sq,by omega,fun l hl2=>⟨l,met [] ns,rfl,ai,by omega,fun ns' pm pw l2 hl3=>?_⟩⟩;have g1:=Grow.laid (o:=.ext fun h=>gY X.w h l (met [] ns)) s ra hl2;have g2:=Grow.laid (o:=.lst (ns'.map V.int)) g1.sub g1.reel hl3;have nd:ns'.Nodup:=pm.nodup_iff.mpr (kM ns [] List.nodup_nil);refine k _ (.ml _) _ _ (g1.trans g2) (dP g1.sub g1.reel hl3 gi) (fun a ea=>by cases ea;exact g1.freeB hl3) (q _ ((pw.and nd).imp fun{a b} z=>by have:=z.1;have:=z.2;omega) fun x=>?_);rw[pm.mem_iff,iO];simp
theorem eh(hc:X.calm=true)(hm:X.mg "sorted" = none)(hm2:X.mg "set" = none)(ha:vy X rl [a] fs)(hg:autoParam (Gl X "sorted") æa._auto_1)(hg2:autoParam (Gl X "set") æa._auto_1)
 (he:autoParam (wm [.Call (.Name "set" p2) [a] [] pos2] X.env=(false,eval (.Call (.Name "set" p2) [a] [] pos2) X.env)::wm [] X.env) æa._auto_1)(he2:autoParam (wm [a] X.env=(false,eval a X.env)::wm [] X.env) æa._auto_1)
 (hpl:autoParam ((yr pos (wm [] X.env)).any (·.1)=false) æa._auto_1)(hpl2:autoParam ((yr pos2 (wm [] X.env)).any (·.1)=false) æa._auto_1) :
 PV X rl (.Call (.Name "sorted" p) [.Call (.Name "set" p2) [a] [] pos2] [] pos) (cF kd fs):=by
 refine dF (t:=fun _=>tC .non) lg ha fun ta p1=>?_;show PE X _ (uj (lB X.w) (nw (uj (p6 X.w X.K) ta) rQ));exact bC (jl hc) hg hm (by rfl) (bc (cX (kv hc) hg2 hm2 (by rfl) p1 (by decide) (by decide) he2 hpl2) b7 he) (by decide) (by decide) he hpl
noncomputable def o0(w:W):Option (List Int):=match w.dat with
 | some (.list xs)=>df xs
 | _=>none
theorem mq:o0 w=some ns↔w.dat=some (.list (ns.map .int)):=by
 unfold o0;constructor
 · intro h;split at h
   · rename_i xs e;rw[e,cP h]
   · cases h
 · intro h;rw[h];exact aU ns
theorem iR(w:W):kd [w]=am (o0 w) fun ns=>uT (ns.length<64) (u0 (anyM fun ns':List Int=>ns'.Pairwise (· < ·)/\∀x,x∈ns'↔x∈ns) fun ns'=>ret (.ml (ns'.map .int))):=by
 refine ac fun Q=>?_;simp only[kd,ae,ret,uT,u0,anyM,wH,and_true,mq];constructor
 · rintro⟨v,ns,rfl,e,a,q⟩;exact⟨ns,e,a,fun n' ⟨h1,h2⟩=>q n' h1 h2⟩
 · rintro⟨ns,e,a,q⟩;exact⟨w,ns,rfl,e,a,fun n' h1 h2=>q n' ⟨h1,h2⟩⟩
theorem k5(ns:List Int):o0 (.pk (ns.map .int))=some ns:=aU ns
end
end L2.VL
namespace L2.RT
theorem iG:Manifest.owners.lookup (String.ofList ['d','e','s','r','e','v','e','r'].reverse)=some Manifest.sig_reversed:=by kernel_rfl
theorem b6:Slot "reversed" "__next__" "reversed.__next__" :=
 .of (owner := "reversed") (n := "__next__") (by rw[yH,xS];kernel_rfl) (by decide +kernel) (by decide +kernel) (by decide +kernel)
  (by first|exact .inl (by decide +kernel)|exact .inr (by decide +kernel)) (by rw[x_];kernel_rfl)
theorem dw:Bw table "reversed.__next__" = some Builtin.«reversed.__next__»:=entryFor_of_tree (by kernel_rfl)
theorem ff(a:v9):BM "reversed.__next__" ⟨[a],[]⟩:=by
 unfold BM;rw[Ar (id := "reversed.__next__") (n:=['_','_','t','x','e','n','_','_']) (o:=['d','e','s','r','e','v','e','r']) (by kernel_rfl) iG];kernel_rfl
theorem eB:Slot "reversed" "__iter__" "reversed.__iter__" :=
 .of (owner := "reversed") (n := "__iter__") (by rw[yH,xS];kernel_rfl) (by decide +kernel) (by decide +kernel) (by decide +kernel)
  (by first|exact .inl (by decide +kernel)|exact .inr (by decide +kernel)) (by rw[x_];kernel_rfl)
theorem jr(a:v9):BM "reversed.__iter__" ⟨[a],[]⟩:=by
 unfold BM;rw[Ar (id := "reversed.__iter__") (n:=['_','_','r','e','t','i','_','_']) (o:=['d','e','s','r','e','v','e','r']) (by kernel_rfl) iG];kernel_rfl
theorem gR:Bw table "reversed.__iter__" = some Builtin.«dict_keyiterator.__iter__» :=
 AW (id' := "dict_keyiterator.__iter__") (by kernel_rfl) (by first|rfl|decide +kernel|(unfold String.splitOn;simp +decide [String.splitOnAux])) (by decide +kernel) (by kernel_rfl)
theorem ie:Slot "reversed" "__init__" "object.__init__" :=
 .of (owner := "object") (n := "__init__") (by rw[yH,xS];kernel_rfl) (by decide +kernel) (by decide +kernel) (by decide +kernel)
  (by first|exact .inl (by decide +kernel)|exact .inr (by decide +kernel)) (by rw[x_];kernel_rfl)
theorem oX:TypeCalled "reversed" "reversed.__new__" "object.__init__" :=
 ⟨by decide +kernel,by decide +kernel,⟨_,_,F.mro_reversed⟩,F.made_reversed,by decide +kernel,by rw[x_];kernel_rfl,ie⟩
theorem h7:typeLookup (.type "tuple") "__reversed__" = pure none:=by rw[yH,xS];kernel_rfl
theorem gC:isSubtype (.type "tuple") (.type "dict")=pure false:=by rw[x_];kernel_rfl
noncomputable def rObj(a:Addr)(i:Int):Obj:={cls:=.type "reversed", data:=.fields #[.ref a,zB i]}
noncomputable def IsRv(h:Heap)(r a:Addr)(i:Int):Prop:=∃o,h.get? r=some o/\o.cls = .type "reversed" /\ o.data = .fields #[.ref a,zB i]
section
variable{prog:wD}{w:wR}{A:wS}{E:v9->v_->Prop}{s:v_}
theorem IsRv.typeIs{i:Int}(x:IsRv s.heap r a i):s.TypeIs (.ref r) "reversed" := let ⟨o,ho,hc,_⟩:=x;⟨o,ho,hc⟩
theorem IsRv.at{h':Heap}{i:Int}(x:IsRv h r a i)(e:∀o,h.get? r=some o->h'.get? r=some o):IsRv h' r a i:=let ⟨o,ho,z⟩:=x;⟨o,e _ ho,z⟩
theorem iM(t:Addr)(xs:Array v9)(hz:(xs.size:Int)<2^63) :
 Meets (Builtin.«reversed.__new__» ⟨[.type "reversed", .ref t],[]⟩) (fun _ R s=>IsTup s.heap t xs/\∀tk,R (.ok (.ret (.ref s.heap.objs.size))) {s with heap:=s.heap.push (rObj t ((xs.size:Int)-1)),toks:=tk}) :=
 .of_wp fun prog w A R s h=>by
  obtain⟨ht,h⟩:=h;unfold Builtin.«reversed.__new__»;refine v8 (yG (newClass_reversed _) ?_)
  try dsimp only
  refine v8 (yG (a:=()) (by first|rfl|kernel_rfl) ?_);refine v8 (yG (a:=()) (by first|rfl|kernel_rfl) ?_)
  try dsimp only
  refine v8 (zW ht.typeIs h7 ?_)
  try dsimp only
  refine v8 (v8 (zA ht.typeIs gC ?_));refine v8 (zW ht.typeIs F.slot_tuple_getitem.lookup ?_)
  try dsimp only
  rw[if_pos (by decide +kernel)];refine wb ?_
  try dsimp only
  rw[if_neg (by decide)];refine v8 (len_tuple ht hz ?_);refine v8 (yG (a:=some (xs.size:Int)) rfl ?_)
  try dsimp only
  show wM _ _ (newObj (.type "reversed") (.fields #[.ref t,zB ((xs.size:Int)-1)]) >>= _) _ _ _;refine v8 (wW ?_ (by size_fits));exact wb ⟨_,rfl,h _⟩
theorem call_rev{t:Addr}{xs:Array v9}{Q:v9->v_->Prop}(ht:IsTup s.heap t xs)(hz:(xs.size:Int)<2^63)
 (h:∀tk,Q (.ref s.heap.objs.size) {s with heap:=s.heap.push (rObj t ((xs.size:Int)-1)),toks:=tk}):wM (wZ prog w) A (call (.type "reversed") [.ref t]) Q E s :=
 callType_new oX (by decide) (F.typeCall_reversed_1 _) (F.newCall_reversed_1 _) (fun u=>F.args_object_init_2 u _) F.entry_reversed_new (iM t xs hz) ⟨ht,fun tk=>⟨⟨_,wu _ rfl,rfl⟩,h tk⟩⟩
theorem next_item{t:Addr}{xs:Array v9}{x:v9}{Q:Option v9->v_->Prop}(hr:IsRv s.heap r t (i:Int))(ht:IsTup s.heap t xs)(hx:xs[i]?=some x)(hz:(xs.size:Int)<2^63)
 (hQ:∀h' tk,IsRv h' r t ((i:Int)-1)->yy r s.heap h'->Q (some x) {s with heap:=h',toks:=tk}):wM (wZ prog w) A (As (.ref r)) Q E s:=by
 obtain⟨o,ho,hc,hd⟩:=id hr;have hi:i<xs.size:=(Array.getElem?_eq_some_iff.mp hx).1;unfold As
 refine v8 (zH (xA (name:=yD "__next__") hr.typeIs b6
  (xG b6 hr.typeIs dw ?_ (ff _))))
 unfold Builtin.«reversed.__next__»;refine v8 (yG (a:=(zK r,[])) rfl ?_)
 try dsimp only
 refine v8 (yZ ho hd (x:=.ref t) rfl ?_);refine v8 (yZ ho hd (x:=zB (i:Int)) rfl ?_);show wM _ _ (if(i:Int)<0 then _ else _) _ _ s;rw[if_neg (by omega)];refine v8 (zW ht.typeIs F.slot_tuple_getitem.lookup ?_);rw[if_neg (by decide)];refine v8 (wpAny_mkInt ?_);refine v8 (zH (getItem_tuple (s:={s with toks:=s.toks+1}) ht (by omega) (by omega) (A4 (by omega) (by omega)) (x:=x) (by rw[xp];exact hx) ?_))
 try dsimp only
 refine v8 (yZ (s:={s with toks:=s.toks+1}) ho hd (x:=zB (i:Int)) rfl ?_);show wM _ _ (setField (.ref r) 1 (zB ((i:Int)-1)) >>= _) _ _ _;refine v8 (yT (s:={s with toks:=s.toks+1}) ho hd (by simp) ?_);refine wb ⟨x,rfl,wb (hQ _ _ ?_ (xo ..))⟩
 exact⟨_,xQ _ ho (yI (xE hd _)),(Ak ..).trans hc,by
  rw[xE hd];simp⟩
theorem next_end{t:Addr}{Q:Option v9->v_->Prop}(hh:A.handled=none)(hr:IsRv s.heap r t (-1))
 (hQ:∀h',BN r s.heap h'->Q none {s with heap:=h' }):wM (wZ prog w) A (As (.ref r)) Q E s:=by
 obtain⟨o,ho,hc,hd⟩:=id hr;unfold As
 refine v8 (zH (xA (name:=yD "__next__") hr.typeIs b6
  (xG b6 hr.typeIs dw ?_ (ff _))))
 unfold Builtin.«reversed.__next__»;refine v8 (yG (a:=(zK r,[])) rfl ?_)
 try dsimp only
 refine v8 (yZ ho hd (x:=.ref t) rfl ?_);refine v8 (yZ ho hd (x:=zB (-1)) rfl ?_);show wM _ _ (if(-1:Int)<0 then _ else _) _ _ s;rw[if_pos (by decide)];refine v8 (wpAny_rule ?_);refine v8 (v8 (yT ho hd (by simp) ?_));have ho2:=xQ (ym (·.setIfInBounds 1 (zB (-1)))) ho (yI (xE hd _));refine yT (s:={s with heap:=s.heap.update r (ym (·.setIfInBounds 1 (zB (-1))))}) ho2 (xE hd _) (by simp) ?_;have eb:BN r s.heap ((s.heap.update r (ym (·.setIfInBounds 1 (zB (-1))))).update r (ym (·.setIfInBounds 0 yK))):=fun b o hb e=>(xo ..).extBut b o hb ((xo ..).extBut b o hb e);generalize ((s.heap.update r (ym (·.setIfInBounds 1 (zB (-1))))).update r (ym (·.setIfInBounds 0 yK)))=g at eb ⊢
 first
 | show wM _ _ (newExc (.type "StopIteration") [] >>= _) _ _ _
 | (refine v8 ?_;show wM _ _ (newExc (.type "StopIteration") [] >>= _) _ _ _)
 refine v8 ?_;simp only[newExc,newTuple];refine v8 (wW ?_ (by size_fits));refine v8 (m:=Ae _ _) (yG (a:=yK) (by first|rfl|(simp only[Ae];rfl)) ?_);refine wW ?_ (by size_fits);simp only[raiseNew];refine v8 (wpAny_handled ?_)
 first|rw[show A.in1.handled=none from hh]|rw[hh]
 refine v8 (wb (wpAny_throw ?_));refine v8 (zA (T := "StopIteration") (b:=true) ⟨_,wu _ rfl,rfl⟩ isSubtype_stop ?_);exact wb (hQ _ ((eb.push _).push _))
theorem iter_self{t:Addr}{i:Int}{Q:v9->v_->Prop}(hr:IsRv s.heap r t i)(h:Q (.ref r) s):wM (wZ prog w) A (pyIter (.ref r)) Q E s:=by
 refine Aj hr.typeIs eB (xG eB hr.typeIs gR ?_ (jr _));show wM _ _ (ret (.ref r)) _ _ s;exact wb ⟨_,rfl, "reversed", _,hr.typeIs,b6.lookup,h⟩
end
end L2.RT
namespace L2
noncomputable def vQ(K:W.Frag)(a:Addr)(n:Nat):It :=
 ⟨fun i H=>i<n/\∃xs,vj K H a xs/\xs.length=n,fun i H x H'=>H'=H/\∀xs,vj K H a xs->xs[n-1-i]?=some x,fun i H=>n<=i⟩
theorem hX{P:wD}{w:wR}{K:W.Frag}(a it:Addr)(n:Nat):Turn P w K tg (vQ K a n) [it] it (fun i h=>RT.IsRv h it a ((n:Int)-1-(min i n:Nat))) where
 mem:=by simp
 obj:=fun i h st b hb=>by
  have e:b=it:=by simpa using hb
  subst e;obtain⟨o,e,c,d⟩:=st;exact⟨o,e,fun v z=>by rw[d]at z;cases z⟩
 keep:=fun i h h' st k=>st.at fun o e=>k it (by simp) o e
 item:=by
  intro X hP hw hK hc i pins s σ H E I hf st hg;subst hP hw hK;obtain⟨hi,xs,hq,hl⟩:=hg;obtain⟨its,rv,p,hz⟩:=I.tuple hq;have hx:xs[n-1-i]?=some xs[n-1-i]:=wz (by omega);obtain⟨u,hu,ru⟩:=rv.get hx;obtain⟨f0,f1,f2,f3,f4,f5⟩:=hf it (by simp);have e1:(n:Int)-1-(min i n:Nat)=((n-1-i:Nat):Int):=by omega
  rw[e1]at st;have hl2:=rv.length;have sz:=wY;refine RT.next_item st p (x:=u) (by simpa using hu) (by rw[wk];omega) fun h' tk st' sb=>?_;have I1:Inv X pins σ H {s with heap:=h',toks:=tk}:=I.turned (t':=tk) (fun b o hb e=>(sb.2 b hb).trans e) f0 f1 f3 f4 f5;have e2:((n-1-i:Nat):Int)-1=(n:Int)-1-(min (i+1) n:Nat):=by omega
  rw[e2]at st';obtain⟨o,e,c,d⟩:=id st';exact⟨u,rfl,j_ (s:={s with heap:=h',toks:=tk}) e c d (by decide) ⟨_,H,I1,ru,⟨rfl,fun ys hy=>by rw[I.tuple_inj hy hq];exact hx⟩,st',fun b hb=>(hf b hb).1⟩⟩
 done:=by
  intro X hP hw hK hc i pins s σ H E I hf st hg;subst hP hw hK;have hg:n<=i:=hg;obtain⟨f0,f1,f2,f3,f4,f5⟩:=hf it (by simp);have e1:(n:Int)-1-(min i n:Nat) = -1:=by omega
  rw[e1]at st;exact RT.next_end (I.ok.hd hc) st fun h' eb=>⟨rfl,I.turned (t':=s.toks) (fun b o hb e=>eb b o hb e) f0 f1 f3 f4 f5⟩
 self:=fun _ _ _ _ _ st h=>RT.iter_self st h
section
variable{X:Cx}{tg e:Expr}{ta te:TE}{p p2 pos:Pos}
noncomputable def qi(K:W.Frag)(t:TA):TI:=fun σ H R=>t σ H fun vs H1=>∃a xs,vs=[.ref a]/\vj K H1 a xs/\R (vQ K a xs.length) H1
theorem lM{a:Expr}{ta:TA}(hg:Gl X "reversed")(hm:X.mg "reversed" = none)(ha:PA X [a] ta)(hs:autoParam (wm [a] X.env=[(false,eval a X.env)]) æa._auto_1):PI X tg (.Call (.Name "reversed" p) [a] [] pos) (qi X.K ta):=by
 intro pins s σ H R I h;refine Call_ (gh I hg hm (by rfl) (yz (ud (ha pos pins s σ H _ I h) fun us s1 ⟨vs,H1,I1,r1,q1⟩=>?_) hs rfl) (by decide) (by decide));obtain⟨a,xs,e,hq,q⟩:=q1;subst e
 cases r1 with
 | cons r rr =>
   cases rr;cases r;obtain⟨its,rv,p,hz⟩:=I1.tuple hq;have hl:=rv.length;have sz:=wY;refine RT.call_rev p (by rw[wk];omega) fun tk=>?_;refine RT.iter_self (r:=s1.heap.objs.size) (t:=a) (i:=(xs.length:Int)-1) ⟨_,wu _ rfl,rfl,by simp[hl,RT.rObj]⟩ ?_;refine⟨s1.heap.objs.size,[s1.heap.objs.size],_,_,H1,rfl,I1.kept (t':=tk) fun b o e=>wc _ e,hX a _ xs.length,?_,fun b hb=>?_,q⟩
   · exact⟨_,wu _ rfl,rfl,by simp[hl,RT.rObj]⟩
   · have e:b=s1.heap.objs.size:=by simpa using hb
     subst e;exact I1.fpOk (we _) (I1.hok.fresh (we _))
end
end L2
namespace L2.VL
section
variable{X:Cx}{rl:Option Addr}{a b c e tg:Expr}{es:List Expr}{fa fb fc:TV}{fs:vb}{pos pos2 p p2 q:Pos}
noncomputable def sa(fs:vb):En->(List v7->Prop)->Prop:=fun ρ Q=>fs ρ fun ws=>∃xs,ws=[.d (.tuple xs)]/\Q xs.reverse
theorem d9(hm:X.mg "reversed" = none)(ha:vy X rl [a] fs)(hg:autoParam (Gl X "reversed") æa._auto_1)(hs:autoParam (wm [a] X.env=[(false,eval a X.env)]) æa._auto_1):vD X rl tg (.Call (.Name "reversed" p) [a] [] pos) (sa fs):=by
 obtain⟨t,p1,k⟩:=ha;refine⟨_,lM hg hm p1 hs,fun R Qd Q q h=>k R _ _ q fun vs ws F1 H1 g1 r1 ⟨xs,ew,q1⟩=>?_⟩;subst ew;obtain⟨v,rfl,rv⟩:=jJ r1;have rv:Rep X.K F1 v (.tuple xs):=rv
 obtain⟨a,vs,rfl,sq0,rs⟩:∃a vs,v = .ref a/\(∀H,aS F1 H->vj X.K H a vs)/\Reps X.K F1 vs xs:=by
  cases rv with
  | @tup a vs _ sq rs=>exact⟨a,vs,rfl,fun H s=>dJ s sq,rs⟩
 have sqH:∀H,aS F1 H->vj X.K H a vs:=fun H s=>sq0 H s;have hl:=rs.length;refine⟨a,vs,rfl,sqH H1 g1.sub,h _ xs.reverse F1 H1 g1 (.of (fun i H x e s=>⟨?_,vs,sqH H s,rfl⟩) (fun i H hl' s=>?_) (fun i H v H' x e s y=>?_)) q1⟩
 · have:=(wo.mp e).1;rw[xK]at this;omega
 · show vs.length<=i;rw[xK]at hl';omega
 · obtain⟨e',hy⟩:=y;obtain⟨v',ev,rv'⟩:=rs.rev.get e;have h1:=hy vs (sqH H s)
   have hi:i<vs.length:=by
    have:=(wo.mp ev).1;simpa using this
   rw[List.getElem?_reverse hi,h1]at ev;cases ev;exact⟨e',rv'⟩
noncomputable def og:List W->Option (List v7)
 | [.d (.tuple xs)]=>some xs
 | _=>none
theorem lU{ws:List W}{xs:List v7}:og ws=some xs↔ws=[.d (.tuple xs)]:=by
 constructor
 · intro h;unfold og at h;split at h
   · cases h;rfl
   · cases h
 · rintro rfl;rfl
theorem kN:sa fs ρ=u0 (fs ρ) fun ws=>am (og ws) fun xs=>ret xs.reverse:=by
 show(u0 (fs ρ) fun ws=>fun(Q:List v7->Prop)=>∃xs,ws=[.d (.tuple xs)]/\Q xs.reverse)=_;congr 1;funext ws;refine ac fun Q=>?_;simp only[ae,lU,ret]
end
section
variable{X:Cx}{rl:Option Addr}{a b c o e:Expr}{es:List Expr}{fa fb:TV}{fs:vb}{pos p apos cpos:Pos}{ρ:En}
end
end L2.VL
namespace L2
section
variable{prog:wD}{w:wR}{A:wS}{E:v9->v_->Prop}{s:v_}
end
section
variable{X:Cx}
end
end L2
namespace L2.VL
section
variable{X:Cx}{rl:Option Addr}{e:Expr}{fa:TV}{pos:Pos}{ρ:En}
end
section
variable{X:Cx}{rl:Option Addr}{a b e:Expr}{fa fb:TV}{pos:Pos}{ρ:En}
end
end L2.VL
namespace L2
section
variable{X:Cx}
theorem dS{its:List v9}(r:bm (ns.map V.int) its){v:v9}(e:its[i]?=some v):∃t,v = .int (ns.getD i 0) t:=by
 have hl:=r.length;rw[wp]at hl;have hi:i<ns.length:=by have:=(wo.mp e).1;omega
 have hb:(ns.map V.int)[i]?=some (.int ns[i]):=by simp[hi]
 obtain⟨u,hu,ru⟩:=r.get hb;rw[e]at hu;cases hu;have:ns.getD i 0=ns[i]:=by simp[List.getD,hi]
 rw[this];exact ru
theorem preSum_eq(ns:List Int):preSum (fun i=>ns.getD i 0) ns.length=ns.sum:=by
 have key:∀k,k<=ns.length->preSum (fun i=>ns.getD i 0) k=(ns.take k).sum:=by
  intro k
  induction k with
  | zero=>intro _;rfl
  | succ k ih =>
    intro hk;have hk':k<ns.length:=by omega
    show preSum _ k+ns.getD k 0=_;rw[ih (by omega),ya hk',AH];simp[List.getD,hk']
 rw[key _ (we _),xI (we _)]
theorem jk(hc:X.calm=true):cb X (.builtin "sum") (fun xs H Q=>∃(p:Addr)(ns:List Int),xs=[.ref p]/\vp X.K H p (ns.map V.int)/\Q (.int ns.sum) H):=by
 intro pins s σ H xs us Q I r ⟨p,ns,ex,hq,q⟩;subst ex;obtain⟨u,rfl,ru⟩:=vals1 r;cases ru;obtain⟨its,rv,pl,hz⟩:=I.list hq;have hl:=rv.length;rw[wp]at hl;refine call_sum_walkG (Ag pl.isList ?_);have ne:p≠s.heap.objs.size:=by obtain⟨o,ho,_⟩:=pl.isList;exact wT (wl ho)
 refine⟨s.heap.objs.size,_,_,_,_,_,fun i=>ns.getD i 0,rfl,Walks.list (A:=X.A.in1) (I.ok.hd hc) s.heap.objs.size p ne its.toArray,⟨⟨_,wu _ rfl,rfl,rfl⟩,pl.isList.push _⟩,?_,?_,?_⟩
 · intro b hb;have hb:b=s.heap.objs.size\/b=p:=by simpa using hb
   show b<(Heap.push _ _).objs.size;rw[yo];rcases hb with rfl|rfl
   · exact Au _
   · obtain⟨o,ho,_⟩:=pl.isList;exact Nat.lt_succ_of_lt (wl ho)
 · intro i v hP;exact dS rv (by simpa using hP)
 · intro h' tk t' k;have e:preSum (fun i=>ns.getD i 0) its.toArray.size=ns.sum:=by rw[wk,<- hl];exact preSum_eq ns
   rw[e];exact⟨.int _,H,I.kept (t':=tk) fun b o eb=>k b o (by simp;exact wT (wl eb)) (wc _ eb),⟨t',rfl⟩,q⟩
end
end L2
namespace L2.VL
section
variable{X:Cx}{rl:Option Addr}{a:Expr}{fs:vb}{pos p:Pos}
noncomputable def qq:List W->(W->Prop)->Prop:=fun ws Q=>∃(w:W)(ns:List Int),ws=[w]/\w.dat=some (.list (ns.map .int))/\Q (.d (.int ns.sum))
theorem mO:c6 X rl (fun xs H Q=>∃(p:Addr)(ns:List Int),xs=[.ref p]/\vp X.K H p (ns.map V.int)/\Q (.int ns.sum) H) qq:=fun{F H vs ws} Qd Q s ra r ⟨w,ns,ew,ed,q⟩ k=>by
 subst ew;obtain⟨v,rfl,r1⟩:=jJ r;obtain⟨a,us,rfl,sq,rs⟩:=r1.items s ed;have e:=dL rs;subst e;exact⟨a,ns,rfl,sq,k _ (.d _) _ _ (Grow.refl s ra) (.int _) trivial q⟩
theorem v_sum(hm:X.mg "sum" = none)(ha:vy X rl [a] fs)(hc:autoParam (X.calm=true) æa._auto_1)(hg:autoParam (Gl X "sum") æa._auto_1)(he:autoParam (wm [a] X.env=(false,eval a X.env)::wm [] X.env) æa._auto_1)(hpl:autoParam ((yr pos (wm [] X.env)).any (·.1)=false) æa._auto_1) :
 PV X rl (.Call (.Name "sum" p) [a] [] pos) (cF qq fs):=ce (jk hc) mO hm (by rfl) ha hg (by decide) (by decide) he hpl
noncomputable def l8:v7->Option (List Int)
 | .list xs=>df xs
 | _=>none
theorem pc{d:v7}:l8 d=some ns↔d = .list (ns.map .int):=by
 constructor
 · intro h
   cases d with
   | list xs=>rw[cP h]
   | _=>cases h
 · rintro rfl;exact aU _
theorem m_gSum(w:W):qq [w]=am (w.dat.bind l8) fun ns=>ret (.d (.int ns.sum)):=by
 refine ac fun Q=>?_;rw[ae];constructor
 · rintro⟨w',ns,e,ed,q⟩;cases e;exact⟨ns,by rw[ed];exact aU ns,q⟩
 · rintro⟨ns,e,q⟩
   cases ed:w.dat with
   | none=>rw[ed]at e;cases e
   | some d =>
     rw[ed]at e;exact⟨w,ns,rfl,by rw[ed,pc.mp e],q⟩
theorem intsO_l(ns:List Int):l8 (.list (ns.map .int))=some ns:=aU ns
noncomputable def vZ:=v6 @m_gSum (@intsO_l)
end
end L2.VL
namespace K48
open PySem PySem.Spec PyProof.Rows L2 L2.VL
set_option bootstrap.genMatcherCode true in
local macro_rules | `(tactic| simp_arith only [$xs,*])=>`(tactic| simp (maxSteps:=2000000) (disch:=(first | assumption | omega | decide)) only [qN,qQ,qT,qS,qR,qG,qF,qJ,qI,qH,qP,qO,qM,qL,qK,pq,ut,ur,cq,bQ,gZ,W.cap,uJ,List.replicate,id,↓reduceIte,if_true,Nat.reduceAdd,Nat.reduceSub,Nat.reduceLeDiff,Int.cast_ofNat_Int,Int.reduceBEq,Int.reduceSub,Int.reduceAdd,Int.reduceLT,Int.reduceLE,Int.reduceMul,Int.reduceNeg,reduceCtorEq,eU,$xs,*])
set_option bootstrap.genMatcherCode true in
local macro_rules | `(tactic| simp_arith only [$xs,*] at $h:ident)=>`(tactic| simp only [List.cons.injEq,W.d.injEq,PyData.int.injEq,PyData.bool.injEq,PyData.str.injEq,PyData.list.injEq,PyData.tuple.injEq,fU,jU,jF,bU,and_true,true_and,reduceCtorEq,$xs,*] at $h:ident)
section
variable{P:wD}{w:wR}{K:xW}{mg:Str->Option v9}{base:Heap}{rl:Option Addr}
noncomputable def o9(ws:List W):Prop:=∃ns:List Int,ws=[.sc ns]/\ns.length<=63
theorem o9.eq(h:ns.length<=63):o9 [.sc ns]=True:=propext ⟨fun _=>trivial,fun _=>⟨ns,rfl,h⟩⟩
theorem eI:FnScope ["_law_script"] ["_law_script"] (defScope (ub 19)):=⟨rfl,rfl,rfl,by decide +kernel,rfl,by decide +kernel,by decide +kernel⟩
theorem d__law_feed(Fn:FnIn K mg "_law_feed" (ub 19) ["_law_script"])(Z:Bz mg):DfnR P w K mg base "_law_feed" ["_law_script"] 1 o9:=by
 obtain⟨f,fd,hm,Ff,hb⟩:=Fn.ex;refine⟨f,fd,hm,Ff.kp,hb,?_⟩;refine Ff.ok eI (fun vs H Q E h=>?_) (fun cdv A outer s H vs Q E hr h=>?_)
 · obtain⟨F,ws,_,r,_,⟨ns,rfl,_⟩,_⟩:=h;have:=zF r;simpa using this
 · obtain⟨F,ws,sm,r,ao,⟨ns,rfl,hl⟩,k⟩:=h;obtain⟨v,rfl,⟨a,rfl,hS⟩⟩:=jJ r;refine⟨_,bS (fY (kI (bc (cX eY rfl Z.list_ (by rfl) (bc (jP lu (pv 0) lL (iC aj)) b7)) (bc aj (bc aj (bc aj b7)))))),?_⟩;refine⟨_,rfl,63,rfl,a,ns.map V.int,rfl,jH sm hS,fun q hq=>?_⟩;refine⟨q,_,rfl,.inl (.inl (.inl ai)),fun c hc=>?_⟩;refine⟨(by show 4<=sizeLine;decide),fun p hp=>?_⟩;rw[ko hl]at *;have hcq:c≠q:=fun z=>by rw[z,ai]at hc;cases hc
   have hpc:p≠c:=fun z=>by rw[z,ai]at hp;cases hp
   have hpq:p≠q:=fun z=>by rw[z,upd_ne hcq.symm,ai]at hp;cases hp
   have hp0:H p=none:=by
    have:=hp;rw[upd_ne hpc,upd_ne hpq]at this;exact this
   have hc0:H c=none:=by
    have:=hc;rw[upd_ne hcq]at this;exact this
   have fc:F c=none:=sm.free hc0;have fp:F p=none:=sm.free hp0;have fq:F q=none:=sm.free hq;have nF:∀b u,F b=some u->b≠c/\b≠p/\b≠q:=fun b u e=>⟨(fun z=>by subst z;rw[fc]at e;cases e),(fun z=>by subst z;rw[fp]at e;cases e),(fun z=>by subst z;rw[fq]at e;cases e)⟩;have nH:∀b u,H b=some u->b≠c/\b≠p/\b≠q:=fun b u e=>⟨aw e hc0,aw e hp0,aw e hq⟩;refine k p (upd F c (.lst (ns.map V.int))) _ hp0 ⟨fun b o e _=>?_,fun b o e=>?_,fun b o e=>?_,fun b o e=>?_,fun _ z=>by cases z⟩ (fun r e=>?_)
   · obtain⟨n1,n2,n3⟩:=nH b o e;rw[upd_ne n2,upd_ne n1,upd_ne n3];exact e
   · rw[upd_ne (nF b o e).1];exact e
   · by_cases hb:b=c
     · subst hb;rw[ai]at e;rw[upd_ne hpc.symm,ai];exact e
     · rw[upd_ne hb]at e;obtain⟨n1,n2,n3⟩:=nF b o e;rw[upd_ne n2,upd_ne n1,upd_ne n3];exact sm b o e
   · rw[upd_ne (nH b o e).1]
   · cases e;exact⟨by rw[upd_ne hpc];exact fp,⟨_,ai,c,ns,0,0,0,rfl,ai,hl,by decide,by decide,by decide⟩⟩
theorem dO.eq(m:Int)(hm:0<m)(hb:m<2^60):dO [.reel,.d (.int m)]=u0 (anyM fun k:Int=>0<=k/\k<m) fun k=>VL.ret (.int k:v7):=by
 refine ac fun Q=>⟨?_,fun q_=>⟨m,rfl,hm,hb,fun k a b=>q_ k ⟨a,b⟩⟩⟩;rintro⟨m',e_,_,_,q_⟩;simp only[wH,W.d.injEq,zz,and_true,true_and]at e_;subst e_;exact fun k h=>q_ k h.1 h.2
theorem p__law_draw.eq(m:Int)(hm:0<m)(hb:m<2^60):dO [.reel,.d (.int m)]=u0 (anyM fun k:Int=>0<=k/\k<m) fun k=>VL.ret (.int k:v7):=dO.eq m hm hb
theorem eJ:FnScope ["_law_feed_here", "_law_many", "_law_found", "_law_cell", "_law_stirred"] ["_law_feed_here", "_law_many"] (defScope (ub 20)):=⟨rfl,rfl,rfl,by decide +kernel,rfl,by decide +kernel,by decide +kernel⟩
theorem d__law_draw(Fn:FnIn K mg "_law_draw" (ub 20) ["_law_feed_here", "_law_many"])(Z:Bz mg):Dfn P w K mg base rl "_law_draw" ["_law_feed_here", "_law_many"] 2 dO:=by
 have sc:=eJ;refine Dfn.hand Fn sc dO.mono dO.len ?_;intro f cdv A outer s H E vs ws F Q Qv hr sm ra rw' hq fin;obtain⟨m,rfl,hm,hb,q⟩:=hq;have hm0:m≠0:=by omega
 have hmd:∀i:Int,bP i m:=fun i=>bP.of hm0 (by omega);obtain⟨v,u,rfl,⟨r,er,ev⟩,r2⟩:=p5 rw';subst ev er;have eu:=aT r2;subst eu;obtain⟨fr,⟨o,ho,c,ns,a,l,t,rfl,hc,hl,ha,hl0,ht⟩⟩:=ra r rfl;have hcr:c≠r:=fun z=>by rw[z,fr]at hc;cases hc
 have hcH:H c=some (.lst (ns.map V.int)):=sm _ _ hc
 have out:∀(k a l t:Int),0<=k->k<m->0<=a->0<=l->0<=t->Qv (.int k) (upd H r (uY c a l t)):=fun k a l t h1 h2 h3 h4 h5 =>
  fin _ F _ (.int k) (Grow.turn sm ra ⟨c,ns,a,l,t,rfl,hc,hl,h3,h4,h5⟩) (.int k) (q k h1 h2)
 have g0:∀{a l t:Int},(upd H r (uY c a l t)) r=some (.lst [.ref c,.int a,.int l,.int t]):=ai;have gc:∀{a l t:Int},(upd H r (uY c a l t)) c=some (.lst (ns.map V.int)):=by intro a l t;rw[upd_ne hcr];exact hcH
 have i0:∀{x0 x1 x2 x3:V},L2.atI [x0,x1,x2,x3] 0=some x0:=rfl;have i1:∀{x0 x1 x2 x3:V},L2.atI [x0,x1,x2,x3] 1=some x1:=rfl;have i2:∀{x0 x1 x2 x3:V},L2.atI [x0,x1,x2,x3] 2=some x2:=rfl;have i3:∀{x0 x1 x2 x3:V},L2.atI [x0,x1,x2,x3] 3=some x3:=rfl;have fm:∀i:Int,0<=i.fmod m/\i.fmod m<m:=fun i=>⟨xh _ hm,xU _ hm⟩
 refine⟨_,(aN (eO (bB dr (bv aM (pv 0) aj (fun _ _=>rfl)) aj) (f_ (pv 0) aj cN))
  (aN (fX xF (nQ (ci qc (bv aM (pv 0) aj (fun _ _=>rfl)) aj (aQ _)) (lE (ci lT (bv aM (pv 0) aj (fun _ _=>rfl)) (bC bu (by rfl) Z.len_ (by rfl) (bc (bv aM (pv 0) aj (fun _ _=>rfl)) b7)) (aQ _)))).pt (aN (jM (ci qa (bC d4 (by rfl) Z.abs_ (by rfl) (bc (bv aM (bv aM (pv 0) aj (fun _ _=>rfl)) (bv aM (pv 0) aj (fun _ _=>rfl)) (fun _ _=>rfl)) b7)) (bB kK aj aj) (aQ _)) (bS (eO (bC d4 (by rfl) Z.abs_ (by rfl) (bc (bv aM (bv aM (pv 0) aj (fun _ _=>rfl)) (bv aM (pv 0) aj (fun _ _=>rfl)) (fun _ _=>rfl)) b7)) (f_ (pv 0) aj cN))) dN)
  (bS (eO (bB dr (bv aM (pv 0) aj (fun _ _=>rfl)) aj) (f_ (pv 0) aj cN)))))
  (aN (jM (ci fC (bv aM (pv 0) aj (fun _ _=>rfl)) aj (aQ _)) (aN (cC (i:=2) sc.nd rfl (zC rfl) (bB bJ (bv aM (pv 0) aj (fun _ _=>rfl)) (pv 1)))
  (aN (eO (bB ga (bv aM (pv 0) aj (fun _ _=>rfl)) (pv 1)) (f_ (pv 0) aj cN))
  (bS (fY (pv 2))))) dN)
  (aN (cC (i:=3) sc.nd rfl (zC rfl) aj)
  (aN (jM (ci fC (bC bu (by rfl) Z.len_ (by rfl) (bc (bv aM (pv 0) aj (fun _ _=>rfl)) b7)) aj (aQ _)) (bS (cC (i:=3) sc.nd rfl (zC rfl) (bv aM (bv aM (pv 0) aj (fun _ _=>rfl)) (bB bJ (bv aM (pv 0) aj (fun _ _=>rfl)) (bC bu (by rfl) Z.len_ (by rfl) (bc (bv aM (pv 0) aj (fun _ _=>rfl)) b7))) (fun _ _=>rfl)))) dN)
  (aN (cC (i:=4) sc.nd rfl (zC rfl) (bB bJ (bB dr (bB dr (bB cZ (bB bJ (pv 3) aj) aj) (bB cZ aj (bv aM (pv 0) aj (fun _ _=>rfl)))) aj) aj))
  (aN (cC (i:=4) sc.nd rfl (zC rfl) (bB bJ (bB cZ (pv 4) (bB dr (pv 4) aj)) aj))
  (bS (fY (bB bJ (bB bJ (bB cZ (pv 4) aj) aj) (pv 1))))))))))),?_⟩
 refine⟨_,rfl,bR ho i1 ⟨a,1,rfl,rfl,?_⟩⟩;refine⟨_,rfl,gQ ho rfl ?_⟩;show rP _ _ _ _ (upd H r (uY c (a+1) l t));refine⟨fun n σ' H'=>∃l t,σ'=[some (.ref r),some (.int m),none,none,none]/\H'=upd H r (uY c (a+1) l t)/\0<=l/\0<=t/\n=ns.length-t.toNat,⟨_,l,t,rfl,rfl,hl0,ht,rfl⟩,?_⟩;rintro n σ' H' ⟨l,t,rfl,rfl,hl0,ht,rfl⟩;refine⟨_,rfl,bR g0 i2 ⟨rfl,_,rfl,?_⟩⟩;by_cases hz:l=0
 · subst hz;refine uM (by simp) ?_;refine⟨_,rfl,bR g0 i3 ⟨_,rfl,bR g0 i0 ⟨c,_,rfl,.inl (.inl (.inl gc)),⟨t,_,rfl,rfl,_,rfl,?_⟩⟩⟩⟩;by_cases hlt:t<((ns.map V.int).length:Int)
   · refine uM (decide_eq_true hlt) ?_;have hlt':t.toNat<ns.length:=by rw[wp]at hlt;omega
     have at_:L2.atI (ns.map V.int) t=some (.int ns[t.toNat]):=d7 ht hlt'
     refine⟨fun σ' H'=>∃l t',σ'=[some (.ref r),some (.int m),none,none,none]/\H'=upd H r (uY c (a+1) l t')/\0<=l/\0<=t'/\ns.length-t'.toNat<ns.length-t.toNat,fun σ' H' ⟨l,t',h1,h2,h3,h4,h5⟩=>⟨_,h5,l,t',h1,h2,h3,h4,rfl⟩,?_⟩;refine⟨_,rfl,bR g0 i0 ⟨_,rfl,bR g0 i3 (bR gc at_ ⟨_,rfl,10,18,rfl,rfl,⟨by decide,by decide,by decide⟩,⟨_,_,rfl,rfl,_,rfl,?_⟩⟩)⟩⟩;by_cases hbig:(10:Int)^Int.toNat 18<=(if ns[t.toNat]<0 then -ns[t.toNat]else ns[t.toNat])
     · refine uM (decide_eq_true hbig) ?_;refine⟨_,rfl,bR g0 i0 ⟨_,rfl,bR g0 i3 (bR gc at_ ⟨_,rfl,?_⟩)⟩⟩;refine⟨_,rfl,gQ g0 rfl ?_⟩;rw[cV];refine⟨_,rfl,bR g0 i3 ⟨_,_,rfl,rfl,?_⟩⟩;refine⟨_,rfl,gQ g0 rfl ?_⟩;rw[cV];exact⟨_,_,rfl,rfl,by split<;>omega,by omega,by omega⟩
     · refine uO (decide_eq_false hbig) ?_;refine⟨_,rfl,bR g0 i3 ⟨_,_,rfl,rfl,?_⟩⟩;refine⟨_,rfl,gQ g0 rfl ?_⟩;rw[cV];exact⟨_,_,rfl,rfl,by omega,by omega,by omega⟩
   · refine uO (decide_eq_false hlt) ?_;refine⟨_,rfl,bR g0 i2 ⟨_,_,rfl,rfl,_,rfl,?_⟩⟩;by_cases hp:0<(0:Int)
     · refine uM (decide_eq_true hp) ?_;refine⟨_,rfl,bR g0 i2 ⟨_,rfl,_,_,rfl,rfl,hm0,?_⟩⟩;refine⟨_,rfl,bR g0 i2 ⟨_,rfl,_,_,rfl,rfl,hmd _,?_⟩⟩;refine⟨_,rfl,gQ g0 rfl ?_⟩;rw[cV];refine⟨_,rfl,?_⟩;exact out _ _ _ _ (fm _).1 (fm _).2 (by omega) (Int.fdiv_nonneg (by omega) (by omega)) ht
     · refine uO (decide_eq_false hp) ?_;refine⟨_,rfl,bR g0 i0 ⟨c,_,rfl,.inl (.inl (.inl gc)),⟨_,_,rfl,rfl,_,rfl,?_⟩⟩⟩;by_cases hn:(0:Int)<((ns.map V.int).length:Int)
       · refine uM (decide_eq_true hn) ?_;have hnn:(0:Int)<(ns.length:Int):=by rw[wp]at hn;exact hn
         have b1:=xh (a+1) hnn;have b2:=xU (a+1) hnn;have hk:((a+1).fmod (ns.length:Int)).toNat<ns.length:=by omega
         have at2:L2.atI (ns.map V.int) ((a+1).fmod ((ns.map V.int).length:Int))=some (.int ns[((a+1).fmod (ns.length:Int)).toNat]):=by simpa only[wp]using d7 b1 hk
         refine⟨_,rfl,bR g0 i0 ⟨_,rfl,bR g0 i1 ⟨_,rfl,bR g0 i0 ⟨c,_,rfl,.inl (.inl (.inl gc)),_,_,rfl,rfl,by omega,bR gc at2 ?_⟩⟩⟩⟩;refine⟨_,rfl,_,_,rfl,rfl,(show(2147483647:Int)≠0 by decide),_,_,rfl,rfl,ba.rt (by decide),_,rfl,bR g0 i1 ⟨_,_,rfl,rfl,ba.lt (by decide),_,_,rfl,rfl,_,_,rfl,rfl,_,_,rfl,rfl,(show(2147483629:Int)≠0 by decide),?_⟩⟩;refine⟨_,rfl,_,rfl,_,_,rfl,rfl,_,_,rfl,rfl,ba.lt (bL (by decide) (by decide)),_,_,rfl,rfl,(show(2147483587:Int)≠0 by decide),?_⟩;refine⟨_,rfl,_,_,rfl,rfl,ba.rt (by decide),_,_,rfl,rfl,(show(2147483563:Int)≠0 by decide),_,rfl,_,_,rfl,rfl,hm0,?_⟩;exact out _ _ _ _ (fm _).1 (fm _).2 (by omega) (by omega) ht
       · refine uO (decide_eq_false hn) ?_;refine⟨_,rfl,_,_,rfl,rfl,(show(2147483647:Int)≠0 by decide),_,_,rfl,rfl,ba.rt (by decide),_,rfl,bR g0 i1 ⟨_,_,rfl,rfl,ba.lt (by decide),_,_,rfl,rfl,_,_,rfl,rfl,_,_,rfl,rfl,(show(2147483629:Int)≠0 by decide),?_⟩⟩;refine⟨_,rfl,_,rfl,_,_,rfl,rfl,_,_,rfl,rfl,ba.lt (bL (by decide) (by decide)),_,_,rfl,rfl,(show(2147483587:Int)≠0 by decide),?_⟩;refine⟨_,rfl,_,_,rfl,rfl,ba.rt (by decide),_,_,rfl,rfl,(show(2147483563:Int)≠0 by decide),_,rfl,_,_,rfl,rfl,hm0,?_⟩;exact out _ _ _ _ (fm _).1 (fm _).2 (by omega) (by omega) ht
 · refine uO (pD hz) ?_;refine⟨_,rfl,bR g0 i2 ⟨_,_,rfl,rfl,_,rfl,?_⟩⟩;by_cases hp:0<l
   · refine uM (decide_eq_true hp) ?_;refine⟨_,rfl,bR g0 i2 ⟨_,rfl,_,_,rfl,rfl,hm0,?_⟩⟩;refine⟨_,rfl,bR g0 i2 ⟨_,rfl,_,_,rfl,rfl,hmd _,?_⟩⟩;refine⟨_,rfl,gQ g0 rfl ?_⟩;rw[cV];refine⟨_,rfl,?_⟩;exact out _ _ _ _ (fm _).1 (fm _).2 (by omega) (Int.fdiv_nonneg (by omega) (by omega)) ht
   · refine uO (decide_eq_false hp) ?_;refine⟨_,rfl,bR g0 i0 ⟨c,_,rfl,.inl (.inl (.inl gc)),⟨_,_,rfl,rfl,_,rfl,?_⟩⟩⟩;by_cases hn:(0:Int)<((ns.map V.int).length:Int)
     · refine uM (decide_eq_true hn) ?_;have hnn:(0:Int)<(ns.length:Int):=by rw[wp]at hn;exact hn
       have b1:=xh (a+1) hnn;have b2:=xU (a+1) hnn;have hk:((a+1).fmod (ns.length:Int)).toNat<ns.length:=by omega
       have at2:L2.atI (ns.map V.int) ((a+1).fmod ((ns.map V.int).length:Int))=some (.int ns[((a+1).fmod (ns.length:Int)).toNat]):=by simpa only[wp]using d7 b1 hk
       refine⟨_,rfl,bR g0 i0 ⟨_,rfl,bR g0 i1 ⟨_,rfl,bR g0 i0 ⟨c,_,rfl,.inl (.inl (.inl gc)),_,_,rfl,rfl,by omega,bR gc at2 ?_⟩⟩⟩⟩;refine⟨_,rfl,_,_,rfl,rfl,(show(2147483647:Int)≠0 by decide),_,_,rfl,rfl,ba.rt (by decide),_,rfl,bR g0 i1 ⟨_,_,rfl,rfl,ba.lt (by decide),_,_,rfl,rfl,_,_,rfl,rfl,_,_,rfl,rfl,(show(2147483629:Int)≠0 by decide),?_⟩⟩;refine⟨_,rfl,_,rfl,_,_,rfl,rfl,_,_,rfl,rfl,ba.lt (bL (by decide) (by decide)),_,_,rfl,rfl,(show(2147483587:Int)≠0 by decide),?_⟩;refine⟨_,rfl,_,_,rfl,rfl,ba.rt (by decide),_,_,rfl,rfl,(show(2147483563:Int)≠0 by decide),_,rfl,_,_,rfl,rfl,hm0,?_⟩;exact out _ _ _ _ (fm _).1 (fm _).2 (by omega) (by omega) ht
     · refine uO (decide_eq_false hn) ?_;refine⟨_,rfl,_,_,rfl,rfl,(show(2147483647:Int)≠0 by decide),_,_,rfl,rfl,ba.rt (by decide),_,rfl,bR g0 i1 ⟨_,_,rfl,rfl,ba.lt (by decide),_,_,rfl,rfl,_,_,rfl,rfl,_,_,rfl,rfl,(show(2147483629:Int)≠0 by decide),?_⟩⟩;refine⟨_,rfl,_,rfl,_,_,rfl,rfl,_,_,rfl,rfl,ba.lt (bL (by decide) (by decide)),_,_,rfl,rfl,(show(2147483587:Int)≠0 by decide),?_⟩;refine⟨_,rfl,_,_,rfl,rfl,ba.rt (by decide),_,_,rfl,rfl,(show(2147483563:Int)≠0 by decide),_,rfl,_,_,rfl,rfl,hm0,?_⟩;exact out _ _ _ _ (fm _).1 (fm _).2 (by omega) (by omega) ht
theorem sV(h:uA 2000 q):(q.den:Int).natAbs<2^2000:=by rw[xi];exact h.2
noncomputable def ar:List W->(v7->Prop)->Prop:=fun ws Q=>∃(i j:Int),ws=[.d (.int i),.d (.int j)]/\(True)/\Q (.int (wX i j:Nat))
theorem ar.mono:∀ws (Q Q':v7->Prop),(∀d,Q d->Q' d)->ar ws Q->ar ws Q':=fun _ _ _ h_=>wJ fun _=>wJ fun _=>wq (wq (h_ _))
theorem ar.len:∀ws (Q:v7->Prop),ar ws Q->ws.length=2:=fun _ _ h_=>by obtain⟨_,_,e_,_⟩:=h_;subst e_;rfl
theorem ar.eq(i j:Int)  : ar [.d (.int i),.d (.int j)]=VL.ret (.int (wX i j:Nat):v7):=by
 refine ac fun Q=>⟨?_,fun q_=>⟨i,j,rfl,trivial,q_⟩⟩;rintro⟨i',j',e_,_,q_⟩;simp_arith only[and_true]at e_;obtain⟨rfl,rfl⟩:=e_;exact q_
theorem cg:FnScope ["one", "other"] ["one", "other"] (defScope (ub 5)):=⟨rfl,rfl,rfl,by decide +kernel,rfl,by decide +kernel,by decide +kernel⟩
theorem d_common_divisor(Fn:FnIn K mg "common_divisor" (ub 5) ["one", "other"])(Z:Bz mg)    : Dfn P w K mg base rl "common_divisor" ["one", "other"] 1 ar:=by
 have sc:=cg
 refine Dfn.of Fn sc (ar.mono) (ar.len) (fun cdv A outer s H E hr=>(ah (bX [] xF (bo (iI hr.units) fT (aQ _) (vn 1) ag) (aq (cS 0 1 rfl sc.nd (aa (vn 1) (aa (v_mod (vn 0) (vn 1)) ab)))))
  (aq (aG (mY Z.abs_ (aa (vn 0) ab)))))) ?_
 rintro ws Q ⟨i,j,rfl,_,hQ⟩;refine aJ ?_;simp_arith only[af];refine cJ (σ:=Int×Int) (fun s=>[some (.d (.int s.1)),some (.d (.int s.2))]) (fun s=>!(s.2==0)) (fun s=>(s.2,s.1.fmod s.2)) (fun s=>s.2.natAbs) (fun s=>wX s.1 s.2=wX i j) (i,j) rfl rfl ?_ ?_ ?_
 · intro s _;simp_arith only[af]
 · intro s e c;have hc:s.2≠0:=by simpa using c
   refine⟨by rw[cQ];exact e,bW hc,_,?_,rfl⟩;simp_arith only[al,af]
 · intro s e c;have hc:s.2=0:=by simpa using c
   simp_arith only[af];rw[hc,z_]at e;refine a_ ?_;have:(if s.1<0 then -s.1 else s.1)=((wX i j:Nat):Int):=by rw[<- e];split<;>omega
   rw[this];exact hQ
noncomputable def aL:List W->(v7->Prop)->Prop:=fun ws Q=>∃(a b:Int),ws=[.d (.int a),.d (.int b)]/\((0<b)/\(b.natAbs<2^8000))/\Q (fr (qd a b))
theorem aL.mono:∀ws (Q Q':v7->Prop),(∀d,Q d->Q' d)->aL ws Q->aL ws Q':=fun _ _ _ h_=>wJ fun _=>wJ fun _=>wq (wq (h_ _))
theorem aL.len:∀ws (Q:v7->Prop),aL ws Q->ws.length=2:=fun _ _ h_=>by obtain⟨_,_,e_,_⟩:=h_;subst e_;rfl
theorem aL.eq(a b:Int)(hb:0<b)(hz:b.natAbs<2^8000):aL [.d (.int a),.d (.int b)]=VL.ret (fr (qd a b):v7):=by
 refine ac fun Q=>⟨?_,fun q_=>⟨a,b,rfl,⟨hb,hz⟩,q_⟩⟩;rintro⟨a',b',e_,_,q_⟩;simp_arith only[and_true]at e_;obtain⟨rfl,rfl⟩:=e_;exact q_
theorem fu:FnScope ["top", "bottom", "divisor"] ["top", "bottom"] (defScope (ub 6)):=⟨rfl,rfl,rfl,by decide +kernel,rfl,by decide +kernel,by decide +kernel⟩
theorem d_fraction(Fn:FnIn K mg "fraction" (ub 6) ["top", "bottom"])(Z:Bz mg)(d_common_divisor:∀rl,Dfn P w K mg base rl "common_divisor" ["one", "other"] 1 ar)   : Dfn P w K mg base rl "fraction" ["top", "bottom"] 2 aL:=by
 have sc:=fu
 refine Dfn.of Fn sc (aL.mono) (aL.len) (fun cdv A outer s H E hr=>(ah (dD (bo (n_ hr.units) fT (aQ _) (vn 1) ag) (aq jz) bY)
  (ah (aO 2 sc.nd (ax (d_common_divisor _) (hr.mono (by decide)) (aa (vn 0) (aa (vn 1) ab))))
  (ah (dD (bo lT mL (aQ _) (vn 1) ag) (aq (aO 2 sc.nd (mV (vn 2)))) bY)
  (aq (aG (dG (aa (v_div (vn 0) (vn 2)) (aa (v_div (vn 1) (vn 2)) ab))))))))) ?_
 rintro ws Q ⟨a,b,rfl,⟨hb,hz⟩,hQ⟩;refine aJ ?_;have c1:bP a (wX a b:Int):=dW hb hz _;have c2:bP b (wX a b:Int):=dW hb hz _;have h0:(b==0)=false:=by simp;omega
 have h1:decide (b<0)=false:=by simp;omega
 simp_arith only[al,af,ar.eq,h0,h1];rw[gf hb];exact a_ hQ
noncomputable def cY:List W->(v7->Prop)->Prop:=fun ws Q=>∃(q r:Rat),ws=[.d (fr q),.d (fr r)]/\((uA 2000 q)/\(uA 2000 r))/\Q (fr (q+r))
theorem cY.mono:∀ws (Q Q':v7->Prop),(∀d,Q d->Q' d)->cY ws Q->cY ws Q':=fun _ _ _ h_=>wJ fun _=>wJ fun _=>wq (wq (h_ _))
theorem cY.len:∀ws (Q:v7->Prop),cY ws Q->ws.length=2:=fun _ _ h_=>by obtain⟨_,_,e_,_⟩:=h_;subst e_;rfl
theorem cY.eq(q r:Rat)(h1:uA 2000 q)(h2:uA 2000 r):cY [.d (fr q),.d (fr r)]=VL.ret (fr (q+r):v7):=by
 refine ac fun Q=>⟨?_,fun q_=>⟨q,r,rfl,⟨h1,h2⟩,q_⟩⟩;rintro⟨q',r',e_,_,q_⟩;simp_arith only[fG,cf,cj,bG,bF,cH]at e_;obtain⟨rfl,rfl⟩:=e_;exact q_
theorem lA:FnScope ["one", "other"] ["one", "other"] (defScope (ub 7)):=⟨rfl,rfl,rfl,by decide +kernel,rfl,by decide +kernel,by decide +kernel⟩
theorem d_plus(Fn:FnIn K mg "plus" (ub 7) ["one", "other"])(Z:Bz mg)(d_fraction:∀rl,Dfn P w K mg base rl "fraction" ["top", "bottom"] 2 aL)   : Dfn P w K mg base rl "plus" ["one", "other"] 3 cY:=by
 have sc:=lA;refine Dfn.of Fn sc (cY.mono) (cY.len) (fun cdv A outer s H E hr=>(aq (aG (ax (d_fraction _) (hr.mono (by decide)) (aa (v_add (v_mul (bH (vn 0) ag) (bH (vn 1) ag)) (v_mul (bH (vn 1) ag) (bH (vn 0) ag))) (aa (v_mul (bH (vn 0) ag) (bH (vn 1) ag)) ab)))))) ?_;rintro ws Q ⟨q,r,rfl,⟨h1,h2⟩,hQ⟩;refine aJ ?_;have m1:ba q.num r.den:=.bb h1.bn h2.bd;have m2:ba r.num q.den:=.bb h2.bn h1.bd;have m3:ba q.den r.den:=.bb h1.bd h2.bd;have m4:ba q.num r.num:=.bb h1.bn h2.bn;have d1:=den_pos q r;have d2:=eX h1 h2;simp_arith only[al,af,aL.eq,v4,nO];exact a_ hQ
noncomputable def bT:List W->(v7->Prop)->Prop:=fun ws Q=>∃(q r:Rat),ws=[.d (fr q),.d (fr r)]/\((uA 2000 q)/\(uA 2000 r))/\Q (fr (q*r))
theorem bT.mono:∀ws (Q Q':v7->Prop),(∀d,Q d->Q' d)->bT ws Q->bT ws Q':=fun _ _ _ h_=>wJ fun _=>wJ fun _=>wq (wq (h_ _))
theorem bT.len:∀ws (Q:v7->Prop),bT ws Q->ws.length=2:=fun _ _ h_=>by obtain⟨_,_,e_,_⟩:=h_;subst e_;rfl
theorem bT.eq(q r:Rat)(h1:uA 2000 q)(h2:uA 2000 r):bT [.d (fr q),.d (fr r)]=VL.ret (fr (q*r):v7):=by
 refine ac fun Q=>⟨?_,fun q_=>⟨q,r,rfl,⟨h1,h2⟩,q_⟩⟩;rintro⟨q',r',e_,_,q_⟩;simp_arith only[fG,cf,cj,bG,bF,cH]at e_;obtain⟨rfl,rfl⟩:=e_;exact q_
theorem jG:FnScope ["one", "other"] ["one", "other"] (defScope (ub 8)):=⟨rfl,rfl,rfl,by decide +kernel,rfl,by decide +kernel,by decide +kernel⟩
theorem d_times(Fn:FnIn K mg "times" (ub 8) ["one", "other"])(Z:Bz mg)(d_fraction:∀rl,Dfn P w K mg base rl "fraction" ["top", "bottom"] 2 aL)   : Dfn P w K mg base rl "times" ["one", "other"] 3 bT:=by
 have sc:=jG;refine Dfn.of Fn sc (bT.mono) (bT.len) (fun cdv A outer s H E hr=>(aq (aG (ax (d_fraction _) (hr.mono (by decide)) (aa (v_mul (bH (vn 0) ag) (bH (vn 1) ag)) (aa (v_mul (bH (vn 0) ag) (bH (vn 1) ag)) ab)))))) ?_;rintro ws Q ⟨q,r,rfl,⟨h1,h2⟩,hQ⟩;refine aJ ?_;have m1:ba q.num r.den:=.bb h1.bn h2.bd;have m2:ba r.num q.den:=.bb h2.bn h1.bd;have m3:ba q.den r.den:=.bb h1.bd h2.bd;have m4:ba q.num r.num:=.bb h1.bn h2.bn;have d1:=den_pos q r;have d2:=eX h1 h2;simp_arith only[al,af,aL.eq,v4,nN];exact a_ hQ
noncomputable def aX:List W->(v7->Prop)->Prop:=fun ws Q=>∃(q r:Rat),ws=[.d (fr q),.d (fr r)]/\((uA 2000 q)/\(uA 2000 r))/\Q (.bool (decide (q<r)))
theorem aX.mono:∀ws (Q Q':v7->Prop),(∀d,Q d->Q' d)->aX ws Q->aX ws Q':=fun _ _ _ h_=>wJ fun _=>wJ fun _=>wq (wq (h_ _))
theorem aX.len:∀ws (Q:v7->Prop),aX ws Q->ws.length=2:=fun _ _ h_=>by obtain⟨_,_,e_,_⟩:=h_;subst e_;rfl
theorem aX.eq(q r:Rat)(h1:uA 2000 q)(h2:uA 2000 r):aX [.d (fr q),.d (fr r)]=VL.ret (.bool (decide (q<r)):v7):=by
 refine ac fun Q=>⟨?_,fun q_=>⟨q,r,rfl,⟨h1,h2⟩,q_⟩⟩;rintro⟨q',r',e_,_,q_⟩;simp_arith only[fG,cf,cj,bG,bF,cH]at e_;obtain⟨rfl,rfl⟩:=e_;exact q_
theorem fj:FnScope ["one", "other"] ["one", "other"] (defScope (ub 9)):=⟨rfl,rfl,rfl,by decide +kernel,rfl,by decide +kernel,by decide +kernel⟩
theorem d_is_below(Fn:FnIn K mg "is_below" (ub 9) ["one", "other"])(Z:Bz mg)    : Dfn P w K mg base rl "is_below" ["one", "other"] 1 aX:=by
 have sc:=fj;refine Dfn.of Fn sc (aX.mono) (aX.len) (fun cdv A outer s H E hr=>(aq (aG (pH lT mL (aQ _) (v_mul (bH (vn 0) ag) (bH (vn 1) ag)) (v_mul (bH (vn 1) ag) (bH (vn 0) ag)))))) ?_;rintro ws Q ⟨q,r,rfl,⟨h1,h2⟩,hQ⟩;refine aJ ?_;have m1:ba q.num r.den:=.bb h1.bn h2.bd;have m2:ba r.num q.den:=.bb h2.bn h1.bd;simp_arith only[al,af,v4,qw];exact a_ hQ
noncomputable def bD:List W->(v7->Prop)->Prop:=fun ws Q=>∃(q r:Rat),ws=[.d (fr q),.d (fr r)]/\((uA 2000 q)/\(uA 2000 r))/\Q (fr (mn q r))
theorem bD.mono:∀ws (Q Q':v7->Prop),(∀d,Q d->Q' d)->bD ws Q->bD ws Q':=fun _ _ _ h_=>wJ fun _=>wJ fun _=>wq (wq (h_ _))
theorem bD.len:∀ws (Q:v7->Prop),bD ws Q->ws.length=2:=fun _ _ h_=>by obtain⟨_,_,e_,_⟩:=h_;subst e_;rfl
theorem bD.eq(q r:Rat)(h1:uA 2000 q)(h2:uA 2000 r):bD [.d (fr q),.d (fr r)]=VL.ret (fr (mn q r):v7):=by
 refine ac fun Q=>⟨?_,fun q_=>⟨q,r,rfl,⟨h1,h2⟩,q_⟩⟩;rintro⟨q',r',e_,_,q_⟩;simp_arith only[fG,cf,cj,bG,bF,cH]at e_;obtain⟨rfl,rfl⟩:=e_;exact q_
theorem il:FnScope ["one", "other"] ["one", "other"] (defScope (ub 10)):=⟨rfl,rfl,rfl,by decide +kernel,rfl,by decide +kernel,by decide +kernel⟩
theorem d_lesser(Fn:FnIn K mg "lesser" (ub 10) ["one", "other"])(Z:Bz mg)(d_is_below:∀rl,Dfn P w K mg base rl "is_below" ["one", "other"] 1 aX)   : Dfn P w K mg base rl "lesser" ["one", "other"] 2 bD:=by
 have sc:=il;refine Dfn.of Fn sc (bD.mono) (bD.len) (fun cdv A outer s H E hr=>(aq (aG (lj (mR (ax (d_is_below _) (hr.mono (by decide)) (aa (vn 0) (aa (vn 1) ab)))) (vn 0) (vn 1))))) ?_;rintro ws Q ⟨q,r,rfl,⟨h1,h2⟩,hQ⟩;refine aJ ?_;simp_arith only[al,af,aX.eq,v4];unfold mn at hQ;refine a_ ?_;by_cases h:q<r<;>simp[h]at hQ ⊢ <;> exact hQ
noncomputable def tT(q:Rat):Rat:=qd (q.num.fmod q.den) q.den
theorem qv(q:Rat):Bp [.int (q.num.fmod q.den),.int q.den]=fr (tT q):=by
 have hd:=jb q
 have g:wX (q.num.fmod q.den) q.den=1:=by
  rw[Bn,cQ];exact oE q
 unfold tT;rw[<- gf hd,g];simp
theorem pB(h:uA n q):uA n (tT q):=by
 have hd:=jb q;have h1:=xh q.num hd;have h2:=xU q.num hd;have h3:=h.2;exact lC hd (by omega) (by omega)
noncomputable def bf:List W->(v7->Prop)->Prop:=fun ws Q=>∃(q:Rat),ws=[.d (fr q)]/\((uA 2000 q))/\Q (fr (tT q))
theorem bf.mono:∀ws (Q Q':v7->Prop),(∀d,Q d->Q' d)->bf ws Q->bf ws Q':=fun _ _ _ h_=>wJ fun _=>wq (wq (h_ _))
theorem bf.len:∀ws (Q:v7->Prop),bf ws Q->ws.length=1:=fun _ _ h_=>by obtain⟨_,e_,_⟩:=h_;subst e_;rfl
theorem bf.eq(q:Rat)(h:uA 2000 q):bf [.d (fr q)]=VL.ret (fr (tT q):v7):=by
 refine ac fun Q=>⟨?_,fun q_=>⟨q,rfl,h,q_⟩⟩;rintro⟨q',e_,_,q_⟩;simp_arith only[fG,cf,cj,bG,bF,cH]at e_;obtain rfl:=e_;exact q_
theorem gG:FnScope ["one"] ["one"] (defScope (ub 11)):=⟨rfl,rfl,rfl,by decide +kernel,rfl,by decide +kernel,by decide +kernel⟩
theorem d_wrapped(Fn:FnIn K mg "wrapped" (ub 11) ["one"])(Z:Bz mg)    : Dfn P w K mg base rl "wrapped" ["one"] 1 bf:=by
 have sc:=gG;refine Dfn.of Fn sc (bf.mono) (bf.len) (fun cdv A outer s H E hr=>(aq (aG (dG (aa (v_mod (bH (vn 0) ag) (bH (vn 0) ag)) (aa (bH (vn 0) ag) ab)))))) ?_;rintro ws Q ⟨q,rfl,h,hQ⟩;refine aJ ?_;have cd:bP q.num q.den:=⟨by have:=jb q;omega,wa (sV h) (wj (by decide) (by decide))⟩;have dz:(q.den:Int)≠0:=by have:=jb q;omega
 simp_arith only[al,af,v4,qv];exact a_ hQ
theorem iz{n d k:Int}(h:d≠0):qd (n-d*k) d=qd n d-k:=by
 have hd:(d:Rat)≠0:=by intro z;exact h (by exact_mod_cast z)
 unfold qd;rw[Rat.intCast_sub,zi];generalize (d:Rat)=D at *;generalize (n:Rat)=N;generalize (k:Rat)=K
 grind
theorem pA(q:Rat):(∃n:Int,tT q=q-n)/\0<=tT q/\tT q<1:=by
 have hd:=jb q;have e1:=Int.mul_fdiv_add_fmod q.num q.den;refine⟨⟨q.num.fdiv q.den,?_⟩,lD hd (xh _ hd),iy hd (xU _ hd)⟩;have e2:q.num.fmod q.den=q.num-q.den*q.num.fdiv q.den:=by omega
 show qd (q.num.fmod q.den) q.den=_;rw[e2,iz (by omega),ix]
theorem sY{n:Int}(h1:(-1:Rat)<n)(h2:(n:Rat)<1):n=0:=by
 have a:(0:Int)<n+1:=by
  have:((0:Int):Rat)<((n+1:Int):Rat):=by rw[AI];have:((0:Int):Rat)=0:=rfl;have:((1:Int):Rat)=1:=rfl;grind
  exact_mod_cast this
 have b:n<1:=by exact_mod_cast h2
 omega
theorem pz{y:Rat}(n:Int)(e:y=q+n)(h0:0<=y)(h1:y<1):tT q=y:=by
 obtain⟨⟨m,em⟩,a0,a1⟩:=pA q;have k:((m+n:Int):Rat)=y-tT q:=by rw[AI,em,e];grind
 have z:=sY (n:=m+n) (by rw[k];grind) (by rw[k];grind);rw[z]at k;have:((0:Int):Rat)=0:=rfl
 grind
theorem kP{n:Int}(h:n.natAbs<2^k)(hk:0<k):uA k (n:Rat):=⟨by rw[Rat.num_intCast];exact h,by rw[Rat.den_intCast];exact Nat.one_lt_two_pow (by omega)⟩
theorem ck{q h:Int}(hq:1<=q)(h0:0<=h):h<=q*h:=by
 have:=zw hq h0
 rwa [Int.one_mul]at this
noncomputable def dn(f h r d:Int):List Int:=if hr:0<r then(d / r*h+f)::dn h (d / r*h+f) (d%r) r else []
termination_by r.toNat
decreasing_by
 have:=w_ d hr;have:=xj d (show r≠0 by omega);omega
theorem eW{f h r d:Int}(hr:0<r):dn f h r d=(d / r*h+f)::dn h (d / r*h+f) (d%r) r:=by rw[dn,dif_pos hr]
theorem dA{f h r d:Int}(hr:¬0<r):dn f h r d=[]:=by rw[dn,dif_neg hr]
structure DI (D f h r d:Int):Prop where
 inv:h*d+f*r=D
 f0:0<=f
 h1:1<=h
 r0:0<=r
 rd:r<d
 gcd:wX d r=1
theorem DI.le{D f h r d:Int}(i:DI D f h r d):h<=D/\d<=D:=by
 have a:=ck (q:=h) (h:=d) i.h1 (by have:=i.r0;have:=i.rd;omega);have b:=ck (q:=d) (h:=h) (by have:=i.r0;have:=i.rd;omega) (by have:=i.h1;omega);rw[AJ]at b;have c:=Int.mul_nonneg i.f0 i.r0;have e:=i.inv;omega
theorem DI.step{D f h r d:Int}(i:DI D f h r d)(hr:0<r):DI D h (d / r*h+f) (d%r) r/\h<=d / r*h+f/\1<=d / r:=by
 have q1:1<=d / r:=AK hr (by have:=i.rd;omega);have m1:=xj d (show r≠0 by omega);have m2:=w_ d hr;have e:=yJ d r;have l:=ck (q:=d / r) (h:=h) q1 (by have:=i.h1;omega);have f0:=i.f0;have h1:=i.h1;refine⟨⟨?_,by omega,by omega,m1,m2,?_⟩,by omega,q1⟩
 · have iv:=i.inv;generalize d / r=q at *;generalize d%r=m at *;rw[<- iv,<- e]
   grind
 · have g:=cQ d r;rw[xa _ (by omega)]at g;exact g.trans i.gcd
theorem km{D:Int}:∀(n:Nat){f h r d:Int},r.toNat<=n->DI D f h r d->(∀x∈dn f h r d,h<=x/\x<=D)/\D∈h::dn f h r d
 | n,f,h,r,d,hn,i=>by
   by_cases hr:0<r
   · obtain⟨i2,l,_⟩:=i.step hr;have m2:=w_ d hr;have m1:=xj d (show r≠0 by omega)
     cases n with
     | zero=>omega
     | succ n =>
       obtain⟨a,b⟩:=km n (show(d%r).toNat<=n by omega) i2;rw[eW hr];refine⟨fun x mx=>?_,wf _ b⟩;rcases wE.mp mx with rfl|mx
       · exact⟨l,i2.le.1⟩
       · obtain⟨u,v⟩:=a x mx;exact⟨by omega,v⟩
   · rw[dA hr];refine⟨fun x mx=>(by cases mx),?_⟩;have r0:r=0:=by have:=i.r0;omega
     have g:=i.gcd;have iv:=i.inv;have d0:=i.rd;subst r0;rw[z_]at g;have d1:d=1:=by omega
     subst d1;rw[BC,Br,Bs]at iv;rw[iv];exact wg
theorem gn:∀(n:Nat){f h r d:Int},0<=r->r<d->r<2^n->(dn f h r d).length<=2*n
 | 0,f,h,r,d,h0,h1,h2=>by rw[dA (by have:(2:Int)^0=1:=rfl;omega)];exact xx _
 | n+1,f,h,r,d,h0,h1,h2=>by
   by_cases hr:0<r
   · rw[eW hr,wF];have a1:=xj d (show r≠0 by omega);have a2:=w_ d hr;generalize d%r=m at *;by_cases hm:0<m
     · rw[eW hm,wF];have b1:=xj r (show m≠0 by omega);have b2:=w_ r hm;have b3:=yJ r m;have b4:1<=r / m:=AK hm (by omega);have b5:=ck (q:=r / m) (h:=m) b4 (by omega);rw[AJ]at b5;have e2:(2:Int)^(n+1)=2*2^n:=by rw[Int.pow_succ,AJ]
       have:=gn n (f:=d / r*h+f) (h:=r / m*(d / r*h+f)+h) (r:=r%m) (d:=m) b1 b2 (by omega);omega
     · rw[dA hm];exact(show 0+1<=2*(n+1) by omega)
   · rw[dA hr];exact xx _
noncomputable def quo(a b:Int):List Int:=if hb:0<b then(a / b)::quo b (a%b)else []
termination_by b.toNat
decreasing_by
 have:=w_ a hb;have:=xj a (show b≠0 by omega);omega
theorem fy{a:Int}(hb:0<b):quo a b=(a / b)::quo b (a%b):=by rw[quo,dif_pos hb]
theorem fA{a:Int}(hb:¬0<b):quo a b=[]:=by rw[quo,dif_neg hb]
noncomputable def cv:Int->Int->List Int->List Int
 | _,_,[]=>[]
 | f,h,q::qs=>(q*h+f)::cv h (q*h+f) qs
theorem gq:∀(qs:List Int)(f h:Int),(cv f h qs).length=qs.length
 | [],_,_=>rfl
 | q::qs,f,h=>by show(cv h _ qs).length+1=_;rw[gq qs];rfl
theorem oW:∀(n:Nat){f h r d:Int},r.toNat<=n->0<=r->dn f h r d=cv f h (quo d r)
 | n,f,h,r,d,hn,h0=>by
   by_cases hr:0<r
   · have a1:=xj d (show r≠0 by omega);have a2:=w_ d hr
     cases n with
     | zero=>omega
     | succ n =>
       rw[eW hr,fy hr];show _=_::cv h _ (quo r (d%r));rw[oW n (by omega) a1]
   · rw[dA hr,fA hr];rfl
theorem jg:∀(qs:List Int)(q f h:Int),∃x y,(h::cv f h qs)[qs.length]?=some x/\(f::h::cv f h qs)[qs.length]?=some y/\cv f h (qs++[q])=cv f h qs++[q*x+y]
 | [],q,f,h=>⟨h,f,rfl,rfl,rfl⟩
 | p::qs,q,f,h=>by
   obtain⟨x,y,a,b,c⟩:=jg qs q h (p*h+f);refine⟨x,y,a,b,?_⟩;show(p*h+f)::cv h _ (qs++[q])=_;rw[c];rfl
theorem kH{D:Int}:∀(n:Nat){a b:Int},b.toNat<=n->0<=b->0<=a->a<=D->b<=D->∀x∈quo a b,0<=x/\x<=D
 | n,a,b,hn,h0,ha,hD,hb2,x,mx=>by
   by_cases hb:0<b
   · have a1:=xj a (show b≠0 by omega);have a2:=w_ a hb;rw[fy hb]at mx
     cases n with
     | zero=>omega
     | succ n =>
       rcases wE.mp mx with rfl|mx
       · have e1:=Int.ediv_nonneg ha h0;have e2:=Int.ediv_le_self b ha;exact⟨e1,by omega⟩
       · exact kH n (show(a%b).toNat<=n by omega) a1 h0 hb2 (by omega) x mx
   · rw[fA hb]at mx;cases mx
structure DnS (s:Rat) (ns:List Int):Prop where
 up:ns.Pairwise (· < ·)
 mem:∀x,x∈ns↔x∈1::dn 0 1 s.num s.den
theorem kE:∀{xs ys:List Int},xs.Pairwise (· < ·)->ys.Pairwise (· < ·)->(∀x,x∈xs↔x∈ys)->xs=ys
 | [],[],_,_,_=>rfl
 | [],y::ys,_,_,h=>by have:=(h y).mpr wg;cases this
 | x::xs,[],_,_,h=>by have:=(h x).mp wg;cases this
 | x::xs,y::ys,h1,h2,h=>by
   obtain⟨a1,a2⟩:=yu.mp h1;obtain⟨b1,b2⟩:=yu.mp h2
   have e:x=y:=by
    rcases wE.mp ((h x).mp wg)with e|m
    · exact e
    · rcases wE.mp ((h y).mpr wg)with e|m'
      · exact e.symm
      · have:=b1 x m;have:=a1 y m';omega
   subst e;congr 1;refine kE a2 b2 fun z=>?_;constructor
   · intro m;rcases wE.mp ((h z).mp (wf _ m))with e|m'
     · subst e;have:=a1 z m;omega
     · exact m'
   · intro m;rcases wE.mp ((h z).mpr (wf _ m))with e|m'
     · subst e;have:=b1 z m;omega
     · exact m'
noncomputable def vh(s:Rat)(B:Int):Prop:=0<=s.num/\s.num<(s.den:Int)/\(s.den:Int)<=B
theorem qp(s:Rat):wX (s.den:Int) s.num=1:=by
 have:=s.reduced;rw[Bn];exact this
theorem vh.di{B:Int}(h:vh s B):DI s.den 0 1 s.num s.den:=⟨by rw[Int.one_mul,Int.zero_mul,Bs],y8 _,y8 _,h.1,h.2.1,qp s⟩
theorem DnS.bd{B:Int}(d:DnS s ns)(h:vh s B):∀x∈ns,1<=x/\x<=s.den:=fun x mx=>by
 have:=(d.mem x).mp mx;have b:=km _ (we _) h.di;rcases wE.mp this with rfl|m
 · exact⟨y8 _,h.di.le.1⟩
 · exact b.1 x m
theorem DnS.len(d:DnS s ns)(h:vh s (10^9)):ns.length<=61:=by
 have nd:ns.Nodup:=d.up.imp fun{a b}(l:a<b)=>by omega
 have a:=yh nd fun x mx=>(d.mem x).mp mx;rw[wF]at a;have b:=gn 30 (f:=0) (h:=1) h.1 h.2.1 (by have:=h.2.1;have:=h.2.2;omega);omega
theorem DnS.uq{ms:List Int}(d:DnS s ns)(e:DnS s ms):ms=ns:=kE e.up d.up fun x=>(e.mem x).trans (d.mem x).symm
theorem DnS.ends{B:Int}(d:DnS s ns)(h:vh s B):(∃ini,ns=ini++[(s.den:Int)])/\∃r,ns=1::r:=by
 have b:=km _ (we _) h.di;have bd:=d.bd h;have mD:=(d.mem s.den).mpr b.2;have m1:=(d.mem 1).mpr wg;constructor
 · obtain⟨u,v,e⟩:=List.append_of_mem mD
   cases v with
   | nil=>exact⟨u,e⟩
   | cons z v =>
     have up:=d.up;rw[e]at up;have l:=(yu.mp (AU.mp up).2.1).1 z wg;have:=(bd z (by rw[e];simp)).2;omega
 · cases ns with
   | nil=>cases m1
   | cons x r =>
     rcases wE.mp m1 with rfl|m
     · exact⟨r,rfl⟩
     · have:=(yu.mp d.up).1 1 m;have:=(bd x wg).1;omega
noncomputable def u3(z:List (Int×Int)×Int)(x:Int):List (Int×Int)×Int:=(if 0<z.2 / x then z.1++[(x,z.2 / x)]else z.1,z.2%x)
noncomputable def blk(xs:List Int)(N:Int):List (Int×Int)×Int:=xs.foldl u3 ([],N)
structure BlI (N:Int) (k:Nat) (z:List (Int×Int)×Int):Prop where
 l0:0<=z.2
 pos:∀p∈z.1,1<=p.1/\1<=p.2/\p.1<=N/\p.2<=N
 sum:(z.1.map fun p=>p.1*p.2).sum+z.2=N
 few:(z.1.map (·.2)).sum+z.2<=N
 len:z.1.length<=k
theorem BlI.begin{N:Int}(h:0<=N):BlI N 0 ([],N):=⟨h,fun p m=>(by cases m),by simp,by simp,we _⟩
theorem BlI.step{N:Int}{z:List (Int×Int)×Int}(i:BlI N k z){x:Int}(hx:1<=x):BlI N (k+1) (u3 z x):=by
 obtain⟨l0,pos,sum,few,len⟩:=i;obtain⟨ts,l⟩:=z;have l0:0<=l:=l0;have m1:=xj l (show x≠0 by omega);have q0:=Int.ediv_nonneg l0 (show 0<=x by omega);have e:=yJ l x;have g:=ck (q:=x) (h:=l / x) hx q0;have sum:(ts.map fun p=>p.1*p.2).sum+l=N:=sum;have few:(ts.map (·.2)).sum+l<=N:=few
 have s0:0<=(ts.map (·.2)).sum:=by
  have key:∀us:List (Int×Int),(∀p∈us,1<=p.2)->0<=(us.map (·.2)).sum:=by
   intro us
   induction us with
   | nil=>intro _;exact y8 _
   | cons u us ih =>
     intro h;have a:=h u wg;have b:=ih fun p m=>h p (wf _ m);rw[xw,zI];omega
  exact key ts fun p m=>(pos p m).2.1
 by_cases c:0<l / x
 · have eb:u3 (ts,l) x=(ts++[(x,l / x)],l%x):=by unfold u3;rw[if_pos c]
   have g2:=ck (q:=l / x) (h:=x) (by omega) (by omega);rw[AJ]at g2;rw[eb];refine⟨m1,fun p m=>?_,?_,?_,?_⟩
   · rcases yx.mp m with m|m
     · exact pos p m
     · cases yw.mp m;exact⟨hx,c,by show x<=N;omega,by show l / x<=N;omega⟩
   · show((ts++[(x,l / x)]).map fun p=>p.1*p.2).sum+l%x=N;rw[xD,AH,xw,zu,zI,List.sum_nil];show _+(x*(l / x)+0)+l%x=N;omega
   · show((ts++[(x,l / x)]).map (·.2)).sum+l%x<=N;rw[xD,AH,xw,zu,zI,List.sum_nil];show _+(l / x+0)+l%x<=N;have few:(ts.map (·.2)).sum+l<=N:=few;omega
   · rw[wQ,zv];have len:ts.length<=k:=len;omega
 · have eb:u3 (ts,l) x=(ts,l%x):=by unfold u3;rw[if_neg c]
   have z0:l / x=0:=by omega
   rw[z0,Br,AL]at e;rw[eb,e];exact⟨l0,pos,sum,few,Nat.le_succ_of_le len⟩
theorem BlI.fold{N:Int}:∀{xs:List Int}{k:Nat}{z:List (Int×Int)×Int},BlI N k z->(∀x∈xs,1<=x)->BlI N (k+xs.length) (xs.foldl u3 z)
 | [],k,z,i,_=>i
 | x::xs,k,z,i,h=>by
   have:=BlI.fold (i.step (h x wg)) fun y m=>h y (wf _ m);rw[wF,show k+(xs.length+1)=k+1+xs.length by omega];exact this
theorem DnS.goes{B:Int}(d:DnS s ns)(h:vh s B){N:Int}(hN:0<=N):BlI N ns.length (blk ns.reverse N)/\(blk ns.reverse N).2=0:=by
 have bd:=d.bd h;have i:=BlI.fold (xs:=ns.reverse) (BlI.begin hN) fun x m=>(bd x (yW.mp m)).1;rw[xK,za]at i;refine⟨i,?_⟩;obtain⟨_,r,e⟩:=d.ends h;rw[e,yL];unfold blk;rw[List.foldl_append,List.foldl_cons,List.foldl_nil];show _%1=0;exact Int.emod_one _
theorem jf:∀(qs:List Int)(i:Nat)(f h:Int),cv f h (qs.take i)=(cv f h qs).take i
 | [],i,f,h=>by rw[List.take_nil];show []=List.take i [];rw[List.take_nil]
 | q::qs,0,f,h=>rfl
 | q::qs,i+1,f,h=>by
   show _::cv h _ (qs.take i)=_::(cv h _ qs).take i;rw[jf qs]
noncomputable def av:List W->(v7->Prop)->Prop:=fun ws Q=>∃(s:Rat),ws=[.d (fr s)]/\((vh s (10^9)))/\∀ns:List Int,(DnS s ns)->Q (.tuple (ns.map .int))
theorem av.mono:∀ws (Q Q':v7->Prop),(∀d,Q d->Q' d)->av ws Q->av ws Q':=fun _ _ _ h_=>wJ fun _=>wq (wq fun q_ o_ ho_=>h_ _ (q_ o_ ho_))
theorem av.len:∀ws (Q:v7->Prop),av ws Q->ws.length=1:=fun _ _ h_=>by obtain⟨_,e_,_⟩:=h_;subst e_;rfl
theorem av.eq(s:Rat)(hs:vh s (10^9)):av [.d (fr s)]=u0 (anyM fun ns:List Int=>DnS s ns) fun ns=>VL.ret (.tuple (ns.map .int):v7):=by
 refine ac fun Q=>⟨?_,fun q_=>⟨s,rfl,hs,q_⟩⟩;rintro⟨s',e_,_,q_⟩;simp_arith only[fG,cf,cj,bG,bF,cH]at e_;obtain rfl:=e_;exact q_
theorem cW:FnScope ["step", "rest", "divisor", "former", "here", "told"] ["step"] (defScope (ub 15)):=⟨rfl,rfl,rfl,by decide +kernel,rfl,by decide +kernel,by decide +kernel⟩
theorem d_denominators(Fn:FnIn K mg "denominators" (ub 15) ["step"])(Z:Bz mg)    : Dfn P w K mg base rl "denominators" ["step"] 1 av:=by
 have sc:=cW
 refine Dfn.of Fn sc (av.mono) (av.len) (fun cdv A outer s H E hr=>(ah (g9 (vn 0) (d_ (n:=2) rfl (aZ (aH 1 sc.nd) (aZ (aH 2 sc.nd) cU))))
  (ah (g9 (dG (aa ag (aa ag ab))) (d_ (n:=2) rfl (aZ (aH 3 sc.nd) (aZ (aH 4 sc.nd) cU))))
  (ah (dh 5 sc.nd (c_ (aa (vn 4) ab)))
  (ah (bX [] xF (bo fC hC (aQ _) (vn 1) ag) (ah (cS 3 4 rfl sc.nd (aa (vn 4) (aa (v_add (v_mul (v_div (vn 2) (vn 1)) (vn 4)) (vn 3)) ab)))
  (ah (cS 2 1 rfl sc.nd (aa (vn 1) (aa (v_mod (vn 2) (vn 1)) ab)))
  (aq (dj 5 (aa (vn 4) ab))))))
  (aq (aG (cc Z.tuple_ (aa (eh rfl Z.sorted_ Z.set_ (aa (vn 5) ab)) ab))))))))) ?_
 rintro ws Q ⟨s,rfl,hs,hQ⟩;refine aJ ?_;have sz:=wY;have di:=hs.di;have dl:=gn 30 (f:=0) (h:=1) hs.1 hs.2.1 (by have:=hs.2.1;have:=hs.2.2;omega);have D9:=hs.2.2;simp_arith only[al,af,v4,lp]
 refine cJ (σ:=(Int×Int)×(Int×Int)×List Int) (fun z=>[some (.d (fr s)),some (.d (.int z.1.1)),some (.d (.int z.1.2)),some (.d (.int z.2.1.1)),some (.d (.int z.2.1.2)),some (.ml (z.2.2.map .int))]) (fun z=>decide (0<z.1.1))
  (fun z=>((z.1.2%z.1.1,z.1.1),(z.2.1.2,z.1.2 / z.1.1*z.2.1.2+z.2.1.1),z.2.2++[z.1.2 / z.1.1*z.2.1.2+z.2.1.1])) (fun z=>z.1.1.toNat) (fun z=>DI s.den z.2.1.1 z.2.1.2 z.1.1 z.1.2/\z.2.2++dn z.2.1.1 z.2.1.2 z.1.1 z.1.2=1::dn 0 1 s.num s.den) ((s.num,s.den),(0,1),[1]) rfl ⟨di,rfl⟩ ?_ ?_ ?_
 · rintro⟨⟨r,d⟩,⟨f,h⟩,t⟩ _;simp_arith only[al,af,v4]
 · rintro⟨⟨r,d⟩,⟨f,h⟩,t⟩ ⟨i,e⟩ c;have i:DI s.den f h r d:=i;have e:t++dn f h r d=1::dn 0 1 s.num s.den:=e;have hr:0<r:=by simpa using c
   obtain⟨i2,l,q1⟩:=i.step hr
   have lt:t.length<sizeLine:=by
    have:=congrArg BF e;rw[wQ,wF]at this;omega
   obtain⟨b1,b2⟩:=i.le;obtain⟨c1,c2⟩:=i2.le;have h1:=i.h1;have r0:=i.rd;have e1:d.fdiv r=d / r:=wG _ (by omega);have e2:d.fmod r=d%r:=xa _ (by omega);have qb:d / r<=d:=Int.ediv_le_self r (by omega);have m1:bP d r:=.of (by omega) (by omega);have rz:r≠0:=by omega
   have m2:ba (d / r) h:=.rt (by omega);have m3:=w_ d hr;have m4:=xj d rz;refine⟨⟨i2,?_⟩,(show(d%r).toNat<r.toNat by omega),_,by(simp_arith only[al,af,v4,e1,e2,rz,m1,m2,lt])<;>rfl,?_⟩
   · show(t++[d / r*h+f])++dn h (d / r*h+f) (d%r) r=_;rw[<- e,eW hr,yM];rfl
   · simp_arith only[af,xD]
 · rintro⟨⟨r,d⟩,⟨f,h⟩,t⟩ ⟨i,e⟩ c;have i:DI s.den f h r d:=i;have e:t++dn f h r d=1::dn 0 1 s.num s.den:=e;have hr:¬0<r:=by simpa using c
   rw[dA hr,xX]at e;have tl:t.length<64:=by rw[e,wF];omega
   simp_arith only[al,af,v4,iR,k5,tl]
   (with_reducible (first|refine aA fun ns hns=>?_|refine aI fun ns hns=>?_))
   exact a_ (hQ ns ⟨hns.1,fun x=>by rw[hns.2,e]⟩)
noncomputable def br:List W->(v7->Prop)->Prop:=fun ws Q=>∃(s:Rat)(N:Int),ws=[.d (fr s),.d (.int N)]/\((vh s (10^9))/\(0<=N)/\(N<=10^9))/\∀ns:List Int,(DnS s ns)->Q (.tuple ((blk ns.reverse N).1.map uP))
theorem br.mono:∀ws (Q Q':v7->Prop),(∀d,Q d->Q' d)->br ws Q->br ws Q':=fun _ _ _ h_=>wJ fun _=>wJ fun _=>wq (wq fun q_ o_ ho_=>h_ _ (q_ o_ ho_))
theorem br.len:∀ws (Q:v7->Prop),br ws Q->ws.length=2:=fun _ _ h_=>by obtain⟨_,_,e_,_⟩:=h_;subst e_;rfl
theorem br.eq(s:Rat)(N:Int)(hs:vh s (10^9))(n0:0<=N)(n9:N<=10^9):br [.d (fr s),.d (.int N)]=u0 (anyM fun ns:List Int=>DnS s ns) fun ns=>VL.ret (.tuple ((blk ns.reverse N).1.map uP):v7):=by
 refine ac fun Q=>⟨?_,fun q_=>⟨s,N,rfl,⟨hs,n0,n9⟩,q_⟩⟩;rintro⟨s',N',e_,_,q_⟩;simp_arith only[fG,cf,cj,bG,bF,cH]at e_;obtain⟨rfl,rfl⟩:=e_;exact q_
theorem im:FnScope ["step", "many", "told", "left", "denominator", "often"] ["step", "many"] (defScope (ub 16)):=⟨rfl,rfl,rfl,by decide +kernel,rfl,by decide +kernel,by decide +kernel⟩
theorem d_blocks(Fn:FnIn K mg "blocks" (ub 16) ["step", "many"])(Z:Bz mg)(d_denominators:∀rl,Dfn P w K mg base rl "denominators" ["step"] 1 av)   : Dfn P w K mg base rl "blocks" ["step", "many"] 2 br:=by
 have sc:=im
 refine Dfn.of Fn sc (br.mono) (br.len) (fun cdv A outer s H E hr=>(ah (dh 2 sc.nd (c_ ab))
  (ah (aO 3 sc.nd (vn 1))
  (ah (cT [4,5] xF rfl (d9 Z.reversed_ (aa (ax (d_denominators _) (hr.mono (by decide)) (aa (vn 0) ab)) ab)) (aH 4 sc.nd) (ah (g9 (jB Z.divmod_ (aa (vn 3) (aa (vn 4) ab))) (d_ (n:=2) rfl (aZ (aH 5 sc.nd) (aZ (aH 3 sc.nd) cU))))
  (aq (dD (bo fC hC (aQ _) (vn 5) ag) (aq (dj 2 (aa (dG (aa (vn 4) (aa (vn 5) ab))) ab))) bY))))
  (aq (aG (cc Z.tuple_ (aa (vn 2) ab)))))))) ?_
 rintro ws Q ⟨s,N,rfl,⟨hs,n0,n9⟩,hQ⟩;refine aJ ?_;have sz:=wY;simp_arith only[al,af,av.eq,kN,og]
 (with_reducible (first|refine aA fun ns hns=>?_|refine aI fun ns hns=>?_))
 have hl:=hns.len hs;have bd:=hns.bd hs;have D9:=hs.2.2;have er:(ns.map wO).reverse=ns.reverse.map wO:=List.map_reverse.symm;simp_arith only[al,af,av.eq,kN,og,er];refine kO (xs:=ns.reverse) (enc:=wO) (fun i ρ=>∃z:List (Int×Int)×Int,z=(ns.reverse.take i).foldl u3 ([],N)/\ρ=[some (.d (fr s)),some (.d (.int N)),some (.ml (z.1.map uP)),some (.d (.int z.2)),none,none]) rfl ⟨_,rfl,rfl⟩ ?_ ?_
 · rintro i hi ρ ⟨z,ez,rfl⟩ K hK;have bi:=BlI.fold (xs:=ns.reverse.take i) (BlI.begin n0) fun x m=>(bd x (yW.mp (zE m))).1;rw[<- ez,za,x4]at bi;obtain⟨b1,b2⟩:=bd ns.reverse[i] (yW.mp (x5 hi));have e2:=dv (f:=u3) (a:=(([],N):List (Int×Int)×Int)) hi;rw[<- ez]at e2;generalize ns.reverse[i]=x at *;obtain⟨ts,l⟩:=z
   have tl:ts.length<sizeLine:=by
    have:ts.length<=min i ns.reverse.length:=bi.len;have:i<ns.reverse.length:=hi;rw[xK]at this;omega
   have l0:0<=l:=bi.l0;have xz:x≠0:=by omega
   have e3:l.fdiv x=l / x:=wG _ (by omega);have e4:l.fmod x=l%x:=xa _ (by omega);have cd:bP l x:=.of xz (by omega);rw[show u3 (ts,l) x=(if 0<l / x then ts++[(x,l / x)]else ts,l%x)from rfl]at e2;by_cases c:0<l / x
   · rw[if_pos c]at e2;simp_arith only[al,af,v4,e3,e4,cd,xz,c,tl,uP];refine hK _ (eS ⟨_,e2.symm,?_⟩);simp_arith only[af,xD,uP]
   · rw[if_neg c]at e2;simp_arith only[al,af,v4,e3,e4,cd,xz,c,tl,uP];exact hK _ (eS ⟨_,e2.symm,rfl⟩)
 · rintro ρ ⟨z,ez,rfl⟩;rw[xI (we _)]at ez;simp_arith only[al,af,v4];rw[ez];exact a_ (hQ ns hns)
theorem mi(q:Rat):((q.den:Int):Rat)≠0:=fun z=>by
 have z2:(q.den:Int)=0:=by exact_mod_cast z
 have:=q.den_pos;omega
theorem oi(q:Rat):((q.num:Int):Rat)=q*((q.den:Int):Rat):=by
 have e:qd q.num q.den=q:=ix q;unfold qd at e;have h:=mi q;generalize ((q.num:Int):Rat)=A at *;generalize ((q.den:Int):Rat)=B at *;rw[<- e];exact(Rat.div_mul_cancel h).symm
theorem mI(a s:Rat)(n:Int):tT (a+(n:Rat)*s)=qd ((a.num*s.den+n*s.num*a.den)%((a.den:Int)*s.den)) ((a.den:Int)*s.den):=by
 have h1:=a.den_pos;have h2:=s.den_pos;have hb:0<(a.den:Int)*s.den:=BI (by omega) (by omega);have m1:=xj (a.num*s.den+n*s.num*a.den) (show(a.den:Int)*s.den≠0 by omega);have m2:=w_ (a.num*s.den+n*s.num*a.den) hb;refine pz (-((a.num*s.den+n*s.num*a.den) / ((a.den:Int)*s.den))) ?_ (lD hb m1) (iy hb m2);have e:=yJ (a.num*s.den+n*s.num*a.den) ((a.den:Int)*s.den);have e1:(a.num*s.den+n*s.num*a.den)%((a.den:Int)*s.den)=(a.num*s.den+n*s.num*a.den)-((a.den:Int)*s.den)*((a.num*s.den+n*s.num*a.den) / ((a.den:Int)*s.den)):=by omega
 rw[e1,iz (by omega),Rat.intCast_neg]
 have e2:qd (a.num*s.den+n*s.num*a.den) ((a.den:Int)*s.den)=a+(n:Rat)*s:=by
  unfold qd;have p1:=mi a;have p2:=mi s;rw[AI,zi,zi,zi,zi,oi a,oi s];generalize ((a.den:Int):Rat)=B at *;generalize ((s.den:Int):Rat)=D at *;generalize (n:Rat)=N at *;have hz:B*D≠0:=fun z=>by rcases Rat.mul_eq_zero.mp z with z|z<;>contradiction
  have:a*B*D+N*(s*D)*B=(a+N*s)*(B*D):=by grind
  rw[this,BJ,Rat.mul_assoc,Rat.mul_inv_cancel _ hz,Rat.mul_one]
 rw[e2]
 grind
theorem nM{N:Int}(h:0<N):qd N N=1:=by
 unfold qd
 have hz:(N:Rat)≠0:=fun z=>by
  have z2:N=0:=by exact_mod_cast z
  omega
 rw[BJ];exact Rat.mul_inv_cancel _ hz
theorem om{N:Int}(hN:0<N):mn (qd b N) 1=qd (min N b) N:=by
 unfold mn;by_cases c:b<N
 · rw[if_pos (iy hN c),show min N b=b by omega]
 · rw[show min N b=N by omega,nM hN,if_neg];intro l;have h0:=lD (a:=b-N) hN (by omega);have e:=iz (n:=b) (d:=N) (k:=1) (by omega);rw[BC]at e;rw[e]at h0;have:((1:Int):Rat)=1:=rfl;rw[this]at h0
   grind
theorem nL{a m:Int}(h1:0<=a)(h2:a<b)(h3:b<=m):vh (qd a b) m:=by
 have hb:0<b:=by omega
 have e:=gf hb (a:=a)
 have hg:0<(wX a b:Int):=by
  have:=zG a (show b≠0 by omega);omega
 unfold mv at e;unfold fr at e;simp only[xB,wH,zz,and_true]at e;obtain⟨e1,e2⟩:=e;rw[wG _ (by omega)]at e1 e2;have da:(wX a b:Int)∣a:=Int.gcd_dvd_left ..;have db:(wX a b:Int)∣b:=Int.gcd_dvd_right ..;generalize (wX a b:Int)=g at *;obtain⟨x,rfl⟩:=da;obtain⟨y,rfl⟩:=db;rw[Int.mul_ediv_cancel_left _ (by omega)]at e1 e2;have y0:0<y:=Int.pos_of_mul_pos_right hb hg;have xy:x<y:=Int.lt_of_mul_lt_mul_left h2 (by omega);have x0:0<=x:=Int.le_of_mul_le_mul_left (by rw[Br];exact h1) hg;refine⟨by omega,by omega,?_⟩;have:1*y<=g*y:=zw (by omega) (by omega);omega
theorem vh.sm(h:vh s (10^9)):uA 30 s:=by
 obtain⟨h1,h2,h3⟩:=h;exact⟨by omega,by omega⟩
noncomputable def aK:List W->(v7->Prop)->Prop:=fun ws Q=>∃(s:Rat)(N:Int),ws=[.d (fr s),.d (.int N)]/\((vh s (10^9))/\(1<=N)/\(N<=10^9))/\∀ns:List Int,(DnS s ns)->Q (fr (qd (min N (2*((blk ns.reverse N).1.map (·.2)).sum)) N))
theorem aK.mono:∀ws (Q Q':v7->Prop),(∀d,Q d->Q' d)->aK ws Q->aK ws Q':=fun _ _ _ h_=>wJ fun _=>wJ fun _=>wq (wq fun q_ o_ ho_=>h_ _ (q_ o_ ho_))
theorem aK.len:∀ws (Q:v7->Prop),aK ws Q->ws.length=2:=fun _ _ h_=>by obtain⟨_,_,e_,_⟩:=h_;subst e_;rfl
theorem aK.eq(s:Rat)(N:Int)(hs:vh s (10^9))(n0:1<=N)(n9:N<=10^9):aK [.d (fr s),.d (.int N)]=u0 (anyM fun ns:List Int=>DnS s ns) fun ns=>VL.ret (fr (qd (min N (2*((blk ns.reverse N).1.map (·.2)).sum)) N):v7):=by
 refine ac fun Q=>⟨?_,fun q_=>⟨s,N,rfl,⟨hs,n0,n9⟩,q_⟩⟩;rintro⟨s',N',e_,_,q_⟩;simp_arith only[fG,cf,cj,bG,bF,cH]at e_;obtain⟨rfl,rfl⟩:=e_;exact q_
theorem dI:FnScope ["step", "many", "blocks_in_all"] ["step", "many"] (defScope (ub 17)):=⟨rfl,rfl,rfl,by decide +kernel,rfl,by decide +kernel,by decide +kernel⟩
theorem d_step_bound(Fn:FnIn K mg "step_bound" (ub 17) ["step", "many"])(Z:Bz mg)(d_lesser:∀rl,Dfn P w K mg base rl "lesser" ["one", "other"] 2 bD)(d_fraction:∀rl,Dfn P w K mg base rl "fraction" ["top", "bottom"] 2 aL)(d_blocks:∀rl,Dfn P w K mg base rl "blocks" ["step", "many"] 2 br)(gl_ONE:GlD K mg "ONE" (pr 1 1))  : Dfn P w K mg base rl "step_bound" ["step", "many"] 3 aK:=by
 have sc:=dI
 refine Dfn.of Fn sc (aK.mono) (aK.len) (fun cdv A outer s H E hr=>(ah (aO 2 sc.nd (v_sum Z.sum_ (aa (cL ["denominator", "often"] [none,none] rfl (kA (ax (d_blocks _) (hr.mono (by decide)) (aa (vn 0) (aa (vn 1) ab)))) (fun _=>(d_ (n:=2) rfl (aZ (aH 0 (show Al (["denominator", "often"]:List Str) by decide +kernel)) (aZ (aH 1 (show Al (["denominator", "often"]:List Str) by decide +kernel)) cU)))) (fun _=>fQ) (fun _=>(vn 1))) ab)))
  (aq (aG (ax (d_lesser _) (hr.mono (by decide)) (aa (ax (d_fraction _) (hr.mono (by decide)) (aa (v_mul ag (vn 2)) (aa (vn 1) ab))) (aa (mW gl_ONE) ab))))))) ?_
 rintro ws Q ⟨s,N,rfl,⟨hs,n0,n9⟩,hQ⟩;refine aJ ?_;have sz:=wY;have n0':0<=N:=by omega
 simp_arith only[al,af,br.eq]
 (with_reducible (first|refine aA fun ns hns=>?_|refine aI fun ns hns=>?_))
 obtain⟨bi,_⟩:=hns.goes hs n0';have hl:=hns.len hs;have ll:=bi.len;have hQ:=hQ ns hns;generalize blk ns.reverse N=z at bi ll hQ ⊢;refine um (fJ (xs:=z.1) (enc:=uP) (fun p=>.int p.2) rfl ?_ (by omega) ?_)
 · intro p mp;simp_arith only[al,af,uN,uP]
 · have em:z.1.map (fun p=>wO p.2)=(z.1.map (·.2)).map wO:=by rw[Bt];rfl
   rw[em]
   have s0:0<=(z.1.map (·.2)).sum:=by
    have key:∀us:List (Int×Int),(∀p∈us,1<=p.2)->0<=(us.map (·.2)).sum:=by
     intro us
     induction us with
     | nil=>intro _;exact y8 _
     | cons u us ih =>
       intro h;have a:=h u wg;have b:=ih fun p m=>h p (wf _ m);rw[xw,zI];omega
    exact key z.1 fun p m=>(bi.pos p m).2.1
   have few:=bi.few;have l0:=bi.l0;have cm:ba 2 (z.1.map (·.2)).sum:=.rt (by omega);have hb:0<N:=by omega
   have bz:N.natAbs<2^8000:=wa (show N.natAbs<2^40 by omega) (wj (by decide) (by decide));have q1:uA 2000 (qd (2*(z.1.map (·.2)).sum) N):=(lC (k:=40) hb (by omega) (by omega)).mono (by decide);have q2:uA 2000 1:=tq.up;simp_arith only[al,af,vZ,bD.eq,aL.eq,br.eq,v4];rw[<- om hb]at hQ;exact a_ hQ
noncomputable def aB:List W->(v7->Prop)->Prop:=fun ws Q=>∃(a s:Rat)(n:Int),ws=[.d (fr a),.d (fr s),.d (.int n)]/\((vh a (10^9))/\(vh s (10^9))/\(0<=n)/\(n<=10^9))/\Q (fr (tT (a+(n:Rat)*s)))
theorem aB.mono:∀ws (Q Q':v7->Prop),(∀d,Q d->Q' d)->aB ws Q->aB ws Q':=fun _ _ _ h_=>wJ fun _=>wJ fun _=>wJ fun _=>wq (wq (h_ _))
theorem aB.len:∀ws (Q:v7->Prop),aB ws Q->ws.length=3:=fun _ _ h_=>by obtain⟨_,_,_,e_,_⟩:=h_;subst e_;rfl
theorem aB.eq(a s:Rat)(n:Int)(ha:vh a (10^9))(hs:vh s (10^9))(n0:0<=n)(n9:n<=10^9):aB [.d (fr a),.d (fr s),.d (.int n)]=VL.ret (fr (tT (a+(n:Rat)*s)):v7):=by
 refine ac fun Q=>⟨?_,fun q_=>⟨a,s,n,rfl,⟨ha,hs,n0,n9⟩,q_⟩⟩;rintro⟨a',s',n',e_,_,q_⟩;simp_arith only[fG,cf,cj,bG,bF,cH]at e_;obtain⟨rfl,rfl,rfl⟩:=e_;exact q_
theorem dd:FnScope ["start", "step", "n"] ["start", "step", "n"] (defScope (ub 13)):=⟨rfl,rfl,rfl,by decide +kernel,rfl,by decide +kernel,by decide +kernel⟩
theorem d_step_number(Fn:FnIn K mg "step_number" (ub 13) ["start", "step", "n"])(Z:Bz mg)(d_wrapped:∀rl,Dfn P w K mg base rl "wrapped" ["one"] 1 bf)(d_plus:∀rl,Dfn P w K mg base rl "plus" ["one", "other"] 3 cY)(d_times:∀rl,Dfn P w K mg base rl "times" ["one", "other"] 3 bT)   : Dfn P w K mg base rl "step_number" ["start", "step", "n"] 4 aB:=by
 have sc:=dd;refine Dfn.of Fn sc (aB.mono) (aB.len) (fun cdv A outer s H E hr=>(aq (aG (ax (d_wrapped _) (hr.mono (by decide)) (aa (ax (d_plus _) (hr.mono (by decide)) (aa (vn 0) (aa (ax (d_times _) (hr.mono (by decide)) (aa (dG (aa (vn 2) (aa ag ab))) (aa (vn 1) ab))) ab))) ab))))) ?_;rintro ws Q ⟨a,s,n,rfl,⟨ha,hs,n0,n9⟩,hQ⟩;refine aJ ?_;have iu:uA 30 (n:Rat):=kP (by omega) (by decide);have eu:Bp [.int n,.int 1]=fr (n:Rat):=rfl;have m1:=kL iu hs.sm;have m2:=k6 ha.sm m1;have s1:uA 2000 (n:Rat):=iu.mono (by decide);have s2:uA 2000 s:=hs.sm.mono (by decide);have s3:uA 2000 a:=ha.sm.mono (by decide);have s4:uA 2000 ((n:Rat)*s):=m1.mono (by decide);have s5:uA 2000 (a+(n:Rat)*s):=m2.mono (by decide);simp_arith only[al,af,bf.eq,cY.eq,bT.eq,v4,eu];exact a_ hQ
noncomputable def bg:List W->(v7->Prop)->Prop:=fun ws Q=>∃(a s:Rat)(N:Int),ws=[.d (fr a),.d (fr s),.d (.int N)]/\((vh a (10^9))/\(vh s (10^9))/\(0<=N)/\(N<=1000))/\Q (.tuple ((wI N.toNat).map fun j:Nat=>.tuple [fr (tT (a+((j:Int):Rat)*s))]))
theorem bg.mono:∀ws (Q Q':v7->Prop),(∀d,Q d->Q' d)->bg ws Q->bg ws Q':=fun _ _ _ h_=>wJ fun _=>wJ fun _=>wJ fun _=>wq (wq (h_ _))
theorem bg.len:∀ws (Q:v7->Prop),bg ws Q->ws.length=3:=fun _ _ h_=>by obtain⟨_,_,_,e_,_⟩:=h_;subst e_;rfl
theorem bg.eq(a s:Rat)(N:Int)(ha:vh a (10^9))(hs:vh s (10^9))(n0:0<=N)(n9:N<=1000):bg [.d (fr a),.d (fr s),.d (.int N)]=VL.ret (.tuple ((wI N.toNat).map fun j:Nat=>.tuple [fr (tT (a+((j:Int):Rat)*s))]):v7):=by
 refine ac fun Q=>⟨?_,fun q_=>⟨a,s,N,rfl,⟨ha,hs,n0,n9⟩,q_⟩⟩;rintro⟨a',s',N',e_,_,q_⟩;simp_arith only[fG,cf,cj,bG,bF,cH]at e_;obtain⟨rfl,rfl,rfl⟩:=e_;exact q_
theorem gH:FnScope ["start", "step", "many"] ["start", "step", "many"] (defScope (ub 14)):=⟨rfl,rfl,rfl,by decide +kernel,rfl,by decide +kernel,by decide +kernel⟩
theorem d_stepped(Fn:FnIn K mg "stepped" (ub 14) ["start", "step", "many"])(Z:Bz mg)(d_step_number:∀rl,Dfn P w K mg base rl "step_number" ["start", "step", "n"] 4 aB)   : Dfn P w K mg base rl "stepped" ["start", "step", "many"] 5 bg:=by
 have sc:=gH;refine Dfn.of Fn sc (bg.mono) (bg.len) (fun cdv A outer s H E hr=>(aq (aG (cc Z.tuple_ (aa (cL ["n", "start", "step"] [none,some 0,some 1] rfl (bZ Z.range_ (aa (vn 2) ab)) (fun _=>(aH 0 (show Al (["n", "start", "step"]:List Str) by decide +kernel))) (fun _=>fQ) (fun _=>(dG (aa (ax (d_step_number _) (hr.mono (by decide)) (aa (vn 1) (aa (vn 2) (aa (vn 0) ab)))) ab)))) ab))))) ?_;rintro ws Q ⟨a,s,N,rfl,⟨ha,hs,n0,n9⟩,hQ⟩;refine aJ ?_;have sz:=wY;have g1 : -(2^62)<=N/\N<2^62:=by omega
 simp_arith only[al,af,v4];refine kr (fun j:Nat=>.tuple [fr (tT (a+((j:Int):Rat)*s))]) ?_ (by omega) ?_
 · intro j hj;simp_arith only[al,af,uN,aB.eq,v4,AL]
 · have e0:(N-0).toNat=N.toNat:=by rw[Int.sub_zero]
   try rw[e0]
   exact a_ hQ
noncomputable def aY:List W->(v7->Prop)->Prop:=fun ws Q=>∃(i j:Int),ws=[.d (.int i),.d (.int j)]/\((0<=i)/\(0<=j))/\Q (.int (wX i j:Nat))
theorem aY.mono:∀ws (Q Q':v7->Prop),(∀d,Q d->Q' d)->aY ws Q->aY ws Q':=fun _ _ _ h_=>wJ fun _=>wJ fun _=>wq (wq (h_ _))
theorem aY.len:∀ws (Q:v7->Prop),aY ws Q->ws.length=2:=fun _ _ h_=>by obtain⟨_,_,e_,_⟩:=h_;subst e_;rfl
theorem aY.eq(i j:Int)(hi:0<=i)(hj:0<=j):aY [.d (.int i),.d (.int j)]=VL.ret (.int (wX i j:Nat):v7):=by
 refine ac fun Q=>⟨?_,fun q_=>⟨i,j,rfl,⟨hi,hj⟩,q_⟩⟩;rintro⟨i',j',e_,_,q_⟩;simp_arith only[and_true]at e_;obtain⟨rfl,rfl⟩:=e_;exact q_
theorem fv:FnScope ["_law_one", "_law_other"] ["_law_one", "_law_other"] (defScope (ub 21)):=⟨rfl,rfl,rfl,by decide +kernel,rfl,by decide +kernel,by decide +kernel⟩
theorem d__law_gcd(Fn:FnIn K mg "_law_gcd" (ub 21) ["_law_one", "_law_other"])(Z:Bz mg)    : Dfn P w K mg base rl "_law_gcd" ["_law_one", "_law_other"] 1 aY:=by
 have sc:=fv
 refine Dfn.of Fn sc (aY.mono) (aY.len) (fun cdv A outer s H E hr=>(ah (bX [] xF (bo fC hC (aQ _) (vn 1) ag) (aq (cS 0 1 rfl sc.nd (aa (vn 1) (aa (v_mod (vn 0) (vn 1)) ab)))))
  (aq (aG (vn 0))))) ?_
 rintro ws Q ⟨i,j,rfl,⟨hi,hj⟩,hQ⟩;refine aJ ?_;simp_arith only[af];refine cJ (σ:=Int×Int) (fun s=>[some (.d (.int s.1)),some (.d (.int s.2))]) (fun s=>decide (0<s.2)) (fun s=>(s.2,s.1.fmod s.2)) (fun s=>s.2.natAbs) (fun s=>0<=s.1/\0<=s.2/\wX s.1 s.2=wX i j) (i,j) rfl ⟨hi,hj,rfl⟩ ?_ ?_ ?_
 · intro s _;simp_arith only[af]
 · rintro⟨x,y⟩ ⟨x0,y0,e⟩ c;have c1:0<y:=by simpa using c
   have hc:y≠0:=by omega
   refine⟨⟨y0,xh _ c1,by rw[cQ];exact e⟩,bW hc,_,by(simp_arith only[al,af])<;>rfl,rfl⟩
 · rintro⟨x,y⟩ ⟨x0,y0,e⟩ c
   have c1 : y = 0 := by have:¬0<y:=by simpa using c
                         have:0<=y:=y0;omega
   subst c1;have x0:0<=x:=x0;have e:wX x 0=wX i j:=e;simp_arith only[af];rw[z_]at e;have:x=((wX i j:Nat):Int):=by omega
   rw[this];exact a_ hQ
noncomputable def aD:List W->(v7->Prop)->Prop:=fun ws Q=>∃(a b:Int),ws=[.d (.int a),.d (.int b)]/\((0<b)/\(b.natAbs<2^8000))/\Q (fr (qd a b))
theorem aD.mono:∀ws (Q Q':v7->Prop),(∀d,Q d->Q' d)->aD ws Q->aD ws Q':=fun _ _ _ h_=>wJ fun _=>wJ fun _=>wq (wq (h_ _))
theorem aD.len:∀ws (Q:v7->Prop),aD ws Q->ws.length=2:=fun _ _ h_=>by obtain⟨_,_,e_,_⟩:=h_;subst e_;rfl
theorem aD.eq(a b:Int)(hb:0<b)(hz:b.natAbs<2^8000):aD [.d (.int a),.d (.int b)]=VL.ret (fr (qd a b):v7):=by
 refine ac fun Q=>⟨?_,fun q_=>⟨a,b,rfl,⟨hb,hz⟩,q_⟩⟩;rintro⟨a',b',e_,_,q_⟩;simp_arith only[and_true]at e_;obtain⟨rfl,rfl⟩:=e_;exact q_
theorem eG:FnScope ["_law_top", "_law_bottom", "_law_common"] ["_law_top", "_law_bottom"] (defScope (ub 22)):=⟨rfl,rfl,rfl,by decide +kernel,rfl,by decide +kernel,by decide +kernel⟩
theorem d__law_frac(Fn:FnIn K mg "_law_frac" (ub 22) ["_law_top", "_law_bottom"])(Z:Bz mg)(d__law_gcd:∀rl,Dfn P w K mg base rl "_law_gcd" ["_law_one", "_law_other"] 1 aY)   : Dfn P w K mg base rl "_law_frac" ["_law_top", "_law_bottom"] 2 aD:=by
 have sc:=eG
 refine Dfn.of Fn sc (aD.mono) (aD.len) (fun cdv A outer s H E hr=>(ah (aO 2 sc.nd (ax (d__law_gcd _) (hr.mono (by decide)) (aa (mY Z.abs_ (aa (vn 0) ab)) (aa (vn 1) ab))))
  (aq (aG (dG (aa (v_div (vn 0) (vn 2)) (aa (v_div (vn 1) (vn 2)) ab))))))) ?_
 rintro ws Q ⟨a,b,rfl,⟨hb,hz⟩,hQ⟩;refine aJ ?_;have e:wX (if a<0 then -a else a) b=wX a b:=by split<;>simp[wX]
 have c1:bP a (wX a b:Int):=dW hb hz _;have c2:bP b (wX a b:Int):=dW hb hz _;have a0:0<=(if a<0 then -a else a):=by split<;>omega
 simp_arith only[al,af,aY.eq,e];rw[gf hb];exact a_ hQ
noncomputable def aP:List W->(v7->Prop)->Prop:=fun ws Q=>ws=[.reel]/\(True)/\∀s:Rat,(vh s (10^9))->Q (fr s)
theorem aP.mono:∀ws (Q Q':v7->Prop),(∀d,Q d->Q' d)->aP ws Q->aP ws Q':=fun _ _ _ h_=>wq (wq fun q_ o_ ho_=>h_ _ (q_ o_ ho_))
theorem aP.len:∀ws (Q:v7->Prop),aP ws Q->ws.length=1:=fun _ _ h_=>by obtain⟨e_,_⟩:=h_;subst e_;rfl
theorem aP.eq   : aP [.reel]=u0 (anyM fun s:Rat=>vh s (10^9)) fun s=>VL.ret (fr s:v7):=by
 refine ac fun Q=>⟨?_,fun q_=>⟨rfl,trivial,q_⟩⟩;rintro⟨e_,_,q_⟩;simp_arith only[and_true]at e_;exact q_
theorem eF:FnScope ["_law_feed_here", "_law_bottom", "_law_near"] ["_law_feed_here"] (defScope (ub 23)):=⟨rfl,rfl,rfl,by decide +kernel,rfl,by decide +kernel,by decide +kernel⟩
theorem d__law_step(Fn:FnIn K mg "_law_step" (ub 23) ["_law_feed_here"])(Z:Bz mg)(d__law_frac:∀rl,Dfn P w K mg base rl "_law_frac" ["_law_top", "_law_bottom"] 2 aD)(d__law_draw:∀rl,Dfn P w K mg base rl "_law_draw" ["_law_feed_here", "_law_many"] 2 dO)   : Dfn P w K mg base rl "_law_step" ["_law_feed_here"] 3 aP:=by
 have sc:=eF
 refine Dfn.of Fn sc (aP.mono) (aP.len) (fun cdv A outer s H E hr=>(ah (aO 1 sc.nd (v_add ag (ax (d__law_draw _) (hr.mono (by decide)) (aa (vn 0) (aa (bH (c_ (aa ag (aa ag (aa ag (aa (v_pow ag ag) ab))))) (ax (d__law_draw _) (hr.mono (by decide)) (aa (vn 0) (aa ag ab)))) ab)))))
  (ah (aO 2 sc.nd (bH (c_ (aa (ax (d__law_draw _) (hr.mono (by decide)) (aa (vn 0) (aa (vn 1) ab))) (aa (v_div (v_mul (vn 1) ag) ag) (aa (v_div (vn 1) ag) (aa (v_sub (vn 1) ag) ab))))) (ax (d__law_draw _) (hr.mono (by decide)) (aa (vn 0) (aa ag ab)))))
  (aq (aG (ax (d__law_frac _) (hr.mono (by decide)) (aa (kB Z.min_ (aa (vn 2) (aa (v_sub (vn 1) ag) ab))) (aa (vn 1) ab)))))))) ?_
 rintro ws Q ⟨rfl,_,hQ⟩;refine aJ ?_;have cp9:po 10 9:=⟨by decide,by decide,by decide⟩;have e9:(10:Int)^Int.toNat 9=1000000000:=by decide
 simp_arith only[al,af,p__law_draw.eq,cp9,e9]
 (with_reducible (first|refine aA fun a ha=>?_|refine aI fun a ha=>?_))
 refine ul (cn (xs:=[5,60,1000,1000000000]) (enc:=wO) (fun m:Int=>1<=m/\m<=10^9) rfl ha.1 ha.2 (by decide) ?_);rintro mo ⟨mo1,mo9⟩;simp_arith only[al,af,p__law_draw.eq]
 (with_reducible (first|refine aA fun b hb=>?_|refine aI fun b hb=>?_))
 have cm:ba (1+b) 377:=.rt (by omega);have cd:bP ((1+b)*377) 610:=bP.of (by decide) (by decide);have cd3:bP (1+b) 3:=bP.of (by decide) (by decide)
 try simp_arith only[al,af,p__law_draw.eq]
 (with_reducible (first|refine aA fun c hc=>?_|refine aI fun c hc=>?_))
 try simp_arith only[al,af,p__law_draw.eq]
 (with_reducible (first|refine aA fun k hk=>?_|refine aI fun k hk=>?_))
 refine ul (cn (xs:=[c,((1+b)*377).fdiv 610,(1+b).fdiv 3,1+b-1]) (enc:=wO) (fun z:Int=>0<=z) rfl hk.1 (by simpa using hk.2) ?_ fun z hz=>?_)
 · intro z mz;have e1:((1+b)*377).fdiv 610=((1+b)*377) / 610:=wG _ (by decide);have e2:(1+b).fdiv 3=(1+b) / 3:=wG _ (by decide);simp only[wE,yU,or_false]at mz;omega
 have hz0:0<=min z (1+b-1):=by omega
 have hz1:min z (1+b-1)<1+b:=by omega
 have hb1:(1+b).natAbs<2^8000:=wa (show(1+b).natAbs<2^31 by omega) (wj (by decide) (by decide));simp_arith only[al,af,aD.eq];exact a_ (hQ _ (nL hz0 hz1 (by omega)))
noncomputable def ak:List W->(v7->Prop)->Prop:=fun ws Q=>∃(s:Rat),ws=[.d (fr s)]/\((vh s (10^9)))/\∀ns:List Int,(DnS s ns)->Q (.tuple (ns.map .int))
theorem ak.mono:∀ws (Q Q':v7->Prop),(∀d,Q d->Q' d)->ak ws Q->ak ws Q':=fun _ _ _ h_=>wJ fun _=>wq (wq fun q_ o_ ho_=>h_ _ (q_ o_ ho_))
theorem ak.len:∀ws (Q:v7->Prop),ak ws Q->ws.length=1:=fun _ _ h_=>by obtain⟨_,e_,_⟩:=h_;subst e_;rfl
theorem ak.eq(s:Rat)(hs:vh s (10^9)):ak [.d (fr s)]=u0 (anyM fun ns:List Int=>DnS s ns) fun ns=>VL.ret (.tuple (ns.map .int):v7):=by
 refine ac fun Q=>⟨?_,fun q_=>⟨s,rfl,hs,q_⟩⟩;rintro⟨s',e_,_,q_⟩;simp_arith only[fG,cf,cj,bG,bF,cH]at e_;obtain rfl:=e_;exact q_
theorem bN:FnScope ["_law_step_here", "_law_quotients", "_law_a", "_law_b", "_law_found", "_law_k"] ["_law_step_here"] (defScope (ub 24)):=⟨rfl,rfl,rfl,by decide +kernel,rfl,by decide +kernel,by decide +kernel⟩
theorem d__law_denominators(Fn:FnIn K mg "_law_denominators" (ub 24) ["_law_step_here"])(Z:Bz mg)    : Dfn P w K mg base rl "_law_denominators" ["_law_step_here"] 1 ak:=by
 have sc:=bN
 refine Dfn.of Fn sc (ak.mono) (ak.len) (fun cdv A outer s H E hr=>(ah (dh 1 sc.nd (c_ ab))
  (ah (cS 2 3 rfl sc.nd (aa (bH (vn 0) ag) (aa (bH (vn 0) ag) ab)))
  (ah (bX [] xF (bo fC hC (aQ _) (vn 3) ag) (ah (dj 1 (aa (v_div (vn 2) (vn 3)) ab))
  (aq (cS 2 3 rfl sc.nd (aa (vn 3) (aa (v_mod (vn 2) (vn 3)) ab))))))
  (ah (dh 4 sc.nd (c_ (aa ag ab)))
  (ah (cT [5] xF rfl (bZ Z.range_ (aa (pG Z.len_ (aa (vn 1) ab)) ab)) (aH 5 sc.nd) (aq (dj 4 (aa (v_add (v_mul (bH (vn 1) (vn 5)) (bH (vn 4) (vn 5))) (bH (mX (c_ (aa ag ab)) (vn 4)) (vn 5))) ab))))
  (aq (aG (cc Z.tuple_ (aa (eh rfl Z.sorted_ Z.set_ (aa (vn 4) ab)) ab)))))))))) ?_
 rintro ws Q ⟨s,rfl,hs,hQ⟩;refine aJ ?_;have sz:=wY;have di:=hs.di;have dl:=gn 30 (f:=0) (h:=1) hs.1 hs.2.1 (by have:=hs.2.1;have:=hs.2.2;omega);have D9:=hs.2.2;have cvq:=oW (f:=0) (h:=1) (d:=s.den) _ (we _) hs.1;have bds:=km _ (we _) di;rw[cvq]at dl bds;rw[gq]at dl;have ql:=kH (D:=s.den) _ (we _) hs.1 (show 0<=(s.den:Int) by omega) (y8 _) (Int.le_of_lt hs.2.1);simp_arith only[al,af,v4]
 refine cJ (σ:=(Int×Int)×List Int) (fun z=>[some (.d (fr s)),some (.ml (z.2.map .int)),some (.d (.int z.1.1)),some (.d (.int z.1.2)),none,none]) (fun z=>decide (0<z.1.2))
  (fun z=>((z.1.2,z.1.1%z.1.2),z.2++[z.1.1 / z.1.2])) (fun z=>z.1.2.toNat) (fun z=>z.2++quo z.1.1 z.1.2=quo s.den s.num/\0<=z.1.2/\z.1.2<=s.den/\0<=z.1.1/\z.1.1<=s.den) ((s.den,s.num),[]) rfl ⟨rfl,hs.1,Int.le_of_lt hs.2.1,(show 0<=(s.den:Int) by omega),y8 _⟩ ?_ ?_ ?_
 · rintro⟨⟨a,b⟩,t⟩ _;simp_arith only[al,af,v4]
 · rintro⟨⟨a,b⟩,t⟩ ⟨e,b0,b1,a0,a1⟩ c;have e:t++quo a b=quo s.den s.num:=e;have b0:0<=b:=b0;have b1:b<=s.den:=b1;have a0:0<=a:=a0;have a1:a<=s.den:=a1;have hb:0<b:=by simpa using c
   have lt:t.length<sizeLine:=by
    have:=congrArg BF e;rw[wQ]at this;omega
   have e1:a.fdiv b=a / b:=wG _ (by omega);have e2:a.fmod b=a%b:=xa _ (by omega);have bz:b≠0:=by omega
   have m1:bP a b:=.of (by omega) (by omega);have m3:=w_ a hb;have m4:=xj a bz;refine⟨⟨?_,m4,by show a%b<=s.den;omega,b0,b1⟩,(show(a%b).toNat<b.toNat by omega),_,by(simp_arith only[al,af,v4,e1,e2,bz,m1,lt])<;>rfl,?_⟩
   · show(t++[a / b])++quo b (a%b)=_;rw[<- e,fy hb,yM];rfl
   · simp_arith only[af,xD]
 · rintro⟨⟨a,b⟩,t⟩ ⟨e,b0,b1,a0,a1⟩ c;have e:t++quo a b=quo s.den s.num:=e;have hb:¬0<b:=by simpa using c
   rw[fA hb,xX]at e;subst e;simp_arith only[al,af,v4];refine gm (fun i=>[some (.d (fr s)),some (.ml ((quo s.den s.num).map .int)),some (.d (.int a)),some (.d (.int b)),some (.ml ((1::cv 0 1 ((quo s.den s.num).take i)).map .int)),none]) rfl ?_ ?_
   · intro i hi;clear e b0 b1 a0 a1 c;generalize quo s.den s.num=qs at *;obtain⟨x,y,ex,ey,ec⟩:=jg (qs.take i) qs[i] 0 1;rw[x4,Nat.min_eq_left (by omega)]at ex ey;have et:qs.take (i+1)=qs.take i++[qs[i]]:=ya hi;obtain⟨q0,q1⟩:=ql qs[i] (x5 hi);have dp:=s.den_pos;have e1:L2.atI (qs.map wO) (i:Int)=some (.int qs[i]):=by rw[cw,cu (wz hi)];rfl
     have mc:∀k,∀z∈cv 0 1 (qs.take k),1<=z/\z<=s.den:=fun k z m=>bds.1 z (by rw[jf]at m;exact zE m)
     have bx:1<=x/\x<=s.den:=by
      rcases wE.mp (yb ex)with h|h
      · omega
      · exact mc i x h
     have by':0<=y:=by
      rcases wE.mp (yb ey)with h|h
      · omega
      · rcases wE.mp h with h|h
        · omega
        · have:=mc i y h;omega
     have bz:qs[i]*x+y<=s.den:=by
      have:=mc (i+1) (qs[i]*x+y) (by rw[et,ec];exact wN _ wg);exact this.2
     have cl:(cv 0 1 (qs.take i)).length=i:=by rw[gq,x4,Nat.min_eq_left (by omega)]
     have e2:L2.atI ((1::cv 0 1 (qs.take i)).map wO) (i:Int)=some (.int x):=by rw[cw,cu ex];rfl
     have e3:L2.atI ((0::1::cv 0 1 (qs.take i)).map wO) (i:Int)=some (.int y):=by rw[cw,cu ey];rfl
     simp only[xw]at e2 e3;rw[et,ec];generalize qs[i]=p at *;have m1:ba p x:=.rt (by omega);have l1:((1::cv 0 1 (qs.take i)).map wO).length=i+1:=by rw[wp,wF,cl]
     refine⟨_,by(simp_arith only[al,af,v4,e1,e2,e3,m1,l1,cl,AL])<;>rfl,?_⟩;simp_arith only[af,xD]
   · rw[xI (we _)];have tl:(1::cv 0 1 (quo s.den s.num)).length<64:=by rw[wF,gq];omega
     have eL:o0 (W.pk (wO 1::(cv 0 1 (quo s.den s.num)).map wO))=some (1::cv 0 1 (quo s.den s.num)):=k5 (1::cv 0 1 (quo s.den s.num));simp_arith only[al,af,v4,iR,eL,tl]
     (with_reducible (first|refine aA fun ns hns=>?_|refine aI fun ns hns=>?_))
     exact a_ (hQ ns ⟨hns.1,fun x=>by rw[hns.2,cvq]⟩)
noncomputable def aC:List W->(v7->Prop)->Prop:=fun ws Q=>∃(a s:Rat)(N:Int),ws=[.d (fr a),.d (fr s),.d (.int N)]/\((vh a (10^9))/\(vh s (10^9))/\(0<=N)/\(N<=1000))/\Q (.tuple ((wI N.toNat).map fun j:Nat=>.tuple [fr (tT (a+((j:Int):Rat)*s))]))
theorem aC.mono:∀ws (Q Q':v7->Prop),(∀d,Q d->Q' d)->aC ws Q->aC ws Q':=fun _ _ _ h_=>wJ fun _=>wJ fun _=>wJ fun _=>wq (wq (h_ _))
theorem aC.len:∀ws (Q:v7->Prop),aC ws Q->ws.length=3:=fun _ _ h_=>by obtain⟨_,_,_,e_,_⟩:=h_;subst e_;rfl
theorem aC.eq(a s:Rat)(N:Int)(ha:vh a (10^9))(hs:vh s (10^9))(n0:0<=N)(n9:N<=1000):aC [.d (fr a),.d (fr s),.d (.int N)]=VL.ret (.tuple ((wI N.toNat).map fun j:Nat=>.tuple [fr (tT (a+((j:Int):Rat)*s))]):v7):=by
 refine ac fun Q=>⟨?_,fun q_=>⟨a,s,N,rfl,⟨ha,hs,n0,n9⟩,q_⟩⟩;rintro⟨a',s',N',e_,_,q_⟩;simp_arith only[fG,cf,cj,bG,bF,cH]at e_;obtain⟨rfl,rfl,rfl⟩:=e_;exact q_
theorem de:FnScope ["_law_start", "_law_step_here", "_law_many", "_law_found", "_law_n", "_law_top", "_law_bottom"] ["_law_start", "_law_step_here", "_law_many"] (defScope (ub 25)):=⟨rfl,rfl,rfl,by decide +kernel,rfl,by decide +kernel,by decide +kernel⟩
theorem d__law_points(Fn:FnIn K mg "_law_points" (ub 25) ["_law_start", "_law_step_here", "_law_many"])(Z:Bz mg)(d__law_frac:∀rl,Dfn P w K mg base rl "_law_frac" ["_law_top", "_law_bottom"] 2 aD)   : Dfn P w K mg base rl "_law_points" ["_law_start", "_law_step_here", "_law_many"] 3 aC:=by
 have sc:=de
 refine Dfn.of Fn sc (aC.mono) (aC.len) (fun cdv A outer s H E hr=>(ah (dh 3 sc.nd (c_ ab))
  (ah (cT [4,5,6] xF rfl (bZ Z.range_ (aa (vn 2) ab)) (aH 4 sc.nd) (ah (aO 5 sc.nd (v_add (v_mul (bH (vn 0) ag) (bH (vn 1) ag)) (v_mul (v_mul (vn 4) (bH (vn 1) ag)) (bH (vn 0) ag))))
  (ah (aO 6 sc.nd (v_mul (bH (vn 0) ag) (bH (vn 1) ag)))
  (aq (dj 3 (aa (dG (aa (ax (d__law_frac _) (hr.mono (by decide)) (aa (v_mod (vn 5) (vn 6)) (aa (vn 6) ab))) ab)) ab))))))
  (aq (aG (cc Z.tuple_ (aa (vn 3) ab))))))) ?_
 rintro ws Q ⟨a,s,N,rfl,⟨ha,hs,n0,n9⟩,hQ⟩;refine aJ ?_;have sz:=wY;have g1 : -(2^62)<=N/\N<2^62:=by omega
 obtain⟨a1,a2,a3⟩:=ha;obtain⟨s1,s2,s3⟩:=hs;have m1:ba a.num s.den:=.rt (by omega);have m3:ba (a.den:Int) s.den:=.rt (by omega);have bp:0<(a.den:Int)*s.den:=BI (by omega) (by omega)
 have bb:((a.den:Int)*s.den).natAbs<2^8000:=by
  rw[zp];have:(a.den:Int).natAbs*(s.den:Int).natAbs<=2^30*2^30:=Nat.mul_le_mul (by omega) (by omega);exact zg this (by decide +kernel)
 have bz:(a.den:Int)*s.den≠0:=by omega
 simp_arith only[al,af,v4];refine gm (fun i=>[some (.d (fr a)),some (.d (fr s)),some (.d (.int N)),some (.ml ((wI i).map fun j:Nat=>.tuple [fr (tT (a+((j:Int):Rat)*s))])),none,none,none]) rfl ?_ ?_
 · intro i hi;have m2:ba (i:Int) s.num:=.rt (by omega);have m4:ba ((i:Int)*s.num) a.den:=.rt (by omega);have e1:(a.num*s.den+(i:Int)*s.num*a.den).fmod ((a.den:Int)*s.den)=(a.num*s.den+(i:Int)*s.num*a.den)%((a.den:Int)*s.den):=xa _ (by omega);have e2:=mI a s (i:Int);have ll:(wI i).length<sizeLine:=by rw[yg];omega
   rw[List.range_succ,xD,xw,zu,e2];refine⟨_,by(simp_arith only[al,af,v4,e1,m1,m2,m3,m4,bp,bb,bz,ll,aD.eq,AL])<;>rfl,rfl⟩
 · simp_arith only[al,af,v4];have e0:(N-0).toNat=N.toNat:=by rw[Int.sub_zero]
   try rw[e0]
   exact a_ hQ
theorem lG{a:Rat}{N:Int}(ha:vh a (10^9))(hs:vh s (10^9))(n9:N<=40):vt (.tuple ((wI N.toNat).map fun j:Nat=>.tuple [fr (tT (a+((j:Int):Rat)*s))])):=by
 refine(Sm.seq (n:=40) (dp:=10) (bk:=100) (fun d md=>?_) (by rw[wp,yg];omega)).1.shw (by decide) (by decide);obtain⟨j,mj,rfl⟩:=yE.mp md;have hj:=xv.mp mj;have iu:uA 30 ((j:Int):Rat):=kP (by omega) (by decide);have q:=pB (k6 ha.sm (kL iu hs.sm));have f1:Sm 2 2 (fr (tT (a+((j:Int):Rat)*s))):=Sm.pair (wa q.1 (wj (by decide) (by decide))) (by rw[xi];exact wa q.2 (wj (by decide) (by decide)));exact(Sm.seq (n:=1) (fun d m=>by cases yw.mp m;exact f1) (by simp)).1.mono (by decide) (by decide)
theorem oj(d:DnS s ns)(hs:vh s (10^9)):vt (.tuple (ns.map .int)):=by
 have hl:=d.len hs;have bd:=d.bd hs;have D9:=hs.2.2;refine(Sm.seq (n:=61) (dp:=0) (bk:=0) (fun x mx=>?_) (by rw[wp];exact hl)).1.shw (by decide) (by decide);obtain⟨n,mn,rfl⟩:=yE.mp mx;have:=bd n mn;exact Sm.int (wa (show n.natAbs<2^40 by omega) (wj (by decide) (by decide)))
theorem oY{N:Int}{z:List (Int×Int)×Int}(b:BlI N k z)(hk:k<=61)(h9:N<=10^9):vt (.tuple (z.1.map uP)):=by
 have hl:=b.len;refine(Sm.seq (n:=61) (dp:=2) (bk:=2) (fun x mx=>?_) (by rw[wp];omega)).1.shw (by decide) (by decide);obtain⟨p,mp,rfl⟩:=yE.mp mx;obtain⟨p1,p2,p3,p4⟩:=b.pos p mp;have h1:p.1.natAbs<2^1000:=wa (show p.1.natAbs<2^40 by omega) (wj (by decide) (by decide));have h2:p.2.natAbs<2^1000:=wa (show p.2.natAbs<2^40 by omega) (wj (by decide) (by decide));exact Sm.pair h1 h2
theorem kU(h:uA k q)(hk:k<=1000):vt (fr q):=(Sm.pair (wa h.1 (wj (by decide) hk)) (by rw[xi];exact wa h.2 (wj (by decide) hk))).shw (by decide) (by decide)
theorem nD:FnScope ["_law_script", "_law_feed_here", "_law_turn", "_law_start", "_law_step_here", "_law_many", "_law_due", "_law_left", "_law_some", "_law_one", "_law_often"] ["_law_script"] (defScope (ub 26)):=⟨rfl,rfl,rfl,by decide +kernel,rfl,by decide +kernel,by decide +kernel⟩
theorem j5(Z:Bz mg)(d__law_feed:DfnR P w K mg base "_law_feed" ["_law_script"] 1 o9)(d__law_denominators:∀rl,Dfn P w K mg base rl "_law_denominators" ["_law_step_here"] 1 ak)(d__law_step:∀rl,Dfn P w K mg base rl "_law_step" ["_law_feed_here"] 3 aP)(d__law_draw:∀rl,Dfn P w K mg base rl "_law_draw" ["_law_feed_here", "_law_many"] 2 dO)(d_stepped:∀rl,Dfn P w K mg base rl "stepped" ["start", "step", "many"] 5 bg)(d__law_points:∀rl,Dfn P w K mg base rl "_law_points" ["_law_start", "_law_step_here", "_law_many"] 3 aC)(d_blocks:∀rl,Dfn P w K mg base rl "blocks" ["step", "many"] 2 br)(d_step_bound:∀rl,Dfn P w K mg base rl "step_bound" ["step", "many"] 3 aK)(d__law_frac:∀rl,Dfn P w K mg base rl "_law_frac" ["_law_top", "_law_bottom"] 2 aD)(d_denominators:∀rl,Dfn P w K mg base rl "denominators" ["step"] 1 av){fd:yj}(F:Fun K "law" "law" (ub 26) f fd):FnOk P w K mg base vX 7 f fd ["_law_script"] (dk K):=by
 have sc:=nD
 refine lV F sc (fun cdv A outer s H E hr=>(la 1 d__law_feed (hr.mono (by decide)) sc.nd (aa (vn 0) ab) (fun r=>(ah (cT [2,3,4,5,6,7,8,9,10] xF rfl (bZ Z.range_ (aa ag ab)) (aH 2 sc.nd) (ah (cS 3 4 rfl sc.nd (aa (ax (d__law_step _) (hr.mono (by decide)) (aa (vn 1) ab)) (aa (ax (d__law_step _) (hr.mono (by decide)) (aa (vn 1) ab)) ab)))
  (ah (aO 5 sc.nd (v_add ag (ax (d__law_draw _) (hr.mono (by decide)) (aa (vn 1) (aa ag ab)))))
  (ah (dD (bo jS fS (aQ _) (cz (hr.mono (xx _)) Z.repr_ (aa (ax (d_stepped _) (hr.mono (by decide)) (aa (vn 3) (aa (vn 4) (aa (vn 5) ab)))) ab)) (cz (hr.mono (xx _)) Z.repr_ (aa (ax (d__law_points _) (hr.mono (by decide)) (aa (vn 3) (aa (vn 4) (aa (vn 5) ab)))) ab))) (aq (aG gJ)) bY)
  (ah (aO 6 sc.nd (ax (d__law_denominators _) (hr.mono (by decide)) (aa (vn 4) ab)))
  (ah (dD (vH.pb (pF (bo jS fS (aQ _) (cz (hr.mono (xx _)) Z.repr_ (aa (ax (d_denominators _) (hr.mono (by decide)) (aa (vn 4) ab)) ab)) (cz (hr.mono (xx _)) Z.repr_ (aa (vn 6) ab))) (mT (bo (iI hr.units) fT (aQ _) (bH (vn 6) (mV ag)) (bH (vn 4) ag))))) (aq (aG gJ)) bY)
  (ah (aO 5 sc.nd (v_add ag (ax (d__law_draw _) (hr.mono (by decide)) (aa (vn 1) (aa (bH (c_ (aa ag (aa ag (aa (bH (vn 4) ag) (aa (v_pow ag ag) ab))))) (ax (d__law_draw _) (hr.mono (by decide)) (aa (vn 1) (aa ag ab)))) ab)))))
  (ah (aO 7 sc.nd (vn 5))
  (ah (dh 8 sc.nd (c_ ab))
  (ah (cT [9] xF rfl (kA (mU (vn 6))) (aH 9 sc.nd) (ah (dD (bo fC hC (aQ _) (v_div (vn 7) (vn 9)) ag) (aq (dj 8 (aa (dG (aa (vn 9) (aa (v_div (vn 7) (vn 9)) ab))) ab))) bY)
  (aq (aO 7 sc.nd (v_mod (vn 7) (vn 9))))))
  (ah (dD (bo jS fS (aQ _) (cz (hr.mono (xx _)) Z.repr_ (aa (ax (d_blocks _) (hr.mono (by decide)) (aa (vn 4) (aa (vn 5) ab))) ab)) (cz (hr.mono (xx _)) Z.repr_ (aa (cc Z.tuple_ (aa (vn 8) ab)) ab))) (aq (aG gJ)) bY)
  (ah (mK 8 (dD (bo (iI hr.units) fT (aQ _) (v_sum Z.sum_ (aa (cL ["_law_one", "_law_often"] [none,none] rfl (hG (vn 8)) (fun _=>(d_ (n:=2) rfl (aZ (aH 0 (show Al (["_law_one", "_law_often"]:List Str) by decide +kernel)) (aZ (aH 1 (show Al (["_law_one", "_law_often"]:List Str) by decide +kernel)) cU)))) (fun _=>fQ) (fun _=>(v_mul (vn 0) (vn 1)))) ab)) (vn 5)) (aq (aG gJ)) bY))
  (ah (aO 10 sc.nd (v_sum Z.sum_ (aa (cL ["_law_pair"] [none] rfl (hG (vn 8)) (fun _=>(aH 0 (show Al (["_law_pair"]:List Str) by decide +kernel))) (fun _=>fQ) (fun _=>(bH (vn 0) ag))) ab)))
  (aq (dD (bo jS fS (aQ _) (cz (hr.mono (xx _)) Z.repr_ (aa (ax (d_step_bound _) (hr.mono (by decide)) (aa (vn 4) (aa (vn 5) ab))) ab)) (cz (hr.mono (xx _)) Z.repr_ (aa (ax (d__law_frac _) (hr.mono (by decide)) (aa (kB Z.min_ (aa (vn 5) (aa (v_mul ag (vn 10)) ab))) (aa (vn 5) ab))) ab))) (aq (aG gJ)) bY)))))))))))))))
  (aq (aG gJ)))))) ?_
 intro ns hn;have ps:=o9.eq hn;have sz:=wY;have cp9:po 10 9:=⟨by decide,by decide,by decide⟩;have e9:(10:Int)^Int.toNat 9=1000000000:=by decide
 simp_arith only[al,af,ps];refine kj ?_ ?_
 · intro i hi K hK;simp_arith only[al,af,p__law_draw.eq,aP.eq]
   (with_reducible (first|refine aA fun a ha=>?_|refine aI fun a ha=>?_))
   try simp_arith only[al,af,p__law_draw.eq,aP.eq]
   (with_reducible (first|refine aA fun s hs=>?_|refine aI fun s hs=>?_))
   try simp_arith only[al,af,p__law_draw.eq,aP.eq]
   (with_reducible (first|refine aA fun b hb=>?_|refine aI fun b hb=>?_))
   have w1:=lG (N:=1+b) ha hs (by omega);simp_arith only[al,af,bg.eq,aC.eq,ak.eq,w1,v4]
   (with_reducible (first|refine aA fun ms hms=>?_|refine aI fun ms hms=>?_))
   have w2:=oj hms hs;obtain⟨⟨ini,ei⟩,_⟩:=hms.ends hs;have e1:L2.atI (ms.map wO) (-1)=some (.int s.den):=by rw[ei,xD];exact kw _ _
   simp_arith only[al,af,av.eq,w2,e1,v4]
   (with_reducible (first|refine aA fun ls hls=>?_|refine aI fun ls hls=>?_))
   cases hms.uq hls;simp_arith only[al,af,p__law_draw.eq,w2,e1,cp9,e9,v4,beq_self_eq_true,Bool.or_self]
   (with_reducible (first|refine aA fun k hk=>?_|refine aI fun k hk=>?_))
   have sd:=s.den_pos;obtain⟨s1,s2,s3⟩:=id hs
   refine ul (cn (xs:=[9,100,(s.den:Int),1000000000]) (enc:=wO) (fun m:Int=>1<=m/\m<=10^9) rfl hk.1 (by simpa using hk.2) (fun z mz=>by
    simp only[wE,yU,or_false]at mz
    omega) ?_)
   rintro mo ⟨mo1,mo9⟩;simp_arith only[al,af,p__law_draw.eq,v4]
   (with_reducible (first|refine aA fun c hc=>?_|refine aI fun c hc=>?_))
   have n0:1<=1+c:=by omega
   have n9:1+c<=10^9:=by omega
   generalize 1+c=N at n0 n9;obtain⟨bi,bz⟩:=hms.goes hs (N:=N) (by omega);have bd:=hms.bd hs;have hl:=hms.len hs;have er:(ms.map wO).reverse=ms.reverse.map wO:=List.map_reverse.symm;simp_arith only[al,af,er,v4];refine kO (xs:=ms.reverse) (enc:=wO) (fun j ρ=>∃z:List (Int×Int)×Int,z=(ms.reverse.take j).foldl u3 ([],N)/\ρ=[some (.sc ns),some .reel,some (.d (.int (0+i))),some (.d (fr a)),some (.d (fr s)),some (.d (.int N)),some (.d (.tuple (ms.map .int))),some (.d (.int z.2)),some (.ml (z.1.map uP)),none,none]) rfl ⟨_,rfl,rfl⟩ ?_ ?_
   · rintro j hj ρ ⟨z,ez,rfl⟩ K2 hK2;have bj:=BlI.fold (xs:=ms.reverse.take j) (BlI.begin (N:=N) (by omega)) fun x m=>(bd x (yW.mp (zE m))).1;rw[<- ez,za,x4]at bj;obtain⟨b1,b2⟩:=bd ms.reverse[j] (yW.mp (x5 hj));have e2:=dv (f:=u3) (a:=(([],N):List (Int×Int)×Int)) hj;rw[<- ez]at e2;generalize ms.reverse[j]=x at *;obtain⟨ts,l⟩:=z
     have tl:ts.length<sizeLine:=by
      have:ts.length<=min j ms.reverse.length:=bj.len;have:j<ms.reverse.length:=hj;rw[xK]at this;omega
     have l0:0<=l:=bj.l0;have xz:x≠0:=by omega
     have e3:l.fdiv x=l / x:=wG _ (by omega);have e4:l.fmod x=l%x:=xa _ (by omega);have cd:bP l x:=.of xz (by omega);rw[show u3 (ts,l) x=(if 0<l / x then ts++[(x,l / x)]else ts,l%x)from rfl]at e2;by_cases c:0<l / x
     · rw[if_pos c]at e2;simp_arith only[al,af,v4,e3,e4,cd,xz,c,tl,uP];refine hK2 _ (eS ⟨_,e2.symm,?_⟩);simp_arith only[af,xD,uP]
     · rw[if_neg c]at e2;simp_arith only[al,af,v4,e3,e4,cd,xz,c,tl,uP];exact hK2 _ (eS ⟨_,e2.symm,rfl⟩)
   · rintro ρ ⟨z,ez,rfl⟩;rw[xI (we _)]at ez;have ez:z=blk ms.reverse N:=ez;have w3:=oY bi (by omega) n9;rw[<- ez]at bi bz w3;simp_arith only[al,af,br.eq,w3,v4]
     (with_reducible (first|refine aA fun ls hls=>?_|refine aI fun ls hls=>?_))
     cases hms.uq hls;rw[<- ez];have ll:=bi.len;have sm:=bi.sum;have few:=bi.few;rw[bz,Bs]at sm few;simp_arith only[al,af,w3,decide_true,v4];refine um (fJ (xs:=z.1) (enc:=uP) (fun p=>.int (p.1*p.2)) rfl ?_ (by omega) ?_)
     · intro p mp;obtain⟨p1,p2,p3,p4⟩:=bi.pos p mp;have m1:ba p.1 p.2:=.rt (by omega);simp_arith only[al,af,uN,uP,m1]
     · have em:z.1.map (fun p=>wO (p.1*p.2))=(z.1.map fun p=>p.1*p.2).map wO:=by rw[Bt];rfl
       rw[em];simp_arith only[al,af,vZ,v4,sm,beq_self_eq_true];refine um (fJ (xs:=z.1) (enc:=uP) (fun p=>.int p.2) rfl ?_ (by omega) ?_)
       · intro p mp;simp_arith only[al,af,uN,uP]
       · have em2:z.1.map (fun p=>wO p.2)=(z.1.map (·.2)).map wO:=by rw[Bt];rfl
         rw[em2]
         have s0:0<=(z.1.map (·.2)).sum:=by
          have key:∀us:List (Int×Int),(∀p∈us,1<=p.2)->0<=(us.map (·.2)).sum:=by
           intro us
           induction us with
           | nil=>intro _;exact y8 _
           | cons u us ih =>
             intro h;have a:=h u wg;have b:=ih fun p m=>h p (wf _ m);rw[xw,zI];omega
          exact key z.1 fun p m=>(bi.pos p m).2.1
         have cm:ba 2 (z.1.map (·.2)).sum:=.rt (by omega);have hb:0<N:=by omega
         have bzz:N.natAbs<2^8000:=wa (show N.natAbs<2^40 by omega) (wj (by decide) (by decide));have w4:vt (fr (qd (min N (2*(z.1.map (·.2)).sum)) N)):=kU (lC (k:=40) hb (by omega) (by omega)) (by decide);simp_arith only[al,af,vZ,aK.eq,aD.eq,v4]
         (with_reducible (first|refine aA fun ls hls=>?_|refine aI fun ls hls=>?_))
         cases hms.uq hls;rw[<- ez];simp_arith only[al,af,w4,decide_true];exact hK _ (eS rfl)
 · simp_arith only[al,af];exact l5
structure Txt (K:xW) (mg:Str->Option v9):Prop where
 bz:Bz mg
 f__law_feed:FnIn K mg "_law_feed" (ub 19) ["_law_script"]
 f__law_draw:FnIn K mg "_law_draw" (ub 20) ["_law_feed_here", "_law_many"]
 f_common_divisor:FnIn K mg "common_divisor" (ub 5) ["one", "other"]
 f_fraction:FnIn K mg "fraction" (ub 6) ["top", "bottom"]
 f_plus:FnIn K mg "plus" (ub 7) ["one", "other"]
 f_times:FnIn K mg "times" (ub 8) ["one", "other"]
 f_is_below:FnIn K mg "is_below" (ub 9) ["one", "other"]
 f_lesser:FnIn K mg "lesser" (ub 10) ["one", "other"]
 f_wrapped:FnIn K mg "wrapped" (ub 11) ["one"]
 f_denominators:FnIn K mg "denominators" (ub 15) ["step"]
 f_blocks:FnIn K mg "blocks" (ub 16) ["step", "many"]
 f_step_bound:FnIn K mg "step_bound" (ub 17) ["step", "many"]
 f_step_number:FnIn K mg "step_number" (ub 13) ["start", "step", "n"]
 f_stepped:FnIn K mg "stepped" (ub 14) ["start", "step", "many"]
 f__law_gcd:FnIn K mg "_law_gcd" (ub 21) ["_law_one", "_law_other"]
 f__law_frac:FnIn K mg "_law_frac" (ub 22) ["_law_top", "_law_bottom"]
 f__law_step:FnIn K mg "_law_step" (ub 23) ["_law_feed_here"]
 f__law_denominators:FnIn K mg "_law_denominators" (ub 24) ["_law_step_here"]
 f__law_points:FnIn K mg "_law_points" (ub 25) ["_law_start", "_law_step_here", "_law_many"]
 g_ONE:GlD K mg "ONE" (pr 1 1)
theorem oh{fd:yj}(F:Fun K "law" "law" (ub 26) f fd)(T:Txt K mg)  : FnOk P w K mg base vX 7 f fd ["_law_script"] (dk K):=by
 have d__law_feed:DfnR P w K mg base "_law_feed" ["_law_script"] 1 o9:=K48.d__law_feed T.f__law_feed T.bz   ;have d__law_draw:∀rl,Dfn P w K mg base rl "_law_draw" ["_law_feed_here", "_law_many"] 2 dO:=fun rl=>K48.d__law_draw T.f__law_draw T.bz   ;have d_common_divisor:∀rl,Dfn P w K mg base rl "common_divisor" ["one", "other"] 1 ar:=fun rl=>K48.d_common_divisor T.f_common_divisor T.bz   ;have d_fraction:∀rl,Dfn P w K mg base rl "fraction" ["top", "bottom"] 2 aL:=fun rl=>K48.d_fraction T.f_fraction T.bz d_common_divisor  ;have d_plus:∀rl,Dfn P w K mg base rl "plus" ["one", "other"] 3 cY:=fun rl=>K48.d_plus T.f_plus T.bz d_fraction  ;have d_times:∀rl,Dfn P w K mg base rl "times" ["one", "other"] 3 bT:=fun rl=>K48.d_times T.f_times T.bz d_fraction  ;have d_is_below:∀rl,Dfn P w K mg base rl "is_below" ["one", "other"] 1 aX:=fun rl=>K48.d_is_below T.f_is_below T.bz   ;have d_lesser:∀rl,Dfn P w K mg base rl "lesser" ["one", "other"] 2 bD:=fun rl=>K48.d_lesser T.f_lesser T.bz d_is_below  ;have d_wrapped:∀rl,Dfn P w K mg base rl "wrapped" ["one"] 1 bf:=fun rl=>K48.d_wrapped T.f_wrapped T.bz   ;have d_denominators:∀rl,Dfn P w K mg base rl "denominators" ["step"] 1 av:=fun rl=>K48.d_denominators T.f_denominators T.bz   ;have d_blocks:∀rl,Dfn P w K mg base rl "blocks" ["step", "many"] 2 br:=fun rl=>K48.d_blocks T.f_blocks T.bz d_denominators  ;have d_step_bound:∀rl,Dfn P w K mg base rl "step_bound" ["step", "many"] 3 aK:=fun rl=>K48.d_step_bound T.f_step_bound T.bz d_lesser d_fraction d_blocks T.g_ONE ;have d_step_number:∀rl,Dfn P w K mg base rl "step_number" ["start", "step", "n"] 4 aB:=fun rl=>K48.d_step_number T.f_step_number T.bz d_wrapped d_plus d_times  ;have d_stepped:∀rl,Dfn P w K mg base rl "stepped" ["start", "step", "many"] 5 bg:=fun rl=>K48.d_stepped T.f_stepped T.bz d_step_number  ;have d__law_gcd:∀rl,Dfn P w K mg base rl "_law_gcd" ["_law_one", "_law_other"] 1 aY:=fun rl=>K48.d__law_gcd T.f__law_gcd T.bz   ;have d__law_frac:∀rl,Dfn P w K mg base rl "_law_frac" ["_law_top", "_law_bottom"] 2 aD:=fun rl=>K48.d__law_frac T.f__law_frac T.bz d__law_gcd  ;have d__law_step:∀rl,Dfn P w K mg base rl "_law_step" ["_law_feed_here"] 3 aP:=fun rl=>K48.d__law_step T.f__law_step T.bz d__law_frac d__law_draw  ;have d__law_denominators:∀rl,Dfn P w K mg base rl "_law_denominators" ["_law_step_here"] 1 ak:=fun rl=>K48.d__law_denominators T.f__law_denominators T.bz   ;have d__law_points:∀rl,Dfn P w K mg base rl "_law_points" ["_law_start", "_law_step_here", "_law_many"] 3 aC:=fun rl=>K48.d__law_points T.f__law_points T.bz d__law_frac  ;exact j5 T.bz d__law_feed d__law_denominators d__law_step d__law_draw d_stepped d__law_points d_blocks d_step_bound d__law_frac d_denominators   F
end
theorem us_0{us:List v9}(hl:us.length=0):us=[]:=List.eq_nil_of_length_eq_zero hl
theorem rM{us:List v9}(hl:us.length=1):∃a0,us=[a0]:=by
 cases us with
 | nil=>cases hl
 | cons a0 t=>cases us_0 (Bu hl);exact⟨a0,rfl⟩
theorem rL{us:List v9}(hl:us.length=2):∃a0 a1,us=[a0,a1]:=by
 cases us with
 | nil=>cases hl
 | cons a0 t=>obtain⟨a1,rfl⟩:=rM (Bu hl);exact⟨a0,a1,rfl⟩
theorem sL{us:List v9}(hl:us.length=3):∃a0 a1 a2,us=[a0,a1,a2]:=by
 cases us with
 | nil=>cases hl
 | cons a0 t=>obtain⟨a1,a2,rfl⟩:=rL (Bu hl);exact⟨a0,a1,a2,rfl⟩
noncomputable def FF(K:xW)(x:Str)(st:Stmt):Prop:=∃(f:Addr)(oc kV dc pm cd ct:v9)(od an:Option Addr)(sl:Array (Option v9)),AM K wP x=some (some (.ref f))/\K.lookup f=some ⟨oc,od,.func (AN x x (defArgs st) (defBody st) (defScope st) .none kV dc pm an cd ct),sl⟩/\AX K cd x=true/\AY K (.ref f)=true
theorem ff_mk{K:xW}{st:Stmt}{oc kV dc pm cd ct:v9}{od an:Option Addr}{sl:Array (Option v9)}(a:AM K wP x=some (some (.ref f)))(l:K.lookup f=some ⟨oc,od,.func (AN x x (defArgs st) (defBody st) (defScope st) .none kV dc pm an cd ct),sl⟩)(c:AX K cd x=true)(k:AY K (.ref f)=true):FF K x st:=⟨f,oc,kV,dc,pm,cd,ct,od,an,sl,a,l,c,k⟩
theorem aV{K:xW}{mg:Str->Option v9}(X:K.In h)(G:h.Ns wP mg){st:Stmt}(q:FF K x st)(hb:∀(kV doc pm:v9)(an:Option Addr)(cdv ct:v9)(us:List v9),us.length=ps.length->bindArgs (AN x x (defArgs st) (defBody st) (defScope st) .none kV doc pm an cdv ct) ⟨us,[]⟩=pure (ps.zip us):=by intro _ _ _ _ _ _ us hl;first|(cases us_0 hl;exact rfl)|(obtain⟨_,rfl⟩:=rM hl;exact rfl)|(obtain⟨_,_,rfl⟩:=rL hl;exact rfl)|(obtain⟨_,_,_,rfl⟩:=sL hl;exact rfl)):FnIn K mg x st ps:=by
 obtain⟨f,_,_,_,_,_,_,_,_,_,a,l,c,k⟩:=q;exact⟨⟨f,_,PySem.W.mg_of X G a,i9 l c k,(i9 l c k).binds hb⟩⟩
abbrev NI(K:xW)(x:Str)(f:Addr):Prop:=AM K wP x=some (some (.ref f))
abbrev NZ(K:xW)(x:Str):Prop:=AM K wP x=some none
abbrev LK(K:xW)(x:Str)(st:Stmt)(f:Addr)(oc:v9)(od:Option Addr)(kV dc pm:v9)(an:Option Addr)(cd ct:v9)(sl:Array (Option v9)):Prop:=K.lookup f=some ⟨oc,od,.func (AN x x (defArgs st) (defBody st) (defScope st) .none kV dc pm an cd ct),sl⟩
theorem all_mk{l:AO}{w:wR}{K:xW}{mg:Str->Option v9}{fa:Addr}(X:K.In h)(G:h.Ns wP mg)(hfa:mg "law" = some (.ref fa))
 {f20:Addr}{od20 an20:Option Addr}{sl20:Array (Option v9)}{oc20 kV20 dc20 pm20 cd20 ct20:v9}
 (f1:FF K "_law_feed" (ub 19))(f2:FF K "_law_draw" (ub 20))(f3:FF K "common_divisor" (ub 5))(f4:FF K "fraction" (ub 6))(f5:FF K "plus" (ub 7))(f6:FF K "times" (ub 8))(f7:FF K "is_below" (ub 9))(f8:FF K "lesser" (ub 10))(f9:FF K "wrapped" (ub 11))(f10:FF K "denominators" (ub 15))(f11:FF K "blocks" (ub 16))(f12:FF K "step_bound" (ub 17))(f13:FF K "step_number" (ub 13))(f14:FF K "stepped" (ub 14))(f15:FF K "_law_gcd" (ub 21))(f16:FF K "_law_frac" (ub 22))(f17:FF K "_law_step" (ub 23))(f18:FF K "_law_denominators" (ub 24))(f19:FF K "_law_points" (ub 25))(a20:NI K "law" f20)(l20:LK K "law" (ub 26) f20 oc20 od20 kV20 dc20 pm20 an20 cd20 ct20 sl20)(c20:AX K cd20 "law" = true)(k20:AY K (.ref f20)=true)
 (z_int:NZ K "int")(z_bool:NZ K "bool")(z_str:NZ K "str")(z_list:NZ K "list")(z_tuple:NZ K "tuple")(z_dict:NZ K "dict")(z_isinstance:NZ K "isinstance")(z_len:NZ K "len")(z_abs:NZ K "abs")(z_repr:NZ K "repr")(z_range:NZ K "range")(z_all:NZ K "all")(z_any:NZ K "any")(z_sum:NZ K "sum")(z_min:NZ K "min")(z_max:NZ K "max")(z_sorted:NZ K "sorted")(z_zip:NZ K "zip")(z_enumerate:NZ K "enumerate")(z_reversed:NZ K "reversed")(z_divmod:NZ K "divmod")(z_set:NZ K "set")(g_ONE:GlK K "ONE" (pr 1 1))  :
 ∃fd:yj,(∀(s:v_)(v:v9),BE s fd ⟨[v],[]⟩ [("_law_script", v)])/\∀base:Heap,K.In base->base.Ns wP mg->FnOk l.prog w K mg base vX 7 fa fd ["_law_script"] (dk K):=by
 have e:=hfa.symm.trans (PySem.W.mg_of X G a20);cases e;have B:Bz mg:=⟨wv X G z_int,wv X G z_bool,wv X G z_str,wv X G z_list,wv X G z_tuple,wv X G z_dict,wv X G z_isinstance,wv X G z_len,wv X G z_abs,wv X G z_repr,wv X G z_range,wv X G z_all,wv X G z_any,wv X G z_sum,wv X G z_min,wv X G z_max,wv X G z_sorted,wv X G z_zip,wv X G z_enumerate,wv X G z_reversed,wv X G z_divmod,wv X G z_set⟩;have T:Txt K mg:=⟨B,(aV X G f1),(aV X G f2),(aV X G f3),(aV X G f4),(aV X G f5),(aV X G f6),(aV X G f7),(aV X G f8),(aV X G f9),(aV X G f10),(aV X G f11),(aV X G f12),(aV X G f13),(aV X G f14),(aV X G f15),(aV X G f16),(aV X G f17),(aV X G f18),(aV X G f19),g_ONE.of X G⟩;have FL:=i9 (st:=ub 26) l20 c20 k20;exact⟨_,fun s v=>.of_eq rfl,fun base _ _=>oh FL T ⟩
theorem walk{l:AO}{q:wD}{XP:(Str->Option v9)->Heap->Prop}{YP:wR->Heap->Prop}{d:DefRec}{K:BP->xW}(hn:l.most=some 63)(hdf:d.params.defaults=[])
 (hY:∀(w:wR)(h:Heap),YP w h->(K w.params).In h)
 (F:∀(w:wR)(mg:Str->Option v9)(fa:Addr)(h:Heap),(K w.params).In h->h.Ns wP mg->mg d.name=some (.ref fa) ->
  ∃fd:yj,(∀(s:v_)(u:v9),BE s fd ⟨[u],[]⟩ [("_law_script", u)])/\∀base:Heap,(K w.params).In base->base.Ns wP mg->FnOk l.prog w (K w.params) mg base vX 7 fa fd ["_law_script"] (dk (K w.params))) :
 PySem.W.WalkO q loose XP YP l.row.toRowW d [] (fun f vs=>PySem.call f vs) :=
 L2.walk_of (n:=63) (k:=7) (x := "_law_script") (CX:=fun _=>vX) (sp:=fun w=>dk (K w.params)) hn (by decide) hdf ⟨rfl,by decide,by decide,rfl⟩ hY F (fun _ _ a ns hl _ hS=>⟨a,ns,rfl,hS,hl,fun _=>rfl⟩) fun _ _ _ _ _ z=>z
end K48
noncomputable def PySem.W.Fast.tw17627469435775419531:PySem.Params->xW:=K48.heapK
theorem PySem.W.Fast.te17627469435775419531:K48.heapK=PySem.W.Fast.tw17627469435775419531:=rfl
open PySem PySem.W PyProof.Rows
set_option maxRecDepth 100000 in
set_option maxHeartbeats 0 in
theorem PySem.Challenge.cw_evenpoints_k48_points_by_steps_holds : PySem.Challenge.rw_evenpoints_k48_points_by_steps.Holds := by
 refine(congrArg AO.Holds K48.rw_eq).mpr ?_
 w_on;o_law
 refine holds_open (loose:=[]) (XP:=XL K48.zview []) (YP:=Hook.says (kHook K48.heapK K48.heapA K48.heapE)) K48.zleft
  (Hook.of _) (Hook.keeps _) (fun s e=>xl_of s (wK.mp e).1)
  XL.keeps (by rfl) (by rfl) (by rfl) (fun s e=>recFacts_of (wK.mp e).2) (by rfl)
  (by first|assumption|decide +kernel) (by decide +kernel) ⟨rfl,rfl,rfl,rfl,rfl,by decide +kernel⟩ ?hw ?hc
 (case hw=>w_witness2)
 k_fill
 refine K48.walk (l:=K48.rwN) rfl rfl (fun w h Y=>PySem.W.kIn_of (as:=K48.heapA) (e:=K48.heapE) Y) ?F
 case F =>
  intro w mg fa h KX G hmg
  refine' K48.all_mk KX G hmg ?f1 ?f2 ?f3 ?f4 ?f5 ?f6 ?f7 ?f8 ?f9 ?f10 ?f11 ?f12 ?f13 ?f14 ?f15 ?f16 ?f17 ?f18 ?f19 ?a20 ?l20 ?c20 ?k20 ?zint ?zbool ?zstr ?zlist ?ztuple ?zdict ?zisinstance ?zlen ?zabs ?zrepr ?zrange ?zall ?zany ?zsum ?zmin ?zmax ?zsorted ?zzip ?zenumerate ?zreversed ?zdivmod ?zset ?gONE 
  all_goals (try (refine' K48.ff_mk ?a ?l ?c ?k;(case a=>k_is);(case l=>k_is);(case c=>k_is);(case k=>k_is)))
  all_goals (try change _=_)
  (case a20=>k_is);(case l20=>k_is);(case c20=>k_is);(case k20=>k_is)
  (case zint=>k_is)
  (case zbool=>k_is)
  (case zstr=>k_is)
  (case zlist=>k_is)
  (case ztuple=>k_is)
  (case zdict=>k_is)
  (case zisinstance=>k_is)
  (case zlen=>k_is)
  (case zabs=>k_is)
  (case zrepr=>k_is)
  (case zrange=>k_is)
  (case zall=>k_is)
  (case zany=>k_is)
  (case zsum=>k_is)
  (case zmin=>k_is)
  (case zmax=>k_is)
  (case zsorted=>k_is)
  (case zzip=>k_is)
  (case zenumerate=>k_is)
  (case zreversed=>k_is)
  (case zdivmod=>k_is)
  (case zset=>k_is)
  (case gONE=>refine' L2.VL.GlK.pair ?h1 ?h2;(case h1=>k_is);(case h2=>k_is))
