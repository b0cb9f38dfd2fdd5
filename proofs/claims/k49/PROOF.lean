import PyProof.Rows.All
import Wide.All
import OpenK.AllK
import Wide.FinOn
import Lean
import PyProof.EqAt
import PyProof.EqKinds
import PyProof.TupleCall
import KE.KDictSum
import KE.KMinKey
import PyProof.Rows.CallKwBuiltin
import PyProof.SumWalkG
import PySem.Challenge.RW_evenpoints_k49_whole_steps_keep_their_bo
set_option compiler.extract_closed false
set_option bootstrap.genMatcherCode false
set_option Elab.async false
set_option linter.all false
set_option maxRecDepth 100000
set_option maxHeartbeats 4000000
open And renaming intro->wC, imp_right->wV
open Array renaming length_toList->wJ, getElem?_toList->x4, getElem?_eq_getElem->yg, getElem?_eq_none->yW, getD->Ag, toList_push->AO, replicate->Bk, toList_extract->Bt, toArray_toList->Bv, mk->B7
open Bool renaming and_eq_true_iff->wU, false_ne_true->xi, or_eq_true_iff->xN, false_eq_true->yX, not_true->zj, eq_iff_iff->Ak, false_and->AG
open Classical renaming choose_spec->xI, choose->A9
open Exists renaming imp->xo
open False renaming elim->yk
open ForInStep renaming yield->za
open Iff renaming rfl->BI
open Int renaming fdiv_eq_ediv_of_nonneg->xh, mul_le_mul_of_nonneg_right->xn, gcd->xu, emod_lt_of_pos->xE, emod_nonneg->xK, mul_ediv_add_emod->xO, fmod_nonneg_of_pos->xU, toNat_natCast->xY, mul_nonneg->x8, natAbs_natCast->yl, mul_le_mul_of_nonneg_left->ym, fmod_eq_emod_of_nonneg->yx, fmod_lt_of_pos->yB, eq_ofNat_of_zero_le->yN, le_refl->yQ, gcd_pos_of_ne_zero_right->yY, mul_comm->zg, mul_ediv_cancel_left->zA, le_ediv_of_mul_le->zX, mul_zero->zY, mul_lt_mul_of_pos_right->Av, gcd_zero_right->AF, natAbs_mul->AI, pos_of_mul_pos_right->AT, mul_one->AX, mul_pos->A1, mul_assoc->A5, fmod_add_mul_fdiv->Bi, zero_add->Bm, mul_add->BN, add_mul->BO, gcd_comm->B2, add_zero->B5
open List renaming mem_cons_of_mem->wL, size_toArray->wN, length_map->wP, mem_cons_self->wQ, getElem?_eq_getElem->wX, getElem?_eq_some_iff->wY, range->w_, getElem?_set_ne->xb, length_cons->xf, length_append->xg, getElem?_set_self->xp, mem_cons->xC, mem_append_right->xD, lookup_cons->xG, mem_range->xL, getElem?_map->xM, getElem?_set->xP, replicate->x6, map_cons->x9, sum_cons->yo, length_range->yq, mem_append->yr, getElem_mem->yy, append_nil->yF, filterMap_cons->yK, take_of_length_le->yV, mem_singleton->yZ, length_nil->y8, nodup_cons->y9, mem_map->zb, getElem?_append_left->zk, drop_eq_getElem_cons->zm, getElem_of_mem->zt, length_reverse->zu, mem_filter->zB, map_append->zF, filter_append->zH, take_succ_eq_append_getElem->zI, append_assoc->zL, Nodup->zO, length_singleton->zT, length_take->zZ, all_eq_true->z4, isEmpty_nil->z5, not_mem_nil->z6, mem_reverse->z8, mem_of_getElem?->z_, countP_eq_length_filter->Ae, range_succ->An, sum_append->Au, getElem?_append_right->Ax, map_nil->AB, pairwise_cons->AD, reverse_cons->AN, pairwise_map->AQ, getElem?_replicate->AY, Pairwise->AZ, nodup_range->A_, filter_cons->Ba, of_mem_zip->Bf, length_replicate->Bg, forIn_cons->Bh, take_append_drop->Bj, mem_append_left->Bs, pairwise_append->Bu, replicate_succ->BM, Perm->Co
open List.Nodup renaming length_le_of_subset->yi
open List.Perm renaming refl->zQ
open List.cons renaming injEq->xa
open Nat renaming lt_of_lt_of_le->wK, le_refl->wM, pow_le_pow_right->xj, ne_of_lt->xA, lt_irrefl->ye, le_trans->yI, le_of_succ_le->zi, zero_le->zr, pow_succ->zy, lt_or_ge->zz, exists_eq_add_of_le->zE, zero_add->zV, not_lt_zero->Am, lt_of_le_of_lt->AC, mul_comm->AE, lt_succ_self->A8, ne_of_gt->Be, add_mod->BK, mul_mod->BL, add_assoc->BV, mod_lt->BY, le_of_lt->B0, Coprime->Cg, mul_add->Ch
open Nat.succ renaming inj->B6
open Ne renaming symm->BG
open Option renaming map_eq_some_iff->yu, isSome_iff_exists->yG
open Option.some renaming inj->xk
open Or renaming inl->zU, inr->Aa
open PyProof.Rows renaming callWith_type1->y7, IntsAre->y_, seqObj->As, get?_update_seq->At, assignInOrder_cons->Ay, envOfC->A7, subscriptTail_builtinR->Bb, AllBare->BF
open PySem renaming PyData->wD, wpAny_bind->wE, Value->wF, Shared->wG, wpAny_pure->wI, starEach->wR, Program->wZ, wpAny->xq, mainGlobals->xt, sizeLine_eq->xw, World->xx, Around->xB, model->xH, mem_of_lookup->xJ, SetTable->xQ, wpAny_newObj_type->xX, wpAny_call_entry->yb, cellsFrom->yc, builtinLookup_eq_fast->yj, compareOp->yz, isSubtype_type->yC, wpAny_passesOwn->yD, foldedSetIterable->yE, wpAny_holding->yL, FuncData->yM, wpAny_callSpecial?_slot->yO, backTo->yR, assignEach->yS, wpAny_of_eq->zd, typeLookup_type->ze, wpAny_mono->zh, wpAny_setField->zo, wpAny_askSetting->zq, Paired->zw, bootBuiltins->zx, behindInMarks->zC, NameKind->zD, wpAny_truthy_bool->zJ, sliceBounds->zK, wpAny_setState_of->zN, swapsWith->zR, codeAny_mono->zS, wpAny_isInstance->z7, rawInt->z9, wpAny_attempt->Ad, intKind->Ah, wpAny_execs_nil->Ai, letOwnedTupleGo->Aj, codeAny->Al, codeAny_builtin->Ao, wpAny_setEntries_of->Ap, wpAny_specialOf->Ar, binaryOp->Az, wpAny_Call_Name_kw->AA, newFunctionEnv->AH, firstArgMember->AJ, wpAny_pyIter_list->AL, wpAny_comprehension_free->AM, wpAny_pyIter_slot->AR, wpAny_standAt->AU, swapsWithSole->AV, swappedStores->AW, signature?_of->A3, wpAny_field->A4, pyNext->A6, importedModules->Bc, assign->Bw, intBits_le_iff->Bx, entryFor_alias->By, seqIndex_of->BH, assignInOrder->BR, attributeBase->BS, Keyword->BW, callerA->BX, seqIndex_neg->B1, entryFor->B8, hashInt->B9, holding->B_, PassesOwn->Ca, sizeLine_eq->Cb, BindsTo->Cc, keywordEach->Cd, pushCells->Ce, argsOk->Ci, Params->Ck, CmpOp->Cn
open PySem.Around renaming under_plainId->Ab
open PySem.Builtin.List renaming listLengthHint->Aq
open PySem.Calls renaming Name_function_global->Aw, call_function_entry->AK
open PySem.Heap renaming get?_push_of_some->wH, lt_size->wO, get?_push_size->wS, get?_update_other->yd, get?_update_self->yh, SameBut->yJ, size_push->yU, ExtBut->Cj
open PySem.Heap.SameBut renaming update->xW
open PySem.NameKind renaming free->xF, cell->yn
open PySem.Obj renaming data_mapFields->ya, mapFields->yP, isFreed_of_fields->zf, mapSeq->Af, cls_mapFields->AS, putSet->Br
open PySem.Paired renaming length->Ac
open PySem.PassesOwn renaming never->yt
open PySem.PyData renaming int->xv, eqv->yH, bool->BJ, tuple->B3
open PySem.PyData.int renaming injEq->zp
open PySem.PyData.tuple renaming injEq->xS
open PySem.SeqAt renaming shaped->yA
open PySem.SetTable renaming below->wW, bits->xR, insertAt->xZ, runEnd->x_, leap->yf, grown->zn, turns->zP, fill->A2, fits->BU, layClean->BZ
open PySem.SetTable.below renaming go->zM
open PySem.SetTable.layClean renaming free->yw
open PySem.SetTable.probe renaming go->x5
open PySem.SetTable.sizeAbove renaming go->zc
open PySem.Str renaming ofString->zW
open PySem.Value renaming none->zv, ref->Bd, isInt->BC, int->BQ
open PySem.W renaming mg_none_of->wT, boot_heap->xV, Frag->yp, nsIn->Bn, fnOf->Bo, OpenLaw->Bp, boot_drawn->Bq, codeIn->BA, keepIn->BB, boot_toks->BP, OpenLaw->Cm
open PySem.pickOrder renaming go->B4
open Rat renaming intCast_mul->zG, normalize->A0, intCast_add->Bl, div_def->Cf
open Sum renaming inl->BD, inr->BE
open PySem PySem.Spec PyProof.Rows
variable{loose N ps:List Str}{α:Type}{m i j k n:Nat}{xs:Array Nat}{a f r:Addr}{b:Int}{h:Heap}{x qual:Str}{pos:Pos}{pins:List (Addr×Obj)}{tg:Expr}{fp:List Addr}{op:Cn}{scope:Scope}{ns:List Int}{rl:Option Addr}{q s:Rat}{owner:Array (Option Nat)}
theorem æa(h:True:=by rfl):True:=trivial
theorem æb(h:True:=by decide):True:=trivial
theorem æc(h:True:=by intro _;rfl):True:=trivial
theorem æd(h:True:=by first|exact zU rfl|exact Aa rfl):True:=trivial
theorem æe(h:True:=by first|exact .inl rfl|exact .inr rfl):True:=trivial
theorem æf(h:True:=by first|exact .inl rfl|exact .inr rfl|assumption):True:=trivial
theorem æg(h:True:=by first|exact zU rfl|exact Aa (zU rfl)|exact Aa (Aa rfl)):True:=trivial
theorem æh(h:True:=by with_unfolding_all rfl):True:=trivial
noncomputable section
namespace L2
open PySem
noncomputable def mP(s:Stmt)(j:Nat):Stmt:=match s with
 | .ClassDef _ _ _ body _ _ _ _ _ _ _=>body.getD j (.Pass ⟨0,0,0,0⟩)
 | _=>.Pass ⟨0,0,0,0⟩
noncomputable def defArgs(s:Stmt):Arguments:=match s with
 | .FunctionDef _ a _ _ _ _ _ _ _ _=>a
 | _=>{posonlyargs:=[],args:=[],vararg:=none,kwonlyargs:=[],kw_defaults:=[],kwarg:=none,defaults:=[]}
noncomputable def defBody(s:Stmt):List Stmt:=match s with
 | .FunctionDef _ _ b _ _ _ _ _ _ _=>b
 | _=>[]
noncomputable def defScope(s:Stmt):Scope:=match s with
 | .FunctionDef _ _ _ _ _ _ sc _ _ _=>sc
 | _=>{kind:=.function,names:=[],isGenerator:=false,isCoroutine:=false}
end L2
namespace L2.TT
open PySem PySem.W
noncomputable def vp(tb:String->Option Builtin)(p:wZ)(w:xx)(m:Nat)(ann:Option wF):Nat->SharedT->Thread->Option SharedT
 | 0,_,_=>none
 | n+1,s,t=>match through t with
   | true=>some s
   | false=>match stepOk m ann t with
     | false=>none
     | true=>match stepT (denote tb) p w s t with
       | some r=>vp tb p w m ann n r.1 r.2
       | none=>none
theorem lc{tb:String->Option Builtin}{p:wZ}{w:xx}{m:Nat}{ann:Option wF}:∀{n:Nat}{s s':SharedT}{t:Thread},vp tb p w m ann n s t=some s'->topRun tb p w m ann n s.abs t=some s'.abs
 | 0,_,_,_,h=>by cases h
 | n+1,s,s',t,h=>by
   unfold vp at h;unfold topRun
   cases he:through t with
   | true=>rw[he]at h;cases h;rfl
   | false =>
     rw[he]at h
     cases hk:stepOk m ann t with
     | false=>rw[hk]at h;cases h
     | true =>
       rw[hk]at h
       cases hs:stepT (denote tb) p w s t with
       | none=>rw[hs]at h;cases h
       | some r=>rw[hs]at h;rw[stepT_spec hs];exact lc h
noncomputable def bt(os:List Obj):Nat->Nat->Nat->BT
 | 0,_,_=>.nil
 | f+1,a,b=>match os[b]? with
   | some o=>.node o (bt os f (2*a) (a+b)) (bt os f (2*a) (2*a+b))
   | none=>.nil
theorem boot_abs(P:Ck):absHeap (bt (xV P).objs.toList 12 1 0) (xV P).objs.size (xV P).life=xV P:=by kernel_rfl
abbrev oT(p q:wZ)(loose:List Str)(Xt:wG->Bool){α:Type}(Yf:wG->α)(h₀:Heap)(s:wG) :=
 (staticsOk (Bc p.main.body) h₀ s.heap&&namesBound p s.heap&&gensDone s&&laidKept h₀ s.heap,openSeen q loose (Bc p.main.body) Xt true s,Yf s)
theorem left_of{p q:wZ}{Xt:wG->Bool}{Yf:wG->α}{Ya:xx->α}{N M:Nat}{ann:Option wF}
 (e:opening p=plainProg p.main.scope.names)(hN:Nat.ble 600 N=true)(f:∀s,fenceModules? p s=some s)(le:Nat.ble M N=true)
 (size:∀w:xx,((xV w.params).isNs xt,(xV w.params).objs.size,(xV w.params).nsMap xt "__annotations__")=(true,m,ann))
 (run:∀(w:xx)(os:OsState),(vp treeTable p w m ann M ⟨bt (xV w.params).objs.toList 12 1 0,(xV w.params).objs.size,(xV w.params).life,B7 [],Bq,BP,os⟩ (topStub p)).map (fun s=>oT p q loose Xt Yf (xV w.params) s.abs)=some (true,openGood q loose,Ya w)) :
 LeftO p q loose Xt Yf Ya N:=fun w=>by
 obtain⟨⟨h,gs,d,k,os⟩,eo,e'⟩:=yu.mp (boot_open e hN f w);obtain⟨rfl,rfl,rfl,rfl⟩:h=xV w.params/\gs=B7 []/\d=Bq/\k=BP:=by simpa using e'
 obtain⟨z1,z2,z3⟩:_/\_/\_:=by simpa only[Prod.mk.injEq]using size w
 obtain⟨s',r,l⟩:=yu.mp (run w os);obtain⟨l1,l2,l3⟩:_/\_/\_:=by simpa only[oT,Prod.mk.injEq]using l
 have r:=lc r
 have hb:SharedT.abs ⟨bt (xV w.params).objs.toList 12 1 0,(xV w.params).objs.size,(xV w.params).life,B7 [],Bq,BP,os⟩=⟨xV w.params,B7 [],Bq,BP,os⟩:=by
  show wG.mk (absHeap _ _ _) _ _ _ _=_;rw[boot_abs]
 rw[hb]at r;have r:=topRun_mono (N-M) _ _ _ _ r;rw[show M+(N-M)=N by have:=Nat.le_of_ble_eq_true le;omega]at r
 have t:topFrom treeTable p w N ⟨xV w.params,B7 [],Bq,BP,os⟩=some s'.abs:=by
  unfold topFrom;dsimp only;rw[z1,z2,z3,r];show(match staticsOk (Bc p.main.body) (xV w.params) s'.abs.heap&&namesBound p s'.abs.heap&&gensDone s'.abs&&laidKept (xV w.params) s'.abs.heap with|true=>_|false=>_)=_;rw[l1]
 unfold openEnds;rw[eo];show(topFrom treeTable p w N _).map _=_;rw[t];exact congrArg some (Prod.ext l2 l3)
end L2.TT
namespace K49
open PySem
def uA(i:Nat):Stmt:=PySem.Challenge.pw_evenpoints_k49_whole_steps_keep_their_bo.main.body.getD i (.Pass ⟨0,0,0,0⟩)
end K49
noncomputable def PySem.W.Fast.tw12259292089127491749:PySem.Program:=PySem.Challenge.pw_evenpoints_k49_whole_steps_keep_their_bo
theorem PySem.W.Fast.te12259292089127491749:PySem.Challenge.pw_evenpoints_k49_whole_steps_keep_their_bo=PySem.W.Fast.tw12259292089127491749:=rfl
namespace K49
open PySem PySem.W L2
def t_:Stmt:=uA 0
def t9:Stmt:=uA 1
def t8:Stmt:=uA 2
def t7:Stmt:=uA 3
def t6:Stmt:=uA 4
def t4:Stmt:=uA 5
def tZ:Stmt:=uA 6
def tX:Stmt:=uA 7
def tW:Stmt:=uA 8
def tV:Stmt:=uA 9
def rW:Stmt:=uA 10
def rV:Stmt:=uA 11
def sZ:Stmt:=uA 12
def rT:Stmt:=uA 13
def rS:Stmt:=uA 14
def rR:Stmt:=uA 15
def rQ:Stmt:=uA 16
def rP:Stmt:=uA 17
def sY:Stmt:=uA 18
def rO:Stmt:=uA 19
def rN:Stmt:=uA 20
def rM:Stmt:=uA 21
def rL:Stmt:=uA 22
def rK:Stmt:=uA 23
def rJ:Stmt:=uA 24
def rH:Stmt:=uA 25
def uW:wZ:={PySem.Challenge.pw_evenpoints_k49_whole_steps_keep_their_bo with main:={PySem.Challenge.pw_evenpoints_k49_whole_steps_keep_their_bo.main with body:=[t_,t9,t8,t7,t6,t4,tZ,tX,tW,tV,rW,rV,sZ,rT,rS,rR,rQ,rP,sY,rO,rN,rM,rL,rK,rJ,rH]}}
def rwN:Cm:={PySem.Challenge.rw_evenpoints_k49_whole_steps_keep_their_bo with prog:=uW}
noncomputable def zview:wZ:={PySem.Challenge.pw_evenpoints_k49_whole_steps_keep_their_bo with main:={PySem.Challenge.pw_evenpoints_k49_whole_steps_keep_their_bo.main with body:=[t9,t8,t6,t4,tZ,tX,tW,tV,rW,rV,rT,rS,rR,rQ,rP,rO,rN,rM,rL,rK,rJ,rH]}}
theorem rw_eq:PySem.Challenge.rw_evenpoints_k49_whole_steps_keep_their_bo=rwN:=rfl
noncomputable def ug(P:Ck)(x:Str)(t:Nat)(v:wF):DictEntry:=⟨wD.keyHash P x,.str x t,v⟩
noncomputable def uf(n q:Str)(s:Stmt)(pm cd:wF):Obj:=⟨.type "function", none,.func (fnOf n q (defArgs s) (defBody s) (defScope s) .none .none .none pm none cd .none),#[]⟩
noncomputable def ui(n q:Str)(a b c:Nat)(l x y:Int)(r:Nat)(z:Int)(r2:Nat)(v1 v2 v3:wF)(r3:Nat)(u:Int)(c2:Nat):Obj:=⟨.type "code", none,.fields #[.str n a,.str q b,.str "/claim/cut.py" c,.int l 0,.int x 0,.int 0 0,.int 0 0,.int y 0,.ref r,.bool true,.int z 0,.ref r2,v1,v2,v3,.ref r3,.int u 0,.int l 0,.str "/claim/cut.py" c2],#[]⟩
noncomputable def ud:wF:=.str "evenpoints.errors" 187
noncomputable def uc:wF:=.str "evenpoints.fractions" 232
noncomputable def ub:wF:=.str "evenpoints.steps" 293
noncomputable def ua:wF:=.str "law_evenpoints_k49_whole_steps_keep_their_bo" 340
abbrev ue(n:Str):=uf n n
abbrev uh(n:Str):=ui n n
noncomputable def heapK(P:Ck):Frag :=
 (nat_lit 2,(.mk .none none (.dict #[] 0) #[])) ::
 (nat_lit 3,(.mk (.type "dict") none (.dict #[ug P "__name__" 165 (.str "law_evenpoints_k49_whole_steps_keep_their_bo" 340),ug P "__doc__" 166 .none,ug P "__package__" 167 .none,ug P "__loader__" 168 (.builtin "__main__.__loader__#opaque"),ug P "__spec__" 169 .none,ug P "__annotations__" 170 (.ref 6),ug P "__builtins__" 171 (.ref 4),ug P "__file__" 173 (.str "/claim/cut.py" 172),ug P "__cached__" 174 .none,ug P "EvenError" 206 (.ref 24),ug P "Nought" 231 (.ref 44),ug P "ONE" 236 (.ref 47),ug P "common_divisor" 244 (.ref 54),ug P "fraction" 253 (.ref 61),ug P "plus" 261 (.ref 68),ug P "times" 269 (.ref 75),ug P "is_below" 277 (.ref 82),ug P "lesser" 285 (.ref 89),ug P "wrapped" 292 (.ref 96),ug P "step_number" 303 (.ref 103),ug P "stepped" 309 (.ref 108),ug P "denominators" 321 (.ref 115),ug P "blocks" 333 (.ref 122),ug P "step_bound" 339 (.ref 127),ug P "_law_feed" 348 (.ref 134),ug P "_law_draw" 359 (.ref 141),ug P "_law_gcd" 367 (.ref 148),ug P "_law_frac" 376 (.ref 155),ug P "_law_step" 385 (.ref 162),ug P "_law_worst" 391 (.ref 167),ug P "law" 397 (.ref 172)] 31) #[])) ::
 (nat_lit 6,(.mk (.type "dict") none (.dict #[] 0) #[])) ::
 (nat_lit 15,(.mk (.type "tuple") none (.seq #[(.type "ValueError")] 0) #[])) ::
 (nat_lit 22,(.mk (.type "tuple") none (.seq #[] 0) #[])) ::
 (nat_lit 23,(.mk (.type "dict") none (.dict #[ug P "__module__" 196 (.str "evenpoints.errors" 187),ug P "__firstlineno__" 200 (.int 2 199),ug P "__static_attributes__" 201 (.ref 22),ug P "__weakref__" 203 (.ref 25),ug P "__doc__" 204 .none] 3) #[])) ::
 (nat_lit 24,(.mk (.type "type") none (.cls (.mk "EvenError" [(.type "ValueError")] [(.ref 24),(.type "ValueError"),(.type "Exception"),(.type "BaseException"),(.type "object")] 23 "EvenError" true [] [(.ref 44)] false none false)) #[(some (.ref 15)),none,(some (.str "EvenError" 189)),(some (.str "EvenError" 197)),(some (.builtin "ValueError.__new__")),(some (.bool true))])) ::
 (nat_lit 25,(.mk (.type "getset_descriptor") none (.fields #[(.str "__weakref__" 202),(.ref 24),(.builtin "ExceptionGroup.__weakref__"),.none]) #[])) ::
 (nat_lit 28,(.mk (.type "tuple") none (.seq #[(.ref 24)] 0) #[])) ::
 (nat_lit 40,ui "__init__" "Nought.__init__" 219 220 221 6 2 3 35 181 36 .none (.ref 37) (.ref 38) 39 224 225) ::
 (nat_lit 41,uf "__init__" "Nought.__init__" (mP (uA 2) 0) ud (.ref 40)) ::
 (nat_lit 42,(.mk (.type "tuple") none (.seq #[(.str "word" 227)] 0) #[])) ::
 (nat_lit 43,(.mk (.type "dict") none (.dict #[ug P "__module__" 214 (.str "evenpoints.errors" 187),ug P "__firstlineno__" 218 (.int 4 217),ug P "__init__" 226 (.ref 41),ug P "__static_attributes__" 228 (.ref 42),ug P "__doc__" 229 .none] 2) #[])) ::
 (nat_lit 44,(.mk (.type "type") none (.cls (.mk "Nought" [(.ref 24)] [(.ref 44),(.ref 24),(.type "ValueError"),(.type "Exception"),(.type "BaseException"),(.type "object")] 43 "Nought" true [] [] false none false)) #[(some (.ref 28)),none,(some (.str "Nought" 207)),(some (.str "Nought" 215)),(some (.builtin "ValueError.__new__")),(some (.bool true))])) ::
 (nat_lit 47,(.mk (.type "tuple") none (.seq #[(.int 1 234),(.int 1 235)] 0) #[])) ::
 (nat_lit 53,uh "common_divisor" 237 238 239 10 2 3 48 181 49 .none (.ref 50) (.ref 51) 52 242 243) ::
 (nat_lit 54,ue "common_divisor" (uA 5) uc (.ref 53)) ::
 (nat_lit 60,uh "fraction" 245 246 247 14 2 3 55 181 56 .none (.ref 57) (.ref 58) 59 251 252) ::
 (nat_lit 61,ue "fraction" (uA 6) uc (.ref 60)) ::
 (nat_lit 67,uh "plus" 254 255 256 21 2 3 62 181 63 .none (.ref 64) (.ref 65) 66 259 260) ::
 (nat_lit 68,ue "plus" (uA 7) uc (.ref 67)) ::
 (nat_lit 74,uh "times" 262 263 264 23 2 3 69 181 70 .none (.ref 71) (.ref 72) 73 267 268) ::
 (nat_lit 75,ue "times" (uA 8) uc (.ref 74)) ::
 (nat_lit 81,uh "is_below" 270 271 272 25 2 3 76 181 77 .none (.ref 78) (.ref 79) 80 275 276) ::
 (nat_lit 82,ue "is_below" (uA 9) uc (.ref 81)) ::
 (nat_lit 88,uh "lesser" 278 279 280 27 2 3 83 181 84 .none (.ref 85) (.ref 86) 87 283 284) ::
 (nat_lit 89,ue "lesser" (uA 10) uc (.ref 88)) ::
 (nat_lit 95,uh "wrapped" 286 287 288 29 1 3 90 181 91 .none (.ref 92) (.ref 93) 94 290 291) ::
 (nat_lit 96,ue "wrapped" (uA 11) uc (.ref 95)) ::
 (nat_lit 102,uh "step_number" 295 296 297 32 3 3 97 181 98 .none (.ref 99) (.ref 100) 101 301 302) ::
 (nat_lit 103,ue "step_number" (uA 13) ub (.ref 102)) ::
 (nat_lit 107,uh "stepped" 304 305 306 34 3 3 104 181 105 .none .none .none 106 307 308) ::
 (nat_lit 108,ue "stepped" (uA 14) ub (.ref 107)) ::
 (nat_lit 114,uh "denominators" 310 311 312 36 1 3 109 181 110 .none (.ref 111) (.ref 112) 113 319 320) ::
 (nat_lit 115,ue "denominators" (uA 15) ub (.ref 114)) ::
 (nat_lit 121,uh "blocks" 322 323 324 45 2 3 116 181 117 .none (.ref 118) (.ref 119) 120 331 332) ::
 (nat_lit 122,ue "blocks" (uA 16) ub (.ref 121)) ::
 (nat_lit 126,uh "step_bound" 334 335 336 53 2 3 123 181 124 .none .none .none 125 337 338) ::
 (nat_lit 127,ue "step_bound" (uA 17) ub (.ref 126)) ::
 (nat_lit 133,uh "_law_feed" 342 343 344 57 1 3 128 181 129 .none (.ref 130) (.ref 131) 132 346 347) ::
 (nat_lit 134,ue "_law_feed" (uA 19) ua (.ref 133)) ::
 (nat_lit 140,uh "_law_draw" 349 350 351 59 2 3 135 181 136 .none (.ref 137) (.ref 138) 139 357 358) ::
 (nat_lit 141,ue "_law_draw" (uA 20) ua (.ref 140)) ::
 (nat_lit 147,uh "_law_gcd" 360 361 362 75 2 3 142 181 143 .none (.ref 144) (.ref 145) 146 365 366) ::
 (nat_lit 148,ue "_law_gcd" (uA 21) ua (.ref 147)) ::
 (nat_lit 154,uh "_law_frac" 368 369 370 79 2 3 149 181 150 .none (.ref 151) (.ref 152) 153 374 375) ::
 (nat_lit 155,ue "_law_frac" (uA 22) ua (.ref 154)) ::
 (nat_lit 161,uh "_law_step" 377 378 379 82 1 3 156 181 157 .none (.ref 158) (.ref 159) 160 383 384) ::
 (nat_lit 162,ue "_law_step" (uA 23) ua (.ref 161)) ::
 (nat_lit 166,uh "_law_worst" 386 387 388 86 2 3 163 181 164 .none .none .none 165 389 390) ::
 (nat_lit 167,ue "_law_worst" (uA 24) ua (.ref 166)) ::
 (nat_lit 171,uh "law" 392 393 394 103 1 3 168 181 169 .none .none .none 170 395 396) ::
 (nat_lit 172,ue "law" (uA 25) ua (.ref 171))::[]
noncomputable def heapA:List Addr:=nat_lit 2::nat_lit 3::nat_lit 6::nat_lit 15::nat_lit 22::nat_lit 23::nat_lit 24::nat_lit 25::nat_lit 28::nat_lit 40::nat_lit 41::nat_lit 42::nat_lit 43::nat_lit 44::nat_lit 47::nat_lit 53::nat_lit 54::nat_lit 60::nat_lit 61::nat_lit 67::nat_lit 68::nat_lit 74::nat_lit 75::nat_lit 81::nat_lit 82::nat_lit 88::nat_lit 89::nat_lit 95::nat_lit 96::nat_lit 102::nat_lit 103::nat_lit 107::nat_lit 108::nat_lit 114::nat_lit 115::nat_lit 121::nat_lit 122::nat_lit 126::nat_lit 127::nat_lit 133::nat_lit 134::nat_lit 140::nat_lit 141::nat_lit 147::nat_lit 148::nat_lit 154::nat_lit 155::nat_lit 161::nat_lit 162::nat_lit 166::nat_lit 167::nat_lit 171::nat_lit 172::[]
theorem heapE:∀P,heapA=(heapK P).map (·.1):=fun _=>rfl
theorem p5:∀w:xx,((xV w.params).isNs xt,(xV w.params).objs.size,(xV w.params).nsMap xt "__annotations__")=(true,11,some (.ref 6)):=fun w=>by kernel_rfl
set_option maxHeartbeats 0 in
theorem zleft:LeftO uW zview [] (fun s=>xlAt zview [] s&&recOk (RowW.records rwN.row.toRowW) s) (Hook.obs (kHook heapK heapA heapE)) (Hook.val (kHook heapK heapA heapE)) 2818 :=
 L2.TT.left_of (M:=2818) (by kernel_rfl) rfl (fun s=>by kernel_rfl) rfl p5 fun w os=>by kernel_rfl
end K49
namespace L2
abbrev wc:=Sum Int Str
noncomputable def oZ:wc->wF->Bool
 | .inl k,v=>BC k v
 | .inr x,v=>wF.isStrOf x v
noncomputable def tM(w:xx):wc->Int
 | .inl k=>B9 k
 | .inr x=>hashStr w x
theorem aA:∀{k:wc}{v:wF},oZ k v=true->(∃i t,k=BD i/\v=BQ i t)\/(∃x t,k=BE x/\v=wF.str x t)
 | .inl i,v,h=>by
   obtain⟨t,e⟩:=wF.isInt_shape (k:=i) (v:=v) h
   exact .inl ⟨i,t,rfl,e⟩
 | .inr x,v,h=>by
   obtain⟨t,e⟩:=wF.isStrOf_shape (x:=x) (v:=v) h;exact .inr ⟨x,t,rfl,e⟩
theorem oY(a b:Int):decide ((BD a:wc)=BD b)=(a==b):=by
 by_cases e:a=b
 · subst e;simp
 · have h:¬(BD a:wc)=BD b:=fun q=>e (BD.inj q);rw[decide_eq_false h];exact(beq_eq_false_iff_ne.mpr e).symm
theorem oV(a b:Str):decide ((BE a:wc)=BE b)=decide (a=b):=by
 by_cases e:a=b
 · subst e;simp
 · have h:¬(BE a:wc)=BE b:=fun q=>e (BE.inj q);rw[decide_eq_false h,decide_eq_false e]
theorem oX(a:Int)(b:Str):decide ((BD a:wc)=BE b)=false:=decide_eq_false (fun q=>nomatch q)
theorem oW(a:Str)(b:Int):decide ((BE a:wc)=BD b)=false:=decide_eq_false (fun q=>nomatch q)
noncomputable def i4(prog:wZ)(w:xx):PySem.KeyKind prog w wc where
 is:=oZ
 hash:=tM w
 inj:=fun v a b ha hb=>by
  rcases aA ha with⟨i,t,rfl,rfl⟩|⟨x,t,rfl,rfl⟩
  · rcases aA hb with⟨j,u,rfl,e⟩|⟨y,u,rfl,e⟩
    · injection e with e1 _;rw[e1]
    · exact nomatch e
  · rcases aA hb with⟨j,u,rfl,e⟩|⟨y,u,rfl,e⟩
    · exact nomatch e
    · injection e with e1 _;rw[e1]
 byValue:=fun k v h=>by
   rcases aA h with⟨i,t,rfl,rfl⟩|⟨x,t,rfl,rfl⟩<;>rfl
 pyHash:=fun hv h=>by
  rcases aA hv with⟨i,t,rfl,rfl⟩|⟨x,t,rfl,rfl⟩
  · exact wpAny_pyHash_int h
  · exact wpAny_pyHash_str h
 eqBool:=fun hu hv h=>by
  rcases aA hu with⟨i,t,rfl,rfl⟩|⟨x,t,rfl,rfl⟩
  · rcases aA hv with⟨j,u,rfl,rfl⟩|⟨y,u,rfl,rfl⟩
    · rw[oY]at h;exact wpAny_eqBool_int h
    · rw[oX]at h;exact SeqAt.EqAt.int_str i t y u _ _ _ _ h
  · rcases aA hv with⟨j,u,rfl,rfl⟩|⟨y,u,rfl,rfl⟩
    · rw[oW]at h;exact SeqAt.EqAt.str_int x t j u _ _ _ _ h
    · rw[oV]at h;exact wpAny_eqBool_str h
 «strs»:=fun k x t v h=>by
  rcases aA h with⟨i,u,rfl,e⟩|⟨y,u,rfl,e⟩
  · exact nomatch e
  · injection e with e1 _
    subst e1;cases v<;>rfl
inductive V where
 | non|bl (b:Bool)|int (i:Int)|str (x:Str)|byt (b:Array UInt8)|flt (b:UInt64)|ref (a:Addr)|ty (n:String)
 deriving DecidableEq
noncomputable def RelV:V->wF->Prop
 | .non,u=>u=zv
 | .bl b,u=>u=wF.bool b
 | .int i,u=>∃t,u=BQ i t
 | .str x,u=>∃t,u=wF.str x t
 | .byt b,u=>∃t,u=wF.bytes b t
 | .flt b,u=>∃t,u=wF.float b t
 | .ref a,u=>u=Bd a
 | .ty n,u=>u=wF.type n
abbrev bq:List V->List wF->Prop:=zw RelV
theorem bq.length{xs:List V}{us:List wF}(r:bq xs us):xs.length=us.length:=Ac r
theorem bq.get:∀{xs:List V}{us:List wF}{i:Nat}{x:V},bq xs us->xs[i]?=some x->∃u,us[i]?=some u/\RelV x u
 | _,_,_,_,.nil,e=>by simp at e
 | _,_,0,_,.cons r _,e=>by simp at e;subst e;exact⟨_,rfl,r⟩
 | _,_,i+1,x,.cons _ t,e=>by
   obtain⟨u,h1,h2⟩:=bq.get (i:=i) (x:=x) t (by simpa using e);exact⟨u,by simpa using h1,h2⟩
theorem bq.set{x:V}{u:wF}(r:RelV x u):∀{xs:List V}{us:List wF}(i:Nat),bq xs us->bq (xs.set i x) (us.set i u)
 | _,_,_,.nil=>.nil
 | _,_,0,.cons _ t=>.cons r t
 | _,_,i+1,.cons q t=>.cons q (bq.set r i t)
theorem bq.append:∀{xs ys:List V}{us ws:List wF},bq xs us->bq ys ws->bq (xs++ys) (us++ws)
 | _,_,_,_,.nil,s=>s
 | _,_,_,_,.cons r t,s=>.cons r (bq.append t s)
theorem bq.take:∀{xs:List V}{us:List wF}(n:Nat),bq xs us->bq (xs.take n) (us.take n)
 | _,_,0,_=>.nil
 | _,_,_+1,.nil=>.nil
 | _,_,n+1,.cons r t=>.cons r (bq.take n t)
theorem bq.drop:∀{xs:List V}{us:List wF}(n:Nat),bq xs us->bq (xs.drop n) (us.drop n)
 | _,_,0,r=>r
 | _,_,_+1,.nil=>.nil
 | _,_,n+1,.cons _ t=>bq.drop n t
noncomputable def sU:Option V->Option wF->Prop
 | some v,some u=>RelV v u
 | none,none=>True
 | _,_=>False
noncomputable def KV{κ:Type}:List (κ×V)->List (κ×wF)->Prop:=zw fun(p:κ×V)(q:κ×wF)=>p.1=q.1/\RelV p.2 q.2
noncomputable def kV:wc->V
 | .inl i=>.int i
 | .inr x=>.str x
inductive HO where
 | lst (xs:List V)
 | tup (xs:List V)
 | dK (kvs:List (wc×V))|dT (kvs:List (List wc×V))
 | set (S:Int->Bool) (n:Nat)
 | ins (C dx:Addr) (fs:List (Str×V))
 | own (x:Addr)
 | xd (fs:List (Str×V))
 | met (f x:Addr)
 | rng (lo hi:Int)
 | frz (o:Obj) (u:HO)
 | tbl (ps:Array wF)
 | ext (φ:Heap->Prop)
abbrev Hp:=Addr->Option HO
noncomputable def upd(H:Hp)(a:Addr)(o:HO):Hp:=fun b=>if b=a then some o else H b
theorem ak{H:Hp}{o:HO}:upd H a o a=some o:=by unfold upd;rw[if_pos rfl]
theorem upd_ne{H:Hp}{b:Addr}{o:HO}(h:b≠a):upd H a o b=H b:=by unfold upd;rw[if_neg h]
theorem cP{H:Hp}{o u:HO}:upd (upd H a o) a u=upd H a u:=by
 funext b;unfold upd;split<;>rfl
theorem ar{H:Hp}{b:Addr}{o:HO}(h:H a=some o)(h':H b=none):a≠b:=by
 intro e;subst e;rw[h]at h';cases h'
section
variable(P:wZ)(w:xx)
noncomputable def jJ(h:Heap)(a:Addr)(items:Array wF):Prop:=∃o,h.get? a=some o/\o.cls = .type "tuple" /\ (∃n,o.data = .seq items n)/\o.dict=none
theorem jJ.tup{h:Heap}{a:Addr}{items:Array wF}(x:jJ h a items):IsTup h a items:=let ⟨o,e1,e2,e3,_⟩:=x;⟨o,e1,e2,e3⟩
theorem jJ.new(h:Heap)(items:Array wF):jJ (h.push {cls:=.type "tuple", data:=.seq items}) h.objs.size items:=⟨_,wS _ rfl,rfl,⟨_,rfl⟩,rfl⟩
noncomputable def cw(H:Hp)(h:Heap)(a:Addr):HO->Prop
 | .lst xs=>xs.length<=sizeLine/\∃(its:List wF)(n:Nat),bq xs its/\h.get? a=some {cls:=.type "list", data:=.seq its.toArray n}
 | .tup xs=>xs.length<=sizeLine/\∃its:List wF,bq xs its/\jJ h a its.toArray
 | .dK kvs=>kvs.length<=sizeLine/\(a==sysModules)=false/\∃vs,KV kvs vs/\h.DictOf (i4 P w) a vs
 | .dT kvs=>kvs.length<=sizeLine/\(a==sysModules)=false/\∃xs:List (List wc×Addr×wF),
     zw (fun(p:List wc×V)(q:List wc×Addr×wF)=>p.1=q.1/\H q.2.1=some (.tup (p.1.map kV))/\RelV p.2 q.2.2) kvs xs /\
     ∃o es ep,h.get? a=some o/\o.ExactDict/\o.data = .dict es ep/\es.toList=xs.map (entryOfKey (tupleKind (i4 P w)))/\(xs.map (·.1)).Nodup
 | .set S n=>h.SetOf (Ah P w) a S n
 | .ins C dx fs=>H dx=some (.own a)/\fs.length<=1000/\dx≠a/\h.get? a=some (W.instObj C dx) /\
     ∃mA,h.Ns1 dx mA/\(∀f,sU (fs.lookup f) (mA f))/\PySem.Within mA (fs.map (·.1))
 | .own _=>∃o,h.get? a=some o
 | .xd fs=>∃mA,h.Ns1 a mA/\∀f,sU (fs.lookup f) (mA f)
 | .rng lo hi=>∃t u v,h.get? a=some {cls:=.type "range", data:=.fields #[.int lo t,.int hi u,.int 1 v]}
 | .frz o u=>h.get? a=some o/\cw H h a u
 | .tbl ps=>h.get? a=some {cls:=.none,data:=.fields ps}
 | .met f x=>h.get? a=some (W.methodObj (.ref f) (.ref x))
 | .ext φ=>φ h/\(∃o,h.get? a=some o)/\∀h1 h2:Heap,φ h1->(∀o,h1.get? a=some o->h2.get? a=some o)->φ h2
noncomputable def wq(H:Hp)(h:Heap):Prop:=∀a o,H a=some o->cw P w H h a o
end
section
variable{P:wZ}{w:xx}{H H':Hp}{h h':Heap}{a:Addr}{o:HO}
theorem cw.lt(x:cw P w H h a o):a<h.objs.size:=by
 cases o with
 | lst xs=>obtain⟨_,_,_,_,e⟩:=x;exact wO e
 | tup xs=>obtain⟨_,_,_,p⟩:=x;exact p.tup.lt
 | dK kvs=>obtain⟨_,_,_,_,o,_,_,e,_⟩:=x;exact wO e
 | dT kvs=>obtain⟨_,_,_,_,o,_,_,e,_⟩:=x;exact wO e
 | set S n=>obtain⟨o,_,_,_,e,_⟩:=x;exact wO e
 | ins C dx fs=>obtain⟨_,_,_,e,_⟩:=x;exact wO e
 | own y=>obtain⟨_,e⟩:=x;exact wO e
 | xd fs=>obtain⟨_,⟨_,_,_,e,_⟩,_⟩:=x;exact wO e
 | rng lo hi=>obtain⟨_,_,_,e⟩:=x;exact wO e
 | frz ob u=>obtain⟨e,_⟩:=x;exact wO e
 | tbl ps=>exact wO (show h.get? a=some _ from x)
 | met f y=>exact wO (show h.get? a=some _ from x)
 | ext φ=>obtain⟨_,⟨_,e⟩,_⟩:=x;exact wO e
theorem zw.mapP{α β:Type}{F G:α->β->Prop}:∀{l₁:List α}{l₂:List β},zw F l₁ l₂->(∀a b,F a b->G a b)->zw G l₁ l₂
 | _,_,.nil,_=>.nil
 | _,_,.cons r t,f=>.cons (f _ _ r) (zw.mapP t f)
theorem cw.stay(x:cw P w H h a o)(k:∀b u,(b=a\/H b=some (.own a))->h.get? b=some u->h'.get? b=some u)
 (ho:∀b,H b=some (.own a)->H' b=some (.own a))(ht:∀b xs,H b=some (.tup xs)->H' b=some (.tup xs)):cw P w H' h' a o:=by
 induction o with
 | lst xs=>obtain⟨z,its,n,r,e⟩:=x;exact⟨z,its,n,r,k _ _ (.inl rfl) e⟩
 | tup xs=>obtain⟨z,its,r,ob,e,c⟩:=x;exact⟨z,its,r,ob,k _ _ (.inl rfl) e,c⟩
 | dK kvs=>obtain⟨z,y,vs,r,ob,es,ep,e,c⟩:=x;exact⟨z,y,vs,r,ob,es,ep,k _ _ (.inl rfl) e,c⟩
 | dT kvs =>
   obtain⟨z,y,xs,r,ob,es,ep,e,c⟩:=x
   exact⟨z,y,xs,zw.mapP r fun p q z=>⟨z.1,ht _ _ z.2.1,z.2.2⟩,ob,es,ep,k _ _ (.inl rfl) e,c⟩
 | set S n=>obtain⟨ob,es,ep,t,e,c⟩:=x;exact⟨ob,es,ep,t,k _ _ (.inl rfl) e,c⟩
 | ins C dx fs =>
   obtain⟨d,z,ne,e,mA,⟨od,es,ep,e2,c⟩,r⟩:=x
   exact⟨ho _ d,z,ne,k _ _ (.inl rfl) e,mA,⟨od,es,ep,k _ _ (.inr d) e2,c⟩,r⟩
 | own y=>obtain⟨ob,e⟩:=x;exact⟨ob,k _ _ (.inl rfl) e⟩
 | xd fs=>obtain⟨mA,⟨od,es,ep,e,c⟩,r⟩:=x;exact⟨mA,⟨od,es,ep,k _ _ (.inl rfl) e,c⟩,r⟩
 | rng lo hi=>obtain⟨t,u,v,e⟩:=x;exact⟨t,u,v,k _ _ (.inl rfl) e⟩
 | frz ob u ih=>obtain⟨e,q⟩:=x;exact⟨k _ _ (.inl rfl) e,ih q⟩
 | tbl ps =>
   have e:h.get? a=some {cls:=.none,data:=.fields ps}:=x;show h'.get? a=some {cls:=.none,data:=.fields ps}
   exact k a _ (.inl rfl) e
 | met f y =>
   have e:h.get? a=some (W.methodObj (.ref f) (.ref y)):=x;show h'.get? a=some (W.methodObj (.ref f) (.ref y))
   exact k a _ (.inl rfl) e
 | ext φ=>obtain⟨p,⟨o,e⟩,st⟩:=x;exact⟨st _ _ p fun o q=>k _ _ (.inl rfl) q,⟨o,k _ _ (.inl rfl) e⟩,st⟩
theorem wq.lt(x:wq P w H h)(e:H a=some o):a<h.objs.size:=(x a o e).lt
theorem wq.fresh(x:wq P w H h)(e:h.objs.size<=a):H a=none:=by
 cases q:H a with
 | none=>rfl
 | some u=>exact absurd (wK (x.lt q) e) (ye _)
theorem wq.kept(x:wq P w H h)(k:∀b u,h.get? b=some u->h'.get? b=some u):wq P w H h':=fun a o e =>
 (x a o e).stay (fun b u _ q=>k b u q) (fun _ q=>q) fun _ _ q=>q
theorem wq.laid(x:wq P w H h)(k:∀b u,h.get? b=some u->h'.get? b=some u)(hp:h.objs.size<=a)(new:cw P w (upd H a o) h' a o):wq P w (upd H a o) h':=fun b u e=>by
 have hn:=x.fresh hp;by_cases hb:b=a
 · subst hb;rw[ak]at e;cases e;exact new
 · rw[upd_ne hb]at e;exact(x b u e).stay (fun c v _ q=>k c v q) (fun c q=>by rw[upd_ne (ar q hn)];exact q) fun c xs q=>by rw[upd_ne (ar q hn)];exact q
end
noncomputable def Rd(H:Hp)(a:Addr)(u:HO):Prop:=H a=some u\/∃o,H a=some (.frz o u)
theorem Rd.ok{P:wZ}{w:xx}{H:Hp}{u:HO}(r:Rd H a u)(x:wq P w H h):cw P w H h a u:=by
 rcases r with r|⟨o,r⟩
 · exact x a u r
 · obtain⟨_,q⟩:=x a _ r;exact q
noncomputable def v_:Option HO->Prop
 | some (.lst _)=>True
 | some (.dK _)=>True
 | some (.dT _)=>True
 | some (.set _ _)=>True
 | some (.ins _ _ _)=>True
 | some (.ext _)=>True
 | _=>False
section
variable{P:wZ}{w:xx}{H:Hp}{h h':Heap}{x e:Addr}{o':HO}
theorem wq.write(ok:wq P w H h)(mu:v_ (H x))(he:e=x\/H e=some (.own x))(k:∀b u,b≠e->h.get? b=some u->h'.get? b=some u)(heo:∃u,h'.get? e=some u)
 (new:cw P w (upd H x o') h' x o'):wq P w (upd H x o') h':=fun b u q=>by
 have nown:∀c y,H c=some (.own y)->c≠x:=fun c y r z=>by subst z;rw[r]at mu;exact mu
 have ntup:∀c xs,H c=some (.tup xs)->c≠x:=fun c xs r z=>by subst z;rw[r]at mu;exact mu
 by_cases hb:b=x
 · subst hb;rw[ak]at q;cases q;exact new
 · rw[upd_ne hb]at q;by_cases hbe:b=e
   · have q':H b=some (.own x):=by
       rcases he with z|z
       · exact absurd (hbe.trans z) hb
       · rw[hbe];exact z
     rw[q]at q';cases q';obtain⟨v,hv⟩:=heo;exact⟨v,by rw[hbe];exact hv⟩
   · refine(ok b u q).stay (fun c v hc r=>k c v ?_ r) (fun c r=>by rw[upd_ne (nown c b r)];exact r) fun c xs r=>by rw[upd_ne (ntup c xs r)];exact r
     rcases hc with rfl|hc
     · exact hbe
     · rintro rfl;rcases he with z|z
       · exact nown c b hc z
       · rw[hc]at z;cases z;exact hb rfl
end
structure Un (fs ex:List Addr) (H H':Hp) (h h':Heap):Prop where
 keep:∀b o,h.get? b=some o->H b=none->b∉fs->b∉ex->h'.get? b=some o
 slot:∀b o,h.get? b=some o->H b=none->b∈fs->b∉ex->∃sl,h'.get? b=some {o with slots:=sl}
 free:∀b o,h.get? b=some o->H b=none->b∉ex->H' b=none
 there:∀b o,h.get? b=some o->b∉ex->∃o',h'.get? b=some o'
 tups:∀b xs,H b=some (.tup xs)->H' b=some (.tup xs)
 frzs:∀b o u,H b=some (.frz o u)->H' b=some (.frz o u)
 tbls:∀b ps,H b=some (.tbl ps)->∃more,H' b=some (.tbl (ps++more))
section
variable{fs fs' ex ex':List Addr}{H H1 H2:Hp}{h h1 h2 h':Heap}{a x e:Addr}{o:HO}
theorem Un.any(u:Un fs ex H H1 h h1){b:Addr}{ob:Obj}(q:h.get? b=some ob)(n:H b=none)(hx:b∉ex):∃sl,h1.get? b=some {ob with slots:=sl}:=by
 by_cases hb:b∈fs
 · exact u.slot b ob q n hb hx
 · exact⟨ob.slots,u.keep b ob q n hb hx⟩
theorem Un.kept(k:∀b u,h.get? b=some u->h'.get? b=some u):Un fs ex H H h h' :=
 ⟨fun b ob q _ _ _=>k b ob q,fun b ob q _ _ _=>⟨ob.slots,k b ob q⟩,fun _ _ _ n _=>n,fun b ob q _=>⟨ob,k b ob q⟩,fun _ _ q=>q,fun _ _ _ q=>q,fun _ ps q=>⟨#[],by rw[q];simp⟩⟩
theorem Un.refl:Un fs ex H H h h:=Un.kept fun _ _ q=>q
theorem Un.laid(k:∀b u,h.get? b=some u->h'.get? b=some u)(hp:h.objs.size<=a)(hn:H a=none):Un fs ex H (upd H a o) h h' where
 keep:=fun b u q _ _ _=>k b u q
 slot:=fun b u q _ _ _=>⟨u.slots,k b u q⟩
 free:=fun b u q n _=>by rw[upd_ne (xA (wK (wO q) hp))];exact n
 there:=fun b u q _=>⟨u,k b u q⟩
 tups:=fun b xs q=>by rw[upd_ne (ar q hn)];exact q
 frzs:=fun b u xs q=>by rw[upd_ne (ar q hn)];exact q
 tbls:=fun b ps q=>⟨#[],by rw[upd_ne (ar q hn),q];simp⟩
theorem Un.write(mu:v_ (H x))(he:e=x\/H e=some (.own x))(k:∀b u,b≠e->h.get? b=some u->h'.get? b=some u)(heo:∃u,h'.get? e=some u):Un fs ex H (upd H x o) h h':=by
 have hx:∀b,H b=none->b≠x:=fun b n z=>by subst z;rw[n]at mu;exact mu
 have hb:∀b,H b=none->b≠e:=fun b n z=>by
  subst z;rcases he with r|r
  · exact hx b n r
  · rw[n]at r;cases r
 have hm:∀b u,H b=some u->¬v_ (some u)->b≠x:=fun b u q nm z=>by subst z;rw[q]at mu;exact nm mu
 refine⟨fun b u q n _ _=>k b u (hb b n) q,fun b u q n _ _=>⟨u.slots,k b u (hb b n) q⟩,fun b u q n _=>by rw[upd_ne (hx b n)];exact n,fun b u q _=>?_,
  fun b xs q=>by rw[upd_ne (hm b _ q fun z=>z)];exact q,fun b u xs q=>by rw[upd_ne (hm b _ q fun z=>z)];exact q,fun b ps q=>⟨#[],by rw[upd_ne (hm b _ q fun z=>z),q];simp⟩⟩
 by_cases hbe:b=e
 · subst hbe;exact heo
 · exact⟨u,k b u hbe q⟩
end
noncomputable def uz(h:Heap)(H:Hp):List Addr:=(w_ h.objs.size).filter fun a=>(H a).isSome
noncomputable def ku(h:Heap)(H:Hp):Heap:=W.hideAll h (uz h H)
theorem jk(h:Heap)(H:Hp):(ku h H).objs.size=h.objs.size:=W.hideAll_size _ _
theorem kr{H:Hp}{b:Addr}{o:Obj}(e:h.get? b=some o)(n:H b=none):(ku h H).get? b=some o :=
 W.hideAll_get _ e fun hm=>by
  have q:(H b).isSome=true:=(zB.mp hm).2;rw[n]at q;simp at q
theorem mE{H:Hp}{b:Addr}{o:Obj}(e:(ku h H).get? b=some o):h.get? b=some o/\H b=none:=by
 have e':h.get? b=some o:=W.of_hideAll (uz h H) e;refine⟨e',?_⟩
 cases q:H b with
 | none=>rfl
 | some x =>
   have hm:b∈uz h H:=zB.mpr ⟨xL.mpr (wO e'),by simp[q]⟩;have z:(ku h H).get? b=none:=W.hideAll_none (uz h H) hm;rw[z]at e;cases e
noncomputable def m6(g h:Heap)(L:Addr):List (Addr×Obj):=(w_ h.objs.size).filterMap fun a=>if a=L\/(g.get? a).isSome=true then none else(h.get? a).map fun o=>(a,o)
noncomputable def rest(g h:Heap)(L d:Addr):List (Addr×Obj):=(m6 g h L).filter fun p=>decide (p.1≠d)
structure Mod (K:W.Frag) (mg:Str->Option wF) (base:Heap):Prop where
 kin:K.In base
 glob:base.Ns xt mg
 blt:∃mb,base.Ns builtinsNs mb/\∀x:Str,x ≠ "__name__" -> mb x=zx x
 nolimit:base.NoLimit
structure Cx where
 prog:wZ
 w:xx
 K:W.Frag
 mg:Str->Option wF
 base:Heap
 A:xB
 N:List Str
 s₀:wG
 H₀:Hp
 env:Env
 outer:List Env
 stack:List Env
 ex:List Addr
 fn:Str->Bool
 calm:Bool
 pn:List (Addr×Obj)
 xe:wF->wG->Prop
noncomputable def frs(l:List Env):List Addr:=l.filterMap (·.frame)
abbrev Cx.fs(X:Cx):List Addr:=frs X.outer
noncomputable def vH(sc:Scope)(x:Str):Prop:=sc.names.lookup x=some .local\/sc.names.lookup x=some .cell\/sc.names.lookup x=some .free
noncomputable def Loc(sc:Scope)(x:Str):Prop:=sc.names.lookup x=some .local\/sc.names.lookup x=some .cell
noncomputable def Look(env:Env)(h:Heap)(m:Str->Option wF)(x:Str)(u:wF):Prop :=
 (env.kindOf x=some .local/\m x=some u)\/((env.kindOf x=some .cell\/env.kindOf x=some .free)/\∃c,env.cells.lookup x=some c/\h.IsCell c (some u))
structure Cx.Ok (X:Cx):Prop where
 mod:Mod X.K X.mg X.base
 kind:X.env.scope.kind = .function
 glob:X.env.globals=xt
 blt:X.env.builtins=builtinsNs
 above:X.s₀.heap.objs.size<=X.env.locals
 inj:∀x y c,X.env.cells.lookup x=some c->X.env.cells.lookup y=some c->x=y
 has:∀x,(X.env.kindOf x=some .cell\/X.env.kindOf x=some .free)->∃c,X.env.cells.lookup x=some c
 cab:∀x c,X.fn x=true->X.env.cells.lookup x=some c->X.s₀.heap.objs.size<=c
 hd:X.calm=true->X.A.handled=none
 frames:X.A.frames=some X.stack
 stk:X.stack=X.outer\/(X.stack=X.env::X.outer/\X.env.frame=some X.env.locals)
 exf:∀b∈X.ex,b≠X.env.locals/\∀x c,X.env.cells.lookup x=some c->c≠b
 bs:∀b o,X.base.get? b=some o->X.s₀.heap.get? b=some o/\X.H₀ b=none
 bsz:X.base.objs.size<=X.s₀.heap.objs.size
 noex:∀b o,X.base.get? b=some o->b∉X.ex
 exfs:∀b∈X.ex,b∉X.fs
 funs:X.s₀.heap.FunFrames X.base X.outer
 frf:∀b∈X.fs,X.H₀ b=none
structure Inv (X:Cx) (pins:List (Addr×Obj)) (σ:List (Option V)) (H:Hp) (s:wG):Prop where
 ok:X.Ok
 os:s.os=X.s₀.os
 bare:BF s.gens
 base:Un X.fs X.ex X.H₀ H X.s₀.heap s.heap
 loc:∃m,s.heap.Ns X.env.locals m/\∀(i:Nat)(x:Str)(v:V),X.N[i]?=some x->σ[i]?=some (some v)->vH X.env.scope x->∃u,RelV v u/\Look X.env s.heap m x u
 cell:∀x c,X.env.cells.lookup x=some c->∃v,s.heap.IsCell c v
 free:H X.env.locals=none
 freeC:∀x c,X.env.cells.lookup x=some c->H c=none
 pin:∀p∈X.pn++pins,s.heap.get? p.1=some p.2/\H p.1=none/\p.1≠X.env.locals/\p.1∉X.fs/\∀v,p.2.data ≠ .cell v
 hok:wq X.prog X.w H s.heap
 len:σ.length=X.N.length
section
variable{X:Cx}{pins:List (Addr×Obj)}{σ:List (Option V)}{H H':Hp}{s:wG}{h':Heap}
theorem Cx.Ok.nofr(ok:X.Ok){b:Addr}{o:Obj}(e:X.base.get? b=some o):b∉X.fs:=fun hb=>by
 have:=(ok.funs.mem hb).1;rw[e]at this;cases this
theorem Inv.bs(I:Inv X pins σ H s):∀b o,X.base.get? b=some o->s.heap.get? b=some o/\H b=none:=fun b o e =>
 ⟨I.base.keep b o (I.ok.bs b o e).1 (I.ok.bs b o e).2 (I.ok.nofr e) (I.ok.noex b o e),I.base.free b o (I.ok.bs b o e).1 (I.ok.bs b o e).2 (I.ok.noex b o e)⟩
theorem Inv.bk(I:Inv X pins σ H s):∀b o,X.base.get? b=some o->s.heap.get? b=some o:=fun b o e=>(I.bs b o e).1
theorem Inv.mod(I:Inv X pins σ H s):Mod X.K X.mg X.base:=I.ok.mod
theorem Inv.kIn(I:Inv X pins σ H s):X.K.In s.heap:=I.ok.mod.kin.keeps I.bk
theorem Inv.lt(I:Inv X pins σ H s):X.env.locals<s.heap.objs.size:=let ⟨_,hn,_⟩:=I.loc;hn.lt
theorem Inv.sz(I:Inv X pins σ H s):X.s₀.heap.objs.size<=s.heap.objs.size:=yI I.ok.above (B0 I.lt)
theorem Inv.nofs(I:Inv X pins σ H s)(h:s.heap.objs.size<=a):a∉X.fs:=fun hb=>by
 obtain⟨_,o,ho,_⟩:=I.ok.funs.mem hb;exact absurd (wK (wO ho) (yI I.sz h)) (ye _)
theorem Inv.cne(I:Inv X pins σ H s):∀x c,X.env.cells.lookup x=some c->c≠X.env.locals:=fun x c e z=>by
 obtain⟨v,o,ho,hd⟩:=I.cell x c e;obtain⟨m,⟨o',es,ep,ho',hd',_⟩,_⟩:=I.loc;rw[z,ho']at ho;cases ho;rw[hd']at hd;cases hd
theorem Inv.funs(I:Inv X pins σ H s):s.heap.FunFrames X.base X.outer:=by
 have all:∀(l:List Env),(∀b∈frs l,b∈X.fs)->X.s₀.heap.FunFrames X.base l->s.heap.FunFrames X.base l:=by
  intro l
  induction l with
  | nil=>intro _ _;trivial
  | cons env r ih =>
    intro hs hl;obtain⟨hk,⟨L,o,hf,hn,ho,hd⟩,hr⟩:=hl;have hL:L∈X.fs:=hs L (by unfold frs;rw[yK,hf];exact wQ);obtain⟨sl,e⟩:=I.base.slot L o ho (I.ok.frf L hL) hL fun z=>I.ok.exfs L z hL;exact⟨hk,⟨L,_,hf,hn,e,hd⟩,ih (fun b hb=>hs b (by unfold frs;rw[yK,hf];exact wL _ hb)) hr⟩
 exact all X.outer (fun _ hb=>hb) I.ok.funs
theorem Inv.stack(I:Inv X pins σ H s):s.heap.FunFrames X.base X.stack:=by
 rcases I.ok.stk with e|⟨e,hf⟩
 · rw[e];exact I.funs
 · rw[e];obtain⟨m,hn,_⟩:=I.loc;refine .cons (by rw[I.ok.kind];decide) hf hn ?_ I.funs;exact Heap.get?_none_of_le (yI I.ok.bsz I.ok.above)
theorem Inv.stkSub(I:Inv X pins σ H s):∀b∈frs X.stack,b∈X.env.locals::X.fs:=fun b hb=>by
 rcases I.ok.stk with e|⟨e,hf⟩
 · rw[e]at hb;exact wL _ hb
 · rw[e]at hb;unfold frs at hb;rw[yK,hf]at hb;exact hb
theorem Inv.stkFree(I:Inv X pins σ H s):∀b∈frs X.stack,H b=none:=fun b hb=>by
 rcases xC.mp (I.stkSub b hb)with e|hb
 · rw[e];exact I.free
 · obtain⟨_,o,ho,_⟩:=I.ok.funs.mem hb;exact I.base.free b o ho (I.ok.frf b hb) fun z=>I.ok.exfs b z hb
theorem Inv.step{g':Array GenState}{t':Nat}{d':Drawn}{ch:List Addr}(I:Inv X pins σ H s)
 (hch:∀b∈ch,(b∈X.ex\/X.s₀.heap.objs.size<=b)/\b≠X.env.locals/\(∀x c,X.env.cells.lookup x=some c->c≠b)/\∀p∈X.pn++pins,p.1≠b)
 (keep:∀b o,b≠X.env.locals->b∉X.fs->b∉ch->s.heap.get? b=some o->H b=none->h'.get? b=some o)
 (slot:∀b o,b≠X.env.locals->b∈X.fs->b∉ch->s.heap.get? b=some o->H b=none->∃sl,h'.get? b=some {o with slots:=sl})(free:∀b o,b∉ch->s.heap.get? b=some o->H b=none->H' b=none)
 (there:∀b o,b∉ch->s.heap.get? b=some o->∃o',h'.get? b=some o')
 (tups:∀b xs,H b=some (.tup xs)->H' b=some (.tup xs))(frzs:∀b o u,H b=some (.frz o u)->H' b=some (.frz o u))(tbls:∀b ps,H b=some (.tbl ps)->∃more,H' b=some (.tbl (ps++more)))
 (ns:∀m,s.heap.Ns X.env.locals m->h'.Ns X.env.locals m)(hok:wq X.prog X.w H' h')(hg:BF g') :
 Inv X pins σ H' {s with heap:=h',gens:=g',drawn:=d',toks:=t' }:=by
 have neL:∀b o,X.s₀.heap.get? b=some o->b≠X.env.locals:=fun b o e=>xA (wK (wO e) I.ok.above)
 have neC:∀b o,X.s₀.heap.get? b=some o->b∉X.ex->b∉ch:=fun b o e hx hb=>by
  rcases(hch b hb).1 with z|z
  · exact hx z
  · exact absurd (wK (wO e) z) (ye _)
 have cellK:∀x c,X.env.cells.lookup x=some c->∀v,s.heap.IsCell c v->h'.IsCell c v:=fun x c e v ⟨o,ho,hd⟩=>by
  have nch:c∉ch:=fun z=>(hch c z).2.2.1 x c e rfl;by_cases hc:c∈X.fs
  · obtain⟨sl,q⟩:=slot c o (I.cne x c e) hc nch ho (I.freeC x c e);exact⟨_,q,hd⟩
  · exact⟨o,keep c o (I.cne x c e) hc nch ho (I.freeC x c e),hd⟩
 refine⟨I.ok,I.os,hg,⟨fun b o e n hb hx=>?_,fun b o e n hb hx=>?_,fun b o e n hx=>?_,fun b o e hx=>?_,fun b xs e=>tups b xs (I.base.tups b xs e),fun b o xs e=>frzs b o xs (I.base.frzs b o xs e),fun b ps e=>?_⟩,?_,fun x c e=>?_,?_,fun x c e=>?_,fun p hp=>?_,hok,I.len⟩
 · exact keep b o (neL b o e) hb (neC b o e hx) (I.base.keep b o e n hb hx) (I.base.free b o e n hx)
 · obtain⟨sl,e1⟩:=I.base.slot b o e n hb hx;obtain⟨sl',e2⟩:=slot b _ (neL b o e) hb (neC b o e hx) e1 (I.base.free b o e n hx);exact⟨sl',e2⟩
 · obtain⟨o',e1⟩:=I.base.there b o e hx;exact free b o' (neC b o e hx) e1 (I.base.free b o e n hx)
 · obtain⟨o',e1⟩:=I.base.there b o e hx;exact there b o' (neC b o e hx) e1
 · obtain⟨m1,e1⟩:=I.base.tbls b ps e;obtain⟨m2,e2⟩:=tbls b _ e1;exact⟨m1++m2,by rw[e2,Array.append_assoc]⟩
 · obtain⟨m,hn,hl⟩:=I.loc;refine⟨m,ns m hn,fun i x v e1 e2 e3=>?_⟩;obtain⟨u,r,l⟩:=hl i x v e1 e2 e3;refine⟨u,r,?_⟩;rcases l with l|⟨k,c,e,z⟩
   · exact .inl l
   · exact .inr ⟨k,c,e,cellK x c e _ z⟩
 · obtain⟨v,z⟩:=I.cell x c e;exact⟨v,cellK x c e v z⟩
 · obtain⟨m,⟨o,_,_,ho,_⟩,_⟩:=I.loc;exact free _ o (fun z=>(hch _ z).2.1 rfl) ho I.free
 · obtain⟨v,o,ho,hd⟩:=I.cell x c e;exact free c o (fun z=>(hch c z).2.2.1 x c e rfl) ho (I.freeC x c e)
 · obtain⟨e,n,ne,nf,d⟩:=I.pin p hp;have nch:p.1∉ch:=fun z=>(hch p.1 z).2.2.2 p hp rfl;exact⟨keep p.1 p.2 ne nf nch e n,free p.1 p.2 nch e n,ne,nf,d⟩
theorem Inv.un{t':Nat}(I:Inv X pins σ H s)(u:Un X.fs [] H H' s.heap h')(hok:wq X.prog X.w H' h'):Inv X pins σ H' {s with heap:=h',toks:=t' }:=by
 obtain⟨m,⟨o,es,ep,ho,r⟩,_⟩:=id I.loc;obtain⟨sl,hL⟩:=u.any ho I.free (by simp)
 exact I.step (g':=s.gens) (d':=s.drawn) (ch:=[]) (fun _ z=>nomatch z) (fun b o _ hb _ e n=>u.keep b o e n hb (by simp)) (fun b o _ hb _ e n=>u.slot b o e n hb (by simp)) (fun b o _ e n=>u.free b o e n (by simp)) (fun b o _ e=>u.there b o e (by simp)) u.tups u.frzs u.tbls (fun m' hm=>by
  obtain⟨o',es',ep',ho',r'⟩:=hm;rw[ho]at ho';cases ho'
  exact⟨_,es',ep',hL,r'⟩) hok I.bare
theorem Inv.call{g':Array GenState}{t':Nat}{d':Drawn}{ch:List Addr}(I:Inv X pins σ H s)(u:Un (frs X.stack) ch H H' s.heap h')(hok:wq X.prog X.w H' h')(hg:BF g')
 (hch:∀b∈ch,(b∈X.ex\/X.s₀.heap.objs.size<=b)/\b≠X.env.locals/\(∀x c,X.env.cells.lookup x=some c->c≠b)/\∀p∈X.pn++pins,p.1≠b) :
 Inv X pins σ H' {s with heap:=h',gens:=g',drawn:=d',toks:=t' }:=by
 obtain⟨m,⟨o,es,ep,ho,r⟩,_⟩:=id I.loc;obtain⟨sl,hL⟩:=u.any ho I.free fun z=>(hch _ z).2.1 rfl
 exact I.step (ch:=ch) hch (fun b o hL hb hc e n=>u.keep b o e n (fun z=>(xC.mp (I.stkSub b z)).elim hL hb) hc) (fun b o _ _ hc e n=>u.any e n hc) (fun b o hc e n=>u.free b o e n hc) (fun b o hc e=>u.there b o e hc) u.tups u.frzs u.tbls (fun m' hm=>by
  obtain⟨o',es',ep',ho',r'⟩:=hm;rw[ho]at ho';cases ho'
  exact⟨_,es',ep',hL,r'⟩) hok hg
theorem Inv.turned{t':Nat}{it:Addr}(I:Inv X pins σ H s)(k:∀b o,b≠it->s.heap.get? b=some o->h'.get? b=some o)(hn:H it=none)(hL:it≠X.env.locals)
 (h1:it∈X.ex\/X.s₀.heap.objs.size<=it)(h2:∀x c,X.env.cells.lookup x=some c->c≠it)(h3:∀p∈X.pn++pins,p.1≠it):Inv X pins σ H {s with heap:=h',toks:=t' }:=by
 have nit:∀b u,H b=some u->b≠it:=fun b u e z=>by rw[z,hn]at e;cases e
 refine I.step (g':=s.gens) (d':=s.drawn) (ch:=[it]) (fun b hb=>?_) (fun b o _ _ hc e _=>k b o (fun z=>hc (by simp[z])) e) (fun b o _ _ hc e _=>⟨o.slots,k b o (fun z=>hc (by simp[z])) e⟩) (fun _ _ _ _ n=>n)
  (fun b o hc e=>⟨o,k b o (fun z=>hc (by simp[z])) e⟩) (fun _ _ e=>e) (fun _ _ _ e=>e) (fun b ps e=>⟨#[],by rw[e];simp⟩) (fun m hm=>?_) (fun b u e=>?_) I.bare
 · have e:b=it:=by simpa using hb
   subst e;exact⟨h1,hL,h2,h3⟩
 · obtain⟨o,es,ep,ho,r⟩:=hm;exact⟨o,es,ep,k _ o (BG hL) ho,r⟩
 · refine(I.hok b u e).stay (fun c v hc q=>k c v ?_ q) (fun _ q=>q) fun _ _ q=>q;rcases hc with z|z
   · rw[z];exact nit b u e
   · exact nit c _ z
theorem Inv.tok(I:Inv X pins σ H s)(t:Nat):Inv X pins σ H {s with toks:=t}:=I.un (h':=s.heap) (t':=t) Un.refl I.hok
theorem Inv.kept{t':Nat}(I:Inv X pins σ H s)(k:∀b u,s.heap.get? b=some u->h'.get? b=some u):Inv X pins σ H {s with heap:=h',toks:=t' }:=I.un (Un.kept k) (I.hok.kept k)
theorem Inv.laid{a:Addr}{o:HO}{t':Nat}(I:Inv X pins σ H s)(k:∀b u,s.heap.get? b=some u->h'.get? b=some u)(hp:s.heap.objs.size<=a)(new:cw X.prog X.w (upd H a o) h' a o) :
 Inv X pins σ (upd H a o) {s with heap:=h',toks:=t' }:=I.un (Un.laid k hp (I.hok.fresh hp)) (I.hok.laid k hp new)
theorem Inv.write{x e:Addr}{o:HO}{t':Nat}(I:Inv X pins σ H s)(mu:v_ (H x))(he:e=x\/H e=some (.own x))(k:∀b u,b≠e->s.heap.get? b=some u->h'.get? b=some u)(heo:∃u,h'.get? e=some u)
 (new:cw X.prog X.w (upd H x o) h' x o):Inv X pins σ (upd H x o) {s with heap:=h',toks:=t' }:=I.un (Un.write mu he k heo) (I.hok.write mu he k heo new)
theorem Inv.pins_of{pins':List (Addr×Obj)}(I:Inv X pins σ H s)(h:∀p∈pins',s.heap.get? p.1=some p.2/\H p.1=none/\p.1≠X.env.locals/\p.1∉X.fs/\∀v,p.2.data ≠ .cell v):Inv X pins' σ H s :=
 ⟨I.ok,I.os,I.bare,I.base,I.loc,I.cell,I.free,I.freeC,fun p hp=>(yr.mp hp).elim (fun z=>I.pin p (Bs _ z)) (h p),I.hok,I.len⟩
theorem gr(hN:N.Nodup)(a:N[i]?=some x)(b:N[j]?=some x):i=j:=by
 obtain⟨h1,e1⟩:=wY.mp a;obtain⟨h2,e2⟩:=wY.mp b;exact(List.getElem_inj hN).mp (e1.trans e2.symm)
theorem d9{M:Model}{A:xB}{E:wF->wG->Prop}{v:V}{u:wF}{Q:Unit->wG->Prop}(I:Inv X pins σ H s)(hN:X.N.Nodup)(hi:X.N[i]?=some x)(hx:Loc X.env.scope x)(r:RelV v u)
 (h:∀s',Inv X pins (σ.set i (some v)) H s'->(∃a,yJ a s.heap s'.heap/\(a=X.env.locals\/X.env.cells.lookup x=some a))->Q () s')(hf:autoParam (X.fn x=true\/X.env.scope.names.lookup x=some .local) æf._auto_1):xq M A (storeName X.env x u) Q E s:=by
 obtain⟨m,hn,hl⟩:=id I.loc;have hcls:(X.env.scope.kind == .class||(X.env.scope.kind == .module&&X.env.locals != X.env.globals))=false:=by rw[I.ok.kind];rfl
 have hiσ:i<σ.length:=by rw[I.len];exact(wY.mp hi).1
 have cne:=I.cne
 have tracked:∀{a:Addr}{h':Heap},(∃o,s.heap.get? a=some o/\H a=none)->yJ a s.heap h'->wq X.prog X.w H h':=fun{a h'} ha hs b ob e=>by
  obtain⟨_,_,hfree⟩:=ha;refine(I.hok b ob e).stay (fun c w' hc q=>(hs.2 c ?_).trans q) (fun _ q=>q) fun _ _ q=>q;rintro rfl;rcases hc with rfl|hc
  · rw[hfree]at e;cases e
  · rw[hfree]at hc;cases hc
 rcases hx with hk|hk
 · refine wpAny_storeName_local hk hn (fun h' hn' hs=>?_) hcls;obtain⟨oL,_,_,hoL,_⟩:=id hn;refine h _ ⟨I.ok,I.os,I.bare,⟨fun b o e n hb hx=>?_,fun b o e n hb hx=>?_,I.base.free,fun b o e hx=>?_,I.base.tups,I.base.frzs,I.base.tbls⟩,⟨_,hn',fun j y v' e1 e2 e3=>?_⟩,fun y c e=>?_,I.free,I.freeC,fun p hp=>?_,tracked ⟨oL,hoL,I.free⟩ hs,by simpa using I.len⟩ ⟨_,hs,.inl rfl⟩
   · exact(hs.2 b (xA (wK (wO e) I.ok.above))).trans (I.base.keep b o e n hb hx)
   · obtain⟨sl,e1⟩:=I.base.slot b o e n hb hx;exact⟨sl,(hs.2 b (xA (wK (wO e) I.ok.above))).trans e1⟩
   · obtain⟨o',e1⟩:=I.base.there b o e hx;exact⟨o',(hs.2 b (xA (wK (wO e) I.ok.above))).trans e1⟩
   · by_cases hj:j=i
     · subst hj;rw[hi]at e1;cases e1;rw[xp hiσ]at e2;cases e2;exact⟨u,r,.inl ⟨hk,by simp⟩⟩
     · rw[xb (BG hj)]at e2;obtain⟨u',r',q⟩:=hl j y v' e1 e2 e3;refine⟨u',r',?_⟩;rcases q with⟨k,e⟩|⟨k,c,e,z⟩
       · refine .inl ⟨k,?_⟩;have:y≠x:=fun e=>hj (gr hN e1 (e▸hi));simp[this,e]
       · exact .inr ⟨k,c,e,z.sameBut hs (cne y c e)⟩
   · obtain⟨w',z⟩:=I.cell y c e;exact⟨w',z.sameBut hs (cne y c e)⟩
   · obtain⟨e,n,ne,nf,d⟩:=I.pin p hp;exact⟨(hs.2 p.1 ne).trans e,n,ne,nf,d⟩
 · have hfn:X.fn x=true:=by
     rcases hf with z|z
     · exact z
     · rw[z]at hk;cases hk
   obtain⟨c,hc⟩:=I.ok.has x (.inl hk);obtain⟨w',z⟩:=I.cell x c hc;refine wpAny_storeName_cell I.ok.kind hk hc z (fun h' hc' hs=>?_);obtain⟨oc,hoc,hocd⟩:=id z;refine h {s with heap:=h' } ⟨I.ok,I.os,I.bare,⟨fun b o e n hb hx=>?_,fun b o e n hb hx=>?_,I.base.free,fun b o e hx=>?_,I.base.tups,I.base.frzs,I.base.tbls⟩,⟨m,hn.sameBut hs (BG (cne x c hc)),fun j y v' e1 e2 e3=>?_⟩,fun y c' e=>?_,I.free,I.freeC,fun p hp=>?_,tracked ⟨oc,hoc,I.freeC x c hc⟩ hs,by simpa using I.len⟩ ⟨c,hs,.inr hc⟩
   · exact(hs.2 b (xA (wK (wO e) (I.ok.cab x c hfn hc)))).trans (I.base.keep b o e n hb hx)
   · obtain⟨sl,e1⟩:=I.base.slot b o e n hb hx;exact⟨sl,(hs.2 b (xA (wK (wO e) (I.ok.cab x c hfn hc)))).trans e1⟩
   · obtain⟨o',e1⟩:=I.base.there b o e hx;exact⟨o',(hs.2 b (xA (wK (wO e) (I.ok.cab x c hfn hc)))).trans e1⟩
   · by_cases hj:j=i
     · subst hj;rw[hi]at e1;cases e1;rw[xp hiσ]at e2;cases e2;exact⟨u,r,.inr ⟨.inl hk,c,hc,hc'⟩⟩
     · rw[xb (BG hj)]at e2;obtain⟨u',r',q⟩:=hl j y v' e1 e2 e3;refine⟨u',r',?_⟩;rcases q with q|⟨k,c',e,z'⟩
       · exact .inl q
       · refine .inr ⟨k,c',e,z'.sameBut hs ?_⟩;rintro rfl;exact hj (gr hN e1 (I.ok.inj _ _ _ e hc▸hi))
   · by_cases hcc:c'=c
     · subst hcc;exact⟨_,hc'⟩
     · obtain⟨w2,z2⟩:=I.cell y c' e;exact⟨w2,z2.sameBut hs hcc⟩
   · obtain⟨e,n,ne,nf,d⟩:=I.pin p hp;refine⟨(hs.2 p.1 ?_).trans e,n,ne,nf,d⟩;intro q;rw[q,hoc]at e;have q':oc=p.2:=xk e;exact d w' (by rw[<- q'];exact hocd)
theorem cG{M:Model}{A:xB}{E:wF->wG->Prop}{v:V}{u:wF}{Q:Unit->wG->Prop}(I:Inv X pins σ H s)(hN:X.N.Nodup)(hi:X.N[i]?=some x)(hx:Loc X.env.scope x)(r:RelV v u)
 (h:∀s',Inv X pins (σ.set i (some v)) H s'->Q () s')(hf:autoParam (X.fn x=true\/X.env.scope.names.lookup x=some .local) æf._auto_1):xq M A (storeName X.env x u) Q E s :=
 d9 I hN hi hx r (fun s' I' _=>h s' I') hf
end
abbrev XK:=wF->Option Addr->Hp->Prop
abbrev St:=List (Option V)
abbrev VK:=V->Hp->Prop
abbrev TE:=St->Hp->VK->Prop
abbrev TT:=St->Hp->(Bool->Hp->Prop)->Prop
abbrev TA:=St->Hp->(List V->Hp->Prop)->Prop
structure Ends where
 nx:St->Hp->Prop
 rt:VK
 bk:St->Hp->Prop:=fun _ _=>False
 ct:St->Hp->Prop:=fun _ _=>False
abbrev TS:=Ends->St->Hp->Prop
noncomputable def EP(X:Cx)(pins:List (Addr×Obj))(σ:St)(Q:VK)(u:wF)(s':wG):Prop:=∃v H',Inv X pins σ H' s'/\RelV v u/\Q v H'
noncomputable def TP(X:Cx)(pins:List (Addr×Obj))(σ:St)(Q:Bool->Hp->Prop)(b:Bool)(s':wG):Prop:=∃H',Inv X pins σ H' s'/\Q b H'
noncomputable def AP(X:Cx)(pins:List (Addr×Obj))(σ:St)(Q:List V->Hp->Prop)(us:List wF)(s':wG):Prop:=∃vs H',Inv X pins σ H' s'/\bq vs us/\Q vs H'
noncomputable def SP(X:Cx)(pins:List (Addr×Obj))(D:Ends)(f:Flow)(s':wG):Prop :=
 match f with
 | .next=>∃σ' H',Inv X pins σ' H' s'/\D.nx σ' H'
 | .brk=>∃σ' H',Inv X pins σ' H' s'/\D.bk σ' H'
 | .cont=>∃σ' H',Inv X pins σ' H' s'/\D.ct σ' H'
 | .ret u=>∃v σ' H',Inv X pins σ' H' s'/\RelV v u/\D.rt v H'
noncomputable def PE(X:Cx)(e:Expr)(t:TE):Prop :=
 ∀(pins:List (Addr×Obj))(s:wG)(σ:St)(H:Hp)(Q:VK),Inv X pins σ H s->t σ H Q->xq (xH X.prog X.w) X.A (eval e X.env) (EP X pins σ Q) X.xe s
noncomputable def PT(X:Cx)(e:Expr)(t:TT):Prop :=
 ∀(pins:List (Addr×Obj))(s:wG)(σ:St)(H:Hp)(Q:Bool->Hp->Prop),Inv X pins σ H s->t σ H Q->xq (xH X.prog X.w) X.A (isTrue e X.env (eval e X.env)) (TP X pins σ Q) X.xe s
noncomputable def PW(X:Cx)(e:Expr)(t:TT):Prop :=
 ∀(whole:Sem wF)(pins:List (Addr×Obj))(s:wG)(σ:St)(H:Hp)(Q:Bool->Hp->Prop),Inv X pins σ H s->t σ H Q->xq (xH X.prog X.w) X.A (isTrue e X.env whole) (TP X pins σ Q) X.xe s
theorem PW.pt{X:Cx}{e:Expr}{t:TT}(h:PW X e t):PT X e t:=h _
noncomputable def PA(X:Cx)(es:List Expr)(t:TA):Prop :=
 ∀(pos:Pos)(pins:List (Addr×Obj))(s:wG)(σ:St)(H:Hp)(Q:List V->Hp->Prop),Inv X pins σ H s->t σ H Q->xq (xH X.prog X.w) X.A (spliced (yR pos (wR es X.env))) (AP X pins σ Q) X.xe s
noncomputable def PS(X:Cx)(st:Stmt)(t:TS):Prop :=
 ∀(pins:List (Addr×Obj))(s:wG)(σ:St)(H:Hp)(D:Ends),Inv X pins σ H s->t D σ H->xq (xH X.prog X.w) X.A (exec st X.env) (SP X pins D) X.xe s
noncomputable def vX(X:Cx)(st:List Stmt)(t:TS):Prop :=
 ∀(pins:List (Addr×Obj))(s:wG)(σ:St)(H:Hp)(D:Ends),Inv X pins σ H s->t D σ H->xq (xH X.prog X.w) X.A (execs st X.env) (SP X pins D) X.xe s
theorem uC{t:Sem α}{Q Q':α->wG->Prop}{M:Model}{A:xB}{E:wF->wG->Prop}{s:wG}(h:xq M A t Q E s)(hQ:∀a s,Q a s->Q' a s):xq M A t Q' E s:=zh h hQ fun _ _ x=>x
section
variable{X:Cx}
noncomputable def sv(i:Nat):TE:=fun σ H Q=>∃v,σ[i]?=some (some v)/\Q v H
noncomputable def tC(v:V):TE:=fun _ H Q=>Q v H
theorem iR(hN:X.N[i]?=some x)(hv:vH X.env.scope x)(hd:autoParam ((x==("__debug__" : Str))=false) æb._auto_1)(hcd:autoParam ((x==("__classdict__" : Str))=false) æb._auto_1):PE X (.Name x pos) (sv i):=by
 intro pins s σ H Q I h;obtain⟨v,e,h⟩:=h;obtain⟨m,hn,hl⟩:=I.loc;obtain⟨u,r,l⟩:=hl i x v hN e hv;have fin:EP X pins σ Q u s:=⟨v,H,I,r,h⟩;rcases l with⟨hk,hm⟩|⟨hk,c,hc,hcell⟩
 · exact wpAny_Name (wpAny_loadName_local I.ok.kind hk hn hm fin) hd
 · rcases hk with hk|hk
   · exact wpAny_Name (wpAny_loadName_cell I.ok.kind hk hc hcell fin) hd
   · exact wpAny_Name (wpAny_loadName_free I.ok.kind hk hc hcell fin hcd) hd
theorem ai{i j pos}:PE X (.Constant (.int i) j pos) (tC (.int i)):=fun _ _ _ H _ I h=>wpAny_Constant_int ⟨.int i,H,I.tok _,⟨_,rfl⟩,h⟩
theorem qD{b j pos}:PE X (.Constant (.bool b) j pos) (tC (.bl b)):=fun _ _ _ H _ I h=>Constant_bool ⟨.bl b,H,I,rfl,h⟩
noncomputable def Gl(X:Cx)(x:Str):Prop:=X.env.kindOf x=some .globalImplicit
theorem je{E:wF->wG->Prop}{s:wG}{σ:St}{H:Hp}{u:wF}{Q:wF->wG->Prop}(I:Inv X pins σ H s)(hg:Gl X x)(hm:X.mg x=some u)(h:Q u s)
 (hd:autoParam ((x==("__debug__" : Str))=false) æb._auto_1):xq (xH X.prog X.w) X.A (eval (.Name x pos) X.env) Q E s :=
 Aw I.ok.kind hg (Calls.loadGlobal_global (by rw[I.ok.glob];exact I.mod.glob.keeps I.bk) hm h) hd
theorem gv{E:wF->wG->Prop}{s:wG}{σ:St}{H:Hp}{u:wF}{Q:wF->wG->Prop}(I:Inv X pins σ H s)(hg:Gl X x)(hm:X.mg x=none)(hv:zx x=some u)(h:Q u s)
 (hn:autoParam (x ≠ "__name__") æb._auto_1)(hd:autoParam ((x==("__debug__" : Str))=false) æb._auto_1):xq (xH X.prog X.w) X.A (eval (.Name x pos) X.env) Q E s:=by
 obtain⟨mb,h1,h2⟩:=I.mod.blt;exact Aw I.ok.kind hg (Calls.loadGlobal_builtin (by rw[I.ok.glob];exact I.mod.glob.keeps I.bk) hm (by rw[I.ok.blt];exact h1.keeps I.bk) ((h2 x hn).trans hv) h) hd
theorem mr{v:V}{u:wF}(hg:Gl X x)(hm:X.mg x=some u)(r:RelV v u)(hd:autoParam ((x==("__debug__" : Str))=false) æb._auto_1):PE X (.Name x pos) (tC v) :=
 fun _ _ _ H _ I h=>je I hg hm ⟨v,H,I,r,h⟩ hd
variable{a b:Expr}{ta tb:TE}{pos:Pos}
noncomputable def tB(t:TE):TT:=fun σ H Q=>t σ H fun x H1=>∃c,x = .bl c/\Q c H1
theorem oB{e:Expr}{t:TE}(h:PE X e t)(he:autoParam (∀whole,isTrue e X.env whole=(do let v <- whole;standAt e.pos;B_ [v] (truthy v))) æc._auto_1):PT X e (tB t):=by
 intro pins s σ H Q I hw;refine isTrue_plain (uC (h pins s σ H _ I hw) fun v s1 ⟨x,H1,I1,r1,q1⟩=>?_) (he _);obtain⟨d,rfl,q⟩:=q1;cases r1;exact zJ ⟨H1,I1,q⟩
variable{tA tB':TT}{rest:List Expr}
noncomputable def tH(t u:TT):TT:=fun σ H Q=>t σ H fun c H1=>if c=true then u σ H1 Q else Q false H1
noncomputable def uF(t u:TT):TT:=fun σ H Q=>t σ H fun c H1=>if c=true then Q true H1 else u σ H1 Q
theorem lY(ha:PT X a tA):PW X (.BoolOp .And [a] pos) tA:=by
 intro wh pins s σ H Q I h;refine isTrue_and (uC (ha pins s σ H Q I h) fun c s1 e=>?_)
 cases c with
 | true=>exact isTrue_and_nil e
 | false=>exact e
theorem oy(ha:PT X a tA):PW X (.BoolOp .Or [a] pos) tA:=by
 intro wh pins s σ H Q I h;refine isTrue_or (uC (ha pins s σ H Q I h) fun c s1 e=>?_)
 cases c with
 | false=>exact isTrue_or_nil e
 | true=>exact e
theorem oz(ha:PT X a tA)(hb:PW X (.BoolOp .And (b::rest) pos) tB'):PW X (.BoolOp .And (a::b::rest) pos) (tH tA tB'):=by
 intro wh pins s σ H Q I h;refine isTrue_and (uC (ha pins s σ H _ I h) fun c s1 ⟨H1,I1,q1⟩=>?_)
 cases c with
 | true=>exact hb wh pins s1 σ H1 Q I1 q1
 | false=>exact⟨H1,I1,q1⟩
theorem qA(ha:PT X a tA)(hb:PW X (.BoolOp .Or (b::rest) pos) tB'):PW X (.BoolOp .Or (a::b::rest) pos) (uF tA tB'):=by
 intro wh pins s σ H Q I h;refine isTrue_or (uC (ha pins s σ H _ I h) fun c s1 ⟨H1,I1,q1⟩=>?_)
 cases c with
 | true=>exact⟨H1,I1,q1⟩
 | false=>exact hb wh pins s1 σ H1 Q I1 q1
noncomputable def uH(t:TT)(ta tb:TE):TE:=fun σ H Q=>t σ H fun c H1=>if c=true then ta σ H1 Q else tb σ H1 Q
theorem ka{c:Expr}(hc:PT X c tA)(ha:PE X a ta)(hb:PE X b tb):PE X (.IfExp c a b pos) (uH tA ta tb):=by
 intro pins s σ H Q I h;refine wpAny_IfExp (uC (hc pins s σ H _ I h) fun d s1 ⟨H1,I1,q1⟩=>?_)
 cases d with
 | true=>exact ha pins s1 σ H1 Q I1 q1
 | false=>exact hb pins s1 σ H1 Q I1 q1
end
noncomputable def vR(K:W.Frag)(H:Hp)(a:Addr)(xs:List V):Prop :=
 Rd H a (.lst xs) \/
  ∃(o:Obj)(its:Array wF)(n:Nat),K.lookup a=some o/\o.cls = .type "list" /\ o.dict=none/\o.data = .seq its n/\its.size<=sizeLine/\bq xs its.toList
noncomputable def vQ(K:W.Frag)(H:Hp)(a:Addr)(xs:List V):Prop :=
 Rd H a (.tup xs) \/
  ∃(o:Obj)(its:Array wF)(n:Nat),K.lookup a=some o/\o.cls = .type "tuple" /\ o.data = .seq its n/\its.size<=sizeLine/\bq xs its.toList/\o.dict=none
noncomputable def tT:wF->Option V
 | .none=>some .non
 | .bool b=>some (.bl b)
 | .int i _=>some (.int i)
 | .str x _=>some (.str x)
 | .bytes b _=>some (.byt b)
 | .float b _=>some (.flt b)
 | .ref a=>some (.ref a)
 | .type n=>some (.ty n)
 | _=>none
theorem RelV.abs{x:V}{u:wF}(r:RelV x u):tT u=some x:=by
 cases x with
 | non=>cases r;rfl
 | bl _=>cases r;rfl
 | int _=>obtain⟨t,rfl⟩:=r;rfl
 | str _=>obtain⟨t,rfl⟩:=r;rfl
 | byt _=>obtain⟨t,rfl⟩:=r;rfl
 | flt _=>obtain⟨t,rfl⟩:=r;rfl
 | ref _=>cases r;rfl
 | ty _=>cases r;rfl
theorem RelV.inj{x y:V}{u:wF}(r:RelV x u)(q:RelV y u):x=y:=xk (r.abs.symm.trans q.abs)
theorem bq.inj:∀{xs ys:List V}{us:List wF},bq xs us->bq ys us->xs=ys
 | _,_,_,.nil,.nil=>rfl
 | _,_,_,.cons r t,.cons r' t'=>by rw[r.inj r',bq.inj t t']
section
variable{X:Cx}{pins:List (Addr×Obj)}{σ:St}{H:Hp}{s:wG}{a:Addr}{xs ys:List V}
theorem Inv.list(I:Inv X pins σ H s)(h:vR X.K H a xs):∃its:List wF,bq xs its/\PlainL s.heap a its.toArray/\xs.length<=sizeLine:=by
 rcases h with h|⟨o,its,n,hk,hc,hd,hs,hz,r⟩
 · obtain⟨z,its,n,r,e⟩:=h.ok I.hok;exact⟨its,r,⟨_,n,e,rfl,rfl,rfl⟩,z⟩
 · refine⟨its.toList,r,⟨o,n,I.kIn a o hk,hc,hd,by simpa using hs⟩,?_⟩;have e:=r.length;simp only[wJ]at e;omega
theorem Inv.tuple(I:Inv X pins σ H s)(h:vQ X.K H a xs):∃its:List wF,bq xs its/\IsTup s.heap a its.toArray/\xs.length<=sizeLine:=by
 rcases h with h|⟨o,its,n,hk,hc,hs,hz,r,hd⟩
 · obtain⟨z,its,r,p⟩:=h.ok I.hok;exact⟨its,r,p.tup,z⟩
 · refine⟨its.toList,r,⟨o,I.kIn a o hk,hc,n,by simpa using hs⟩,?_⟩;have e:=r.length;simp only[wJ]at e;omega
theorem Inv.list_inj(I:Inv X pins σ H s)(h:vR X.K H a xs)(h':vR X.K H a ys):xs=ys:=by
 obtain⟨its,r,⟨o,n,e,_,_,d⟩,_⟩:=I.list h;obtain⟨its',r',⟨o',n',e',_,_,d'⟩,_⟩:=I.list h';rw[e]at e';cases e';rw[d]at d'
 injection d' with d1 _
 have:its=its':=by simpa using congrArg Array.toList d1
 subst this;exact r.inj r'
theorem Inv.tupleD(I:Inv X pins σ H s)(h:vQ X.K H a xs):∃ob,s.heap.get? a=some ob/\ob.cls = .type "tuple" /\ ob.dict=none:=by
 rcases h with h|⟨o,its,n,hk,hc,hs,hz,r,hd⟩
 · obtain⟨z,its,r,⟨o,e1,e2,_,e3⟩⟩:=h.ok I.hok;exact⟨o,e1,e2,e3⟩
 · exact⟨o,I.kIn a o hk,hc,hd⟩
theorem Inv.tuple_inj(I:Inv X pins σ H s)(h:vQ X.K H a xs)(h':vQ X.K H a ys):xs=ys:=by
 obtain⟨its,r,⟨o,e,_,n,d⟩,_⟩:=I.tuple h;obtain⟨its',r',⟨o',e',_,n',d'⟩,_⟩:=I.tuple h';rw[e]at e';cases e';rw[d]at d'
 injection d' with d1 _
 have:its=its':=by simpa using congrArg Array.toList d1
 subst this;exact r.inj r'
end
abbrev Cx.wish(X:Cx)(E:wF->wG->Prop):Cx:={X with xe:=E}
abbrev Cx.nox(X:Cx):Cx:=X.wish fun _ _=>False
theorem Cx.Ok.wish{X:Cx}(ok:X.Ok)(E:wF->wG->Prop):(X.wish E).Ok :=
 ⟨ok.mod,ok.kind,ok.glob,ok.blt,ok.above,ok.inj,ok.has,ok.cab,ok.hd,ok.frames,ok.stk,ok.exf,ok.bs,ok.bsz,ok.noex,ok.exfs,ok.funs,ok.frf⟩
theorem Cx.Ok.unwish{X:Cx}{E:wF->wG->Prop}(ok:(X.wish E).Ok):X.Ok :=
 ⟨ok.mod,ok.kind,ok.glob,ok.blt,ok.above,ok.inj,ok.has,ok.cab,ok.hd,ok.frames,ok.stk,ok.exf,ok.bs,ok.bsz,ok.noex,ok.exfs,ok.funs,ok.frf⟩
section
variable{X:Cx}{pins:List (Addr×Obj)}{σ:St}{H:Hp}{s:wG}{E:wF->wG->Prop}
theorem Inv.wish(I:Inv X pins σ H s)(E:wF->wG->Prop):Inv (X.wish E) pins σ H s:=⟨I.ok.wish E,I.os,I.bare,I.base,I.loc,I.cell,I.free,I.freeC,I.pin,I.hok,I.len⟩
theorem Inv.unwish(I:Inv (X.wish E) pins σ H s):Inv X pins σ H s:=⟨I.ok.unwish,I.os,I.bare,I.base,I.loc,I.cell,I.free,I.freeC,I.pin,I.hok,I.len⟩
theorem SP.unwish{D:Ends}{f:Flow}{s':wG}(h:SP (X.wish E) pins D f s'):SP X pins D f s':=by
 cases f with
 | next=>obtain⟨σ',H',I,q⟩:=h;exact⟨σ',H',I.unwish,q⟩
 | brk=>obtain⟨σ',H',I,q⟩:=h;exact⟨σ',H',I.unwish,q⟩
 | cont=>obtain⟨σ',H',I,q⟩:=h;exact⟨σ',H',I.unwish,q⟩
 | ret u=>obtain⟨v,σ',H',I,r,q⟩:=h;exact⟨v,σ',H',I.unwish,r,q⟩
theorem vX.nox{st:List Stmt}{t:TS}(h:vX X.nox st t):vX X st t:=fun pins s σ H D I hw =>
 zh (h pins s σ H D (I.wish _) hw) (fun _ _ q=>q.unwish) fun _ _ z=>yk z
end
section
variable{X:Cx}{st:Stmt}{rest:List Stmt}{t u:TS}{e:Expr}{te:TE}{pos:Pos}
noncomputable def qr:TS:=fun D σ H=>D.nx σ H
noncomputable def sw(t u:TS):TS:=fun D σ H=>t {D with nx:=u D} σ H
theorem dH:vX X [] qr:=fun _ _ σ H _ I h=>Ai ⟨σ,H,I,h⟩
theorem aN(h1:PS X st t)(h2:vX X rest u):vX X (st::rest) (sw t u):=by
 intro pins s σ H D I h;refine wpAny_execs_cons (uC (h1 pins s σ H {D with nx:=u D} I h) fun f s1 q=>?_)
 cases f with
 | next =>
   obtain⟨σ',H',I',q⟩:=q
   exact h2 pins s1 σ' H' D I' q
 | ret v=>exact q
 | brk=>exact q
 | cont=>exact q
theorem bR(h1:PS X st t):vX X [st] t:=by
 intro pins s σ H D I h;refine wpAny_execs_cons (uC (h1 pins s σ H D I h) fun f s1 q=>?_)
 cases f with
 | next=>exact Ai q
 | ret v=>exact q
 | brk=>exact q
 | cont=>exact q
theorem Inv.quiet{σ:St}{H:Hp}{s:wG}(I:Inv X pins σ H s):interactive X.env=false:=by simp[interactive,I.ok.kind]
noncomputable def qt(te:TE):TS:=fun D σ H=>te σ H fun _ H1=>D.nx σ H1
theorem l8(he:PE X e te)(hs:autoParam (zR e none pos.line X.env=pure false) æa._auto_1):PS X (.Expr e pos) (qt te):=by
 intro pins s σ H D I h;exact wpAny_Expr_any (uC (he pins s σ H _ I h) fun v s1 ⟨x,H1,I1,r1,q1⟩=>⟨σ,H1,I1,q1⟩) I.quiet hs
noncomputable def tz(te:TE):TS:=fun D σ H=>te σ H D.rt
theorem gj(he:PE X e te):PS X (.Return (some e) pos) (tz te):=by
 intro pins s σ H D I h;exact wpAny_Return_some (uC (he pins s σ H _ I h) fun v s1 ⟨x,H1,I1,r1,q1⟩=>⟨x,σ,H1,I1,r1,q1⟩)
noncomputable def tF(c:TT)(t u:TS):TS:=fun D σ H=>c σ H fun b H1=>if b=true then t D σ H1 else u D σ H1
theorem j8{c:Expr}{a b:List Stmt}{tc:TT}(hc:PT X c tc)(ha:vX X a t)(hb:vX X b u):PS X (.If c a b pos) (tF tc t u):=by
 intro pins s σ H D I h;refine wpAny_If (uC (hc pins s σ H _ I h) fun d s1 ⟨H1,I1,q1⟩=>?_)
 cases d with
 | true=>exact ha pins s1 σ H1 D I1 q1
 | false=>exact hb pins s1 σ H1 D I1 q1
noncomputable def nZ:TS:=fun _ _ _=>False
theorem j7:PS X st nZ:=fun _ _ _ _ _ _ h=>h.elim
end
abbrev TG:=V->St->Hp->(St->Hp->Prop)->Prop
abbrev vO:=List V->St->Hp->(St->Hp->Prop)->Prop
noncomputable def PG(X:Cx)(target:Expr)(t:TG):Prop :=
 ∀ (pins:List (Addr×Obj))(s:wG)(σ:St)(H:Hp)(v:V)(u:wF)(Q:St->Hp->Prop),Inv X pins σ H s->RelV v u->t v σ H Q ->
   xq (xH X.prog X.w) X.A (Bw target X.env u) (fun _ s'=>∃σ' H',Inv X pins σ' H' s'/\Q σ' H') X.xe s
noncomputable def v6(X:Cx)(ts:List Expr)(t:vO):Prop :=
 ∀ (pins:List (Addr×Obj))(s:wG)(σ:St)(H:Hp)(vs:List V)(us:List wF)(Q:St->Hp->Prop),Inv X pins σ H s->bq vs us->t vs σ H Q ->
   xq (xH X.prog X.w) X.A (BR ((yS ts X.env).map (·.2)) us) (fun _ s'=>∃σ' H',Inv X pins σ' H' s'/\Q σ' H') X.xe s
abbrev qY:=V->V->V->Hp->(Hp->Prop)->Prop
noncomputable def sV(X:Cx)(t:qY):Prop :=
 ∀ (pins:List (Addr×Obj))(s:wG)(σ:St)(H:Hp)(o i v:V)(ov iv u:wF)(Q:Hp->Prop),Inv X pins σ H s->RelV o ov->RelV i iv->RelV v u->t o i v H Q ->
   xq (xH X.prog X.w) X.A (setItem ov iv u) (fun _ s'=>∃H',Inv X pins σ H' s'/\Q H') X.xe s
section
variable{X:Cx}{pos:Pos}
noncomputable def kB(i:Nat):TG:=fun v σ H Q=>Q (σ.set i (some v)) H
theorem mq(hN:X.N.Nodup)(hi:X.N[i]?=some x)(hx:Loc X.env.scope x)(hf:autoParam (X.fn x=true\/X.env.scope.names.lookup x=some .local) æf._auto_1):PG X (.Name x pos) (kB i):=by
 intro pins s σ H v u Q I r h;exact wpAny_assign_Name (cG I hN hi hx r (fun s' I'=>⟨_,H,I',h⟩) hf)
noncomputable def tR:vO:=fun vs σ H Q=>vs=[]/\Q σ H
noncomputable def qR(t:TG)(u:vO):vO:=fun vs σ H Q=>∃v r,vs=v::r/\t v σ H fun σ' H'=>u r σ' H' Q
theorem mm:v6 X [] tR:=by
 intro pins s σ H vs us Q I r h;obtain⟨e,h⟩:=h;subst e;cases r;exact assignInOrder_nil ⟨σ,H,I,h⟩
theorem j9{e:Expr}{es:List Expr}{t:TG}{u:vO}(h1:PG X e t)(h2:v6 X es u)
 (hs:autoParam ((yS (e::es) X.env).map (·.2)=Bw e X.env::(yS es X.env).map (·.2)) æa._auto_1):v6 X (e::es) (qR t u):=by
 intro pins s σ H vs us Q I r h;obtain⟨v,vr,e1,h⟩:=h;subst e1
 cases r with
 | cons r rr =>
   rw[hs];refine Ay (uC (h1 pins s σ H _ _ _ I r h) fun _ s1 ⟨σ1,H1,I1,q1⟩=>?_);exact h2 pins s1 σ1 H1 _ _ Q I1 rr q1
noncomputable def tP(K:W.Frag)(n:Nat)(t:vO):TG:=fun v σ H Q=>∃a xs,v = .ref a/\vQ K H a xs/\xs.length=n/\t xs σ H Q
theorem oF{es:List Expr}{t:vO}(hc:X.calm=true)(h:v6 X es t)
 (hn:autoParam ((yS es X.env).length=n) æa._auto_1)(hst:autoParam ((yS es X.env).findIdx? (·.1)=none) æa._auto_1):PG X (.Tuple es k pos) (tP X.K n t):=by
 intro pins s σ H v u Q I r hw;obtain⟨a,xs,e1,hq,hl,hw⟩:=hw;subst e1;cases r;obtain⟨its,rv,ht,hz⟩:=I.tuple hq;refine assign_Tuple_tuple (I.ok.hd hc) ht (by simp[hn,<- hl,rv.length]) hst fun h' hx=>?_;have I1:Inv X pins σ H {s with heap:=h' }:=I.kept (t':=s.toks) fun b o e=>hx b o (xA (wO e)) e;exact h pins _ σ H xs _ Q I1 (by simpa using rv) hw
noncomputable def tQ(to ti:TE)(t:qY):TG:=fun v σ H Q=>to σ H fun o H1=>ti σ H1 fun i H2=>t o i v H2 fun H3=>Q σ H3
theorem gl{o i:Expr}{to ti:TE}{t:qY}(ho:PE X o to)(hi:PE X i ti)(hs:sV X t)
 (ha:autoParam (∀v,Bw (.Subscript o i pos) X.env v=(do
  let ov <- B_ [v] (eval o X.env)
  let iv <- B_ [v,ov] (eval i X.env)
  standAt pos
  B_ [v,ov,iv] (setItem ov iv v)
  release [v,ov,iv] [])) æc._auto_1):PG X (.Subscript o i pos) (tQ to ti t):=by
 intro pins s σ H v u Q I r h;rw[ha];refine wE (yL (uC (ho pins s σ H _ I h) fun ov s1 ⟨x,H1,I1,r1,q1⟩=>?_));refine wE (yL (uC (hi pins s1 σ H1 _ I1 q1) fun iv s2 ⟨y,H2,I2,r2,q2⟩=>?_));refine wE (AU (wE (yL (uC (hs pins s2 σ H2 x y v ov iv u _ I2 r1 r2 r q2) fun _ s3 ⟨H3,I3,q3⟩=>?_))));exact wpAny_release ⟨σ,H3,I3,q3⟩
noncomputable def qv(te:TE)(g:TG):TS:=fun D σ H=>te σ H fun x H1=>g x σ H1 D.nx
theorem eO{e:Expr}{te:TE}{g:TG}(he:PE X e te)(hg:PG X tg g)(hs:autoParam (AV [tg] e pos.line X.env=pure false) æa._auto_1)(hw:autoParam (AW [tg] e X.env=pure none) æa._auto_1)
 (h1:autoParam ((yS [tg] X.env).map (·.2)=[Bw tg X.env]) æa._auto_1):PS X (.Assign [tg] e pos) (qv te g):=by
 intro pins s σ H D I h;refine wpAny_Assign_stores (uC (he pins s σ H _ I h) fun v s1 ⟨x,H1,I1,r1,q1⟩=>?_) hs hw;rw[h1];exact uC (hg pins s1 σ H1 x v _ I1 r1 q1) fun _ s2 q=>q
theorem b8{e:Expr}{te:TE}{pos':Pos}(hN:X.N.Nodup)(hi:X.N[i]?=some x)(hx:Loc X.env.scope x)(he:PE X e te)(hs:autoParam (zR e (some (.Name x pos')) pos.line X.env=pure false) æa._auto_1)(hf:autoParam (X.fn x=true\/X.env.scope.names.lookup x=some .local) æf._auto_1) :
 PS X (.Assign [.Name x pos'] e pos) (qv te (kB i)):=by
 intro pins s σ H D I h;refine wpAny_Assign_Name (uC (he pins s σ H _ I h) fun v s1 ⟨y,H1,I1,r1,q1⟩=>?_) hs;exact cG I1 hN hi hx r1 (fun s2 I2=>⟨_,H1,I2,q1⟩) hf
noncomputable def tD(i j:Nat)(ta:TA):TS:=fun D σ H=>ta σ H fun vs H1=>∃v w,vs=[v,w]/\D.nx ((σ.set i (some v)).set j (some w)) H1
theorem oC{y:Str}{a b:Expr}{ta:TA}{px py pt:Pos}{kt k2 pt2}(hc:X.calm=true)(hN:X.N.Nodup)(hi:X.N[i]?=some x)(hj:X.N[j]?=some y)(hij:i≠j)
 (hx:X.env.scope.names.lookup x=some .local)(hy:X.env.scope.names.lookup y=some .local)(ha:PA X [a,b] ta)
 (hw:AW [.Tuple [.Name x px,.Name y py] kt pt] (.Tuple [a,b] k2 pt2) X.env=pure (some [x,y]))
 (hs:autoParam (AV [.Tuple [.Name x px,.Name y py] kt pt] (.Tuple [a,b] k2 pt2) pos.line X.env=pure false) æa._auto_1) :
 PS X (.Assign [.Tuple [.Name x px,.Name y py] kt pt] (.Tuple [a,b] k2 pt2) pos) (tD i j ta):=by
 intro pins s σ H D I h;rw[exec_Assign_arm];refine wE (AU ?_);rw[hs];refine wE (wI ?_);rw[if_neg (by decide)];refine wE (Tuple_ (uC (ha _ pins s σ H _ I h) fun us s1 ⟨vs,H1,I1,r1,q1⟩=>?_));obtain⟨v,w,e1,q1⟩:=q1;subst e1
 obtain⟨u1,u2,rfl,rv,rw'⟩:∃u1 u2,us=[u1,u2]/\RelV v u1/\RelV w u2:=by
  cases r1 with
  | cons p q =>
    cases q with
    | cons p' q' =>
      cases q';exact⟨_,_,rfl,p,p'⟩
 refine xX ?_ (by show 2<=sizeLine;decide);have I2:Inv X pins σ H1 {s1 with heap:=s1.heap.push {cls:=.type "tuple", data:=.seq [u1,u2].toArray}}:=I1.kept (t':=s1.toks) fun b o e=>wH _ e;rw[hw];refine wE (wI ?_);show xq (xH X.prog X.w) X.A (do rule "assign.swapped-stores"; let items <- unpackItems (.ref s1.heap.objs.size) 2 none;BR [fun v=>bindName X.env y v,fun v=>bindName X.env x v] items.reverse;pure Flow.next) _ _ _;refine wE (wpAny_rule (wE (unpackItems_tuple (items:=#[u1,u2]) (I.ok.hd hc) (IsTup.new s1.heap _) fun h' hx'=>?_)));have I3:=I2.kept (h':=h') (t':=s1.toks) fun b o e=>hx' b o (xA (wO e)) e;show xq _ _ (BR [fun v=>bindName X.env y v,fun v=>bindName X.env x v] [u2,u1] >>= fun _=>pure Flow.next) _ _ _;refine wE (Ay (wpAny_bindName (cG I3 hN hj (.inl hy) rw' (fun s2 I4=>?_) (.inr hy))));refine Ay (wpAny_bindName (cG I4 hN hi (.inl hx) rv (fun s3 I5=>assignInOrder_nil (wI ?_)) (.inr hx)));rw[List.set_comm _ _ (BG hij)]at I5;exact⟨_,H1,I5,q1⟩
end
section
variable{X:Cx}{pos:Pos}
noncomputable def nX(c:TT)(tb:TS):TS:=fun D σ H=>∃W:Nat->St->Hp->Prop,(∃m,W m σ H)/\∀m σ H,W m σ H ->
 c σ H fun b H1=>if b=true then ∃N:St->Hp->Prop,(∀σ' H',N σ' H'->∃m',m'<m/\W m' σ' H')/\tb {D with nx:=N,ct:=N,bk:=D.nx} σ H1 else D.nx σ H1
theorem gi{c:Expr}{body:List Stmt}{tc:TT}{tb:TS}(hp:Ca (xH X.prog X.w) X.A X.env X.xe)(hc:PT X c tc)(hb:vX X body tb):PS X (.While c body [] pos) (nX tc tb):=by
 intro pins s σ H D I h;obtain⟨W,⟨m0,w0⟩,turn⟩:=h;refine wpAny_While (codeAny_whileLoop (fun n s'=>∃σ' H',Inv X pins σ' H' s'/\W n σ' H') ?_ m0 ⟨σ,H,I,w0⟩);rintro n s1 ⟨σ1,H1,I1,w1⟩;refine yD hp (uC (hc pins s1 σ1 H1 _ I1 (turn n σ1 H1 w1)) fun b s2 ⟨H2,I2,q2⟩=>?_)
 cases b with
 | true =>
   obtain⟨N,hN,q2⟩:=q2;rw[if_pos rfl];refine yD hp (uC (hb pins s2 σ1 H2 _ I2 q2) fun f s3 q3=>?_)
   cases f with
   | next =>
     obtain⟨σ3,H3,I3,n3⟩:=q3;obtain⟨m',hm,w3⟩:=hN σ3 H3 n3
     exact⟨m',hm,σ3,H3,I3,w3⟩
   | cont =>
     obtain⟨σ3,H3,I3,n3⟩:=q3;obtain⟨m',hm,w3⟩:=hN σ3 H3 n3
     exact⟨m',hm,σ3,H3,I3,w3⟩
   | brk=>exact q3
   | ret v=>exact q3
 | false =>
   rw[if_neg xi];exact Ai ⟨σ1,H2,I2,q2⟩
end
structure It where
 go:Nat->Hp->Prop
 yld:Nat->Hp->V->Hp->Prop
 stop:Nat->Hp->Prop
noncomputable def jM(X:Cx)(pins:List (Addr×Obj))(H:Hp)(b:Addr):Prop :=
 H b=none/\b≠X.env.locals/\b∉X.fs/\(b∈X.ex\/X.s₀.heap.objs.size<=b)/\(∀x c,X.env.cells.lookup x=some c->c≠b)/\∀p∈X.pn++pins,p.1≠b
theorem Inv.fpOk{X:Cx}{σ:St}{H H':Hp}{s:wG}{b:Addr}(I:Inv X pins σ H s)(hb:s.heap.objs.size<=b)(hn:H' b=none):jM X pins H' b:=by
 refine⟨hn,Be (wK I.lt hb),I.nofs hb,.inr (yI I.sz hb),fun x c e z=>?_,fun p hp z=>?_⟩
 · obtain⟨v,q⟩:=I.cell x c e;exact absurd (wK q.lt (by rw[z];exact hb)) (ye _)
 · exact absurd (wK (wO (I.pin p hp).1) (by rw[z];exact hb)) (ye _)
structure Turn (P:wZ) (w:xx) (K:W.Frag) (tg:Expr) (J:It) (fp:List Addr) (it:Addr) (tn:Nat->Heap->Prop):Prop where
 mem:it∈fp
 obj:∀i h,tn i h->∀b∈fp,∃o,h.get? b=some o/\∀v,o.data ≠ .cell v
 keep:∀i h h',tn i h->(∀b∈fp,∀o,h.get? b=some o->h'.get? b=some o)->tn i h'
 item:∀(X:Cx),X.prog=P->X.w=w->X.K=K->X.calm=true->∀(i:Nat)(pins:List (Addr×Obj))(s:wG)(σ:St)(H:Hp)(E:wF->wG->Prop),Inv X pins σ H s->(∀b∈fp,jM X pins H b)->tn i s.heap->J.go i H ->
  xq (xH P w) X.A (A6 (.ref it)) (fun r s1=>∃u,r=some u /\
   xq (xH P w) X.A (Aj tg (.ref it) u) (fun _ s2=>∃x H',Inv X pins σ H' s2/\RelV x u/\J.yld i H x H'/\tn (i+1) s2.heap/\∀b∈fp,H' b=none) E s1) E s
 done:∀(X:Cx),X.prog=P->X.w=w->X.K=K->X.calm=true->∀(i:Nat)(pins:List (Addr×Obj))(s:wG)(σ:St)(H:Hp)(E:wF->wG->Prop),Inv X pins σ H s->(∀b∈fp,jM X pins H b)->tn i s.heap->J.stop i H ->
  xq (xH P w) X.A (A6 (.ref it)) (fun r s1=>r=none/\Inv X pins σ H s1) E s
 self:∀(A:xB)(i:Nat)(s:wG)(Q:wF->wG->Prop)(E:wF->wG->Prop),tn i s.heap->Q (.ref it) s->xq (xH P w) A (pyIter (.ref it)) Q E s
abbrev TI:=St->Hp->(It->Hp->Prop)->Prop
noncomputable def v4(X:Cx)(pins:List (Addr×Obj))(σ:St)(tg:Expr)(R:It->Hp->Prop)(itv:wF)(s2:wG):Prop :=
 ∃(it:Addr)(fp:List Addr)(tn:Nat->Heap->Prop)(J:It)(H':Hp),itv = .ref it/\Inv X pins σ H' s2/\Turn X.prog X.w X.K tg J fp it tn/\tn 0 s2.heap/\(∀b∈fp,jM X pins H' b)/\R J H'
noncomputable def PI(X:Cx)(tg iter:Expr)(wi:TI):Prop :=
 ∀ (pins:List (Addr×Obj))(s:wG)(σ:St)(H:Hp)(R:It->Hp->Prop),Inv X pins σ H s->wi σ H R ->
   xq (xH X.prog X.w) X.A (eval iter X.env) (fun v s1=>xq (xH X.prog X.w) X.A (pyIter v) (v4 X pins σ tg R) X.xe s1) X.xe s
theorem kw{M:Model}{A:xB}{E:wF->wG->Prop}{s:wG}{it:Addr}{u:wF}{o:Obj}{n:String}{vs:Array wF}{Q:Unit->wG->Prop}(ho:s.heap.get? it=some o)(hc:o.cls = .type n)(hd:o.data = .fields vs)
 (hn:["enumerate", "zip", "dict_itemiterator", "dict_reverseitemiterator", "odict_iterator", "itertools.zip_longest", "itertools.pairwise"].contains n=false)(hQ:Q () s):xq M A (Aj tg (.ref it) u) Q E s:=by
 unfold Aj
 cases tg<;>first
  | exact wI hQ
  | (cases u<;>first
      | exact wI hQ
      | (refine wE (wpAny_load ho ?_)
         rw[hc,hd];show xq M A (if(["enumerate", "zip", "dict_itemiterator", "dict_reverseitemiterator", "odict_iterator", "itertools.zip_longest", "itertools.pairwise"].contains n&&vs[0]?==some (z9 _))=true then _ else _) Q E s;rw[if_neg (by intro h;rw[hn,AG]at h;cases h)]
         exact wI hQ))
noncomputable def wp(K:W.Frag)(a:Addr):It :=
 ⟨fun i H=>∃xs x,vR K H a xs/\xs[i]?=some x,fun i H x H'=>H'=H/\∀xs,vR K H a xs->xs[i]?=some x,fun i H=>∃xs,vR K H a xs/\xs.length<=i⟩
noncomputable def wm(K:W.Frag)(a:Addr):It :=
 ⟨fun i H=>∃xs x,vQ K H a xs/\xs[i]?=some x,fun i H x H'=>H'=H/\∀xs,vQ K H a xs->xs[i]?=some x,fun i H=>∃xs,vQ K H a xs/\xs.length<=i⟩
noncomputable def wo(lo:Int)(n:Nat):It:=⟨fun i _=>i<n,fun i H x H'=>H'=H/\x = .int (lo+i),fun i _=>n<=i⟩
theorem iq{P:wZ}{w:xx}{K:W.Frag}(a it:Addr):Turn P w K tg (wp K a) [it] it (fun i h=>h.IsListIter it a i) where
 mem:=by simp
 obj:=fun i h st b hb=>by
  have e:b=it:=by simpa using hb
  subst e;obtain⟨o,e,c,d⟩:=st;exact⟨o,e,fun v z=>by rw[d]at z;cases z⟩
 keep:=fun i h h' st k=>st.at fun o e=>k it (by simp) o e
 item:=by
  intro X hP hw hK hc i pins s σ H E I hf st hg;subst hP hw hK;obtain⟨xs,x,hq,hx⟩:=hg;obtain⟨its,rv,p,hz⟩:=I.list hq;obtain⟨u,hu,ru⟩:=rv.get hx;obtain⟨f0,f1,f2,f3,f4,f5⟩:=hf it (by simp);refine wpAny_pyNext_list_item st p.isList (x:=u) (by simpa using hu) fun h' st' sb=>?_;have I1:Inv X pins σ H {s with heap:=h' }:=I.turned (t':=s.toks) (fun b o hb e=>(sb.2 b hb).trans e) f0 f1 f3 f4 f5;obtain⟨o,e,c,d⟩:=id st';exact⟨u,rfl,kw (s:={s with heap:=h' }) e c d (by decide) ⟨x,H,I1,ru,⟨rfl,fun ys hy=>by rw[I.list_inj hy hq];exact hx⟩,st',fun b hb=>(hf b hb).1⟩⟩
 done:=by
  intro X hP hw hK hc i pins s σ H E I hf st hg;subst hP hw hK;obtain⟨xs,hq,hx⟩:=hg;obtain⟨its,rv,p,hz⟩:=I.list hq;obtain⟨f0,f1,f2,f3,f4,f5⟩:=hf it (by simp);have hl:=rv.length;exact wpAny_pyNext_list_end (I.ok.hd hc) st p.isList (by simp;omega) fun h' eb=>⟨rfl,I.turned (t':=s.toks) (fun b o hb e=>eb b o hb e) f0 f1 f3 f4 f5⟩
 self:=fun _ _ _ _ _ st h=>wpAny_pyIter_listiter st h
theorem gO{P:wZ}{w:xx}{K:W.Frag}(a it:Addr):Turn P w K tg (wm K a) [it] it (fun i h=>h.IsTupleIter it a i) where
 mem:=by simp
 obj:=fun i h st b hb=>by
  have e:b=it:=by simpa using hb
  subst e;obtain⟨o,e,c,d⟩:=st;exact⟨o,e,fun v z=>by rw[d]at z;cases z⟩
 keep:=fun i h h' st k=>st.at fun o e=>k it (by simp) o e
 item:=by
  intro X hP hw hK hc i pins s σ H E I hf st hg;subst hP hw hK;obtain⟨xs,x,hq,hx⟩:=hg;obtain⟨its,rv,p,hz⟩:=I.tuple hq;obtain⟨u,hu,ru⟩:=rv.get hx;obtain⟨f0,f1,f2,f3,f4,f5⟩:=hf it (by simp);refine wpAny_pyNext_tuple_item st (show s.heap.IsTuple a its.toArray from p) (x:=u) (by simpa using hu) fun h' st' sb=>?_;have I1:Inv X pins σ H {s with heap:=h' }:=I.turned (t':=s.toks) (fun b o hb e=>(sb.2 b hb).trans e) f0 f1 f3 f4 f5;obtain⟨o,e,c,d⟩:=id st';exact⟨u,rfl,kw (s:={s with heap:=h' }) e c d (by decide) ⟨x,H,I1,ru,⟨rfl,fun ys hy=>by rw[I.tuple_inj hy hq];exact hx⟩,st',fun b hb=>(hf b hb).1⟩⟩
 done:=by
  intro X hP hw hK hc i pins s σ H E I hf st hg;subst hP hw hK;obtain⟨xs,hq,hx⟩:=hg;obtain⟨its,rv,p,hz⟩:=I.tuple hq;obtain⟨f0,f1,f2,f3,f4,f5⟩:=hf it (by simp);have hl:=rv.length;exact wpAny_pyNext_tuple_end (I.ok.hd hc) st (show s.heap.IsTuple a its.toArray from p) (by simp;omega) fun h' eb=>⟨rfl,I.turned (t':=s.toks) (fun b o hb e=>eb b o hb e) f0 f1 f3 f4 f5⟩
 self:=fun _ _ _ _ _ st h=>wpAny_pyIter_tupleiter st h
theorem gP{P:wZ}{w:xx}{K:W.Frag}(it:Addr)(lo:Int)(n:Nat):Turn P w K tg (wo lo n) [it] it (fun i h=>IsRangeIter h it (lo+(i:Nat)*1) ((n:Int)-(i:Nat)) 1) where
 mem:=by simp
 obj:=fun i h st b hb=>by
  have e:b=it:=by simpa using hb
  subst e
  exact⟨_,st,fun v z=>by
   have z':Data.fields _=Data.cell v:=z
   cases z'⟩
 keep:=fun i h h' st k=>k it (by simp) _ st
 item:=by
  intro X hP hw hK hc i pins s σ H E I hf st hg;subst hP hw hK;obtain⟨f0,f1,f2,f3,f4,f5⟩:=hf it (by simp);have W:=Walks.range (prog:=X.prog) (w:=X.w) (I.ok.hd hc) it lo 1 n;refine W.item i s _ _ hg st fun v h' tk hv st' kk=>?_;obtain⟨t,rfl⟩:=hv;have I1:Inv X pins σ H {s with heap:=h',toks:=tk}:=I.turned (fun b o hb e=>kk b o (by simpa using hb) e) f0 f1 f3 f4 f5;refine⟨_,rfl,kw (s:={s with heap:=h',toks:=tk}) (n := "range_iterator") st' rfl rfl (by decide) ⟨.int (lo+i),H,I1,⟨t,?_⟩,⟨rfl,rfl⟩,st',fun b hb=>(hf b hb).1⟩⟩;rw[AX]
 done:=by
  intro X hP hw hK hc i pins s σ H E I hf st hg;subst hP hw hK;obtain⟨f0,f1,f2,f3,f4,f5⟩:=hf it (by simp);exact wpAny_pyNext_range_end (I.ok.hd hc) st (by have:n<=i:=hg;omega) fun h' eb=>⟨rfl,I.turned (t':=s.toks) (fun b o hb e=>eb b o hb e) f0 f1 f3 f4 f5⟩
 self:=fun _ _ _ _ _ st h=>wpAny_pyIter_rangeiter st h
section
variable{X:Cx}{tg:Expr}
noncomputable def qK(K:W.Frag)(tl:TE):TI:=fun σ H R=>tl σ H fun x H1=>∃a,x = .ref a/\(∃xs,vR K H1 a xs)/\R (wp K a) H1
noncomputable def tO(K:W.Frag)(tl:TE):TI:=fun σ H R=>tl σ H fun x H1=>∃a,x = .ref a/\(∃xs,vQ K H1 a xs)/\R (wm K a) H1
theorem mh{l:Expr}{tl:TE}(hl:PE X l tl):PI X tg l (qK X.K tl):=by
 intro pins s σ H R I h;refine uC (hl pins s σ H _ I h) fun v s1 ⟨x,H1,I1,r1,q1⟩=>?_;obtain⟨a,e,⟨xs,hq⟩,q⟩:=q1;subst e;cases r1;obtain⟨its,rv,p,hz⟩:=I1.list hq;refine AL p.isList ?_;refine⟨s1.heap.objs.size,[s1.heap.objs.size],_,_,H1,rfl,I1.kept (t':=s1.toks) fun b o e=>wH _ e,iq a _,⟨_,wS _ rfl,rfl,rfl⟩,fun b hb=>?_,q⟩;have e:b=s1.heap.objs.size:=by simpa using hb
 subst e;exact I1.fpOk (wM _) (I1.hok.fresh (wM _))
theorem oE{l:Expr}{tl:TE}(hl:PE X l tl):PI X tg l (tO X.K tl):=by
 intro pins s σ H R I h;refine uC (hl pins s σ H _ I h) fun v s1 ⟨x,H1,I1,r1,q1⟩=>?_;obtain⟨a,e,⟨xs,hq⟩,q⟩:=q1;subst e;cases r1;obtain⟨its,rv,p,hz⟩:=I1.tuple hq;refine wpAny_pyIter_tuple (show s1.heap.IsTuple a its.toArray from p) ?_;refine⟨s1.heap.objs.size,[s1.heap.objs.size],_,_,H1,rfl,I1.kept (t':=s1.toks) fun b o e=>wH _ e,gO a _,⟨_,wS _ rfl,rfl,rfl⟩,fun b hb=>?_,q⟩;have e:b=s1.heap.objs.size:=by simpa using hb
 subst e;exact I1.fpOk (wM _) (I1.hok.fresh (wM _))
theorem j5{σ:St}{H:Hp}{s:wG}{R:It->Hp->Prop}{E:wF->wG->Prop}{lo hi:Int}{t u v:Tok}{tk:Nat}(I:Inv X pins σ H s)(h1 : -(2^62)<=lo)(h2:lo<2^62)(h3 : -(2^62)<=hi)(h4:hi<2^62)
 (q:R (wo lo (hi-lo).toNat) H):xq (xH X.prog X.w) X.A (pyIter (.ref s.heap.objs.size)) (v4 X pins σ tg R) E {s with heap:=s.heap.push {cls:=.type "range", data:=.fields #[.int lo t,.int hi u,.int 1 v]},toks:=tk}:=by
 refine wpAny_pyIter_range (IsRange.new ..) (small_one h1 h2 h3 h4) ?_;have I1:Inv X pins σ H {s with heap:=s.heap.push {cls:=.type "range", data:=.fields #[.int lo t,.int hi u,.int 1 v]},toks:=tk}:=I.kept fun b o e=>wH _ e
 refine⟨(s.heap.push {cls:=.type "range", data:=.fields #[.int lo t,.int hi u,.int 1 v]}).objs.size,[(s.heap.push {cls:=.type "range", data:=.fields #[.int lo t,.int hi u,.int 1 v]}).objs.size],_,_,H,rfl,
  I1.kept (t':=tk) fun b o e=>wH _ e,gP _ lo (hi-lo).toNat,?_,fun b hb=>?_,q⟩
 · have e1:lo+((0:Nat):Int)*1=lo:=by simp
   have e2:(((hi-lo).toNat:Nat):Int)-((0:Nat):Int)=Builtin.Range.rangeSize lo hi 1:=by rw[rangeSize_one];split<;>omega
   show IsRangeIter _ _ (lo+((0:Nat):Int)*1) ((((hi-lo).toNat:Nat):Int)-((0:Nat):Int)) 1;rw[e1,e2];exact wS _ rfl
 · have e:b=(s.heap.push {cls:=.type "range", data:=.fields #[.int lo t,.int hi u,.int 1 v]}).objs.size:=by simpa using hb
   subst e;exact I1.fpOk (wM _) (I1.hok.fresh (wM _))
noncomputable def qI(ta:TA):TI:=fun σ H R=>ta σ H fun vs H1=>∃j:Int,vs=[.int j] /\ -(2^62)<=j/\j<2^62/\R (wo 0 j.toNat) H1
theorem iQ{a:Expr}{ta:TA}{p:Pos}(hg:Gl X "range")(hm:X.mg "range" = none)(ha:PA X [a] ta)(hs:autoParam (wR [a] X.env=[(false,eval a X.env)]) æa._auto_1):PI X tg (.Call (.Name "range" p) [a] [] pos) (qI ta):=by
 intro pins s σ H R I h;refine Call_ (gv I hg hm boot_range (y7 (uC (ha pos pins s σ H _ I h) fun us s1 ⟨vs,H1,I1,r1,q1⟩=>?_) hs rfl));obtain⟨j,e,q1,q2,q⟩:=q1;subst e
 cases r1 with
 | cons r rr =>
   cases rr;obtain⟨t,rfl⟩:=r;exact call_range_1 (j5 I1 (by omega) (by omega) q1 q2 (by simpa using q))
noncomputable def tG(wi:TI)(g:TG)(tb:TS):TS:=fun D σ H=>wi σ H fun J H1=>∃W:Nat->Nat->St->Hp->Prop,(∃m,W 0 m σ H1)/\∀i m σ H,W i m σ H ->
 (J.stop i H/\D.nx σ H)\/(J.go i H/\∃N:St->Hp->Prop,(∀σ' H',N σ' H'->∃m',m'<m/\W (i+1) m' σ' H')/\∀x H',J.yld i H x H'->g x σ H' fun σ2 H2=>tb {D with nx:=N,ct:=N,bk:=D.nx} σ2 H2)
noncomputable def eQ(fp:List Addr)(h:Heap):List (Addr×Obj):=fp.filterMap fun b=>(h.get? b).map fun o=>(b,o)
theorem bN{b:Addr}{o:Obj}(hb:b∈fp)(e:h.get? b=some o):(b,o)∈eQ fp h:=List.mem_filterMap.mpr ⟨b,hb,by rw[e];rfl⟩
theorem iX{p:Addr×Obj}(hp:p∈eQ fp h):p.1∈fp/\h.get? p.1=some p.2:=by
 obtain⟨b,hb,e⟩:=List.mem_filterMap.mp hp
 cases q:h.get? b with
 | none=>rw[q]at e;cases e
 | some o =>
   rw[q]at e;have e':(b,o)=p:=xk e;subst e';exact⟨hb,q⟩
theorem Inv.pinned{σ:St}{H:Hp}{s:wG}(I:Inv X pins σ H s)(hf:∀b∈fp,jM X pins H b)(ho:∀b∈fp,∃o,s.heap.get? b=some o/\∀v,o.data ≠ .cell v):Inv X (pins++eQ fp s.heap) σ H s :=
 I.pins_of fun p hp=>(yr.mp hp).elim (fun z=>I.pin p (xD _ z)) fun z=>by
  obtain⟨hb,e⟩:=iX z;obtain⟨f0,f1,f2,_⟩:=hf p.1 hb;obtain⟨o,e',d⟩:=ho p.1 hb;rw[e]at e';cases e';exact⟨e,f0,f1,f2,d⟩
theorem Inv.unpinned{pl:List (Addr×Obj)}{σ:St}{H:Hp}{s:wG}(I:Inv X (pins++pl) σ H s):Inv X pins σ H s:=I.pins_of fun p hp=>I.pin p (xD _ (Bs _ hp))
theorem oD{iter:Expr}{body:List Stmt}{wi:TI}{g:TG}{tb:TS}(hp:Ca (xH X.prog X.w) X.A X.env X.xe)(hc:X.calm=true)(hi:PI X tg iter wi)(hg:PG X tg g)(hb:vX X body tb)
 (hs:autoParam (∀x,yE iter X.env x=pure x) æc._auto_1):PS X (.For tg iter body [] pos) (tG wi g tb):=by
 intro pins s σ H D I h;refine wpAny_For (uC (hi pins s σ H _ I h) fun v s1 h1=>uC h1 fun itv s2 h2=>?_) hs;obtain⟨it,fp,tn,J,H2,e,I2,T,st2,f2,W,⟨m0,w0⟩,turn⟩:=h2;subst e;have stat:∀{H':Hp},(∀b∈fp,H' b=none)->∀b∈fp,jM X pins H' b:=fun hn b hb=>⟨hn b hb,(f2 b hb).2⟩;refine codeAny_forLoop_any (fun n s'=>∃i σ' H',Inv X pins σ' H' s'/\tn i s'.heap/\(∀b∈fp,H' b=none)/\W i n σ' H') ?_ m0 ⟨0,σ,H2,I2,st2,fun b hb=>(f2 b hb).1,w0⟩;rintro n s3 ⟨i,σ3,H3,I3,st3,fr3,w3⟩;rcases turn i n σ3 H3 w3 with⟨stop,qn⟩|⟨go,N,hN,step⟩
 · refine yD hp (uC (T.done X rfl rfl rfl hc i pins s3 σ3 H3 X.xe I3 (stat fr3) st3 stop) fun r s4 ⟨hr,I4⟩=>?_);subst hr;exact Ai ⟨σ3,H3,I4,qn⟩
 · refine yD hp (uC (T.item X rfl rfl rfl hc i pins s3 σ3 H3 X.xe I3 (stat fr3) st3 go) fun r s4 ⟨u,hr,h4⟩=>?_);subst hr;refine yD hp (uC h4 fun _ s5 ⟨x,H5,I5,r5,y5,st5,fr5⟩=>?_);have I5':=I5.pinned (stat fr5) (T.obj _ _ st5);refine yD hp (uC (hg _ s5 σ3 H5 x u _ I5' r5 (step x H5 y5)) fun _ s6 ⟨σ6,H6,I6,q6⟩=>?_);refine yD hp (uC (hb _ s6 σ6 H6 _ I6 q6) fun f s7 q7=>?_)
   have again:∀{σ7:St}{H7:Hp},Inv X (pins++eQ fp s5.heap) σ7 H7 s7->N σ7 H7->∃m,m<n/\∃i σ' H',Inv X pins σ' H' s7/\tn i s7.heap/\(∀b∈fp,H' b=none)/\W i m σ' H':=fun{σ7 H7} I7 n7=>by
    obtain⟨m',hm,w7⟩:=hN σ7 H7 n7;refine⟨m',hm,i+1,σ7,H7,I7.unpinned,T.keep _ _ _ st5 fun b hb o e=>(I7.pin (b,o) (xD _ (xD _ (bN hb e)))).1,fun b hb=>?_,w7⟩;obtain⟨o,e,d⟩:=T.obj _ _ st5 b hb;exact(I7.pin (b,o) (xD _ (xD _ (bN hb e)))).2.1
   cases f with
   | next=>obtain⟨σ7,H7,I7,n7⟩:=q7;exact again I7 n7
   | cont=>obtain⟨σ7,H7,I7,n7⟩:=q7;exact again I7 n7
   | brk=>obtain⟨σ7,H7,I7,q7⟩:=q7;exact⟨σ7,H7,I7.unpinned,q7⟩
   | ret v=>obtain⟨x7,σ7,H7,I7,r7,q7⟩:=q7;exact⟨x7,σ7,H7,I7.unpinned,r7,q7⟩
end
abbrev R2:=V->V->Hp->VK->Prop
noncomputable def v9(X:Cx)(f:wF->wF->Sem wF)(r:R2):Prop :=
 ∀ (pins:List (Addr×Obj))(s:wG)(σ:St)(H:Hp)(x y:V)(v u:wF)(Q:VK),Inv X pins σ H s->RelV x v->RelV y u->r x y H Q ->
   xq (xH X.prog X.w) X.A (f v u) (EP X pins σ Q) X.xe s
noncomputable def vJ(X:Cx)(f:wF->Sem wF)(r:V->Hp->VK->Prop):Prop :=
 ∀ (pins:List (Addr×Obj))(s:wG)(σ:St)(H:Hp)(x:V)(v:wF)(Q:VK),Inv X pins σ H s->RelV x v->r x H Q ->
   xq (xH X.prog X.w) X.A (f v) (EP X pins σ Q) X.xe s
noncomputable def bX(X:Cx)(f:wF)(r:List V->Hp->VK->Prop):Prop :=
 ∀ (pins:List (Addr×Obj))(s:wG)(σ:St)(H:Hp)(xs:List V)(us:List wF)(Q:VK),Inv X pins σ H s->bq xs us->r xs H Q ->
   xq (xH X.prog X.w) X.A (call f us) (EP X pins σ Q) X.xe s
noncomputable def uG(r:R2)(ta tb:TE):TE:=fun σ H Q=>ta σ H fun x H1=>tb σ H1 fun y H2=>r x y H2 Q
noncomputable def uD(r:V->Hp->VK->Prop)(ta:TE):TE:=fun σ H Q=>ta σ H fun x H1=>r x H1 Q
noncomputable def rI(C:Int->Int->Prop)(g:Int->Int->V):R2:=fun x y H Q=>∃i j,x = .int i/\y = .int j/\C i j/\Q (g i j) H
noncomputable def uT(g:Int->Int->V):R2:=fun x y H Q=>∃i j,x = .int i/\y = .int j/\Q (g i j) H
noncomputable def rU(g:Int->V):V->Hp->VK->Prop:=fun x H Q=>∃i,x = .int i/\Q (g i) H
section
variable{X:Cx}{a b c:Expr}{ta tb tc:TE}{pos:Pos}
theorem qW(ha:PE X a ta)(hb:PE X b tb){s:wG}{σ:St}{H:Hp}{R:V->V->Hp->Prop}(I:Inv X pins σ H s)
 (h:ta σ H fun x H1=>tb σ H1 fun y H2=>R x y H2){Q:wF->wG->Prop}{f:wF->wF->Sem wF}
 (hf:∀v u s2 x y H2,Inv X pins σ H2 s2->RelV x v->RelV y u->R x y H2->xq (xH X.prog X.w) X.A (f v u) Q X.xe s2) :
 xq (xH X.prog X.w) X.A (eval a X.env) (fun v s₁=>xq (xH X.prog X.w) X.A (eval b X.env) (fun u s₂=>xq (xH X.prog X.w) X.A (f v u) Q X.xe s₂) X.xe s₁) X.xe s:=by
 refine uC (ha pins s σ H _ I h) fun v s1 ⟨x,H1,I1,r1,q1⟩=>?_;refine uC (hb pins s1 σ H1 _ I1 q1) fun u s2 ⟨y,H2,I2,r2,q2⟩=>?_;exact hf v u s2 x y H2 I2 r1 r2 q2
theorem bv{op:Operator}{r:R2}(ho:v9 X (Az op) r)(ha:PE X a ta)(hb:PE X b tb):PE X (.BinOp a op b pos) (uG r ta tb):=by
 intro pins s σ H Q I h;exact wpAny_BinOp (qW ha hb I h fun v u s2 x y H2 I2 rx ry q=>ho pins s2 σ H2 x y v u Q I2 rx ry q)
theorem qB{op:UnaryOp}{r:V->Hp->VK->Prop}(ho:vJ X (unaryOp op) r)(ha:PE X a ta):PE X (.UnaryOp op a pos) (uD r ta):=by
 intro pins s σ H Q I h;exact UnaryOp_ (uC (ha pins s σ H _ I h) fun v s1 ⟨x,H1,I1,r1,q1⟩=>ho pins s1 σ H1 x v Q I1 r1 q1)
theorem uY{f:wF->wF->Sem wF}{C:Int->Int->Prop}{g:Int->Int->Int}
 (rule:∀(i j:Int)(t u:Tok)(s:wG)(Q:wF->wG->Prop)(E:wF->wG->Prop),C i j->Q (.int (g i j) s.toks) {s with toks:=s.toks+1}->xq (xH X.prog X.w) X.A (f (.int i t) (.int j u)) Q E s) :
 v9 X f (rI C fun i j=>.int (g i j)):=by
 intro pins s σ H x y v u Q I rx ry h;obtain⟨i,j,rfl,rfl,hc,q⟩:=h;obtain⟨t,rfl⟩:=rx;obtain⟨t',rfl⟩:=ry;exact rule i j t t' s _ _ hc ⟨.int (g i j),H,I.tok _,⟨_,rfl⟩,q⟩
theorem sD{f:wF->wF->Sem wF}{g:Int->Int->Int}
 (rule:∀(i j:Int)(t u:Tok)(s:wG)(Q:wF->wG->Prop)(E:wF->wG->Prop),Q (.int (g i j) s.toks) {s with toks:=s.toks+1}->xq (xH X.prog X.w) X.A (f (.int i t) (.int j u)) Q E s) :
 v9 X f (uT fun i j=>.int (g i j)):=by
 intro pins s σ H x y v u Q I rx ry h;obtain⟨i,j,rfl,rfl,q⟩:=h;obtain⟨t,rfl⟩:=rx;obtain⟨t',rfl⟩:=ry;exact rule i j t t' s _ _ ⟨.int (g i j),H,I.tok _,⟨_,rfl⟩,q⟩
theorem pR{f:wF->wF->Sem wF}{g:Int->Int->Bool}
 (rule:∀(i j:Int)(t u:Tok)(s:wG)(Q:wF->wG->Prop)(E:wF->wG->Prop),Q (.bool (g i j)) s->xq (xH X.prog X.w) X.A (f (.int i t) (.int j u)) Q E s) :
 v9 X f (uT fun i j=>.bl (g i j)):=by
 intro pins s σ H x y v u Q I rx ry h;obtain⟨i,j,rfl,rfl,q⟩:=h;obtain⟨t,rfl⟩:=rx;obtain⟨t',rfl⟩:=ry;exact rule i j t t' s _ _ ⟨.bl (g i j),H,I,rfl,q⟩
noncomputable def sX(i j:Int):Prop:=0<j/\j<1073741824
noncomputable def rf(i j:Int):Prop:=0<=j/\j<=1000000/\i.natAbs<2^64
theorem dg:v9 X (Az .Add) (uT fun i j=>.int (i+j)):=sD fun _ _ _ _ _ _ _ q=>add_int q
theorem oI:v9 X (Az .Sub) (uT fun i j=>.int (i-j)):=sD fun _ _ _ _ _ _ _ q=>sub_int q
theorem bH:v9 X (Az .Mod) (rI (fun _ j=>j≠0) fun i j=>.int (i.fmod j)):=uY fun _ _ _ _ _ _ _ hc q=>mod_int' hc q
theorem k9:v9 X (Az .Pow) (rI rf fun i j=>.int (i^j.toNat)):=uY fun _ _ _ _ _ _ _ hc q=>pow_int_small hc.1 hc.2.1 hc.2.2 q
theorem uv{f:wF->Sem wF}{g:Int->Int}
 (rule:∀(i:Int)(t:Tok)(s:wG)(Q:wF->wG->Prop)(E:wF->wG->Prop),Q (.int (g i) s.toks) {s with toks:=s.toks+1}->xq (xH X.prog X.w) X.A (f (.int i t)) Q E s) :
 vJ X f (rU fun i=>.int (g i)):=by
 intro pins s σ H x v Q I rx h;obtain⟨i,rfl,q⟩:=h;obtain⟨t,rfl⟩:=rx;exact rule i t s _ _ ⟨.int (g i),H,I.tok _,⟨_,rfl⟩,q⟩
theorem nT:vJ X (unaryOp .USub) (rU fun i=>.int (-i)):=uv fun _ _ _ _ _ q=>neg_int q
end
noncomputable def tI:V->V->Bool
 | .non,.non=>true | .non,.int _=>true | .int _,.non=>true | .non,.bl _=>true | .bl _,.non=>true | .non,.str _=>true | .str _,.non=>true
 | .int _,.int _=>true | .bl _,.bl _=>true | .str _,.str _=>true | .byt _,.byt _=>true
 | .int _,.str _=>true | .str _,.int _=>true | .bl _,.str _=>true | .str _,.bl _=>true
 | _,_=>false
noncomputable def uU:R2:=fun x y H Q=>tI x y=true/\Q (.bl (decide (x=y))) H
theorem mX{i j:Int}:decide (V.int i=V.int j)=(i==j):=by
 rw[Ak];simp
theorem pE{i j:Bool}:decide (V.bl i=V.bl j)=(i==j):=by
 rw[Ak];simp
theorem mW{i j:Str}:decide (V.str i=V.str j)=(i==j):=by
 rw[Ak];simp
theorem mY{i j:Array UInt8}:decide (V.byt i=V.byt j)=(i.toList==j.toList):=by
 rw[Ak];cases i;cases j;simp
section
variable{X:Cx}{a b c:Expr}{ta tb tc:TE}{pos:Pos}
theorem bj{σ:St}{H:Hp}{s:wG}{Q:VK}{k k':Bool}(I:Inv X pins σ H s)(q:Q (.bl k) H)(e:k=k'):EP X pins σ Q (.bool k') s:=by
 subst e;exact⟨.bl k,H,I,rfl,q⟩
theorem qF:v9 X (yz .Eq) uU:=by
 intro pins s σ H x y v u Q I rx ry h;obtain⟨hs,q⟩:=h
 cases x with
 | non =>
   cases rx
   cases y with
   | non=>cases ry;exact PySem.EqNone.eq_none_none (bj I q (by simp))
   | bl j=>cases ry;exact PySem.EqNone.eq_none_bool (bj I q (by simp))
   | int j=>obtain⟨t',rfl⟩:=ry;exact PySem.EqNone.eq_none_int (bj I q (by simp))
   | str j=>obtain⟨t',rfl⟩:=ry;exact PySem.EqNone.eq_none_str (bj I q (by simp))
   | _=>exact absurd (show false=true from hs) xi
 | bl i =>
   cases rx
   cases y with
   | non=>cases ry;exact PySem.EqNone.eq_bool_none (bj I q (by simp))
   | bl j=>cases ry;exact eq_bool (bj I q pE)
   | str j=>obtain⟨t',rfl⟩:=ry;exact PySem.EqMixed.eq_bool_str (bj I q (by simp))
   | _=>exact absurd (show false=true from hs) xi
 | int i =>
   obtain⟨t,rfl⟩:=rx
   cases y with
   | non=>cases ry;exact PySem.EqNone.eq_int_none (bj I q (by simp))
   | int j=>obtain⟨t',rfl⟩:=ry;exact eq_int (bj I q mX)
   | str j=>obtain⟨t',rfl⟩:=ry;exact PySem.EqMixed.eq_int_str (bj I q (by simp))
   | _=>exact absurd (show false=true from hs) xi
 | str i =>
   obtain⟨t,rfl⟩:=rx
   cases y with
   | non=>cases ry;exact PySem.EqNone.eq_str_none (bj I q (by simp))
   | bl j=>cases ry;exact PySem.EqMixed.eq_str_bool (bj I q (by simp))
   | int j=>obtain⟨t',rfl⟩:=ry;exact PySem.EqMixed.eq_str_int (bj I q (by simp))
   | str j=>obtain⟨t',rfl⟩:=ry;exact eq_str (bj I q mW)
   | _=>exact absurd (show false=true from hs) xi
 | byt i =>
   obtain⟨t,rfl⟩:=rx
   cases y with
   | byt j=>obtain⟨t',rfl⟩:=ry;exact W.eq_bytes (bj I q mY)
   | _=>exact absurd (show false=true from hs) xi
 | _=>cases y<;>exact absurd (show false=true from hs) xi
theorem fK:v9 X (yz .Lt) (uT fun i j=>.bl (decide (i<j))):=pR fun _ _ _ _ _ _ _ q=>lt_int q
theorem iW:v9 X (yz .LtE) (uT fun i j=>.bl (decide (i<=j))):=pR fun _ _ _ _ _ _ _ q=>le_int q
theorem gY:v9 X (yz .Gt) (uT fun i j=>.bl (decide (j<i))):=pR fun _ _ _ _ _ _ _ q=>gt_int q
theorem qE:v9 X (yz .GtE) (uT fun i j=>.bl (decide (j<=i))):=pR fun _ _ _ _ _ _ _ q=>ge_int q
theorem aV(b:Expr)(h:autoParam (op ≠ .In) æb._auto_1)(h2:autoParam (op ≠ .NotIn) æb._auto_1):zC op b=false:=by
 have e1:(op==Cn.In)=false:=by cases op<;>first|rfl|exact absurd rfl h
 have e2:(op==Cn.NotIn)=false:=by cases op<;>first|rfl|exact absurd rfl h2
 cases b<;>simp[zC,e1,e2]
theorem mw{r:R2}(ho:v9 X (yz op) r)(ha:PE X a ta)(hb:PE X b tb)(hm:zC op b=false):PE X (.Compare a [op] [b] pos) (uG r ta tb):=by
 intro pins s σ H Q I h;exact wpAny_Compare1 (qW ha hb I h fun v u s2 x y H2 I2 rx ry q=>ho pins s2 σ H2 x y v u Q I2 rx ry q) hm
noncomputable def nY(t:TE):TT:=fun σ H Q=>t σ H fun x H'=>∃k,x = .bl k/\Q k H'
theorem ck{r:R2}(ho:v9 X (yz op) r)(ha:PE X a ta)(hb:PE X b tb)(hm:zC op b=false):PT X (.Compare a [op] [b] pos) (nY (uG r ta tb)):=by
 intro pins s σ H Q I h
 refine wpAny_isTrue_Compare1 (uC (ha pins s σ H _ I h) fun v s1 ⟨x,H1,I1,r1,q1⟩=>uC (hb pins s1 σ H1 _ I1 q1) fun u s2 ⟨y,H2,I2,r2,q2⟩ =>
  uC (ho pins s2 σ H2 x y v u _ I2 r1 r2 q2) fun c s3 ⟨z,H3,I3,r3,k,e,q3⟩=>?_) hm
 subst e;cases r3;exact zJ ⟨H3,I3,q3⟩
noncomputable def n8(r r':R2)(ta tb tc:TE):TE:=fun σ H Q=>ta σ H fun x H1=>tb σ H1 fun y H2=>r x y H2 fun z H3=>∃k,z = .bl k /\
 (if k=true then tc σ H3 fun w' H4=>r' y w' H4 Q else Q (.bl false) H3)
theorem j6{op':Cn}{r r':R2}(ho:v9 X (yz op) r)(ho':v9 X (yz op') r')(ha:PE X a ta)(hb:PE X b tb)(hc:PE X c tc)
 (hm:autoParam (lastMarks [op,op'] [b,c]=false) æh._auto_1):PT X (.Compare a [op,op'] [b,c] pos) (nY (n8 r r' ta tb tc)):=by
 intro pins s σ H Q I h
 refine isTrue_chain (uC (ha pins s σ H _ I h) fun v s1 ⟨x,H1,I1,r1,q1⟩=>test_link (uC (hb pins s1 σ H1 _ I1 q1) fun u s2 ⟨y,H2,I2,r2,q2⟩ =>
  uC (ho pins s2 σ H2 x y v u _ I2 r1 r2 q2) fun d s3 ⟨z,H3,I3,r3,k,e,q3⟩=>?_)) hm
 subst e;cases r3;refine zJ ?_
 cases k with
 | false =>
   obtain⟨k',e',q'⟩:=q3;cases e'
   exact ite_ff ⟨H3,I3,q'⟩
 | true =>
   refine ite_tt (test_last (uC (hc pins s3 σ H3 _ I3 q3) fun w' s4 ⟨z',H4,I4,r4,q4⟩=>uC (ho' pins s4 σ H4 y z' u w' _ I4 r2 r4 q4) fun d' s5 ⟨z2,H5,I5,r5,k2,e2,q5⟩=>?_));subst e2;cases r5;exact zJ ⟨H5,I5,q5⟩
theorem eV:(sizeLine:Nat)<2^63:=by rw[Cb];decide
theorem vals1{x:V}{us:List wF}(r:bq [x] us):∃u,us=[u]/\RelV x u:=by
 cases r with
 | cons r1 r2=>cases r2;exact⟨_,rfl,r1⟩
theorem vals2{x y:V}{us:List wF}(r:bq [x,y] us):∃u w',us=[u,w']/\RelV x u/\RelV y w':=by
 cases r with
 | cons r1 r2 =>
   cases r2 with
   | cons r3 r4=>cases r4;exact⟨_,_,rfl,r1,r3⟩
theorem dW:bX X (.builtin "abs") (fun xs H Q=>∃i,xs=[.int i]/\Q (.int (if i<0 then -i else i)) H):=by
 intro pins s σ H xs us Q I r h;obtain⟨i,rfl,q⟩:=h;obtain⟨u,rfl,t,rfl⟩:=vals1 r;exact call_abs_int fun u tk=>⟨.int (if i<0 then -i else i),H,I.tok _,⟨_,rfl⟩,q⟩
theorem jA(hc:X.calm=true):bX X (.builtin "min") (fun xs H Q=>∃i j,xs=[.int i,.int j]/\Q (.int (if j<i then j else i)) H):=by
 intro pins s σ H xs us Q I r h;obtain⟨i,j,rfl,q⟩:=h;obtain⟨u,w',rfl,⟨t,rfl⟩,⟨t',rfl⟩⟩:=vals2 r;refine min_two_ints (I.ok.hd hc) fun h' tk k=>⟨_,H,I.kept k,?_,q⟩;by_cases hj:j<i
 · rw[if_pos hj,if_pos hj];exact⟨_,rfl⟩
 · rw[if_neg hj,if_neg hj];exact⟨_,rfl⟩
theorem fR:bX X (.builtin "divmod") (fun xs H Q=>∃i j,xs=[.int i,.int j]/\sX i j/\∀p,H p=none->Q (.ref p) (upd H p (.tup [.int (i / j),.int (i%j)]))):=by
 intro pins s σ H xs us Q I r h;obtain⟨i,j,rfl,⟨h1,h2⟩,q⟩:=h;obtain⟨u,w',rfl,⟨t,rfl⟩,⟨t',rfl⟩⟩:=vals2 r;refine divmod_int (by omega) ?_ (.inl (PyProof.noPylong_small (by omega)));rw[xh i (by omega),yx i (by omega)];have hn:H s.heap.objs.size=none:=I.hok.fresh (wM _);refine⟨.ref s.heap.objs.size,_,?_,rfl,q _ hn⟩;refine I.laid (fun b o e=>wH _ e) (wM _) ⟨by simp only[xf,y8];rw[Cb];decide,[.int (i / j) s.toks,.int (i%j) (s.toks+1)],.cons ⟨_,rfl⟩ (.cons ⟨_,rfl⟩ .nil),?_⟩;exact⟨_,wS s.heap rfl,rfl,⟨0,rfl⟩,rfl⟩
end
section
variable{prog:wZ}{w:xx}{A:xB}{E:wF->wG->Prop}{s:wG}{K:W.Frag}{x dx C f:Addr}{mA:Str->Option wF}{name:Str}{v:wF}
end
section
variable{P:wZ}{w:xx}{H H':Hp}{h h':Heap}{a C dx:Addr}{fs fs':List (Str×V)}
end
section
variable{X:Cx}{pins:List (Addr×Obj)}{σ:St}{H:Hp}{s:wG}{a C dx:Addr}{fs:List (Str×V)}{f:Str}{v:V}{A:xB}{E:wF->wG->Prop}
end
section
variable{X:Cx}{o e value:Expr}{f:Str}{pos pos' tpos:Pos}{ta tv:TE}
end
section
variable{X:Cx}{pins:List (Addr×Obj)}{σ:St}{H:Hp}{s:wG}{A:xB}{E:wF->wG->Prop}{Q:wF->wG->Prop}{c:wF}{b:Bool}
end
structure Room (k:Nat) (A:xB):Prop where
 hd:A.handled=none
 dp:A.depth+3*k+5<recursionLimit
 un:A.units+16*k+200<cLine
 gd:A.guards=some []
theorem Room.mono{A:xB}(r:Room k A)(h:j<=k):Room j A:=⟨r.hd,by have:=r.dp;omega,by have:=r.un;omega,r.gd⟩
theorem Room.deeper{A:xB}(r:Room (k+1) A)(env:Env):Room k (A.deeper env) :=
 ⟨r.hd,by have:=r.dp;show A.depth+1+3*k+5<_;omega,by have:=r.un;show A.units+3+16*k+200<_;omega,r.gd⟩
theorem Room.depth{A:xB}(r:Room k A):A.depth<recursionLimit:=by have:=r.dp;omega
theorem Room.units{A:xB}(r:Room k A):A.units+64<cLine:=by have:=r.un;omega
noncomputable def sx:TA:=fun _ H Q=>Q [] H
noncomputable def n6(ta:TE)(tr:TA):TA:=fun σ H Q=>ta σ H fun x H1=>tr σ H1 fun xs H2=>Q (x::xs) H2
section
variable{X:Cx}{e:Expr}{es:List Expr}{te:TE}{t:TA}{pos:Pos}
theorem b9:PA X [] sx:=fun _ _ _ _ H Q I h=>Calls.spliced_nil ⟨[],H,I,.nil,h⟩
theorem ba(ha:PE X e te)(hr:PA X es t)(hs:autoParam (wR (e::es) X.env=(false,eval e X.env)::wR es X.env) æa._auto_1):PA X (e::es) (n6 te t):=by
 intro pos pins s σ H Q I h;rw[hs];show xq _ _ (spliced ((false,eval e X.env)::yR pos (wR es X.env))) _ _ s;refine Calls.spliced_cons (uC (ha pins s σ H _ I h) fun u s1 ⟨x,H1,I1,r1,q1⟩=>?_);exact uC (hr pos pins s1 σ H1 _ I1 q1) fun us s2 ⟨xs,H2,I2,r2,q2⟩=>⟨x::xs,H2,I2,.cons r1 r2,q2⟩
noncomputable def tw(t:TA):TE:=fun σ H Q=>t σ H fun xs H1=>xs.length<=sizeLine/\∀p,H1 p=none->Q (.ref p) (upd H1 p (.tup xs))
noncomputable def tE(t:TA):TE:=fun σ H Q=>t σ H fun xs H1=>xs.length<=sizeLine/\∀p,H1 p=none->Q (.ref p) (upd H1 p (.lst xs))
theorem oG{x1}(h:PA X es t):PE X (.Tuple es x1 pos) (tw t):=by
 intro pins s σ H Q I hq;refine wpAny_Tuple_spliced (uC (h pos pins s σ H _ I hq) fun us s1 ⟨xs,H1,I1,r,z,q⟩=>⟨by rw[<- r.length];exact z,?_⟩);have hf:H1 s1.heap.objs.size=none:=I1.hok.fresh (wM _);refine⟨.ref s1.heap.objs.size,upd H1 s1.heap.objs.size (.tup xs),I1.laid (t':=s1.toks) (fun b u e=>wH _ e) (wM _) ?_,rfl,q _ hf⟩;exact⟨z,us,r,jJ.new _ _⟩
theorem k6(h:PA X es t):PE X (.List es pos) (tE t):=by
 intro pins s σ H Q I hq;refine wpAny_List_spliced (uC (h pos pins s σ H _ I hq) fun us s1 ⟨xs,H1,I1,r,z,q⟩=>⟨by rw[<- r.length];exact z,?_⟩);have hf:H1 s1.heap.objs.size=none:=I1.hok.fresh (wM _);refine⟨.ref s1.heap.objs.size,upd H1 s1.heap.objs.size (.lst xs),I1.laid (t':=s1.toks) (fun b u e=>wH _ e) (wM _) ?_,rfl,q _ hf⟩;exact⟨z,us,0,r,wS _ rfl⟩
end
abbrev Sp:=List V->Hp->VK->XK->Prop
abbrev wv:=List Env->Hp->wG->XK->wF->wG->Prop
structure Env0 (P:wZ) (w:xx) (K:W.Frag) (mg:Str->Option wF) (base:Heap) (A:xB) (outer:List Env) (s:wG) (H:Hp):Prop where
 frames:A.frames=some outer
 mod:Mod K mg base
 bs:∀b o,base.get? b=some o->s.heap.get? b=some o/\H b=none
 bsz:base.objs.size<=s.heap.objs.size
 funs:s.heap.FunFrames base outer
 frf:∀b∈frs outer,H b=none
 hok:wq P w H s.heap
 bare:BF s.gens
noncomputable def CE(outer:List Env)(P:wZ)(w:xx)(H:Hp)(s:wG)(Q:VK)(u:wF)(s':wG):Prop :=
 ∃v H',s'.os=s.os/\BF s'.gens/\Un (frs outer) [] H H' s.heap s'.heap/\wq P w H' s'.heap/\RelV v u/\Q v H'
noncomputable def CR(CX:wv)(outer:List Env)(P:wZ)(w:xx)(H:Hp)(s:wG)(Q:VK)(E:XK)(r:Result)(s':wG):Prop :=
 match r with
 | .ok (.ret u)=>CE outer P w H s Q u s'
 | .ok _=>False
 | .error e=>CX outer H s E e s'
structure FnOk (P:wZ) (w:xx) (K:W.Frag) (mg:Str->Option wF) (base:Heap) (CX:wv) (k:Nat) (f:Addr) (fd:yM) (ps:List Str) (sp:Sp):Prop where
 len:∀vs H Q E,sp vs H Q E->vs.length=ps.length
 run:∀(A:xB)(outer:List Env)(s:wG)(H:Hp)(args:Args)(us:List wF)(vs:List V)(Q:VK)(E:XK),Room k A->Env0 P w K mg base A outer s H->Cc s fd args (ps.zip us)->bq vs us->sp vs H Q E ->
  Al (xH P w) A (.call (.ref f) args) (CR CX outer P w H s Q E) s
section
variable{X:Cx}{pins:List (Addr×Obj)}{σ:St}{H:Hp}{s s':wG}
theorem Inv.env0(I:Inv X pins σ H s):Env0 X.prog X.w X.K X.mg X.base X.A X.stack s H :=
 ⟨I.ok.frames,I.ok.mod,I.bs,yI I.ok.bsz I.sz,I.stack,I.stkFree,I.hok,I.bare⟩
theorem Inv.after{Q:VK}{u:wF}(I:Inv X pins σ H s)(h:CE X.stack X.prog X.w H s Q u s'):EP X pins σ Q u s':=by
 obtain⟨v,H',os,bare,un,hok,r,q⟩:=h;obtain⟨hh,g,d,t,os'⟩:=s';obtain rfl:os'=s.os:=os;exact⟨v,H',I.call (h':=hh) (g':=g) (d':=d) (t':=t) (ch:=[]) un hok bare (fun b z=>absurd z (by simp)),r,q⟩
end
noncomputable def qu(sp:Sp)(dvs:List V)(E:XK)(t:TA):TE:=fun σ H Q=>t σ H fun vs H1=>sp (vs++dvs) H1 Q E
noncomputable def Binds(K:W.Frag)(fd:yM)(ps:List Str)(ds:List wF):Prop :=
 ∀(s:wG)(us:List wF),K.In s.heap->(us++ds).length=ps.length->Cc s fd ⟨us,[]⟩ (ps.zip (us++ds))
theorem Binds.all{K:W.Frag}{fd:yM}(h:∀us:List wF,us.length=ps.length->bindArgs fd ⟨us,[]⟩=pure (ps.zip us)):Binds K fd ps []:=fun s us _ hl=>by
 rw[yF]at hl ⊢;exact .of_eq (h us hl)
noncomputable def jI(CX:wv)(X:Cx)(E:XK):Prop:=∀(pins:List (Addr×Obj))(σ:St)(H:Hp)(s:wG)(e:wF)(s':wG),Inv X pins σ H s->CX X.stack H s E e s'->X.xe e s'
section
variable{X:Cx}{CX:wv}{k:Nat}{f C:Addr}{fd:yM}{ps:List Str}{sp:Sp}{dvs:List V}{ds:List wF}{E:XK}{x m:Str}{p pos apos:Pos}{e o:Expr}{es:List Expr}{ta:TE}{t:TA}
theorem oj{σ:St}{H:Hp}{s:wG}{Q:VK}{us:List wF}{vs:List V}(F:FnOk X.prog X.w X.K X.mg X.base CX k f fd ps sp)(hr:Room k X.A)(hb:Binds X.K fd ps ds)(hd:bq dvs ds)(hx:jI CX X E)
 (I:Inv X pins σ H s)(r:bq vs us)(h:sp (vs++dvs) H Q E):xq (xH X.prog X.w) X.A (call (.ref f) us) (EP X pins σ Q) X.xe s:=by
 have r2:bq (vs++dvs) (us++ds):=r.append hd;have hl:(us++ds).length=ps.length:=by rw[<- r2.length];exact F.len _ _ _ _ h
 refine wpAny_call (zS (F.run X.A X.stack s H ⟨us,[]⟩ (us++ds) (vs++dvs) Q E hr I.env0 (hb s us I.kIn hl) r2 h) fun r s' hq=>?_)
 cases r with
 | error e=>exact hx pins σ H s e s' I hq
 | ok fl =>
   cases fl with
   | ret u=>exact I.after hq
   | next=>exact yk hq
   | brk=>exact yk hq
   | cont=>exact yk hq
theorem iS(F:FnOk X.prog X.w X.K X.mg X.base CX k f fd ps sp)(hr:Room k X.A)(hg:Gl X x)(hm:X.mg x=some (.ref f))(hk:W.keepIn X.K (.ref f)=true)(hb:Binds X.K fd ps ds)(hd:bq dvs ds)(hx:jI CX X E)
 (ha:PA X (e::es) t)(hdb:autoParam ((x==("__debug__" : Str))=false) æb._auto_1)(he:autoParam (wR (e::es) X.env=(false,eval e X.env)::wR es X.env) æa._auto_1)(hpl:autoParam ((yR pos (wR es X.env)).any (·.1)=false) æa._auto_1) :
 PE X (.Call (.Name x p) (e::es) [] pos) (qu sp dvs E t):=by
 intro pins s σ H Q I h;refine AA (je I hg hm ?_ hdb);refine W.callWith_K (h₀:=X.base) I.ok.mod.kin hk (uC (ha pos pins s σ H _ I h) fun us s1 ⟨vs,H1,I1,r,q⟩=>⟨I1.kIn,?_⟩) he hpl;exact oj F hr hb hd hx I1 r q
end
section
variable{X:Cx}{CX:wv}{k:Nat}{f C:Addr}{fd:yM}{ps ks:List Str}{sp:Sp}{E:XK}{x m:Str}{p pos apos kpos:Pos}{e o:Expr}{es:List Expr}{kws:List BW}{te ta:TE}{t tk:TA}{nm:Option Str}
variable{g:List wF->List wF->List wF}{gV:List V->List V->List V}
end
structure FnScope (N P:List Str) (sc:Scope):Prop where
 kind:sc.kind = .function
 co:sc.isCoroutine=false
 gen:sc.isGenerator=false
 nd:N.Nodup
 pre:N.take P.length=P
 par:∀x∈P,sc.names.lookup x=some .local\/sc.names.lookup x=some .cell
 nofree:∀y∈sc.names,y.2 ≠ .free
theorem fj{kindOf:Str->Option zD}{x:Str}:∀{binds:List (Str×wF)}{m:Str->Option wF},(∀v,(x,v)∉binds)->bindL kindOf binds m x=m x
 | [],_,_=>rfl
 | (n,v)::r,m,h=>by
   unfold bindL;rw[fj fun w hw=>h w (wL _ hw)];split
   · have:x≠n:=by rintro rfl;exact h v wQ
     simp[this]
   · rfl
theorem fv{kindOf:Str->Option zD}{x:Str}:∀{binds:List (Str×wF)}{m:Str->Option wF},(∀v,(x,v)∉binds)->bindC kindOf binds m x=m x
 | [],_,_=>rfl
 | (n,v)::r,m,h=>by
   unfold bindC;rw[fv fun w hw=>h w (wL _ hw)];split
   · rfl
   · have:x≠n:=by rintro rfl;exact h v wQ
     simp[this]
theorem fu{kindOf:Str->Option zD}{x:Str}{v:wF}:∀{P:List Str}{vs:List wF}{i:Nat}{m:Str->Option wF},P.Nodup->P[i]?=some x->vs[i]?=some v->kindOf x=some .local ->
 bindL kindOf (P.zip vs) m x=some v
 | [],_,_,_,_,h,_,_=>by simp at h
 | _::_,[],_,_,_,_,h,_=>by simp at h
 | p::P,w::vs,0,m,nd,h1,h2,hk=>by
   simp at h1 h2;subst h1;subst h2;show bindL kindOf ((p,w)::P.zip vs) m p=_;unfold bindL;rw[fj fun v hv=>(y9.mp nd).1 (Bf hv).1,if_pos hk]
   simp
 | p::P,w::vs,i+1,m,nd,h1,h2,hk=>by
   show bindL kindOf ((p,w)::P.zip vs) m x=_;unfold bindL;exact fu (i:=i) (y9.mp nd).2 (by simpa using h1) (by simpa using h2) hk
theorem fy{kindOf:Str->Option zD}{x:Str}{v:wF}:∀{P:List Str}{vs:List wF}{i:Nat}{m:Str->Option wF},P.Nodup->P[i]?=some x->vs[i]?=some v->kindOf x≠some .local ->
 bindC kindOf (P.zip vs) m x=some v
 | [],_,_,_,_,h,_,_=>by simp at h
 | _::_,[],_,_,_,_,h,_=>by simp at h
 | p::P,w::vs,0,m,nd,h1,h2,hk=>by
   simp at h1 h2;subst h1;subst h2;show bindC kindOf ((p,w)::P.zip vs) m p=_;unfold bindC;rw[fv fun v hv=>(y9.mp nd).1 (Bf hv).1,if_neg hk]
   simp
 | p::P,w::vs,i+1,m,nd,h1,h2,hk=>by
   show bindC kindOf ((p,w)::P.zip vs) m x=_;unfold bindC;exact fy (i:=i) (y9.mp nd).2 (by simpa using h1) (by simpa using h2) hk
noncomputable def start(N:List Str)(vs:List V):St:=vs.map some++x6 (N.length-vs.length) none
noncomputable def jL(CX:wv)(P:wZ)(w:xx)(K:W.Frag)(mg:Str->Option wF)(base:Heap)(N:List Str)(qual:Str)(scope:Scope)(f:Addr)(cd:wF)(A:xB)(outer:List Env)(s:wG)(H:Hp)(E:XK):Cx where
 prog:=P
 w:=w
 K:=K
 mg:=mg
 base:=base
 A:=A.deeper (A7 qual scope s.heap.objs.size f cd)
 N:=N
 s₀:=s
 H₀:=H
 env:=A7 qual scope s.heap.objs.size f cd
 outer:=outer
 stack:=A7 qual scope s.heap.objs.size f cd::outer
 ex:=[]
 calm:=true
 fn:=fun _=>true
 pn:=[]
 xe:=fun e s'=>xq (xH P w) (A.deeper (A7 qual scope s.heap.objs.size f cd)) (leaving (A7 qual scope s.heap.objs.size f cd) e) (fun _ s''=>CX outer H s E e s'') (fun e' s''=>CX outer H s E e' s'') s'
theorem gJ{sc:Scope}(h:sc.names.lookup x=some .cell):∃c,(yc n sc.names []).lookup x=some c:=by
 have q:=W.cellsFrom_some sc.names n [] (.inl h);exact yG.mp q
theorem jh{CX:wv}{P:wZ}{w:xx}{K:W.Frag}{mg:Str->Option wF}{base:Heap}{cd:wF}{A:xB}{outer:List Env}{s s1:wG}{H:Hp}{E:XK}{us:List wF}{vs:List V}
 (S:FnScope N ps scope)(hd:A.handled=none)(e0:Env0 P w K mg base A outer s H)(hl:vs.length=ps.length)(r:bq vs us)
 (x:InCallC s s.heap.objs.size (bindL (A7 qual scope s.heap.objs.size f cd).kindOf (ps.zip us) fun _=>none) (yc (s.heap.objs.size+1) scope.names []) (bindC (A7 qual scope s.heap.objs.size f cd).kindOf (ps.zip us) fun _=>none) s1) :
 Inv (jL CX P w K mg base N qual scope f cd A outer s H E) [] (start N vs) H s1:=by
 have hpl:ps.length<=N.length:=by have:=congrArg List.length S.pre;rw[zZ]at this;omega
 obtain⟨h1,tk,rfl,hk⟩:=x.done;have noA:∀b:Addr,b∉(jL CX P w K mg base N qual scope f cd A outer s H E).ex:=fun b z=>absurd (show b∈([]:List Addr)from z) (by simp)
 refine⟨⟨e0.mod,S.kind,rfl,rfl,wM _,fun y z c h1 h2=>?_,fun y hy=>?_,fun y c _ h=>?_,fun _=>hd,xB.frames_deeper e0.frames,.inr ⟨rfl,rfl⟩,fun b z=>absurd z (noA b),e0.bs,e0.bsz,fun b _ _=>noA b,fun b z=>absurd z (noA b),e0.funs,e0.frf⟩,
  rfl,e0.bare,Un.kept hk,⟨_,x.toInCall.ns,fun i y v h1 h2 h3=>?_⟩,fun y c h=>⟨_,x.cell y c h⟩,e0.hok.fresh (wM _),fun y c h=>?_,fun p hp=>absurd (show p∈([]:List (Addr×Obj))from hp) (by simp),e0.hok.kept hk,?_⟩
 · exact name_of_addr x.apart (xJ h1) (xJ h2)
 · have hy:scope.names.lookup y=some .cell\/scope.names.lookup y=some .free:=hy;rcases hy with hy|hy
   · exact gJ hy
   · exact absurd rfl (S.nofree _ (xJ hy))
 · exact B0 (x.above y c (xJ h))
 · have hi:i<vs.length:=by
     unfold start at h2;by_cases hi:i<vs.length
     · exact hi
     · rw[Ax (by simpa using hi)]at h2;rw[AY]at h2;split at h2<;>cases h2
   have ha:vs[i]?=some v:=by
    unfold start at h2;rw[zk (by simpa using hi),xM]at h2
    cases e:vs[i]? with
    | none=>rw[e]at h2;cases h2
    | some a=>rw[e]at h2;cases h2;rfl
   obtain⟨u,hu,rv⟩:=r.get ha
   have hp:ps[i]?=some y:=by
    rw[<- S.pre,List.getElem?_take_of_lt (by omega)];exact h1
   have ndP:ps.Nodup:=by rw[<- S.pre];exact S.nd.sublist (List.take_sublist _ _)
   refine⟨u,rv,?_⟩;rcases S.par y (z_ hp)with k|k
   · exact .inl ⟨k,fu ndP hp hu k⟩
   · obtain⟨c,e⟩:=gJ (n:=s.heap.objs.size+1) k;refine .inr ⟨.inl k,c,e,?_⟩;have q:=x.cell y c e;rw[fy ndP hp hu (by show scope.names.lookup y≠_;rw[k];decide)]at q;exact q
 · exact e0.hok.fresh (B0 (x.above y c (xJ h)))
 · unfold start;show _=N.length;rw[xg,wP,Bg];omega
theorem qV{CX:wv}{P:wZ}{w:xx}{K:W.Frag}{mg:Str->Option wF}{base:Heap}{name:Str}{params:Arguments}{body:List Stmt}{dV kV doc pm cdv ct oc:wF}{an od:Option Addr}
 {osl:Array (Option wF)}{sp:Sp}(lk:K.lookup f=some ⟨oc,od,.func (W.fnOf name qual params body scope dV kV doc pm an cdv ct),osl⟩)(hcd:W.codeIn K cdv qual=true)(S:FnScope N ps scope)
 (len:∀vs H Q E,sp vs H Q E->vs.length=ps.length)
 (hbody:∀(A:xB)(outer:List Env)(s:wG)(H:Hp)(vs:List V)(Q:VK)(E:XK),Room k (A.deeper (A7 qual scope s.heap.objs.size f cdv))->sp vs H Q E ->
  ∃t,vX (jL CX P w K mg base N qual scope f cdv A outer s H E) body t/\t {nx:=fun _ H'=>Q .non H',rt:=Q} (start N vs) H) :
 FnOk P w K mg base CX (k+1) f (W.fnOf name qual params body scope dV kV doc pm an cdv ct) ps sp:=by
 refine⟨len,fun A outer s H args us vs Q E hr e0 hb r hsp=>?_⟩;have hl:=len _ _ _ _ hsp;have KX:K.In s.heap:=e0.mod.kin.keeps fun b o e=>(e0.bs b o e).1;have lim:s.heap.NoLimit:=e0.mod.nolimit.keeps fun b o e=>(e0.bs b o e).1
 have hkind:∀y∈ps.zip us,scope.names.lookup y.1=some .local\/(scope.names.lookup y.1=some .cell/\((yc (s.heap.objs.size+1) scope.names []).lookup y.1).isSome=true):=fun⟨n,v⟩ hy=>by
  rcases S.par n (Bf hy).1 with q|q
  · exact .inl q
  · exact .inr ⟨q,W.cellsFrom_some _ _ _ (.inl q)⟩
 refine codeAny_call_function hr.depth (KX _ _ lk) rfl S.co S.gen rfl (W.codeRec_of KX hcd) (hb _ _ _ _ ?_);refine wpAny_newFunctionEnv_cells S.kind hkind fun env he s1 x=>?_;subst he;refine⟨lim.keeps x.toInCall.keep,codeAny_func ?_⟩;obtain⟨t,ht,hq⟩:=hbody A outer s H vs Q E (hr.deeper _) hsp;have I:Inv (jL CX P w K mg base N qual scope f cdv A outer s H E) [] (start N vs) H s1:=jh S hr.hd e0 hl r x;refine zh (ht [] s1 (start N vs) H _ I hq) (fun fl s' hs=>?_) fun e s' hs=>hs
 have fin:∀{σ':St}{H':Hp}{v:V}{u:wF},Inv (jL CX P w K mg base N qual scope f cdv A outer s H E) [] σ' H' s'->RelV v u->Q v H'->CE outer P w H s Q u s' :=
  fun{σ' H' v u} J rv q=>⟨v,H',J.os,J.bare,J.base,J.hok,rv,q⟩
 cases fl with
 | ret u =>
   obtain⟨v,σ',H',J,rv,q⟩:=hs
   exact fin J rv q
 | next =>
   obtain⟨σ',H',J,q⟩:=hs
   exact fin (v:=V.non) (u:=zv) J rfl q
 | brk =>
   obtain⟨_,_,_,q⟩:=hs
   exact yk q
 | cont =>
   obtain⟨_,_,_,q⟩:=hs;exact yk q
section
variable{X:Cx}{x:Str}{p pos:Pos}{e:Expr}{es:List Expr}{t:TA}{id T:String}{r:List V->Hp->VK->Prop}
noncomputable def uI(r:List V->Hp->VK->Prop)(t:TA):TE:=fun σ H Q=>t σ H fun vs H1=>r vs H1 Q
theorem bw(hc:bX X (.builtin id) r)(hg:Gl X x)(hm:X.mg x=none)(hv:zx x=some (.builtin id))(ha:PA X (e::es) t)(hn:autoParam (x ≠ "__name__") æb._auto_1)(hdb:autoParam ((x==("__debug__" : Str))=false) æb._auto_1)
 (he:autoParam (wR (e::es) X.env=(false,eval e X.env)::wR es X.env) æa._auto_1)(hpl:autoParam ((yR pos (wR es X.env)).any (·.1)=false) æa._auto_1):PE X (.Call (.Name x p) (e::es) [] pos) (uI r t):=by
 intro pins s σ H Q I h;refine AA (gv I hg hm hv ?_ hn hdb);exact PyProof.Rows.callWith_builtin1 (uC (ha pos pins s σ H _ I h) fun us s1 ⟨vs,H1,I1,r1,q1⟩=>hc pins s1 σ H1 vs us Q I1 r1 q1) he hpl
theorem cR(hc:bX X (.type T) r)(hg:Gl X x)(hm:X.mg x=none)(hv:zx x=some (.type T))(ha:PA X (e::es) t)(hn:autoParam (x ≠ "__name__") æb._auto_1)(hdb:autoParam ((x==("__debug__" : Str))=false) æb._auto_1)
 (he:autoParam (wR (e::es) X.env=(false,eval e X.env)::wR es X.env) æa._auto_1)(hpl:autoParam ((yR pos (wR es X.env)).any (·.1)=false) æa._auto_1):PE X (.Call (.Name x p) (e::es) [] pos) (uI r t):=by
 intro pins s σ H Q I h;refine AA (gv I hg hm hv ?_ hn hdb);exact y7 (uC (ha pos pins s σ H _ I h) fun us s1 ⟨vs,H1,I1,r1,q1⟩=>hc pins s1 σ H1 vs us Q I1 r1 q1) he hpl
end
end L2
variable{H H' F F' F₀ H₀:L2.Hp}{v:L2.V}{σ:L2.St}{vs:List L2.V}
namespace HT
open PySem PyProof.Rows
section
open PySem.SeqAt
open PySem.AutoSeq1 (wpAny_loadPart')
open PySem.MeetsSeq PySem.MeetsSeq2 PySem.MeetsSeq3
end
section
variable{prog:wZ}{w:xx}{A:xB}{E:wF->wG->Prop}{s:wG}
noncomputable def sIx(n d:Nat):Option Int->Nat
 | none=>d
 | some v=>if v<0 then(v+(n:Int)).toNat else min v.toNat n
theorem sIx_none(n d:Nat):sIx n d none=d:=rfl
theorem sIx_nat(n d k:Nat):sIx n d (some (k:Int))=min k n:=by
 show(if(k:Int)<0 then((k:Int)+(n:Int)).toNat else min (k:Int).toNat n)=min k n;rw[if_neg (by omega),xY]
end
end HT
namespace L2
abbrev TO:=St->Hp->(Option Int->Hp->Prop)->Prop
noncomputable def PO(X:Cx)(e:Option Expr)(t:TO):Prop :=
 ∀ (pins:List (Addr×Obj))(s:wG)(σ:St)(H:Hp)(Q:Option Int->Hp->Prop),Inv X pins σ H s->t σ H Q ->
   xq (xH X.prog X.w) X.A (evalPart e X.env) (fun u s'=>∃o H',Inv X pins σ H' s'/\IsPart u o/\Q o H') X.xe s
noncomputable def lJ:TO:=fun _ H Q=>Q none H
noncomputable def qq(t:TE):TO:=fun σ H Q=>t σ H fun x H1=>∃i,x = .int i/\Q (some i) H1
theorem intsAre_of:∀{us:List wF},bq (ns.map V.int) us->y_ us ns:=by
 induction ns with
 | nil=>intro us r;rw[AB]at r;cases r;exact .nil
 | cons n ns ih =>
   intro us r;rw[x9]at r
   cases r with
   | cons r1 r2 =>
     obtain⟨t,e⟩:=r1;subst e;exact .cons n t (ih r2)
section
variable{X:Cx}{e:Expr}{te:TE}{lo hi:Option Expr}{tl th:TO}{pos p2:Pos}
theorem l_:PO X none lJ:=by
 intro pins s σ H Q I h;rw[evalPart_none];exact wI ⟨none,H,I,.none,h⟩
theorem l9(h:PE X e te):PO X (some e) (qq te):=by
 intro pins s σ H Q I hw;rw[evalPart_some];refine uC (h pins s σ H _ I hw) fun u s1 ⟨x,H1,I1,r1,q1⟩=>?_;obtain⟨i,rfl,q⟩:=q1;obtain⟨t,rfl⟩:=r1;exact⟨some i,H1,I1,.int i t,q⟩
noncomputable def vS(X:Cx)(r:V->Option Int->Option Int->Hp->VK->Prop):Prop :=
 ∀ (pins:List (Addr×Obj))(s:wG)(σ:St)(H:Hp)(x:V)(v vl vu:wF)(lo hi:Option Int)(sl:Addr)(Q:VK),Inv X pins σ H s->RelV x v->s.heap.IsSliceOf sl vl vu .none->IsPart vl lo->IsPart vu hi->r x lo hi H Q ->
   ∃T id,typeLookup (.type T) "__getitem__" = pure (some (.builtin id))/\s.TypeIs v T/\xq (xH X.prog X.w) X.A (getItem v (.ref sl)) (EP X pins σ Q) X.xe s
noncomputable def uE(r:V->Option Int->Option Int->Hp->VK->Prop)(te:TE)(tl th:TO):TE:=fun σ H Q=>te σ H fun x H1=>tl σ H1 fun l H2=>th σ H2 fun u H3=>r x l u H3 Q
theorem j_{r:V->Option Int->Option Int->Hp->VK->Prop}(hr:vS X r)(he:PE X e te)(hl:PO X lo tl)(hu:PO X hi th):PE X (.Subscript e (.Slice lo hi none p2) pos) (uE r te tl th):=by
 intro pins s σ H Q I h;refine Subscript_ (uC (he pins s σ H _ I h) fun v s1 ⟨x,H1,I1,r1,q1⟩=>?_);refine wpAny_Slice (uC (hl pins s1 σ H1 _ I1 q1) fun vl s2 ⟨l,H2,I2,pl,q2⟩=>uC (hu pins s2 σ H2 _ I2 q2) fun vu s3 ⟨u,H3,I3,pu,q3⟩=>?_);rw[evalPart_none];refine wI ?_;have I4:Inv X pins σ H3 {s3 with heap:=s3.heap.push {cls:=.type "slice", data:=.fields #[vl,vu,.none]}}:=I3.kept (t':=s3.toks) fun b ob q=>wH _ q;obtain⟨T,id,hT,ht,hg⟩:=hr pins {s3 with heap:=s3.heap.push {cls:=.type "slice", data:=.fields #[vl,vu,.none]}} σ H3 x v vl vu l u s3.heap.objs.size Q I4 r1 (Heap.IsSliceOf.new ..) pl pu q3;show xq (xH X.prog X.w) X.A (subscriptTail e (.Slice lo hi none p2) v (.ref s3.heap.objs.size)) (EP X pins σ Q) X.xe {s3 with heap:=s3.heap.push {cls:=.type "slice", data:=.fields #[vl,vu,.none]}};exact tail_any (ops:=[.ref s3.heap.objs.size,v]) ht hT hg (by with_unfolding_all rfl)
noncomputable def m_(xs:List V)(lo hi:Option Int):List V:=(xs.drop (HT.sIx xs.length 0 lo)).take (HT.sIx xs.length xs.length hi-HT.sIx xs.length 0 lo)
theorem fP(xs:List V)(lo hi:Option Int):(m_ xs lo hi).length<=xs.length:=by
 unfold m_;rw[zZ,List.length_drop];omega
end
noncomputable def ixN(n:Nat)(i:Int):Option Nat:=if 0<=i then(if i<n then some i.toNat else none)else if -(n:Int)<=i then some (i+n).toNat else none
noncomputable def atI{α:Type}(xs:List α)(i:Int):Option α:=(ixN xs.length i).bind fun j=>xs[j]?
theorem jg{i:Int}(h:ixN n i=some j):seqIndex? i n=some j/\j<n /\ -(n:Int)<=i/\i<n:=by
 unfold ixN at h;by_cases h0:0<=i
 · rw[if_pos h0]at h;by_cases h1:i<n
   · rw[if_pos h1]at h;have e:i.toNat=j:=xk h;exact⟨by rw[BH h0 h1,e],by omega,by omega,h1⟩
   · rw[if_neg h1]at h;cases h
 · rw[if_neg h0]at h;by_cases h1 : -(n:Int)<=i
   · rw[if_pos h1]at h;have e:(i+n).toNat=j:=xk h;exact⟨by rw[B1 (by omega) h1,e],by omega,h1,by omega⟩
   · rw[if_neg h1]at h;cases h
theorem fV{xs:List α}{i:Int}{v:α}(h:atI xs i=some v):∃j,seqIndex? i xs.length=some j/\xs[j]?=some v/\j<xs.length /\ -(xs.length:Int)<=i/\i<xs.length:=by
 unfold atI at h
 cases e:ixN xs.length i with
 | none=>rw[e]at h;cases h
 | some j =>
   rw[e]at h;obtain⟨h1,h2,h3,h4⟩:=jg e;exact⟨j,h1,h,h2,h3,h4⟩
theorem fT{xs:List α}{v:α}(h:xs[j]?=some v):atI xs (j:Int)=some v:=by
 have hj:j<xs.length:=(wY.mp h).1
 have e:ixN xs.length (j:Int)=some j:=by
  unfold ixN;rw[if_pos (by omega),if_pos (by omega)];simp
 unfold atI;rw[e];exact h
noncomputable def jH(b:Expr):Prop:=∀o i,subscripted b false o i=operate [o,i] (getItem o i)
noncomputable def wg(X:Cx)(r:R2):Prop :=
 ∀ (value slice:Expr)(pins:List (Addr×Obj))(s:wG)(σ:St)(H:Hp)(x y:V)(v u:wF)(Q:VK),Inv X pins σ H s->RelV x v->RelV y u->r x y H Q ->
   subscripted slice false v u=operate [v,u] (getItem v u)->xq (xH X.prog X.w) X.A (subscriptTail value slice v u) (EP X pins σ Q) X.xe s
noncomputable def wa(X:Cx)(id:String)(r:V->List V->Hp->VK->Prop):Prop :=
 ∀ (pins:List (Addr×Obj))(s:wG)(σ:St)(H:Hp)(x:V)(xs:List V)(v:wF)(us:List wF)(Q:VK),Inv X pins σ H s->RelV x v->bq xs us->r x xs H Q ->
   xq (xH X.prog X.w) X.A (call (.builtin id) (v::us)) (EP X pins σ Q) X.xe s
section
variable{X:Cx}{a b:Expr}{ta tb:TE}{pos:Pos}
theorem wg.or{r r':R2}(h:wg X r)(h':wg X r'):wg X (fun x y H Q=>r x y H Q\/r' x y H Q):=by
 intro value slice pins s σ H x y v u Q I rx ry q hs;rcases q with q|q
 · exact h value slice pins s σ H x y v u Q I rx ry q hs
 · exact h' value slice pins s σ H x y v u Q I rx ry q hs
theorem br{r:R2}(hr:wg X r)(ha:PE X a ta)(hb:PE X b tb)(hs:jH b):PE X (.Subscript a b pos) (uG r ta tb):=by
 intro pins s σ H Q I h;exact Subscript_ (qW ha hb I h fun v u s2 x y H2 I2 rx ry q=>hr a b pins s2 σ H2 x y v u Q I2 rx ry q (hs _ _))
noncomputable def sB(K:W.Frag):R2:=fun x y H Q=>∃p xs i v,x = .ref p/\y = .int i/\vR K H p xs/\atI xs i=some v/\Q v H
noncomputable def sy(K:W.Frag):R2:=fun x y H Q=>∃p xs i v,x = .ref p/\y = .int i/\vQ K H p xs/\atI xs i=some v/\Q v H
noncomputable def sA:R2:=fun x y H Q=>∃z i c,x = .str z/\y = .int i/\z.length<=sizeLine/\atI z.cps.toList i=some c/\Q (.str ⟨#[c]⟩) H
theorem qH:wg X (sB X.K):=by
 intro value slice pins s σ H x y v u Q I rx ry h hs;obtain⟨p,xs,i,z,rfl,rfl,hq,he,q⟩:=h;cases rx;obtain⟨t,rfl⟩:=ry;obtain⟨its,r,pl,hz⟩:=I.list hq;obtain⟨j,h1,h2,h3,h4,h5⟩:=fV he;obtain⟨w,ew,rw'⟩:=r.get h2;have hl:=r.length;have hn:=eV;have fin:EP X pins σ Q w s:=⟨z,H,I,rw',q⟩;by_cases h0:0<=i
 · have hj:i.toNat=j:=by
     rw[BH h0 h5]at h1;exact xk h1
   exact item_listR pl.isList h0 (by omega) (by rw[hj];simpa using ew) fin hs
 · have hj:(i+(its.toArray.size:Int)).toNat=j:=by
     rw[B1 (by omega) h4]at h1;rw[wN,<- hl];exact xk h1
   exact Bb (x:=w) pl.isList.typeIs slot_list_getitem.lookup
    (wpAny_getItem_list_neg (Q:=fun r s'=>r=w/\EP X pins σ Q r s') pl.isList (by omega) (by rw[wN]<;>omega) (by omega) (by rw[hj];simpa using ew) ⟨rfl,fin⟩) hs
theorem sE:wg X (sy X.K):=by
 intro value slice pins s σ H x y v u Q I rx ry h hs;obtain⟨p,xs,i,z,rfl,rfl,hq,he,q⟩:=h;cases rx;obtain⟨t,rfl⟩:=ry;obtain⟨its,r,pl,hz⟩:=I.tuple hq;obtain⟨j,h1,h2,h3,h4,h5⟩:=fV he;obtain⟨w,ew,rw'⟩:=r.get h2;have hl:=r.length;have hn:=eV;have fin:EP X pins σ Q w s:=⟨z,H,I,rw',q⟩
 exact Bb (x:=w) pl.typeIs slot_tuple_getitem.lookup
  (getItem_tuple (j:=j) (Q:=fun r s'=>r=w/\EP X pins σ Q r s') pl (by omega) (by omega) (by rw[wN,<- hl];exact h1) (by simpa using ew) ⟨rfl,fin⟩) hs
theorem o0:wg X sA:=by
 intro value slice pins s σ H x y v u Q I rx ry h hs;obtain⟨z,i,c,rfl,rfl,hz,he,q⟩:=h;obtain⟨t,rfl⟩:=rx;obtain⟨t',rfl⟩:=ry;obtain⟨j,h1,h2,h3,h4,h5⟩:=fV he;have hl:z.cps.toList.length=z.length:=by simp[Str.length]
 rw[hl]at h1 h4 h5;have hn:=eV
 exact tail_any (typeIs_str s z t) slot_str_getitem.lookup (getItem_str (c:=c) (by
  have e1:decide (i < -(2^63:Int))=false:=decide_eq_false (by omega);have e2:decide (i ≥ 2^63)=false:=decide_eq_false (by omega)
  rw[e1,e2,Bool.or_false]) (by rw[h1];simpa using h2) ⟨.str ⟨#[c]⟩,H,I.tok _,⟨_,rfl⟩,q⟩) hs
noncomputable def uS(K:W.Frag):R2:=fun x y H Q=>sB K x y H Q\/sy K x y H Q\/sA x y H Q
theorem aL:wg X (uS X.K):=qH.or (sE.or o0)
theorem g7(its:List wF)(n j:Nat)(u:wF):Af (·.setIfInBounds j u) {cls:=.type "list", data:=.seq its.toArray n}={cls:=.type "list", data:=.seq (its.set j u).toArray n}:=by
 simp[Af]
theorem Inv.lst{pins:List (Addr×Obj)}{σ:St}{H:Hp}{s:wG}{p:Addr}{xs:List V}(I:Inv X pins σ H s)(h:H p=some (.lst xs)) :
 ∃(its:List wF)(n:Nat),bq xs its/\s.heap.get? p=some {cls:=.type "list", data:=.seq its.toArray n}/\xs.length<=sizeLine:=by
 obtain⟨z,its,n,r,e⟩:=I.hok p _ h;exact⟨its,n,r,e,z⟩
theorem Inv.lstUpd{s:wG}{p:Addr}{xs ys:List V}{its its':List wF}{n':Nat}{f:Obj->Obj}(I:Inv X pins σ H s)(h:H p=some (.lst xs))
 (ho:s.heap.get? p=some {cls:=.type "list", data:=.seq its.toArray n})(hf:f {cls:=.type "list", data:=.seq its.toArray n}={cls:=.type "list", data:=.seq its'.toArray n' })(r:bq ys its')(hz:ys.length<=sizeLine)(t:Nat) :
 Inv X pins σ (upd H p (.lst ys)) {s with heap:=s.heap.update p f,toks:=t}:=by
 have e:(s.heap.update p f).get? p=some {cls:=.type "list", data:=.seq its'.toArray n' }:=by
  rw[yh f ho (by rw[hf]<;>rfl),hf]
 refine I.write (x:=p) (e:=p) (by rw[h];trivial) (.inl rfl) (fun b u hb q=>(yd _ _ (BG hb)).trans q) ⟨_,e⟩ ?_;exact⟨hz,its',n',r,e⟩
noncomputable def oo:V->V->V->Hp->(Hp->Prop)->Prop:=fun o i v H Q=>∃p xs k j,o = .ref p/\i = .int k/\H p=some (.lst xs)/\ixN xs.length k=some j/\Q (upd H p (.lst (xs.set j v)))
theorem cH:sV X oo:=by
 intro pins s σ H o i v ov iv u Q I ro ri rv h;obtain⟨p,xs,k,j,rfl,rfl,hp,hj,q⟩:=h;cases ro;obtain⟨t,rfl⟩:=ri;obtain⟨its,n,r,ho,hz⟩:=I.lst hp;obtain⟨h1,h2,h3,h4⟩:=jg hj;have hl:=r.length;have hn:=eV
 have I':Inv X pins σ (upd H p (.lst (xs.set j v))) {s with heap:=s.heap.update p (Af (·.setIfInBounds j u))} :=
  I.lstUpd hp ho (g7 its n j u) (r.set rv j) (by rw[List.length_set];exact hz) s.toks
 by_cases h0:0<=k
 · have hk:k.toNat=j:=by
     rw[BH h0 h4]at h1;exact xk h1
   exact W.ki_setAt ho h0 (by omega) (by rw[wN,<- hl];exact h4) (by rw[hk];exact⟨_,I',q⟩)
 · have hk:(k+(its.toArray.size:Int)).toNat=j:=by
     rw[B1 (by omega) h3]at h1;rw[wN,<- hl];exact xk h1
   exact W.ki_setBack ho (by omega) (by rw[wN,<- hl];exact h3) (by omega) (by rw[hk];exact⟨_,I',q⟩)
theorem eh(lo hi:Option Int)(n:Nat):(zK lo hi none n).1=((HT.sIx n 0 lo:Nat):Int)/\(zK lo hi none n).2.1=((HT.sIx n n hi:Nat):Int)/\(zK lo hi none n).2.2=1:=by
 refine⟨?_,?_,rfl⟩
 · cases lo with
   | none=>simp[zK,HT.sIx]
   | some i =>
     simp only[zK,HT.sIx,Option.getD_none,show(1:Int)>0 by decide,if_true];by_cases h:i<0
     · simp only[h,if_true]<;>omega
     · simp only[h,if_false]<;>omega
 · cases hi with
   | none=>simp[zK,HT.sIx]
   | some i =>
     simp only[zK,HT.sIx,Option.getD_none,show(1:Int)>0 by decide,if_true];by_cases h:i<0
     · simp only[h,if_true]<;>omega
     · simp only[h,if_false]<;>omega
theorem dC(its:List wF)(lo hi:Option Int):slicePick its.toArray lo hi none=((its.drop (HT.sIx its.length 0 lo)).take (HT.sIx its.length its.length hi-HT.sIx its.length 0 lo)).toArray:=by
 obtain⟨h1,h2,h3⟩:=eh lo hi its.toArray.size;unfold slicePick;rw[h1,h2,h3];simp only[sliceRange_one,pick_run,wN]<;>rfl
noncomputable def tJ(K:W.Frag):V->Option Int->Option Int->Hp->VK->Prop:=fun x lo hi H Q=>∃a xs,x = .ref a/\vR K H a xs/\∀p,H p=none->Q (.ref p) (upd H p (.lst (m_ xs lo hi)))
theorem lN:vS X (tJ X.K):=by
 intro pins s σ H x v vl vu lo hi sl Q I rx hs pl pu h;obtain⟨a,xs,rfl,hx,q⟩:=h;cases rx;obtain⟨its,r,ht,hz⟩:=I.list hx;have hlen:=r.length;refine⟨"list", _,slot_list_getitem.lookup,ht.isList.typeIs,?_⟩;refine wpAny_getItem_list_slice ht.isList hs pl pu .none (by simp) ?_ (by rw[wN]<;>omega);rw[dC,<- hlen];refine⟨.ref s.heap.objs.size,_,I.laid (t':=s.toks) (o:=.lst (m_ xs lo hi)) (fun b ob q=>wH _ q) (wM _) ?_,rfl,q _ (I.hok.fresh (wM _))⟩;exact⟨yI (fP xs lo hi) hz,_,0,(r.drop (HT.sIx xs.length 0 lo)).take (HT.sIx xs.length xs.length hi-HT.sIx xs.length 0 lo),wS _ rfl⟩
theorem bp:bX X (.builtin "len") (fun xs H Q=>∃p ys,xs=[.ref p]/\(vR X.K H p ys\/vQ X.K H p ys)/\Q (.int ys.length) H):=by
 intro pins s σ H xs us Q I r h;obtain⟨p,ys,rfl,hq,q⟩:=h;obtain⟨u,rfl,rx⟩:=vals1 r;cases rx;have hn:=eV;rcases hq with hq|hq
 · obtain⟨its,r',pl,hz⟩:=I.list hq;have hlen:=r'.length;exact Calls.call_len_list pl.isList (by simp only[wN]<;>omega) ⟨.int ys.length,H,I.tok _,⟨s.toks+1,by rw[wN,hlen]⟩,q⟩
 · obtain⟨its,r',pl,hz⟩:=I.tuple hq;have hlen:=r'.length;exact len_tuple pl (by simp only[wN]<;>omega) ⟨.int ys.length,H,I.tok _,⟨s.toks+1,by rw[wN,hlen]⟩,q⟩
theorem ff:bX X (.type "list") (fun xs H Q=>∃p ys,xs=[.ref p]/\(vR X.K H p ys\/vQ X.K H p ys)/\∀l,H l=none->Q (.ref l) (upd H l (.lst ys))):=by
 intro pins s σ H xs us Q I r h;obtain⟨p,ys,rfl,hq,q⟩:=h;obtain⟨u,rfl,rx⟩:=vals1 r;cases rx
 have fin:∀(its:List wF),bq ys its->ys.length<=sizeLine->∀(h':Heap)(c':Nat),(∀b o',s.heap.get? b=some o'->h'.get? b=some o') ->
  h'.get? s.heap.objs.size=some {cls:=.type "list", dict:=none,data:=.seq its.toArray c',slots:=#[]}->EP X pins σ Q (.ref s.heap.objs.size) {s with heap:=h' }:=fun its r' hz h' c' kp e =>
  ⟨.ref s.heap.objs.size,_,I.laid (t':=s.toks) kp (wM _) (show cw X.prog X.w _ h' _ (.lst ys)from⟨hz,its,c',r',e⟩),rfl,q _ (I.hok.fresh (wM _))⟩
 rcases hq with hq|hq
 · obtain⟨its,r',pl,hz⟩:=I.list hq;have hlen:=r'.length;obtain⟨o,ho,hc,n,hd⟩:=pl.isList;exact call_list_seq p (.inl rfl) ho hc hd (fun h' c' kp e=>fin its r' hz h' c' kp e) (by simp only[wN]<;>omega)
 · obtain⟨its,r',pl,hz⟩:=I.tuple hq;have hlen:=r'.length;obtain⟨o,ho,hc,n,hd⟩:=pl;exact call_list_seq p (.inr rfl) ho hc hd (fun h' c' kp e=>fin its r' hz h' c' kp e) (by simp only[wN]<;>omega)
theorem dU:bX X (.type "tuple") (fun xs H Q=>∃p ys,xs=[.ref p]/\((vR X.K H p ys/\∀l,H l=none->Q (.ref l) (upd H l (.tup ys)))\/(vQ X.K H p ys/\Q (.ref p) H))):=by
 intro pins s σ H xs us Q I r h;obtain⟨p,ys,rfl,h⟩:=h;obtain⟨u,rfl,rx⟩:=vals1 r;cases rx;rcases h with⟨hq,q⟩|⟨hq,q⟩
 · obtain⟨its,r',pl,hz⟩:=I.list hq;have hlen:=r'.length;refine call_tuple_list pl.isList (fun h' kp=>?_) (by simp only[wN]<;>omega);have I1:Inv X pins σ H {s with heap:=h' }:=I.kept (t':=s.toks) kp
   have I2:Inv X pins σ (upd H h'.objs.size (.tup ys)) {s with heap:=h'.push {cls:=.type "tuple", data:=.seq its.toArray}} :=
    I1.laid (t':=s.toks) (fun b o e=>wH _ e) (wM _) (show cw X.prog X.w _ _ _ (.tup ys)from⟨hz,its,r',jJ.new _ _⟩)
   exact⟨.ref h'.objs.size,_,I2,rfl,q _ (I1.hok.fresh (wM _))⟩
 · obtain⟨its,r',pl,hz⟩:=I.tuple hq;exact call_tuple_same pl ⟨.ref p,H,I,rfl,q⟩
noncomputable def uw(K:W.Frag)(T:String)(x:V)(H:Hp):Prop:=match x with
 | .str _=>T = "str"
 | .int _=>T = "int"
 | .ref p=>(T = "list" /\ ∃xs,vR K H p xs)\/(T = "tuple" /\ ∃xs,vQ K H p xs) \/
     (T = "dict" /\ ((∃kvs,H p=some (.dK kvs))\/∃kvs,H p=some (.dT kvs)))\/(T = "set" /\ ∃S n,H p=some (.set S n))
 | _=>False
theorem nU{s:wG}{T:String}{x:V}{v:wF}(I:Inv X pins σ H s)(r:RelV x v)(ty:uw X.K T x H) :
 s.TypeIs v T/\∀a,v = .ref a->∃ob,s.heap.get? a=some ob/\ob.dict=none:=by
 cases x with
 | str z =>
   obtain⟨t,rfl⟩:=r;cases(show T = "str" from ty)
   exact⟨typeIs_str s z t,fun _ e=>nomatch e⟩
 | int i =>
   obtain⟨t,rfl⟩:=r;cases(show T = "int" from ty)
   exact⟨typeIs_int s i t,fun _ e=>nomatch e⟩
 | ref p =>
   cases r;rcases ty with⟨rfl,xs,hq⟩|⟨rfl,xs,hq⟩|⟨rfl,hk⟩|⟨rfl,S,n,hk⟩
   · obtain⟨its,_,pl,_⟩:=I.list hq;refine⟨pl.isList.typeIs,fun a e=>?_⟩;cases e;obtain⟨o,n,e,c,hd,_⟩:=pl;exact⟨o,e,hd⟩
   · obtain⟨o,e1,e2,e3⟩:=I.tupleD hq;refine⟨⟨o,e1,e2⟩,fun a e=>?_⟩;cases e;exact⟨o,e1,e3⟩
   · have z:∃o,s.heap.get? p=some o/\o.ExactDict:=by
       rcases hk with⟨kvs,hk⟩|⟨kvs,hk⟩
       · obtain⟨_,_,_,_,o,_,_,e,ex,_⟩:=I.hok p _ hk;exact⟨o,e,ex⟩
       · obtain⟨_,_,_,_,o,_,_,e,ex,_⟩:=I.hok p _ hk;exact⟨o,e,ex⟩
     obtain⟨o,e,ex⟩:=z;refine⟨⟨o,e,ex.1⟩,fun a e2=>?_⟩;cases e2;exact⟨o,e,ex.2.1⟩
   · obtain⟨o,_,_,_,e,ex,_⟩:=I.hok p _ hk;refine⟨⟨o,e,ex.1⟩,fun a e2=>?_⟩;cases e2
     exact⟨o,e,ex.2.1⟩
 | _=>exact yk ty
noncomputable def uJ(K:W.Frag)(T:String)(r:V->List V->Hp->VK->Prop)(to:TE)(t:TA):TE:=fun σ H Q=>to σ H fun x H1=>uw K T x H1/\t σ H1 fun xs H2=>r x xs H2 Q
variable{o e:Expr}{es:List Expr}{to:TE}{t:TA}{name:Str}{apos cpos:Pos}{T id:String}{r:V->List V->Hp->VK->Prop}
theorem qC(pa:PlainAttrs T)(slot:Slot T name id)(hty:typeOf (.builtin id)=pure (.type "method_descriptor"))(hm:wa X id r)(ho:PE X o to)(ha:PA X (e::es) t)
 (hbase:autoParam (BS o name X.env (eval o X.env)=eval o X.env) æa._auto_1)
 (hfew:autoParam (((yR cpos (wR (e::es) X.env)).all (fun x=>!x.1)&&(backToKw cpos (Cd [] X.env)).all (fun x=>x.1.isSome)
  && decide ((e::es).length+([]:List BW).length+(if([]:List BW).isEmpty then 0 else 1)<30))=true) æa._auto_1)
 (hline:autoParam ((apos.endLine==cpos.line)=true) æa._auto_1)(hs:autoParam (wR (e::es) X.env=(false,eval e X.env)::wR es X.env) æa._auto_1)(hplain:autoParam ((yR cpos (wR es X.env)).any (·.1)=false) æa._auto_1) :
 PE X (.Call (.Attribute o name apos) (e::es) [] cpos) (uJ X.K T r to t):=by
 intro pins s σ H Q I h;refine wpAny_Call_method_late hbase hfew hline rfl (uC (ho pins s σ H _ I h) fun v s1 ⟨x,H1,I1,r1,ty,q1⟩=>?_);obtain⟨h1,h2⟩:=nU I1 r1 ty;refine⟨T,id,pa,slot,hty,h1,h2,?_⟩;have hA:=ha cpos pins s1 σ H1 _ I1 q1;rw[hs]at hA ⊢;refine Calls.callWith_builtin (by show(false||(yR cpos (wR es X.env)).any (·.1))=false;rw[hplain]<;>rfl) (Calls.evalArgs_plain ?_);exact uC hA fun us s2 ⟨vs,H2,I2,r2,q2⟩=>hm pins s2 σ H2 x vs v us Q I2 r1 r2 q2
end
noncomputable def wb(X:Cx)(id:String)(r:V->List V->Hp->VK->Prop):Prop :=
 ∀ (pins:List (Addr×Obj))(s:wG)(σ:St)(H:Hp)(x:V)(xs:List V)(v:wF)(us:List wF)(Q:VK),Inv X pins σ H s->RelV x v->bq xs us->r x xs H Q ->
   xq (xH X.prog X.w) X.A (call (.builtin id) (v::us)) (EP X pins σ Q) X.xe s
theorem bq.one:∀{x:V}{us:List wF},bq [x] us->∃u,us=[u]/\RelV x u
 | _,_,.cons r .nil=>⟨_,rfl,r⟩
section
variable{X:Cx}{pins:List (Addr×Obj)}{σ:St}{H:Hp}{s:wG}{l b:Addr}{xs ys zs:List V}
theorem Inv.lset{its its':List wF}{f:Array wF->Array wF}{t':Nat}(I:Inv X pins σ H s)(hH:H l=some (.lst xs))
 (e:s.heap.get? l=some {cls:=.type "list", data:=.seq its.toArray n})(hf:f its.toArray=its'.toArray)(hv:bq ys its')(hz:ys.length<=sizeLine) :
 Inv X pins σ (upd H l (.lst ys)) {s with heap:=s.heap.update l (Af f),toks:=t' }:=by
 have q:=PySem.IsL.update e f;rw[hf]at q;refine I.write (x:=l) (e:=l) (by rw[hH];exact trivial) (.inl rfl) (fun b' u hb hu=>(yd s.heap (Af f) (BG hb)).trans hu) ⟨_,q⟩ ?_;exact⟨hz,its',_,hv,q⟩
theorem Inv.lnew{its:List wF}{t':Nat}(I:Inv X pins σ H s)(hv:bq ys its)(hz:ys.length<=sizeLine) :
 Inv X pins σ (upd H s.heap.objs.size (.lst ys)) {s with heap:=s.heap.push {cls:=.type "list", data:=.seq its.toArray},toks:=t' } :=
 I.laid (fun _ _ q=>wH _ q) (wM _) ⟨hz,its,0,hv,wS _ rfl⟩
theorem Inv.fresh(I:Inv X pins σ H s):H s.heap.objs.size=none:=I.hok.fresh (wM _)
theorem Inv.lstM(I:Inv X pins σ H s)(hH:H l=some (.lst xs)):xs.length<=sizeLine/\∃(its:List wF)(n:Nat),bq xs its/\xs.length=its.length/\s.heap.get? l=some {cls:=.type "list", data:=.seq its.toArray n}:=by
 obtain⟨z,its,n,r,e⟩:=I.hok l _ hH;exact⟨z,its,n,r,r.length,e⟩
end
section
variable{X:Cx}
noncomputable def iK:V->List V->Hp->VK->Prop:=fun x vs H Q=>∃l xs y,x = .ref l/\vs=[y]/\H l=some (.lst xs)/\xs.length<sizeLine/\Q .non (upd H l (.lst (xs++[y])))
theorem eS:wb X "list.append" iK:=by
 intro pins s σ H x vs v us Q I rx rv h;obtain⟨l,xs,y,rfl,rfl,hH,hz,q⟩:=h;cases rx;obtain⟨u,rfl,ru⟩:=rv.one;obtain⟨z,its,n,r,hl,e⟩:=I.lstM hH;refine call_meets F.slot_list_append ⟨_,e,rfl⟩ F.entry_list_append (F.args_list_append_2 _ _) (PySem.list_append l its.toArray n u (by rw[wN];omega)) ⟨e,?_⟩;refine⟨.non,_,I.lset (its':=its++[u]) hH e (by simp) (r.append (.cons ru .nil)) ?_,rfl,q⟩;rw[xg,zT];omega
noncomputable def sC:R2:=fun x y H Q=>∃l b xs zs,x = .ref l/\y = .ref b/\H l=some (.lst xs)/\H b=some (.lst zs)/\xs.length+zs.length<=sizeLine/\∀p,H p=none->Q (.ref p) (upd H p (.lst (xs++zs)))
theorem oM:v9 X (Az .Add) sC:=by
 intro pins s σ H x y v u Q I rx ry h;obtain⟨l,b,xs,zs,rfl,rfl,hH,hB,hz,q⟩:=h;cases rx;cases ry;obtain⟨z,its,n,r,hl,e⟩:=I.lstM hH;obtain⟨z2,its2,n2,r2,hl2,e2⟩:=I.lstM hB;refine PySem.P.add_list e e2 ?_ (by rw[wN,wN];omega);have ea:its.toArray++its2.toArray=(its++its2).toArray:=by simp
 rw[ea];exact⟨.ref _,_,I.lnew (t':=s.toks) (r.append r2) (by rw[xg];omega),rfl,q _ I.fresh⟩
end
section
variable{prog:wZ}{w:xx}{A:xB}{E:wF->wG->Prop}{s:wG}
end
section
variable{X:Cx}
end
section
variable{κ:Type}[DecidableEq κ]
end
section
variable{P:wZ}{w:xx}{H:Hp}{h:Heap}{a:Addr}
end
section
variable{X:Cx}{pins:List (Addr×Obj)}{σ:St}{H:Hp}{s:wG}{a:Addr}{y v:V}{u r:wF}{o:Option V}{A:xB}{E:wF->wG->Prop}
end
section
variable{X:Cx}{pins:List (Addr×Obj)}{σ:St}{H:Hp}{s:wG}{a:Addr}{kvs:List (wc×V)}{k:wc}{u:wF}{A:xB}{E:wF->wG->Prop}
end
section
variable{X:Cx}{o i e value:Expr}{pos pos' tpos:Pos}{td ty tv:TE}
end
section
variable{X:Cx}{pos:Pos}
end
section
variable{X:Cx}{pins:List (Addr×Obj)}{σ:St}{H:Hp}{s:wG}{a:Addr}{y d:V}{u r:wF}{o:Option V}{A:xB}{E:wF->wG->Prop}
end
section
variable{X:Cx}{o e f:Expr}{apos cpos:Pos}{td ty tx:TE}
end
section
variable{X:Cx}{pins:List (Addr×Obj)}{σ:St}{H:Hp}{s:wG}{a:Addr}{kvs:List (wc×V)}{A:xB}{E:wF->wG->Prop}
end
section
variable{X:Cx}{pins:List (Addr×Obj)}{σ:St}{H:Hp}{s:wG}{a:Addr}{y:V}{u:wF}{A:xB}{E:wF->wG->Prop}
end
end L2
namespace Att
open PySem PySem.W PySem.Calls PyProof.Rows
theorem cV{P:Ck}:∀(ns:List Int)(vs:List wF),WellAll P h vs (ns.map WData.int)->y_ vs ns:=by
 intro ns
 induction ns with
 | nil =>
   intro vs w;rw[AB]at w;cases w
   exact .nil
 | cons n ns ih =>
   intro vs w;rw[x9]at w
   cases w with
   | cons a b =>
     cases a;exact .cons _ _ (ih _ b)
theorem iE{l:Cm}(hn:l.most=some n){P:Ck}{args:List WData}{vals:List wF}
 (hpre:l.row.toRowW.claim.pre args=true)(hwl:WellAll P h vals args) :
 ∃a vs ns,vals=[Bd a]/\args=[WData.list (ns.map WData.int)]/\h.get? a=some {cls:=.type "list", data:=.seq vs.toArray}/\y_ vs ns/\ns.length<=n:=by
 have hsh:WShape.hasAll [] args [.list .int]=true:=(pre_splitW hpre).1;have hc:l.pre.holds [] {args:=args}=true:=(pre_splitW hpre).2;obtain⟨d,r,rfl,h1,h2⟩:=hasAllW_cons hsh;obtain rfl:=hasAllW_nil h2;obtain⟨xs,rfl,h3⟩:=hasW_list h1;obtain⟨ns,rfl⟩:=items_int h3
 have hlen:ns.length<=n:=by
  unfold Cm.pre at hc
  have h4:(WTm.not (.lt (.lit (.int (n:Int))) (.len (.arg 0)))).holds [] {args:=[.list (ns.map .int)]}=true:=by
   have h4:=(holds_andW hc).1;rw[hn]at h4;exact h4
  have h5:=condW_of h4 (w_not (w_lt w_lit (w_len_list (w_arg rfl))));rw[wP]at h5;refine Nat.le_of_not_lt fun q=>?_;have q':(n:Int)<((ns.length:Nat):Int):=by omega
  first
   | (rw[decide_eq_true q']at h5;exact absurd h5 (by decide))
   | (simp at h5;omega)
 cases hwl with
 | cons w1 w2 =>
   cases w2
   cases w1 with
   | list ho hall=>exact⟨_,_,ns,rfl,rfl,ho,cV ns _ hall,hlen⟩
theorem iP(l:Cm)(args:List WData):l.row.toRowW.claim.post args (.bool true) args=true :=
 postW_of (r:=l.row.toRowW) (X:=(true==true))
  (show WShape.has [] (.bool true) .bool=true by first|rfl|decide|simp[WShape.has,WShape.arms,WShape.armsAll])
  (show(WTm.eq .res (.lit (.bool true))).value [] {args:=args,res:=some (.bool true),after:=args}=some (.bool (true==true))from w_eq_bool (w_res rfl) w_lit) rfl
theorem attach_call{l:Cm}{q:wZ}{XP:(Str->Option wF)->Heap->Prop}{YP:xx->Heap->Prop}{d:DefRec}
 (hn:l.most=some n)(hdf:d.params.defaults=[])
 (call:∀(w:xx)(s₀ s₁:wG)(mg mb:Str->Option wF)(fa:Addr)(o:Obj)(pm cd doc:wF)(a:Addr)(vs:List wF)(ns:List Int),
  Ground q loose [] XP w s₀ mg mb s₁.heap->YP w s₁.heap ->
  s₁.heap.get? fa=some o->o.data = .func (docDef d.name d.params d.body d.scope pm cd doc)->s₁.heap.CodeRec cd d.name->mg d.name=some (.ref fa) ->
  s₁.heap.get? a=some {cls:=.type "list", data:=.seq vs.toArray}->y_ vs ns->ns.length<=n->s₁.gens = #[] ->
  Al (xH l.prog w) BX (.call (.ref fa) ⟨[.ref a],[]⟩) (fun r s'=>r = .ok (.ret (.bool true))/\OldK s₁.heap s'.heap/\s'.os=s₁.os/\BF s'.gens) s₁) :
 WalkO q loose XP YP l.row.toRowW d [] (fun f vs=>PySem.call f vs):=by
 intro w s₀ s₁ mg mb G Y fa o pm cd doc dV kV ho hd hcd hD hmg hg args vals as hpre hlay hrd hwl hlo;obtain rfl:dV = .none:=Dflts.none hD hdf;obtain rfl:kV = .none:=Dflts.noKw hD;obtain⟨a,vs,ns,rfl,rfl,hobj,hints,hlen⟩:=iE hn hpre hwl;refine enter_call (zS (call w s₀ s₁ mg mb fa o pm cd doc a vs ns G Y ho (fd_plain hd) hcd hmg hobj hints hlen hg) fun r s' hq=>?_);obtain⟨rfl,h2,h3,h4⟩:=hq;exact⟨.inl ⟨.bool true,.bool true,[],rfl,fun _=>rfl,.bool true,iP l _,fun _=>⟨AZ.nil,fun _ hm=>(nomatch hm)⟩⟩,h2,h3,h4⟩
section
variable{prog:wZ}{w:xx}{A:xB}{E:wF->wG->Prop}{s:wG}{K:Frag}
end
end Att
namespace L2
theorem d7:∀{vs:List wF}{ns:List Int},y_ vs ns->bq (ns.map V.int) vs
 | _,_,.nil=>.nil
 | _,_,.cons n t h=>.cons ⟨t,rfl⟩ (d7 h)
noncomputable def qZ(H:Hp):Prop:=∀b,H b=none\/∃o xs,H b=some (.frz o (.lst xs))
theorem kj{P:wZ}{w:xx}{K:W.Frag}{mg mb:Str->Option wF}{CX:wv}{fa:Addr}{fd:yM}{sp:Sp}{s₁:wG}{vs:List wF}
 (KX:K.In s₁.heap)(hns:s₁.heap.Ns xt mg)(hb:s₁.heap.Ns builtinsNs mb)(hbb:∀x:Str,x ≠ "__name__" -> mb x=zx x)(hlim:s₁.heap.NoLimit)(hg:s₁.gens = #[])
 (ha:s₁.heap.get? a=some {cls:=.type "list", data:=.seq vs.toArray})(hi:y_ vs ns)(hl:ns.length<=sizeLine)(hr:Room k BX)
 (F:∀base:Heap,K.In base->base.Ns xt mg->FnOk P w K mg base CX k fa fd [x] sp)(hbind:∀(s:wG)(u:wF),Cc s fd ⟨[u],[]⟩ [(x,u)])
 (hsp:∀H:Hp,qZ H->vR K H a (ns.map V.int)->sp [.ref a] H (fun v _=>v = .bl true) fun _ _ _=>False)
 (hCX:∀H e s',CX [] H s₁ (fun _ _ _=>False) e s'->False) :
 Al (xH P w) BX (.call (.ref fa) ⟨[.ref a],[]⟩) (fun r s'=>r = .ok (.ret (.bool true))/\OldK s₁.heap s'.heap/\s'.os=s₁.os/\BF s'.gens) s₁:=by
 have rv:=d7 hi;have lenV:=hi.length
 have core:∀H:Hp,qZ H->vR K H a (ns.map V.int)->wq P w H s₁.heap->(∀b,H b≠none->b=a)->(H a≠none->K.lookup a=none) ->
  Al (xH P w) BX (.call (.ref fa) ⟨[.ref a],[]⟩) (fun r s'=>r = .ok (.ret (.bool true))/\OldK s₁.heap s'.heap/\s'.os=s₁.os/\BF s'.gens) s₁:=by
  intro H hO hS hok hA hK;have base_of:∀{b:Addr}{o:Obj},s₁.heap.get? b=some o->H b=none->(ku s₁.heap H).get? b=some o:=fun e n=>kr e n
  have noA:∀{b:Addr}{o:Obj}{es:Array DictEntry}{ep:Nat},s₁.heap.get? b=some o->o.data = .dict es ep->H b=none:=fun{b o es ep} e d=>by
   cases q:H b with
   | none=>rfl
   | some u =>
     have e':b=a:=hA b (by rw[q];simp);subst e';rw[ha]at e;cases e;have d':Data.seq vs.toArray _=Data.dict es ep:=d;cases d'
  have nsK:∀{b:Addr}{m:Str->Option wF},s₁.heap.Ns b m->(ku s₁.heap H).Ns b m:=fun{b m} ⟨o,es,ep,e,d,r⟩=>⟨o,es,ep,base_of e (noA e d),d,r⟩
  have hKb:K.In (ku s₁.heap H):=fun b o e=>base_of (KX b o e) (by
   cases q:H b with
   | none=>rfl
   | some u =>
     have e':b=a:=hA b (by rw[q];simp);subst e'
     rw[hK (by rw[q];simp)]at e;cases e)
  have hM:Mod K mg (ku s₁.heap H):=⟨hKb,nsK hns,⟨mb,nsK hb,hbb⟩,let ⟨mc,h1,h2⟩:=hlim;⟨mc,nsK h1,h2⟩⟩;have e0:Env0 P w K mg (ku s₁.heap H) BX [] s₁ H:=⟨rfl,hM,fun b o e=>mE e,Nat.le_of_eq (jk _ _),trivial,fun b hb=>absurd (show b∈([]:List Addr)from hb) (by simp),hok,.of_eq hg⟩;refine zS ((F _ hKb (nsK hns)).run BX [] s₁ H ⟨[.ref a],[]⟩ [.ref a] [.ref a] _ _ hr e0 (hbind s₁ (.ref a)) (.cons rfl .nil) (hsp H hO hS)) fun r s' h=>?_
  cases r with
  | error e=>exact(hCX H e s' h).elim
  | ok fl =>
    cases fl with
    | next=>exact yk h
    | brk=>exact yk h
    | cont=>exact yk h
    | ret u =>
      obtain⟨v,H',os,bare,un,hok',r',q⟩:=h;have q':v = .bl true:=q;subst q';obtain rfl:u=wF.bool true:=r';refine⟨rfl,OldK.of_keep fun b o e=>?_,os,bare⟩
      cases q:H b with
      | none=>exact un.keep b o e q (by intro z;exact absurd (show b∈([]:List Addr)from z) (by simp)) (by simp)
      | some u =>
        rcases hO b with z|⟨ob,xs,z⟩
        · rw[q]at z;cases z
        · have z2:=un.frzs b ob _ z;obtain⟨e1,_⟩:=hok b _ z;obtain⟨e2,_⟩:=hok' b _ z2;rw[e]at e1;cases e1;exact e2
 cases hk:K.lookup a with
 | some o =>
   have e:=KX a o hk;rw[ha]at e;cases e
   refine core (fun _=>none) (fun _=>.inl rfl) (.inr ⟨_,vs.toArray,_,hk,rfl,rfl,rfl,by rw[wN,lenV];exact hl,by simpa using rv⟩) (fun b u z=>by have z':(none:Option HO)=some u:=z;cases z') (fun b z=>absurd rfl z) fun z=>absurd rfl z
 | none =>
   refine core (fun b=>if b=a then some (.frz {cls:=.type "list", data:=.seq vs.toArray} (.lst (ns.map V.int)))else none) (fun b=>?_) (.inl (.inr ⟨{cls:=.type "list", data:=.seq vs.toArray},if_pos rfl⟩)) (fun b u z=>?_) (fun b z=>?_) fun _=>hk
   · by_cases hb:b=a
     · exact .inr ⟨_,_,if_pos hb⟩
     · exact .inl (if_neg hb)
   · by_cases hb:b=a
     · have z':=(if_pos hb).symm.trans z;cases z';subst hb;exact⟨ha,by rw[wP];exact hl,vs,_,rv,ha⟩
     · have z':=(if_neg hb).symm.trans z;cases z'
   · by_cases hb:b=a
     · exact hb
     · exact absurd (if_neg hb) z
theorem walk_of{l:W.OpenLaw}{q:wZ}{XP:(Str->Option wF)->Heap->Prop}{YP:xx->Heap->Prop}{d:DefRec}{K:Ck->W.Frag}{CX:xx->wv}{sp:xx->Sp}
 (hn:l.most=some n)(hn2:n<=sizeLine)(hdf:d.params.defaults=[])(hr:Room k BX)
 (hY:∀(w:xx)(h:Heap),YP w h->(K w.params).In h)
 (F:∀(w:xx)(mg:Str->Option wF)(fa:Addr)(h:Heap),(K w.params).In h->h.Ns xt mg->mg d.name=some (.ref fa) ->
  ∃ fd:yM,(∀(s:wG)(u:wF),Cc s fd ⟨[u],[]⟩ [(x,u)]) /\
    ∀base:Heap,(K w.params).In base->base.Ns xt mg->FnOk l.prog w (K w.params) mg base (CX w) k fa fd [x] (sp w))
 (hsp:∀(w:xx)(H:Hp)(a:Addr)(ns:List Int),ns.length<=n->qZ H->vR (K w.params) H a (ns.map V.int)->sp w [.ref a] H (fun v _=>v = .bl true) fun _ _ _=>False)
 (hCX:∀(w:xx)(H:Hp)(s:wG)(e:wF)(s':wG),CX w [] H s (fun _ _ _=>False) e s'->False) :
 W.WalkO q loose XP YP l.row.toRowW d [] (fun f vs=>PySem.call f vs):=by
 refine Att.attach_call hn hdf fun w s₀ s₁ mg mb fa o pm cd doc a vs ns G Y ho hd hcd hmg hobj hints hlen hg=>?_;have KX:=hY w _ Y;obtain⟨fd,hb,hF⟩:=F w mg fa _ KX G.T.g hmg;exact kj KX G.T.g G.T.b G.T.builtins G.T.nolimit hg hobj hints (yI hlen hn2) hr hF hb (fun H hO hS=>hsp w H a ns hlen hO hS) fun H e s'=>hCX w H s₁ e s'
abbrev ww:wv:=fun _ _ _ _ _ _=>False
abbrev E0:XK:=fun _ _ _=>False
theorem oH{X:Cx}:jI ww X E0:=fun _ _ _ _ _ _ _ h=>h.elim
structure Fun (K:W.Frag) (x qual:Str) (st:Stmt) (f:Addr) (fd:yM):Prop where
 ex:∃(oc:wF)(od:Option Addr)(kV doc pm:wF)(an:Option Addr)(cdv ct:wF)(osl:Array (Option wF)),
  fd=W.fnOf x qual (defArgs st) (defBody st) (defScope st) .none kV doc pm an cdv ct/\K.lookup f=some ⟨oc,od,.func fd,osl⟩/\W.codeIn K cdv qual=true
 kp:W.keepIn K (.ref f)=true
section
variable{P:wZ}{w:xx}{K:W.Frag}{mg:Str->Option wF}{base:Heap}
theorem Fun.ok{st:Stmt}{fd:yM}{sp:Sp}(F:Fun K x qual st f fd)(S:FnScope N ps (defScope st))(len:∀vs H Q E,sp vs H Q E->vs.length=ps.length)
 (hbody:∀(cdv:wF)(A:xB)(outer:List Env)(s:wG)(H:Hp)(vs:List V)(Q:VK)(E:XK),Room k (A.deeper (A7 qual (defScope st) s.heap.objs.size f cdv))->sp vs H Q E ->
  ∃t,vX (jL ww P w K mg base N qual (defScope st) f cdv A outer s H E).nox (defBody st) t/\t {nx:=fun _ H'=>Q .non H',rt:=Q} (start N vs) H):FnOk P w K mg base ww (k+1) f fd ps sp:=by
 obtain⟨oc,od,kV,doc,pm,an,cdv,ct,osl,rfl,lk,hcd⟩:=F.ex;refine qV lk hcd S len fun A outer s H vs Q E hr hsp=>?_;obtain⟨t,h,q⟩:=hbody cdv A outer s H vs Q E hr hsp;exact⟨t,h.nox,q⟩
theorem Fun.binds{st:Stmt}{fd:yM}(F:Fun K x qual st f fd)
 (h:∀(kV doc pm:wF)(an:Option Addr)(cdv ct:wF)(us:List wF),us.length=ps.length->bindArgs (W.fnOf x qual (defArgs st) (defBody st) (defScope st) .none kV doc pm an cdv ct) ⟨us,[]⟩=pure (ps.zip us)):Binds K fd ps []:=by
 obtain⟨oc,od,kV,doc,pm,an,cdv,ct,osl,rfl,lk,hcd⟩:=F.ex;exact .all (h kV doc pm an cdv ct)
theorem jn{st:Stmt}{oc:wF}{od an:Option Addr}{osl:Array (Option wF)}{kV doc pm cdv ct:wF}(l:K.lookup f=some ⟨oc,od,.func (W.fnOf x qual (defArgs st) (defBody st) (defScope st) .none kV doc pm an cdv ct),osl⟩)
 (c:W.codeIn K cdv qual=true)(k:W.keepIn K (.ref f)=true):Fun K x qual st f (W.fnOf x qual (defArgs st) (defBody st) (defScope st) .none kV doc pm an cdv ct):=⟨⟨oc,od,kV,doc,pm,an,cdv,ct,osl,rfl,l,c⟩,k⟩
end
section
variable{X:Cx}
theorem pv(i:Nat)(hN:autoParam (X.N[i]?=some x) æa._auto_1)(hv:autoParam (vH X.env.scope x) æg._auto_1)(hd:autoParam ((x==("__debug__" : Str))=false) æb._auto_1)
 (hcd:autoParam ((x==("__classdict__" : Str))=false) æb._auto_1):PE X (.Name x pos) (sv i):=iR hN hv hd hcd
end
noncomputable def aS(H H':Hp):Prop:=∀b o,H b=some o->H' b=some o
theorem aS.refl(H:Hp):aS H H:=fun _ _ h=>h
theorem aS.trans{H1 H2:Hp}(a:aS H H1)(b:aS H1 H2):aS H H2:=fun c o h=>b c o (a c o h)
theorem aS.free(e:aS H H'){l:Addr}(h:H' l=Option.none):H l=Option.none:=by
 cases q:H l with
 | none=>rfl
 | some o =>
   rw[e l o q]at h;cases h
section
variable{X:Cx}
end
section
variable{κ:Type}[DecidableEq κ]
end
end L2
namespace L2.VL
noncomputable def RO(F:Hp)(o:HO):Prop:=∃(c:Addr)(ns:List Int)(a l t:Int),o = .lst [.ref c,.int a,.int l,.int t]/\F c=some (.lst (ns.map V.int))/\ns.length<=63/\0<=a/\0<=l/\0<=t
theorem RO.mono{o:HO}(s:aS F F')(h:RO F o):RO F' o:=by
 obtain⟨c,ns,a,l,t,e,q,r⟩:=h;exact⟨c,ns,a,l,t,e,s _ _ q,r⟩
mutual
inductive Rep (K:W.Frag) (F:Hp):V->wD->Prop
 | non:Rep K F .non .none
 | bl (b:Bool):Rep K F (.bl b) (.bool b)
 | int (i:Int):Rep K F (.int i) (.int i)
 | str (x:Str):Rep K F (.str x) (.str x)
 | tup {a:Addr} {vs:List V} {ds:List wD}:vQ K F a vs->Reps K F vs ds->Rep K F (.ref a) (.tuple ds)
 | lst {a:Addr} {vs:List V} {ds:List wD}:F a=some (.lst vs)->Reps K F vs ds->Rep K F (.ref a) (.list ds)
inductive Reps (K:W.Frag) (F:Hp):List V->List wD->Prop
 | nil:Reps K F [] []
 | cons {v:V} {d:wD} {vs:List V} {ds:List wD}:Rep K F v d->Reps K F vs ds->Reps K F (v::vs) (d::ds)
end
theorem eI{K:W.Frag}{xs:List V}(e:aS H H')(h:vQ K H a xs):vQ K H' a xs:=by
 rcases h with(h|⟨o,h⟩)|h
 · exact .inl (.inl (e _ _ h))
 · exact .inl (.inr ⟨o,e _ _ h⟩)
 · exact .inr h
theorem oi{K:W.Frag}{xs:List V}(e:aS H H')(h:vR K H a xs):vR K H' a xs:=by
 rcases h with(h|⟨o,h⟩)|h
 · exact .inl (.inl (e _ _ h))
 · exact .inl (.inr ⟨o,e _ _ h⟩)
 · exact .inr h
mutual
theorem Rep.mono{K:W.Frag}{F F':Hp}(s:aS F F'):∀{v:V}{d:wD},Rep K F v d->Rep K F' v d
 | _,_,.non=>.non
 | _,_,.bl b=>.bl b
 | _,_,.int i=>.int i
 | _,_,.str x=>.str x
 | _,_,.tup h r=>.tup (eI s h) (Reps.mono s r)
 | _,_,.lst h r=>.lst (s _ _ h) (Reps.mono s r)
theorem Reps.mono{K:W.Frag}{F F':Hp}(s:aS F F'):∀{vs:List V}{ds:List wD},Reps K F vs ds->Reps K F' vs ds
 | _,_,.nil=>.nil
 | _,_,.cons h r=>.cons (Rep.mono s h) (Reps.mono s r)
end
theorem Reps.length{K:W.Frag}{F:Hp}:∀{vs:List V}{ds:List wD},Reps K F vs ds->vs.length=ds.length
 | _,_,.nil=>rfl
 | _,_,.cons _ r=>by simp[Reps.length r]
theorem Reps.get{K:W.Frag}{F:Hp}:∀{vs:List V}{ds:List wD}{i:Nat}{d:wD},Reps K F vs ds->ds[i]?=some d->∃v,vs[i]?=some v/\Rep K F v d
 | _,_,_,_,.nil,e=>by simp at e
 | _,_,0,_,.cons h _,e=>by simp at e;subst e;exact⟨_,rfl,h⟩
 | _,_,i+1,d,.cons _ r,e=>by
   obtain⟨v,h1,h2⟩:=Reps.get (i:=i) (d:=d) r (by simpa using e);exact⟨v,by simpa using h1,h2⟩
theorem Reps.append{K:W.Frag}{F:Hp}:∀{vs us:List V}{ds es:List wD},Reps K F vs ds->Reps K F us es->Reps K F (vs++us) (ds++es)
 | _,_,_,_,.nil,s=>s
 | _,_,_,_,.cons h r,s=>.cons h (Reps.append r s)
theorem Reps.snoc{K:W.Frag}{ds:List wD}{d:wD}(r:Reps K F vs ds)(h:Rep K F v d):Reps K F (vs++[v]) (ds++[d]):=r.append (.cons h .nil)
theorem Reps.nil_iff{K:W.Frag}(h:Reps K F vs []):vs=[]:=by cases h;rfl
mutual
theorem Rep.reads{X:Cx}{pins:List (Addr×Obj)}{σ:St}{H F:Hp}{s:wG}(I:Inv X pins σ H s)(sub:aS F H):∀{v:V}{d:wD},Rep X.K F v d->∀u,RelV v u->∃as,Reads s.heap u d as
 | _,_,.non,u,r=>by cases(show u=zv from r);exact⟨_,.none⟩
 | _,_,.bl b,u,r=>by cases(show u=wF.bool b from r);exact⟨_,.bool b⟩
 | _,_,.int i,u,r=>by obtain⟨t,q⟩:=(show ∃t,u=BQ i t from r);cases q;exact⟨_,.int i t⟩
 | _,_,.str x,u,r=>by obtain⟨t,q⟩:=(show ∃t,u=wF.str x t from r);cases q;exact⟨_,.str x t⟩
 | _,_,.tup (a:=a) h q,u,r=>by
   cases(show u=Bd a from r);obtain⟨its,rv,⟨o,h1,h2,n,h3⟩,hz⟩:=I.tuple (eI sub h);obtain⟨as,ra⟩:=Reps.reads I sub q its rv
   exact⟨_,.tuple h1 h2 h3 (by simpa using ra)⟩
 | _,_,.lst (a:=a) h q,u,r=>by
   cases(show u=Bd a from r);obtain⟨its,rv,p,hz⟩:=I.list (.inl (.inl (sub _ _ h)));obtain⟨o,h1,h2,n,h3⟩:=p.isList;obtain⟨as,ra⟩:=Reps.reads I sub q its rv;exact⟨_,.list h1 h2 h3 (by simpa using ra)⟩
theorem Reps.reads{X:Cx}{pins:List (Addr×Obj)}{σ:St}{H F:Hp}{s:wG}(I:Inv X pins σ H s)(sub:aS F H):∀{vs:List V}{ds:List wD},Reps X.K F vs ds->∀us,bq vs us->∃as,ReadsAll s.heap us ds as
 | _,_,.nil,us,r=>by cases r;exact⟨_,.nil⟩
 | _,_,.cons h q,us,r=>by
   cases r with
   | cons r1 r2 =>
     obtain⟨as,a1⟩:=Rep.reads I sub h _ r1;obtain⟨bs,a2⟩:=Reps.reads I sub q _ r2;exact⟨_,.cons a1 a2⟩
end
structure ReelOk (F H:Hp) (r:Addr):Prop where
 ex:∃o,H r=some o/\RO F o
noncomputable def vU(rl:Option Addr)(F H:Hp):Prop:=∀r,rl=some r->F r=none/\ReelOk F H r
theorem vU.live(h:vU rl F H)(e:rl=some r):∃o,H r=some o:=by
 obtain⟨_,⟨o,q,_⟩⟩:=h r e;exact⟨_,q⟩
structure Grow (rl:Option Addr) (F H F' H':Hp):Prop where
 same:∀b o,H b=some o->rl≠some b->H' b=some o
 fs:aS F F'
 sub:aS F' H'
 old:∀b o,H b=some o->F' b=F b
 reel:vU rl F' H'
theorem Grow.refl{rl:Option Addr}{F H:Hp}(s:aS F H)(r:vU rl F H):Grow rl F H F H:=⟨fun _ _ e _=>e,.refl F,s,fun _ _ _=>rfl,r⟩
theorem Grow.live{rl:Option Addr}{F H F' H':Hp}(g:Grow rl F H F' H'){b:Addr}{o:HO}(e:H b=some o):∃o',H' b=some o':=by
 by_cases h:rl=some b
 · exact g.reel.live h
 · exact⟨o,g.same b o e h⟩
theorem Grow.trans{rl:Option Addr}{F H F1 H1 F2 H2:Hp}(a:Grow rl F H F1 H1)(b:Grow rl F1 H1 F2 H2):Grow rl F H F2 H2 :=
 ⟨fun c o e n=>b.same c o (a.same c o e n) n,a.fs.trans b.fs,b.sub,fun c o e=>by obtain⟨o',e'⟩:=a.live e;rw[b.old c o' e',a.old c o e],b.reel⟩
theorem Grow.freeB(g:Grow rl F H F' H'){b:Addr}(e:H' b=none):H b=none:=by
 cases q:H b with
 | none=>rfl
 | some o=>obtain⟨o',e'⟩:=g.live q;rw[e]at e';cases e'
theorem Grow.laid{o:HO}(s:aS F H)(r:vU rl F H)(n:H a=none):Grow rl F H F (upd H a o):=by
 have ne:∀b u,H b=some u->b≠a:=fun b u e=>ar e n;refine⟨fun b u e _=>by rw[upd_ne (ne b u e)];exact e,.refl F,fun b u e=>by rw[upd_ne (ne b u (s b u e))];exact s b u e,fun _ _ _=>rfl,fun q e=>?_⟩;obtain⟨z,⟨u,h1,h2⟩⟩:=r q e;exact⟨z,⟨u,by rw[upd_ne (ne _ _ h1)];exact h1,h2⟩⟩
theorem Grow.data{o:HO}(s:aS F H)(r:vU rl F H)(n:H a=none):Grow rl F H (upd F a o) (upd H a o):=by
 have ne:∀b u,H b=some u->b≠a:=fun b u e=>ar e n;have neF:∀b u,F b=some u->b≠a:=fun b u e=>ne b u (s b u e);refine⟨fun b u e _=>by rw[upd_ne (ne b u e)];exact e,fun b u e=>by rw[upd_ne (neF b u e)];exact e,fun b u e=>?_,fun b u e=>by rw[upd_ne (ne b u e)],fun q e=>?_⟩
 · by_cases hb:b=a
   · subst hb;rw[ak]at e ⊢;exact e
   · rw[upd_ne hb]at e ⊢;exact s b u e
 · obtain⟨z,⟨u,h1,h2⟩⟩:=r q e;exact⟨by rw[upd_ne (ne _ _ h1)];exact z,⟨u,by rw[upd_ne (ne _ _ h1)];exact h1,RO.mono (fun b u e=>by rw[upd_ne (neF b u e)];exact e) h2⟩⟩
theorem Grow.freeze{F1 H1:Hp}{o:HO}(g:Grow rl F H F1 H1)(n:H a=none)(e:H1 a=some o)(f:F1 a=none)(hr:rl≠some a):Grow rl F H (upd F1 a o) H1:=by
 have neF:∀b u,F1 b=some u->b≠a:=fun b u q z=>by subst z;rw[f]at q;cases q
 refine⟨g.same,fun b u q=>by rw[upd_ne (neF b u (g.fs b u q))];exact g.fs b u q,fun b u q=>?_,fun b u q=>by rw[upd_ne (ar q n)];exact g.old b u q,fun q z=>?_⟩
 · by_cases hb:b=a
   · subst hb;rw[ak]at q;rw[e];exact q
   · rw[upd_ne hb]at q;exact g.sub b u q
 · obtain⟨z1,⟨u,h1,h2⟩⟩:=g.reel q z;exact⟨by rw[upd_ne (fun y=>hr (by rw[<- y];exact z))];exact z1,⟨u,h1,RO.mono (fun b u e=>by rw[upd_ne (neF b u e)];exact e) h2⟩⟩
inductive W where
 | d (x:wD)
 | ml (xs:List wD)
 | pk (xs:List wD)
 | reel
 | vv (v:V)
 | md (kvs:List (List wc×wD))
 | mk (kvs:List (wc×wD))
 | xm (kvs:List (List Int×wD))
 | nt (ds:List wD)
 | lk
 | sc (ns:List Int)
 | fd (kvs:List (wc×wD))
 | xr (kvs:List (List Int×wD))
 | fw (kvs:List (wc×wD))
 | ft (kvs:List (List wc×wD))
 | xc (x:Str) (fs:List (Str×wD))
 | dp (kvs:List (wc×wD)) (x:wD)
noncomputable def W.dat:W->Option wD
 | .d x=>some x
 | .ml xs=>some (.list xs)
 | .pk xs=>some (.list xs)
 | .nt ds=>some (.tuple ds)
 | _=>none
noncomputable def W.peek:W->W
 | .ml xs=>.pk xs
 | .md _=>.lk
 | .mk _=>.lk
 | .xm _=>.lk
 | w=>w
noncomputable def W.own:W->Bool
 | .ml _=>true
 | .md _=>true
 | .mk _=>true
 | .xm _=>true
 | _=>false
abbrev KD(K:W.Frag)(F:Hp):List (List wc×V)->List (List wc×wD)->Prop:=zw fun p q=>p.1=q.1/\Rep K F p.2 q.2
abbrev we(K:W.Frag)(F:Hp):List (wc×V)->List (wc×wD)->Prop:=zw fun p q=>p.1=q.1/\Rep K F p.2 q.2
abbrev wd(K:W.Frag)(F:Hp):List (Str×V)->List (Str×wD)->Prop:=zw fun p q=>p.1=q.1/\Rep K F p.2 q.2
noncomputable def q9(e C dx:Addr):Heap->Prop:=fun h=>∃oe vs,h.get? e=some oe/\oe.cls = .ref C/\oe.dict=some dx/\oe.data = .fields vs
noncomputable def p4(K:W.Frag)(rl:Option Addr)(F H:Hp)(v:V)(kvs:List (List wc×wD)):Prop:=∃a us,v = .ref a/\F a=none/\rl≠some a/\H a=some (.dT us)/\KD K F us kvs
noncomputable def wu(a:Addr)(xs:List (List Int×Addr×wF)):Heap->Prop:=fun h=>∃o es ep,h.get? a=some o/\o.ExactDict/\o.data = .dict es ep/\(∀(P:wZ)(w:xx),es.toList=xs.map (entryOfKey (tupleKind (Ah P w))))/\(xs.map (·.1)).Nodup/\(a==sysModules)=false/\xs.length<=sizeLine
noncomputable def KX(K:W.Frag)(F:Hp):List (List Int×Addr×wF)->List (List Int×wD)->Prop:=zw fun p q=>p.1=q.1/\vQ K F p.2.1 (p.1.map V.int)/\∃v,RelV v p.2.2/\Rep K F v q.2
theorem KX.mono{K:W.Frag}{F F':Hp}{xs:List (List Int×Addr×wF)}{kvs:List (List Int×wD)}(h:KX K F xs kvs)(s:aS F F'):KX K F' xs kvs:=zw.mapP h fun _ _ z=>⟨z.1,eI s z.2.1,let ⟨v,r,q⟩:=z.2.2;⟨v,r,q.mono s⟩⟩
noncomputable def pY(K:W.Frag)(rl:Option Addr)(F H:Hp)(v:V)(kvs:List (List Int×wD)):Prop:=∃a xs,v = .ref a/\F a=none/\rl≠some a/\H a=some (.ext (wu a xs))/\KX K F xs kvs
noncomputable def pZ(K:W.Frag)(rl:Option Addr)(F H:Hp)(v:V)(kvs:List (wc×wD)):Prop:=∃a us,v = .ref a/\F a=none/\rl≠some a/\H a=some (.dK us)/\we K F us kvs
noncomputable def hZ(K:W.Frag)(rl:Option Addr)(F H:Hp)(v:V)(xs:List wD):Prop:=∃a vs,v = .ref a/\F a=none/\rl≠some a/\H a=some (.lst vs)/\Reps K F vs xs
noncomputable def ce(K:W.Frag)(rl:Option Addr)(F H:Hp)(v:V):W->Prop
 | .d x=>Rep K F v x
 | .ml xs=>hZ K rl F H v xs
 | .pk xs=>hZ K rl F H v xs
 | .reel=>∃r,rl=some r/\v = .ref r
 | .vv u=>v=u
 | .md kvs=>p4 K rl F H v kvs
 | .mk kvs=>pZ K rl F H v kvs
 | .xm kvs=>pY K rl F H v kvs
 | .nt ds=>∃a vs,v = .ref a/\F a=some (.tup vs)/\Reps K F vs ds
 | .lk=>True
 | .sc ns=>∃a,v = .ref a/\vR K F a (ns.map V.int)
 | .fd kvs=>∃a us,v = .ref a/\F a=some (.dK us)/\we K F us kvs
 | .xr kvs=>∃a us,v = .ref a/\F a=some (.ext (wu a us))/\KX K F us kvs
 | .fw kvs=>∃a us o,v = .ref a/\F a=some (.frz o (.dK us))/\we K F us kvs
 | .ft kvs=>∃a us o,v = .ref a/\F a=some (.frz o (.dT us))/\KD K F us kvs
 | .xc x fs=>∃e dx us C,v = .ref e/\W.nsIn K xt x=some (some (.ref C))/\F e=some (.ext (q9 e C dx))/\F dx=some (.xd us)/\wd K F us fs
 | .dp kvs x=>∃a b us u o,v = .ref a/\F a=some (.tup [.ref b,u])/\F b=some (.frz o (.dK us))/\we K F us kvs/\Rep K F u x
theorem p4.grow{K:W.Frag}{kvs:List (List wc×wD)}(g:Grow rl F H F' H')(r:p4 K rl F H v kvs):p4 K rl F' H' v kvs:=by
 obtain⟨a,us,rfl,h1,h2,h3,h4⟩:=r;exact⟨a,us,rfl,by rw[g.old a _ h3];exact h1,h2,g.same a _ h3 h2,zw.mapP h4 fun _ _ z=>⟨z.1,z.2.mono g.fs⟩⟩
theorem pZ.grow{K:W.Frag}{kvs:List (wc×wD)}(g:Grow rl F H F' H')(r:pZ K rl F H v kvs):pZ K rl F' H' v kvs:=by
 obtain⟨a,us,rfl,h1,h2,h3,h4⟩:=r;exact⟨a,us,rfl,by rw[g.old a _ h3];exact h1,h2,g.same a _ h3 h2,zw.mapP h4 fun _ _ z=>⟨z.1,z.2.mono g.fs⟩⟩
theorem pY.grow{K:W.Frag}{kvs:List (List Int×wD)}(g:Grow rl F H F' H')(r:pY K rl F H v kvs):pY K rl F' H' v kvs:=by
 obtain⟨a,us,rfl,h1,h2,h3,h4⟩:=r;exact⟨a,us,rfl,by rw[g.old a _ h3];exact h1,h2,g.same a _ h3 h2,h4.mono g.fs⟩
theorem hZ.grow{K:W.Frag}{xs:List wD}(g:Grow rl F H F' H')(r:hZ K rl F H v xs):hZ K rl F' H' v xs:=by
 obtain⟨a,vs,rfl,h1,h2,h3,h4⟩:=r;exact⟨a,vs,rfl,by rw[g.old a _ h3];exact h1,h2,g.same a _ h3 h2,h4.mono g.fs⟩
theorem ce.grow{K:W.Frag}{rl:Option Addr}{F H F' H':Hp}{v:V}{w:W}(g:Grow rl F H F' H')(r:ce K rl F H v w):ce K rl F' H' v w:=by
 cases w with
 | d x=>exact Rep.mono g.fs r
 | ml xs=>exact hZ.grow g r
 | pk xs=>exact hZ.grow g r
 | reel=>exact r
 | vv u=>exact r
 | md kvs=>exact p4.grow g r
 | mk kvs=>exact pZ.grow g r
 | xm kvs=>exact pY.grow g r
 | nt ds=>obtain⟨a,vs,e,h,q⟩:=r;exact⟨a,vs,e,g.fs _ _ h,q.mono g.fs⟩
 | lk=>trivial
 | sc ns=>obtain⟨a,e,h⟩:=r;exact⟨a,e,oi g.fs h⟩
 | fd kvs=>obtain⟨a,us,e,h,q⟩:=r;exact⟨a,us,e,g.fs _ _ h,zw.mapP q fun _ _ z=>⟨z.1,z.2.mono g.fs⟩⟩
 | xr kvs=>obtain⟨a,us,e,h,q⟩:=r;exact⟨a,us,e,g.fs _ _ h,KX.mono q g.fs⟩
 | fw kvs=>obtain⟨a,us,o,e,h,q⟩:=r;exact⟨a,us,o,e,g.fs _ _ h,zw.mapP q fun _ _ z=>⟨z.1,z.2.mono g.fs⟩⟩
 | ft kvs=>obtain⟨a,us,o,e,h,q⟩:=r;exact⟨a,us,o,e,g.fs _ _ h,zw.mapP q fun _ _ z=>⟨z.1,z.2.mono g.fs⟩⟩
 | xc _ _=>obtain⟨a,dx,us,C,e,n,h1,h2,q⟩:=r;exact⟨a,dx,us,C,e,n,g.fs _ _ h1,g.fs _ _ h2,zw.mapP q fun _ _ z=>⟨z.1,z.2.mono g.fs⟩⟩
 | dp _ _=>obtain⟨a,b,us,u,o,e,h1,h2,q,z⟩:=r;exact⟨a,b,us,u,o,e,g.fs _ _ h1,g.fs _ _ h2,zw.mapP q fun _ _ z=>⟨z.1,z.2.mono g.fs⟩,z.mono g.fs⟩
theorem ce.peek{K:W.Frag}{w:W}(r:ce K rl F H v w):ce K rl F H v w.peek:=by cases w<;>first|exact r|trivial
theorem hZ.rep{K:W.Frag}{xs:List wD}(s:aS F H)(r:hZ K rl F H v xs):Rep K H v (.list xs):=by
 obtain⟨a,vs,rfl,h1,h2,h3,h4⟩:=r;exact .lst h3 (h4.mono s)
theorem ce.dat{K:W.Frag}{w:W}{x:wD}(s:aS F H)(r:ce K rl F H v w)(e:w.dat=some x):Rep K H v x:=by
 cases w with
 | d y=>cases e;exact Rep.mono s r
 | ml xs=>cases e;exact hZ.rep s r
 | pk xs=>cases e;exact hZ.rep s r
 | reel=>cases e
 | vv u=>cases e
 | md kvs=>cases e
 | mk kvs=>cases e
 | xm kvs=>cases e
 | nt ds=>cases e;obtain⟨a,vs,rfl,h,q⟩:=r;exact .tup (.inl (.inl (s _ _ h))) (q.mono s)
 | lk=>cases e
 | sc _=>cases e
 | fd _=>cases e
 | xr _=>cases e
 | fw _=>cases e
 | ft _=>cases e
 | xc _ _=>cases e
 | dp _ _=>cases e
theorem ce.items{K:W.Frag}{w:W}{xs:List wD}(s:aS F H)(r:ce K rl F H v w)(e:w.dat=some (.list xs)):∃a vs,v = .ref a/\vR K H a vs/\Reps K F vs xs:=by
 have own:hZ K rl F H v xs->∃a vs,v = .ref a/\vR K H a vs/\Reps K F vs xs:=fun⟨a,vs,e1,_,_,e2,e3⟩=>⟨a,vs,e1,.inl (.inl e2),e3⟩
 cases w with
 | d y =>
   cases e
   cases(show Rep K F v (.list xs)from r)with
   | lst h q=>exact⟨_,_,rfl,.inl (.inl (s _ _ h)),q⟩
 | ml ys=>cases e;exact own r
 | pk ys=>cases e;exact own r
 | reel=>cases e
 | vv u=>cases e
 | md kvs=>cases e
 | mk kvs=>cases e
 | xm kvs=>cases e
 | nt ds=>cases e
 | lk=>cases e
 | sc _=>cases e
 | fd _=>cases e
 | xr _=>cases e
 | fw _=>cases e
 | ft _=>cases e
 | xc _ _=>cases e
 | dp _ _=>cases e
theorem ce.itemsT{K:W.Frag}{w:W}{xs:List wD}(s:aS F H)(r:ce K rl F H v w)(e:w.dat=some (.tuple xs)):∃a vs,v = .ref a/\vQ K H a vs/\Reps K F vs xs:=by
 cases w with
 | d y =>
   cases e
   cases(show Rep K F v (.tuple xs)from r)with
   | tup h q=>exact⟨_,_,rfl,eI s h,q⟩
 | ml ys=>cases e
 | pk ys=>cases e
 | reel=>cases e
 | vv u=>cases e
 | md kvs=>cases e
 | mk kvs=>cases e
 | xm kvs=>cases e
 | nt ds=>cases e;obtain⟨a,vs,rfl,h,q⟩:=r;exact⟨a,vs,rfl,.inl (.inl (s _ _ h)),q⟩
 | lk=>cases e
 | sc _=>cases e
 | fd _=>cases e
 | xr _=>cases e
 | fw _=>cases e
 | ft _=>cases e
 | xc _ _=>cases e
 | dp _ _=>cases e
noncomputable def c5(H:Hp)(v:V):W->Prop
 | .ml _=>∀a,v = .ref a->H a=none
 | .md _=>∀a,v = .ref a->H a=none
 | .mk _=>∀a,v = .ref a->H a=none
 | .xm _=>∀a,v = .ref a->H a=none
 | _=>True
theorem ce.live{K:W.Frag}{w:W}(r:ce K rl F H v w)(h:w.own=true):∃a o,v = .ref a/\H a=some o:=by
 cases w with
 | ml xs=>obtain⟨a,vs,e,_,_,hh,_⟩:=r;exact⟨a,_,e,hh⟩
 | md xs=>obtain⟨a,vs,e,_,_,hh,_⟩:=r;exact⟨a,_,e,hh⟩
 | mk xs=>obtain⟨a,vs,e,_,_,hh,_⟩:=r;exact⟨a,_,e,hh⟩
 | xm xs=>obtain⟨a,vs,e,_,_,hh,_⟩:=r;exact⟨a,_,e,hh⟩
 | _=>cases h
theorem c5.none{w:W}(n:c5 H v w)(h:w.own=true)(e:v = .ref a):H a=none:=by
 cases w with
 | ml xs=>exact n a e
 | md xs=>exact n a e
 | mk xs=>exact n a e
 | xm xs=>exact n a e
 | _=>cases h
abbrev En:=List (Option W)
structure VR (K:W.Frag) (rl:Option Addr) (F₀ H₀ F H:Hp) (σ:St) (ρ:En):Prop where
 g:Grow rl F₀ H₀ F H
 sl:∀(i:Nat) w,ρ[i]?=some (some w)->∃v,σ[i]?=some (some v)/\ce K rl F H v w/\c5 H₀ v w
 ap:∀(i j:Nat)(x y:W) v,i≠j->ρ[i]?=some (some x)->ρ[j]?=some (some y)->x.own=true->y.own=true->σ[i]?=some (some v)->σ[j]?=some (some v)->False
 np:∀(i:Nat) xs,ρ[i]?≠some (some (W.pk xs))
 len:ρ.length=σ.length
section
variable{K:W.Frag}{rl:Option Addr}{F₀ H₀ F H F' H':Hp}{σ:St}{ρ:En}
theorem VR.sub(r:VR K rl F₀ H₀ F H σ ρ):aS F H:=r.g.sub
theorem VR.reel(r:VR K rl F₀ H₀ F H σ ρ):vU rl F H:=r.g.reel
theorem VR.grow(r:VR K rl F₀ H₀ F H σ ρ)(g:Grow rl F H F' H'):VR K rl F₀ H₀ F' H' σ ρ :=
 ⟨r.g.trans g,fun i w e=>let ⟨v,e1,e2,e3⟩:=r.sl i w e;⟨v,e1,e2.grow g,e3⟩,r.ap,r.np,r.len⟩
theorem VR.set(r:VR K rl F₀ H₀ F H σ ρ){H1 F1:Hp}(g:Grow rl F H F1 H1){w:W}(rw':ce K rl F1 H1 v w)(hn:c5 H v w)(hp:∀xs,w ≠ .pk xs)(i:Nat):VR K rl F₀ H₀ F1 H1 (σ.set i (some v)) (ρ.set i (some w)):=by
 have r1:=r.grow g;refine⟨r1.g,fun j w' e=>?_,fun j k xs ys u hjk e1 e2 w1 w2 s1 s2=>?_,fun j xs z=>?_,by simp[r.len]⟩
 · by_cases hj:i=j
   · subst hj
     have hi:i<ρ.length:=by
      rw[xP]at e;by_cases hi:i<ρ.length
      · exact hi
      · simp[hi]at e
     rw[xp hi]at e;cases e;refine⟨v,by rw[xp (by rw[<- r.len];exact hi)],rw',?_⟩
     cases w with
     | ml xs=>exact fun a ea=>r.g.freeB (hn a ea)
     | d x=>trivial
     | pk xs=>trivial
     | reel=>trivial
     | vv u=>trivial
     | md xs=>exact fun a ea=>r.g.freeB (hn a ea)
     | mk xs=>exact fun a ea=>r.g.freeB (hn a ea)
     | xm xs=>exact fun a ea=>r.g.freeB (hn a ea)
     | nt ds=>trivial
     | lk=>trivial
     | sc _=>trivial
     | fd _=>trivial
     | xr _=>trivial
     | fw _=>trivial
     | ft _=>trivial
     | xc _ _=>trivial
     | dp _ _=>trivial
   · rw[xb hj]at e;obtain⟨u,h1,h2,h3⟩:=r1.sl j w' e;exact⟨u,by rw[xb hj];exact h1,h2,h3⟩
 · have key:∀(k:Nat)(x y:W),ρ[k]?=some (some y)->some (some w)=some (some x)->x.own=true->y.own=true->σ[k]?=some (some v)->False:=fun k x y d2 e1 o1 o2 s2=>by
     cases e1;obtain⟨u',h1,h2,h3⟩:=r.sl k _ d2;rw[s2]at h1;cases h1;obtain⟨a,o,ea,hh⟩:=h2.live o2;rw[hn.none o1 ea]at hh;cases hh
   by_cases hj:i=j
   · subst hj;have hk:i≠k:=hjk
     have hi:i<ρ.length:=by
      rw[xP]at e1;by_cases hi:i<ρ.length
      · exact hi
      · simp[hi]at e1
     rw[xp hi]at e1;rw[xb hk]at e2 s2;rw[xp (by rw[<- r.len];exact hi)]at s1;cases s1;exact key k xs ys e2 e1 w1 w2 s2
   · by_cases hk:i=k
     · subst hk
       have hi:i<ρ.length:=by
        rw[xP]at e2;by_cases hi:i<ρ.length
        · exact hi
        · simp[hi]at e2
       rw[xp hi]at e2;rw[xb hj]at e1 s1;rw[xp (by rw[<- r.len];exact hi)]at s2;cases s2;exact key j ys xs e1 e2 w2 w1 s1
     · rw[xb hj]at e1 s1;rw[xb hk]at e2 s2;exact r.ap j k xs ys u hjk e1 e2 w1 w2 s1 s2
 · rw[xP]at z;split at z
   · split at z
     · exact hp xs (xk (xk z))
     · cases z
   · exact r.np j xs z
end
abbrev TV:=En->(W->Prop)->Prop
abbrev TB:=En->(Bool->Prop)->Prop
abbrev vK:=En->(List W->Prop)->Prop
abbrev cF(K:W.Frag)(rl:Option Addr)(F H:Hp):List V->List W->Prop:=zw (ce K rl F H)
noncomputable def PV(X:Cx)(rl:Option Addr)(e:Expr)(f:TV):Prop:=∃t,PE X e t/\∀{F₀ H₀ F H:Hp}{σ:St}{ρ:En},VR X.K rl F₀ H₀ F H σ ρ->∀(Qd:W->Prop)(Q:VK),f ρ Qd ->
 (∀v w F' H',Grow rl F H F' H'->ce X.K rl F' H' v w->c5 H v w->Qd w->Q v H')->t σ H Q
noncomputable def PB(X:Cx)(rl:Option Addr)(e:Expr)(f:TB):Prop:=∃t,PT X e t/\∀{F₀ H₀ F H:Hp}{σ:St}{ρ:En},VR X.K rl F₀ H₀ F H σ ρ->∀(Qd:Bool->Prop)(Q:Bool->Hp->Prop),f ρ Qd ->
 (∀b F' H',Grow rl F H F' H'->Qd b->Q b H')->t σ H Q
noncomputable def vV(X:Cx)(rl:Option Addr)(es:List Expr)(f:vK):Prop:=∃t,PA X es t/\∀{F₀ H₀ F H:Hp}{σ:St}{ρ:En},VR X.K rl F₀ H₀ F H σ ρ->∀(Qd:List W->Prop)(Q:List V->Hp->Prop),f ρ Qd ->
 (∀vs ws F' H',Grow rl F H F' H'->cF X.K rl F' H' vs ws->Qd ws->Q vs H')->t σ H Q
noncomputable def W.fz:W->W
 | .ml xs=>.d (.list xs)
 | .nt ds=>.d (.tuple ds)
 | w=>w
theorem ce.fz{K:W.Frag}{F1 H1:Hp}{w:W}(g:Grow rl F H F1 H1)(r:ce K rl F1 H1 v w)(n:c5 H v w):∃F2,Grow rl F H F2 H1/\aS F1 F2/\ce K rl F2 H1 v w.fz:=by
 cases w with
 | d x=>exact⟨F1,g,.refl _,r⟩
 | pk xs=>exact⟨F1,g,.refl _,r⟩
 | reel=>exact⟨F1,g,.refl _,r⟩
 | vv u=>exact⟨F1,g,.refl _,r⟩
 | md u=>exact⟨F1,g,.refl _,r⟩
 | mk u=>exact⟨F1,g,.refl _,r⟩
 | xm u=>exact⟨F1,g,.refl _,r⟩
 | lk=>exact⟨F1,g,.refl _,r⟩
 | sc _=>exact⟨F1,g,.refl _,r⟩
 | fd _=>exact⟨F1,g,.refl _,r⟩
 | xr _=>exact⟨F1,g,.refl _,r⟩
 | fw _=>exact⟨F1,g,.refl _,r⟩
 | ft _=>exact⟨F1,g,.refl _,r⟩
 | xc _ _=>exact⟨F1,g,.refl _,r⟩
 | dp _ _=>exact⟨F1,g,.refl _,r⟩
 | nt ds=>obtain⟨a,vs,rfl,h,q⟩:=r;exact⟨F1,g,.refl _,.tup (.inl (.inl h)) q⟩
 | ml xs =>
   obtain⟨a,vs,rfl,f,hr,hh,q⟩:=(show hZ K rl F1 H1 v xs from r);have neF:∀b u,F1 b=some u->b≠a:=fun b u q z=>by subst z;rw[f]at q;cases q
   have fsm:aS F1 (upd F1 a (.lst vs)):=fun b u z=>by rw[upd_ne (neF b u z)];exact z
   exact⟨upd F1 a (.lst vs),g.freeze (n a rfl) hh f hr,fsm,.lst ak (q.mono fsm)⟩
section
variable{X:Cx}{rl:Option Addr}{a b e:Expr}{es:List Expr}{fa fb fc:TV}{fs:vK}{pos p:Pos}
noncomputable def vC(x:wD):TV:=fun _ Q=>Q (.d x)
theorem dG{x:wD}(h:PE X e (tC v))(r:∀F,Rep X.K F v x):PV X rl e (vC x) :=
 ⟨_,h,fun R Qd Q q k=>k v (.d x) _ _ (Grow.refl R.sub R.reel) (r _) trivial q⟩
theorem ag{i:Int}{j pos}:PV X rl (.Constant (.int i) j pos) (vC (.int i)):=dG ai fun _=>.int i
theorem oA{i:Bool}{j pos}:PV X rl (.Constant (.bool i) j pos) (vC (.bool i)):=dG qD fun _=>.bl i
theorem lZ{u:wF}{d:wD}{pos:Pos}(hm:X.mg x=some u)(r:RelV v u)(h:∀F,Rep X.K F v d)(hg:autoParam (Gl X x) æa._auto_1)(hd:autoParam ((x==("__debug__" : Str))=false) æb._auto_1):PV X rl (.Name x pos) (vC d) :=
 dG (mr hg hm r hd) h
noncomputable def c6(i:Nat):TV:=fun ρ Q=>∃w,ρ[i]?=some (some w)/\Q w.peek
theorem vn(i:Nat){pos:Pos}(hN:autoParam (X.N[i]?=some x) æa._auto_1)(hv:autoParam (vH X.env.scope x) æg._auto_1)(hd:autoParam ((x==("__debug__" : Str))=false) æb._auto_1)
 (hcd:autoParam ((x==("__classdict__" : Str))=false) æb._auto_1):PV X rl (.Name x pos) (c6 i) :=
 ⟨_,iR hN hv hd hcd,fun R Qd Q ⟨w,e,q⟩ k=>by
  obtain⟨v,e1,r,_⟩:=R.sl i w e;refine⟨v,e1,k v w.peek _ _ (Grow.refl R.sub R.reel) r.peek ?_ q⟩
  cases w<;>trivial⟩
noncomputable def jK:vK:=fun _ Q=>Q []
noncomputable def au(f:TV)(fs:vK):vK:=fun ρ Q=>f ρ fun w=>fs ρ fun ws=>Q (w.fz::ws)
theorem ae:vV X rl [] jK:=⟨_,b9,fun R Qd Q q k=>k [] [] _ _ (Grow.refl R.sub R.reel) .nil q⟩
theorem aa(h1:PV X rl e fa)(h2:vV X rl es fs)(hs:autoParam (wR (e::es) X.env=(false,eval e X.env)::wR es X.env) æa._auto_1):vV X rl (e::es) (au fa fs):=by
 obtain⟨t,p1,k1⟩:=h1;obtain⟨ts,p2,k2⟩:=h2;refine⟨_,ba p1 p2 hs,fun R Qd Q q k=>?_⟩;refine k1 R _ _ q fun v w F1 H1 g1 r1 n1 q1=>?_;obtain⟨F2,g2,s2,r2⟩:=ce.fz g1 r1 n1;refine k2 (R.grow g2) _ _ q1 fun vs ws F3 H3 g3 r3 q3=>?_;exact k (v::vs) (w.fz::ws) F3 H3 (g2.trans g3) (.cons (r2.grow g3) r3) q3
noncomputable def vI(X:Cx)(rl:Option Addr)(r:R2)(g:W->W->(W->Prop)->Prop):Prop:=∀{F H:Hp}{x y:V}{wx wy:W}(Qd:W->Prop)(Q:VK),aS F H->vU rl F H->ce X.K rl F H x wx->ce X.K rl F H y wy->g wx wy Qd ->
 (∀v w F' H',Grow rl F H F' H'->ce X.K rl F' H' v w->c5 H v w->Qd w->Q v H')->r x y H Q
noncomputable def uq(g:W->W->(W->Prop)->Prop)(fa fb:TV):TV:=fun ρ Q=>fa ρ fun x=>fb ρ fun y=>g x y Q
theorem ib{r:R2}{g:W->W->(W->Prop)->Prop}(vo:vI X rl r g)(ha:PV X rl a fa)(hb:PV X rl b fb){e:Expr}(hp:∀ta tb,PE X a ta->PE X b tb->PE X e (uG r ta tb)):PV X rl e (uq g fa fb):=by
 obtain⟨ta,p1,k1⟩:=ha;obtain⟨tb,p2,k2⟩:=hb;refine⟨_,hp ta tb p1 p2,fun R Qd Q q k=>?_⟩;refine k1 R _ _ q fun v w F1 H1 g1 r1 n1 q1=>?_;refine k2 (R.grow g1) _ _ q1 fun v2 w2 F2 H2 g2 r2 n2 q2=>?_
 exact vo Qd Q g2.sub g2.reel (r1.grow g2) r2 q2 fun v3 w3 F3 H3 g3 r3 n3 q3=>k v3 w3 F3 H3 ((g1.trans g2).trans g3) r3 (by
  cases w3 with
  | ml xs=>exact fun a ea=>g1.freeB (g2.freeB (n3 a ea))
  | md xs=>exact fun a ea=>g1.freeB (g2.freeB (n3 a ea))
  | mk xs=>exact fun a ea=>g1.freeB (g2.freeB (n3 a ea))
  | xm xs=>exact fun a ea=>g1.freeB (g2.freeB (n3 a ea))
  | nt _=>trivial
  | lk=>trivial
  | sc _=>trivial
  | fd _=>trivial
  | xr _=>trivial
  | fw _=>trivial
  | ft _=>trivial
  | xc _ _=>trivial
  | dp _ _=>trivial
  | d _=>trivial
  | pk _=>trivial
  | reel=>trivial
  | vv _=>trivial) q3
theorem fJ{op:Operator}{r:R2}{g:W->W->(W->Prop)->Prop}(ho:v9 X (Az op) r)(vo:vI X rl r g)(ha:PV X rl a fa)(hb:PV X rl b fb):PV X rl (.BinOp a op b pos) (uq g fa fb) :=
 ib vo ha hb fun _ _ p1 p2=>bv ho p1 p2
noncomputable def gI(C:Int->Int->Prop)(g:Int->Int->wD):W->W->(W->Prop)->Prop:=fun x y Q=>∃i j,x = .d (.int i)/\y = .d (.int j)/\C i j/\Q (.d (g i j))
theorem ay{K:W.Frag}{i:Int}(h:Rep K F v (.int i)):v = .int i:=by cases h;rfl
theorem dw{C:Int->Int->Prop}{g:Int->Int->V}{gd:Int->Int->wD}(h:∀K F i j,Rep K F (g i j) (gd i j)):vI X rl (rI C g) (gI C gd):=fun{F H x y wx wy} Qd Q s ra r1 r2 q k=>by
 obtain⟨i,j,rfl,rfl,c,q⟩:=q;exact⟨i,j,ay r1,ay r2,c,k _ (.d _) _ _ (Grow.refl s ra) (h _ _ i j) trivial q⟩
noncomputable def vw(g:Int->Int->wD):W->W->(W->Prop)->Prop:=fun x y Q=>∃i j,x = .d (.int i)/\y = .d (.int j)/\Q (.d (g i j))
theorem b6{g:Int->Int->V}{gd:Int->Int->wD}(h:∀K F i j,Rep K F (g i j) (gd i j)):vI X rl (uT g) (vw gd):=fun{F H x y wx wy} Qd Q s ra r1 r2 q k=>by
 obtain⟨i,j,rfl,rfl,q⟩:=q;exact⟨i,j,ay r1,ay r2,k _ (.d _) _ _ (Grow.refl s ra) (h _ _ i j) trivial q⟩
theorem v_add(ha:PV X rl a fa)(hb:PV X rl b fb):PV X rl (.BinOp a .Add b pos) (uq (vw fun i j=>.int (i+j)) fa fb):=fJ dg (b6 fun _ _ _ _=>.int _) ha hb
theorem v_sub(ha:PV X rl a fa)(hb:PV X rl b fb):PV X rl (.BinOp a .Sub b pos) (uq (vw fun i j=>.int (i-j)) fa fb):=fJ oI (b6 fun _ _ _ _=>.int _) ha hb
noncomputable def wz(i:Int):Prop:=i.natAbs<2^60000
theorem wz.bits{i:Int}(h:wz i):Builtin.Int.intBits i<=60000:=Bx.mpr h
noncomputable def a_(i j:Int):Prop:=i.natAbs<2^64\/j.natAbs<2^64\/(wz i/\wz j)
theorem a_.lt{i j:Int}(h:i.natAbs<2^64):a_ i j:=.inl h
theorem a_.rt{i j:Int}(h:j.natAbs<2^64):a_ i j:=.inr (.inl h)
theorem a_.bb{i j:Int}(h:wz i)(h':wz j):a_ i j:=.inr (.inr ⟨h,h'⟩)
theorem a_.ok{i j:Int}(h:a_ i j):IntMulOk i j:=by
 rcases h with h|h|h
 · exact .of_left (Bx.mpr h)
 · exact .of_right (Bx.mpr h)
 · exact IntMulOk.of_le h.1.bits h.2.bits (by decide)
theorem cT:v9 X (Az .Mult) (rI a_ fun i j=>.int (i*j)):=uY fun _ _ _ _ _ _ _ hc q=>mul_int q hc.ok
theorem v_mul(ha:PV X rl a fa)(hb:PV X rl b fb):PV X rl (.BinOp a .Mult b pos) (uq (gI a_ fun i j=>.int (i*j)) fa fb):=fJ cT (dw fun _ _ _ _=>.int _) ha hb
noncomputable def bY(_ j:Int):Prop:=j≠0/\j.natAbs<2^9000
theorem gq:v9 X (Az .FloorDiv) (rI bY fun i j=>.int (i.fdiv j)):=uY fun _ j _ _ _ _ _ hc q=>floordiv_int hc.1 q (.inl (PyProof.noPylong_of_log2 ((Nat.log2_lt (by have:=hc.1;omega)).mpr hc.2)))
theorem v_div(ha:PV X rl a fa)(hb:PV X rl b fb):PV X rl (.BinOp a .FloorDiv b pos) (uq (gI bY fun i j=>.int (i.fdiv j)) fa fb):=fJ gq (dw fun _ _ _ _=>.int _) ha hb
theorem v_mod(ha:PV X rl a fa)(hb:PV X rl b fb):PV X rl (.BinOp a .Mod b pos) (uq (gI (fun _ j=>j≠0) fun i j=>.int (i.fmod j)) fa fb):=fJ bH (dw fun _ _ _ _=>.int _) ha hb
theorem v_pow(ha:PV X rl a fa)(hb:PV X rl b fb):PV X rl (.BinOp a .Pow b pos) (uq (gI rf fun i j=>.int (i^j.toNat)) fa fb):=fJ k9 (dw fun _ _ _ _=>.int _) ha hb
noncomputable def qj(fa:TV):TV:=fun ρ Q=>fa ρ fun x=>∃i,x = .d (.int i)/\Q (.d (.int (-i)))
theorem qc(ha:PV X rl a fa):PV X rl (.UnaryOp .USub a pos) (qj fa):=by
 obtain⟨ta,p1,k1⟩:=ha;refine⟨_,qB nT p1,fun R Qd Q q k=>k1 R _ _ q fun v w F1 H1 g1 r1 n1 ⟨i,ew,q1⟩=>?_⟩;subst ew;exact⟨i,ay r1,k _ (.d _) F1 H1 g1 (.int _) trivial q1⟩
theorem qe{r:R2}{g:W->W->(W->Prop)->Prop}(ho:v9 X (yz op) r)(vo:vI X rl r g)(hm:zC op b=false)(ha:PV X rl a fa)(hb:PV X rl b fb):PV X rl (.Compare a [op] [b] pos) (uq g fa fb) :=
 ib vo ha hb fun _ _ p1 p2=>mw ho p1 p2 hm
noncomputable def im(f:TV):TB:=fun ρ Q=>f ρ fun w=>∃k,w = .d (.bool k)/\Q k
theorem iI{K:W.Frag}{i:Bool}(h:Rep K F v (.bool i)):v = .bl i:=by cases h;rfl
theorem bC{r:R2}{g:W->W->(W->Prop)->Prop}(ho:v9 X (yz op) r)(vo:vI X rl r g)(hm:zC op b=false)(ha:PV X rl a fa)(hb:PV X rl b fb):PB X rl (.Compare a [op] [b] pos) (im (uq g fa fb)):=by
 obtain⟨ta,p1,k1⟩:=ha;obtain⟨tb,p2,k2⟩:=hb;refine⟨_,ck ho p1 p2 hm,fun R Qd Q q k=>?_⟩;refine k1 R _ _ q fun v w F1 H1 g1 r1 n1 q1=>?_;refine k2 (R.grow g1) _ _ q1 fun v2 w2 F2 H2 g2 r2 n2 q2=>?_;refine vo _ _ g2.sub g2.reel (r1.grow g2) r2 q2 fun v3 w3 F3 H3 g3 r3 n3 ⟨kb,ew,q3⟩=>?_;subst ew;exact⟨kb,iI r3,k kb F3 H3 ((g1.trans g2).trans g3) q3⟩
theorem nv(ha:PV X rl e fa)(he:autoParam (∀whole,isTrue e X.env whole=(do let v <- whole;standAt e.pos;B_ [v] (truthy v))) æc._auto_1):PB X rl e (im fa):=by
 obtain⟨ta,p1,k1⟩:=ha;refine⟨_,oB p1 he,fun R Qd Q q k=>k1 R _ _ q fun v w F1 H1 g1 r1 n1 ⟨kb,ew,q1⟩=>?_⟩;subst ew;exact⟨kb,iI r1,k kb F1 H1 g1 q1⟩
abbrev qS(p:Int->Int->Bool):=vw fun i j=>.bool (p i j)
theorem jQ:vI X rl (uT fun i j=>.bl (decide (i<j))) (qS fun i j=>decide (i<j)):=b6 fun _ _ _ _=>.bl _
theorem lA:vI X rl (uT fun i j=>.bl (decide (i<=j))) (qS fun i j=>decide (i<=j)):=b6 fun _ _ _ _=>.bl _
theorem jR:vI X rl (uT fun i j=>.bl (decide (j<i))) (qS fun i j=>decide (j<i)):=b6 fun _ _ _ _=>.bl _
noncomputable def qy(K:W.Frag)(neg:Bool):R2:=fun x y H Q=>∃dx dy,Rep K H x dx/\Rep K H y dy/\yA dx=true/\yA dy=true/\Q (.bl (if neg then !yH dx dy else yH dx dy)) H
theorem oK(hu:X.A.units+64<cLine):v9 X (yz .Eq) (qy X.K false):=by
 intro pins s σ H x y v u Q I rx ry ⟨dx,dy,h1,h2,s1,s2,q⟩;obtain⟨as,a1⟩:=Rep.reads I (.refl H) h1 v rx;obtain⟨bs,a2⟩:=Rep.reads I (.refl H) h2 u ry;exact SeqAt.compareEq_shaped a1 a2 s1 s2 hu ⟨.bl _,H,I,rfl,q⟩
theorem oJ(hu:X.A.units+64<cLine):v9 X (yz .NotEq) (qy X.K true):=by
 intro pins s σ H x y v u Q I rx ry ⟨dx,dy,h1,h2,s1,s2,q⟩;obtain⟨as,a1⟩:=Rep.reads I (.refl H) h1 v rx;obtain⟨bs,a2⟩:=Rep.reads I (.refl H) h2 u ry;exact SeqAt.compareNe_shaped a1 a2 s1 s2 hu ⟨.bl _,H,I,rfl,q⟩
noncomputable def qQ(neg:Bool):W->W->(W->Prop)->Prop:=fun x y Q=>∃dx dy,x.dat=some dx/\y.dat=some dy/\yA dx=true/\yA dy=true/\Q (.d (.bool (if neg then !yH dx dy else yH dx dy)))
theorem kS{neg:Bool}:vI X rl (qy X.K neg) (qQ neg):=fun{F H x y wx wy} Qd Q s ra r1 r2 q k=>by
 obtain⟨dx,dy,e1,e2,s1,s2,q⟩:=q;exact⟨dx,dy,r1.dat s e1,r2.dat s e2,s1,s2,k _ (.d _) _ _ (Grow.refl s ra) (.bl _) trivial q⟩
noncomputable def sN(neg:Bool):W->W->(W->Prop)->Prop:=fun x y Q=>∃dx ys,x.dat=some dx/\(y.dat=some (.list ys)\/y.dat=some (.tuple ys))/\yA dx=true/\wD.canLayAll0 ys=true/\Q (.d (.bool (if neg then !(ys.any fun z=>yH z dx)else ys.any fun z=>yH z dx)))
noncomputable def sj(f g:TB):TB:=fun ρ Q=>f ρ fun b=>if b=true then g ρ Q else Q false
noncomputable def uo(f g:TB):TB:=fun ρ Q=>f ρ fun b=>if b=true then Q true else g ρ Q
noncomputable def tf(f:TB):TB:=fun ρ Q=>f ρ fun b=>Q (!b)
noncomputable def v8(X:Cx)(rl:Option Addr)(e:Expr)(f:TB):Prop:=∃t,PW X e t/\∀{F₀ H₀ F H:Hp}{σ:St}{ρ:En},VR X.K rl F₀ H₀ F H σ ρ->∀(Qd:Bool->Prop)(Q:Bool->Hp->Prop),f ρ Qd ->
 (∀b F' H',Grow rl F H F' H'->Qd b->Q b H')->t σ H Q
variable{f g:TB}{rest:List Expr}
theorem v8.pb(h:v8 X rl e f):PB X rl e f:=let ⟨t,p,k⟩:=h;⟨t,p.pt,k⟩
theorem kW(ha:PB X rl a f):v8 X rl (.BoolOp .Or [a] pos) f:=let ⟨t,p,k⟩:=ha;⟨t,oy p,k⟩
theorem nw(ha:PB X rl a f)(hb:v8 X rl (.BoolOp .Or (b::rest) pos) g):v8 X rl (.BoolOp .Or (a::b::rest) pos) (uo f g):=by
 obtain⟨t,p,k⟩:=ha;obtain⟨t2,p2,k2⟩:=hb;refine⟨_,qA p p2,fun R Qd Q q h=>k R _ _ q fun c F1 H1 g1 q1=>?_⟩
 cases c with
 | true=>exact h true F1 H1 g1 q1
 | false=>exact k2 (R.grow g1) _ _ q1 fun c F2 H2 g2 q2=>h c F2 H2 (g1.trans g2) q2
noncomputable def nQ(fa fb:TV):TV:=fun ρ Q=>fa ρ fun w=>∃c,w = .d (.bool c)/\if c=true then fb ρ Q else Q (.d (.bool false))
noncomputable def sg(fa fb:TV):TV:=fun ρ Q=>fa ρ fun w=>∃c,w = .d (.bool c)/\if c=true then Q (.d (.bool true))else fb ρ Q
noncomputable def nL(fa:TV):TV:=fun ρ Q=>fa ρ fun w=>∃c,w = .d (.bool c)/\Q (.d (.bool (!c)))
theorem c5.back{rl:Option Addr}{w:W}(g:Grow rl F H F' H')(n:c5 H' v w):c5 H v w:=by
 cases w with
 | ml xs=>exact fun a ea=>g.freeB (n a ea)
 | md xs=>exact fun a ea=>g.freeB (n a ea)
 | mk xs=>exact fun a ea=>g.freeB (n a ea)
 | xm xs=>exact fun a ea=>g.freeB (n a ea)
 | nt _=>trivial
 | lk=>trivial
 | sc _=>trivial
 | fd _=>trivial
 | xr _=>trivial
 | fw _=>trivial
 | ft _=>trivial
 | xc _ _=>trivial
 | dp _ _=>trivial
 | d _=>trivial
 | pk _=>trivial
 | reel=>trivial
 | vv _=>trivial
noncomputable def ut(t:TB)(fa fb:TV):TV:=fun ρ Q=>t ρ fun c=>if c=true then fa ρ Q else fb ρ Q
theorem lF{c:Expr}(hc:PB X rl c f)(ha:PV X rl a fa)(hb:PV X rl b fb):PV X rl (.IfExp c a b pos) (ut f fa fb):=by
 obtain⟨t,p,k⟩:=hc;obtain⟨t1,p1,k1⟩:=ha;obtain⟨t2,p2,k2⟩:=hb;refine⟨_,ka p p1 p2,fun R Qd Q q h=>k R _ _ q fun c F1 H1 g1 q1=>?_⟩
 cases c with
 | true=>exact k1 (R.grow g1) _ _ q1 fun v w F2 H2 g2 r2 n2 q2=>h v w F2 H2 (g1.trans g2) r2 (n2.back g1) q2
 | false=>exact k2 (R.grow g1) _ _ q1 fun v w F2 H2 g2 r2 n2 q2=>h v w F2 H2 (g1.trans g2) r2 (n2.back g1) q2
noncomputable def dS:List W->Option (List wD)
 | []=>some []
 | .d x::r=>(dS r).map (x :: ·)
 | _::_=>none
theorem ca{K:W.Frag}{F H:Hp}:∀{vs:List V}{ws:List W}{ds:List wD},cF K rl F H vs ws->dS ws=some ds->Reps K F vs ds
 | _,_,_,.nil,e=>by cases e;exact .nil
 | _,.d x::ws,ds,.cons r rs,e=>by
   have e:(dS ws).map (x :: ·)=some ds:=e
   cases q:dS ws with
   | none=>rw[q]at e;cases e
   | some es=>rw[q]at e;cases e;exact .cons r (ca rs q)
 | _,.ml x::ws,ds,.cons r rs,e=>by cases(show none=some ds from e)
 | _,.pk x::ws,ds,.cons r rs,e=>by cases(show none=some ds from e)
 | _,.reel::ws,ds,.cons r rs,e=>by cases(show none=some ds from e)
 | _,.vv u::ws,ds,.cons r rs,e=>by cases(show none=some ds from e)
 | _,.md u::ws,ds,.cons r rs,e=>by cases(show none=some ds from e)
 | _,.nt u::ws,ds,.cons r rs,e=>by cases(show none=some ds from e)
 | _,.lk::ws,ds,.cons r rs,e=>by cases(show none=some ds from e)
 | _,.sc _::ws,ds,.cons r rs,e=>by cases(show none=some ds from e)
 | _,.fd _::ws,ds,.cons r rs,e=>by cases(show none=some ds from e)
 | _,.xr _::ws,ds,.cons r rs,e=>by cases(show none=some ds from e)
 | _,.xc _ _::ws,ds,.cons r rs,e=>by cases(show none=some ds from e)
 | _,.mk _::ws,ds,.cons r rs,e=>by cases(show none=some ds from e)
 | _,.xm _::ws,ds,.cons r rs,e=>by cases(show none=some ds from e)
 | _,.fw _::ws,ds,.cons r rs,e=>by cases(show none=some ds from e)
 | _,.ft _::ws,ds,.cons r rs,e=>by cases(show none=some ds from e)
 | _,.dp _ _::ws,ds,.cons r rs,e=>by cases(show none=some ds from e)
noncomputable def qg(fs:vK):TV:=fun ρ Q=>fs ρ fun ws=>∃ds,dS ws=some ds/\ds.length<=sizeLine/\Q (.d (.tuple ds))
noncomputable def qk(fs:vK):TV:=fun ρ Q=>fs ρ fun ws=>∃ds,dS ws=some ds/\ds.length<=sizeLine/\Q (.ml ds)
theorem fF{x1}(h:vV X rl es fs):PV X rl (.Tuple es x1 pos) (qg fs):=by
 obtain⟨t,p,k⟩:=h;refine⟨_,oG p,fun R Qd Q q h=>k R _ _ q fun vs ws F1 H1 g1 r1 ⟨ds,e1,z,q1⟩=>?_⟩;have rs:=ca r1 e1;refine⟨by rw[rs.length];exact z,fun p hp=>?_⟩;have g2:=g1.trans (Grow.data (a:=p) (o:=.tup vs) g1.sub g1.reel hp);exact h _ (.d (.tuple ds)) _ _ g2 (.tup (.inl (.inl ak)) (rs.mono (Grow.data (o:=.tup vs) g1.sub g1.reel hp).fs)) trivial q1
theorem cJ{K:W.Frag}{p:Addr}{ds:List wD}(s:aS F H)(ra:vU rl F H)(hp:H p=none)(rs:Reps K F vs ds):hZ K rl F (upd H p (.lst vs)) (.ref p) ds:=by
 refine⟨p,vs,rfl,s.free hp,fun e=>?_,ak,rs⟩;obtain⟨o,q⟩:=ra.live e;rw[hp]at q;cases q
theorem ii(h:vV X rl es fs):PV X rl (.List es pos) (qk fs):=by
 obtain⟨t,p,k⟩:=h;refine⟨_,k6 p,fun R Qd Q q h=>k R _ _ q fun vs ws F1 H1 g1 r1 ⟨ds,e1,z,q1⟩=>?_⟩;have rs:=ca r1 e1;refine⟨by rw[rs.length];exact z,fun p hp=>?_⟩;exact h _ (.ml ds) _ _ (g1.trans (Grow.laid (a:=p) (o:=.lst vs) g1.sub g1.reel hp)) (cJ g1.sub g1.reel hp rs) (fun a ea=>by cases ea;exact g1.freeB hp) q1
noncomputable def itemAt:wD->Int->Option wD
 | .list xs,i=>atI xs i
 | .tuple xs,i=>atI xs i
 | _,_=>none
theorem Reps.atI{K:W.Frag}{F:Hp}{vs:List V}{ds:List wD}{i:Int}{d:wD}(r:Reps K F vs ds)(e:L2.atI ds i=some d):∃v,L2.atI vs i=some v/\Rep K F v d:=by
 unfold L2.atI at e ⊢;rw[r.length]
 cases q:ixN ds.length i with
 | none=>rw[q]at e;cases e
 | some j =>
   rw[q]at e;exact r.get e
noncomputable def vq:W->W->(W->Prop)->Prop:=fun x y Q=>∃dx i z,x.dat=some dx/\y = .d (.int i)/\itemAt dx i=some z/\Q (.d z)
theorem p9:vI X rl (uS X.K) vq:=fun{F H x y wx wy} Qd Q s ra r1 r2 q k=>by
 obtain⟨dx,i,z,e1,rfl,e3,q⟩:=q;have ey:=ay r2;subst ey
 cases dx with
 | list xs =>
   obtain⟨a,vs,rfl,sq,rs⟩:=r1.items s e1;obtain⟨v,e4,rz⟩:=Reps.atI rs e3
   exact .inl ⟨a,vs,i,v,rfl,rfl,sq,e4,k _ (.d _) _ _ (Grow.refl s ra) rz trivial q⟩
 | tuple xs =>
   obtain⟨a,vs,rfl,sq,rs⟩:=r1.itemsT s e1;obtain⟨v,e4,rz⟩:=Reps.atI rs e3
   exact .inr (.inl ⟨a,vs,i,v,rfl,rfl,sq,e4,k _ (.d _) _ _ (Grow.refl s ra) rz trivial q⟩)
 | none=>cases e3
 | bool b=>cases e3
 | int b=>cases e3
 | str b=>cases e3
 | dict b=>cases e3
theorem cg(ha:PV X rl a fa)(hb:PV X rl b fb)(hs:jH b:=by exact fun _ _=>rfl):PV X rl (.Subscript a b pos) (uq vq fa fb):=ib p9 ha hb fun _ _ p1 p2=>br aL p1 p2 hs
noncomputable def cE(X:Cx)(rl:Option Addr)(r:List V->Hp->VK->Prop)(g:List W->(W->Prop)->Prop):Prop:=∀{F H:Hp}{vs:List V}{ws:List W}(Qd:W->Prop)(Q:VK),aS F H->vU rl F H->cF X.K rl F H vs ws->g ws Qd ->
 (∀v w F' H',Grow rl F H F' H'->ce X.K rl F' H' v w->c5 H v w->Qd w->Q v H')->r vs H Q
noncomputable def ci(g:List W->(W->Prop)->Prop)(fs:vK):TV:=fun ρ Q=>fs ρ fun ws=>g ws Q
theorem dB{r:List V->Hp->VK->Prop}{g:List W->(W->Prop)->Prop}{t:TA->TE}(vc:cE X rl r g)(ha:vV X rl es fs){e:Expr}(hp:∀ta,PA X es ta->PE X e (uI r ta)):PV X rl e (ci g fs):=by
 obtain⟨ta,p1,k1⟩:=ha;refine⟨_,hp ta p1,fun R Qd Q q k=>k1 R _ _ q fun vs ws F1 H1 g1 r1 q1=>?_⟩;exact vc Qd Q g1.sub g1.reel r1 q1 fun v w F2 H2 g2 r2 n2 q2=>k v w F2 H2 (g1.trans g2) r2 (n2.back g1) q2
theorem bQ{id:String}{r:List V->Hp->VK->Prop}{g:List W->(W->Prop)->Prop}(hc:bX X (.builtin id) r)(vc:cE X rl r g)(hm:X.mg x=none)(hv:zx x=some (.builtin id))(ha:vV X rl (e::es) fs)(hg:autoParam (Gl X x) æa._auto_1)(hn:autoParam (x ≠ "__name__") æb._auto_1)(hdb:autoParam ((x==("__debug__" : Str))=false) æb._auto_1)
 (he:autoParam (wR (e::es) X.env=(false,eval e X.env)::wR es X.env) æa._auto_1)(hpl:autoParam ((yR pos (wR es X.env)).any (·.1)=false) æa._auto_1):PV X rl (.Call (.Name x p) (e::es) [] pos) (ci g fs) :=
 dB (t:=fun _=>tC .non) vc ha fun _ p1=>bw hc hg hm hv p1 hn hdb he hpl
theorem jT{T:String}{r:List V->Hp->VK->Prop}{g:List W->(W->Prop)->Prop}(hc:bX X (.type T) r)(vc:cE X rl r g)(hm:X.mg x=none)(hv:zx x=some (.type T))(ha:vV X rl (e::es) fs)(hg:autoParam (Gl X x) æa._auto_1)(hn:autoParam (x ≠ "__name__") æb._auto_1)(hdb:autoParam ((x==("__debug__" : Str))=false) æb._auto_1)
 (he:autoParam (wR (e::es) X.env=(false,eval e X.env)::wR es X.env) æa._auto_1)(hpl:autoParam ((yR pos (wR es X.env)).any (·.1)=false) æa._auto_1):PV X rl (.Call (.Name x p) (e::es) [] pos) (ci g fs) :=
 dB (t:=fun _=>tC .non) vc ha fun _ p1=>cR hc hg hm hv p1 hn hdb he hpl
theorem jZ{K:W.Frag}{w:W}(r:cF K rl F H vs [w]):∃v,vs=[v]/\ce K rl F H v w:=by
 cases r with
 | cons r1 r2=>cases r2;exact⟨_,rfl,r1⟩
theorem qw{K:W.Frag}{w w':W}(r:cF K rl F H vs [w,w']):∃v u,vs=[v,u]/\ce K rl F H v w/\ce K rl F H u w':=by
 cases r with
 | cons r1 r2 =>
   cases r2 with
   | cons r3 r4=>cases r4;exact⟨_,_,rfl,r1,r3⟩
noncomputable def pW:List W->(W->Prop)->Prop:=fun ws Q=>∃i,ws=[.d (.int i)]/\Q (.d (.int (if i<0 then -i else i)))
theorem nu:cE X rl (fun xs H Q=>∃i,xs=[.int i]/\Q (.int (if i<0 then -i else i)) H) pW:=fun{F H vs ws} Qd Q s ra r ⟨i,ew,q⟩ k=>by
 subst ew;obtain⟨v,rfl,r1⟩:=jZ r;have e:=ay r1;subst e;exact⟨i,rfl,k _ (.d _) _ _ (Grow.refl s ra) (.int _) trivial q⟩
noncomputable def mK:wD->Option Nat
 | .list xs=>some xs.length
 | .tuple xs=>some xs.length
 | _=>none
noncomputable def pU:List W->(W->Prop)->Prop:=fun ws Q=>∃w d n,ws=[w]/\w.dat=some d/\mK d=some n/\Q (.d (.int n))
theorem nq:cE X rl (fun xs H Q=>∃p ys,xs=[.ref p]/\(vR X.K H p ys\/vQ X.K H p ys)/\Q (.int ys.length) H) pU:=fun{F H vs ws} Qd Q s ra r ⟨w,d,n,ew,e1,e2,q⟩ k=>by
 subst ew;obtain⟨v,rfl,r1⟩:=jZ r
 cases d with
 | list xs =>
   obtain⟨a,vs,rfl,sq,rs⟩:=r1.items s e1;cases e2
   exact⟨a,vs,rfl,.inl sq,k _ (.d _) _ _ (Grow.refl s ra) (by rw[rs.length];exact .int _) trivial q⟩
 | tuple xs =>
   obtain⟨a,vs,rfl,sq,rs⟩:=r1.itemsT s e1;cases e2
   exact⟨a,vs,rfl,.inr sq,k _ (.d _) _ _ (Grow.refl s ra) (by rw[rs.length];exact .int _) trivial q⟩
 | none=>cases e2
 | bool b=>cases e2
 | int b=>cases e2
 | str b=>cases e2
 | dict b=>cases e2
end
structure VEnds where
 nx:En->Prop
 rt:W->Prop
 bk:En->Prop:=fun _=>False
 ct:En->Prop:=fun _=>False
structure EndsOk (K:W.Frag) (rl:Option Addr) (F₀ H₀ Fs:Hp) (Dv:VEnds) (D:Ends):Prop where
 nx:∀F H σ ρ,aS Fs F->VR K rl F₀ H₀ F H σ ρ->Dv.nx ρ->D.nx σ H
 rt:∀v w F H,Grow rl F₀ H₀ F H->ce K rl F H v w->c5 H₀ v w->Dv.rt w->D.rt v H
 bk:∀F H σ ρ,aS Fs F->VR K rl F₀ H₀ F H σ ρ->Dv.bk ρ->D.bk σ H
 ct:∀F H σ ρ,aS Fs F->VR K rl F₀ H₀ F H σ ρ->Dv.ct ρ->D.ct σ H
theorem EndsOk.on{K:W.Frag}{Fs:Hp}{Dv:VEnds}{D:Ends}(ok:EndsOk K rl F₀ H₀ Fs Dv D)(s:aS Fs F):EndsOk K rl F₀ H₀ F Dv D :=
 ⟨fun F1 H σ ρ s1=>ok.nx F1 H σ ρ (s.trans s1),ok.rt,fun F1 H σ ρ s1=>ok.bk F1 H σ ρ (s.trans s1),fun F1 H σ ρ s1=>ok.ct F1 H σ ρ (s.trans s1)⟩
abbrev vL:=VEnds->En->Prop
noncomputable def vY(X:Cx)(rl:Option Addr)(st:Stmt)(t:vL):Prop:=∃T,PS X st T/\∀{F₀ H₀ F H:Hp}{σ:St}{ρ:En},VR X.K rl F₀ H₀ F H σ ρ->∀Dv D,EndsOk X.K rl F₀ H₀ F Dv D->t Dv ρ->T D σ H
noncomputable def hJ(X:Cx)(rl:Option Addr)(st:List Stmt)(t:vL):Prop:=∃T,vX X st T/\∀{F₀ H₀ F H:Hp}{σ:St}{ρ:En},VR X.K rl F₀ H₀ F H σ ρ->∀Dv D,EndsOk X.K rl F₀ H₀ F Dv D->t Dv ρ->T D σ H
section
variable{X:Cx}{rl:Option Addr}{st:Stmt}{rest body:List Stmt}{t u:vL}{a b c e:Expr}{es:List Expr}{fa fb:TV}{fs:vK}{f:TB}{pos p:Pos}
noncomputable def nM:vL:=fun D ρ=>D.nx ρ
noncomputable def sa(t u:vL):vL:=fun D ρ=>t {D with nx:=u D} ρ
theorem fZ:hJ X rl [] nM:=⟨_,dH,fun R Dv D ok q=>ok.nx _ _ _ _ (.refl _) R q⟩
theorem av(h:vY X rl st t):hJ X rl [st] t:=let ⟨T,p,k⟩:=h;⟨T,bR p,k⟩
theorem ah(h:vY X rl st t)(h2:hJ X rl rest u):hJ X rl (st::rest) (sa t u):=by
 obtain⟨T,p,k⟩:=h;obtain⟨T2,p2,k2⟩:=h2;exact⟨_,aN p p2,fun R Dv D ok q=>k R {Dv with nx:=u Dv} {D with nx:=T2 D} ⟨fun F H σ ρ s' R' q'=>k2 R' Dv D (ok.on s') q',ok.rt,ok.bk,ok.ct⟩ q⟩
noncomputable def qm(fa:TV):vL:=fun D ρ=>fa ρ fun _=>D.nx ρ
noncomputable def sd(fa:TV):vL:=fun D ρ=>fa ρ D.rt
theorem aU(h:PV X rl e fa):vY X rl (.Return (some e) pos) (sd fa):=by
 obtain⟨t,p,k⟩:=h;exact⟨_,gj p,fun R Dv D ok q=>k R _ _ q fun v w F1 H1 g1 r1 n1 q1=>ok.rt v w F1 H1 (R.g.trans g1) r1 (n1.back R.g) q1⟩
noncomputable def qh:vL:=fun D _=>D.rt (.d .none)
noncomputable def ql(f:TB)(t u:vL):vL:=fun D ρ=>f ρ fun b=>if b=true then t D ρ else u D ρ
theorem h9{A B:List Stmt}(hc:PB X rl c f)(ha:hJ X rl A t)(hb:hJ X rl B u):vY X rl (.If c A B pos) (ql f t u):=by
 obtain⟨t0,p0,k0⟩:=hc;obtain⟨t1,p1,k1⟩:=ha;obtain⟨t2,p2,k2⟩:=hb;refine⟨_,j8 p0 p1 p2,fun R Dv D ok q=>k0 R _ _ q fun b F1 H1 g1 q1=>?_⟩
 cases b with
 | true=>exact k1 (R.grow g1) Dv D (ok.on g1.fs) q1
 | false=>exact k2 (R.grow g1) Dv D (ok.on g1.fs) q1
theorem jO:vY X rl st (fun _ _=>False):=⟨_,j7,fun _ _ _ _ q=>q.elim⟩
noncomputable def W.isPk:W->Bool
 | .pk _=>true
 | _=>false
noncomputable def r_(i:Nat)(fa:TV):vL:=fun D ρ=>fa ρ fun w=>w.isPk=false/\D.nx (ρ.set i (some w))
theorem kQ(i:Nat){pos':Pos}(hN:X.N.Nodup)(he:PV X rl e fa)(hi:autoParam (X.N[i]?=some x) æa._auto_1)(hx:autoParam (Loc X.env.scope x) æd._auto_1)
 (hs:autoParam (zR e (some (.Name x pos')) pos.line X.env=pure false) æa._auto_1)(hf:autoParam (X.fn x=true\/X.env.scope.names.lookup x=some .local) æe._auto_1) :
 vY X rl (.Assign [.Name x pos'] e pos) (r_ i fa):=by
 obtain⟨t,p,k⟩:=he;refine⟨_,b8 hN hi hx p hs hf,fun R Dv D ok q=>k R _ _ q fun v w F1 H1 g1 r1 n1 ⟨hp,q1⟩=>?_⟩;exact ok.nx _ _ _ _ g1.fs (R.set g1 r1 n1 (fun xs z=>by subst z;cases hp) i) q1
noncomputable def kP(ρ:En):Prop:=∀(i:Nat)(w:W),ρ[i]?=some (some w)->w.own=false
theorem kP.set{ρ:En}(h:kP ρ)(i:Nat)(x:wD):kP (ρ.set i (some (.d x))):=fun j w z=>by
 rw[xP]at z;split at z
 · split at z
   · cases z;rfl
   · cases z
 · exact h j w z
abbrev vN:=wD->En->(En->Prop)->Prop
abbrev hW:=List wD->En->(En->Prop)->Prop
noncomputable def v7(X:Cx)(rl:Option Addr)(tg:Expr)(g:vN):Prop:=∃G,PG X tg G/\∀{F₀ H₀ F H:Hp}{σ:St}{ρ:En},VR X.K rl F₀ H₀ F H σ ρ->∀(v:V)(x:wD)(Qd:En->Prop)(Q:St->Hp->Prop),Rep X.K F v x->g x ρ Qd ->
 (∀F' H' σ' ρ',Grow rl F H F' H'->(kP ρ->kP ρ')->VR X.K rl F₀ H₀ F' H' σ' ρ'->Qd ρ'->Q σ' H')->G v σ H Q
noncomputable def pX(X:Cx)(rl:Option Addr)(tgs:List Expr)(g:hW):Prop:=∃G,v6 X tgs G/\∀{F₀ H₀ F H:Hp}{σ:St}{ρ:En},VR X.K rl F₀ H₀ F H σ ρ->∀(vs:List V)(xs:List wD)(Qd:En->Prop)(Q:St->Hp->Prop),Reps X.K F vs xs->g xs ρ Qd ->
 (∀F' H' σ' ρ',Grow rl F H F' H'->(kP ρ->kP ρ')->VR X.K rl F₀ H₀ F' H' σ' ρ'->Qd ρ'->Q σ' H')->G vs σ H Q
noncomputable def o5(i:Nat):vN:=fun x ρ Q=>Q (ρ.set i (some (.d x)))
theorem aE(i:Nat)(hN:X.N.Nodup)(hi:autoParam (X.N[i]?=some x) æa._auto_1)(hx:autoParam (Loc X.env.scope x) æd._auto_1)(hf:autoParam (X.fn x=true\/X.env.scope.names.lookup x=some .local) æe._auto_1):v7 X rl (.Name x pos) (o5 i) :=
 ⟨_,mq hN hi hx hf,fun R v x Qd Q r q k=>k _ _ _ _ (Grow.refl R.sub R.reel) (fun n=>n.set i x) (R.set (w:=.d x) (Grow.refl R.sub R.reel) r trivial (fun _ z=>by cases z) i) q⟩
noncomputable def qM:hW:=fun xs ρ Q=>xs=[]/\Q ρ
noncomputable def kv(g:vN)(gs:hW):hW:=fun xs ρ Q=>∃y r,xs=y::r/\g y ρ fun ρ'=>gs r ρ' Q
theorem dA:pX X rl [] qM:=⟨_,mm,fun R vs xs Qd Q r ⟨e,q⟩ k=>by subst e;exact⟨r.nil_iff,k _ _ _ _ (Grow.refl R.sub R.reel) (fun n=>n) R q⟩⟩
theorem bm{g:vN}{gs:hW}(h1:v7 X rl e g)(h2:pX X rl es gs)(hs:autoParam ((yS (e::es) X.env).map (·.2)=Bw e X.env::(yS es X.env).map (·.2)) æa._auto_1):pX X rl (e::es) (kv g gs):=by
 obtain⟨G,p,k⟩:=h1;obtain⟨G2,p2,k2⟩:=h2;refine⟨_,j9 p p2 hs,fun R vs xs Qd Q r ⟨y,ys,ex,q⟩ h=>?_⟩;subst ex
 cases r with
 | cons r1 r2 =>
   refine⟨_,_,rfl,k R _ y _ _ r1 q fun F1 H1 σ1 ρ1 s1 n1 R1 q1=>?_⟩;exact k2 R1 _ ys _ _ (r2.mono s1.fs) q1 fun F2 H2 σ2 ρ2 s2 n2 R2 q2=>h F2 H2 σ2 ρ2 (s1.trans s2) (fun n=>n2 (n1 n)) R2 q2
noncomputable def qL(n:Nat)(gs:hW):vN:=fun x ρ Q=>∃xs,x = .tuple xs/\xs.length=n/\gs xs ρ Q
theorem ga{kk:Nat}{gs:hW}(hc:X.calm=true)(h:pX X rl es gs)(hn:autoParam ((yS es X.env).length=n) æa._auto_1)(hst:autoParam ((yS es X.env).findIdx? (·.1)=none) æa._auto_1):v7 X rl (.Tuple es kk pos) (qL n gs):=by
 obtain⟨G,p,k⟩:=h;refine⟨_,oF hc p hn hst,fun R v x Qd Q r ⟨xs,ex,hl,q⟩ h=>?_⟩;subst ex
 cases r with
 | tup sq rs=>exact⟨_,_,rfl,eI R.sub sq,by rw[rs.length];exact hl,k R _ xs _ _ rs q h⟩
noncomputable def qo(fa:TV)(g:vN):vL:=fun D ρ=>fa ρ fun w=>∃x,w = .d x/\g x ρ D.nx
theorem ia{g:vN}(he:PV X rl e fa)(hg:v7 X rl tg g)(hs:autoParam (AV [tg] e pos.line X.env=pure false) æa._auto_1)(hw:autoParam (AW [tg] e X.env=pure none) æa._auto_1)
 (h1:autoParam ((yS [tg] X.env).map (·.2)=[Bw tg X.env]) æa._auto_1):vY X rl (.Assign [tg] e pos) (qo fa g):=by
 obtain⟨t,p,k⟩:=he;obtain⟨G,p2,k2⟩:=hg;refine⟨_,eO p p2 hs hw h1,fun R Dv D ok q=>k R _ _ q fun v w F1 H1 g1 r1 n1 ⟨x,ew,q1⟩=>?_⟩;subst ew;exact k2 (R.grow g1) v x _ _ r1 q1 fun F2 H2 σ2 ρ2 s2 n2 R2 q2=>ok.nx _ _ _ _ (g1.fs.trans s2.fs) R2 q2
noncomputable def sf(i j:Nat)(fs:vK):vL:=fun D ρ=>fs ρ fun ws=>∃x y,dS ws=some [x,y]/\D.nx ((ρ.set i (some (.d x))).set j (some (.d y)))
theorem dZ(i j:Nat){y:Str}{px py pt:Pos}{kt k2 pt2}(hc:X.calm=true)(hN:X.N.Nodup)(ha:vV X rl [a,b] fs)
 (hw:autoParam (AW [.Tuple [.Name x px,.Name y py] kt pt] (.Tuple [a,b] k2 pt2) X.env=pure (some [x,y])) æa._auto_1)(hi:autoParam (X.N[i]?=some x) æa._auto_1)(hj:autoParam (X.N[j]?=some y) æa._auto_1)(hij:autoParam (i≠j) æb._auto_1)
 (hx:autoParam (X.env.scope.names.lookup x=some .local) æa._auto_1)(hy:autoParam (X.env.scope.names.lookup y=some .local) æa._auto_1)
 (hs:autoParam (AV [.Tuple [.Name x px,.Name y py] kt pt] (.Tuple [a,b] k2 pt2) pos.line X.env=pure false) æa._auto_1) :
 vY X rl (.Assign [.Tuple [.Name x px,.Name y py] kt pt] (.Tuple [a,b] k2 pt2) pos) (sf i j fs):=by
 obtain⟨t,p,k⟩:=ha;refine⟨_,oC hc hN hi hj hij hx hy p hw hs,fun R Dv D ok q=>k R _ _ q fun vs ws F1 H1 g1 r1 ⟨x,y,e1,q1⟩=>?_⟩;have rs:=ca r1 e1
 cases rs with
 | cons rx rs =>
   cases rs with
   | cons ry rs =>
     cases rs;have R1:=(R.grow g1).set (w:=.d x) (Grow.refl g1.sub g1.reel) rx trivial (fun _ z=>by cases z) i;exact⟨_,_,rfl,ok.nx _ _ _ _ g1.fs (R1.set (w:=.d y) (Grow.refl g1.sub g1.reel) ry trivial (fun _ z=>by cases z) j) q1⟩
structure VIt (K:W.Frag) (rl:Option Addr) (F:Hp) (J:It) (xs:List wD):Prop where
 go:∀i H x,xs[i]?=some x->aS F H->J.go i H
 stop:∀i H,xs.length<=i->aS F H->J.stop i H
 yld:∀i H v H' x F2,xs[i]?=some x->aS F F2->aS F2 H->vU rl F2 H->J.yld i H v H'->∃F3,Grow rl F2 H F3 H'/\Rep K F3 v x
theorem VIt.of{K:W.Frag}{rl:Option Addr}{J:It}{xs:List wD}(go:∀i H x,xs[i]?=some x->aS F H->J.go i H)(stop:∀i H,xs.length<=i->aS F H->J.stop i H)
 (yld:∀i H v H' x,xs[i]?=some x->aS F H->J.yld i H v H'->H'=H/\Rep K F v x):VIt K rl F J xs :=
 ⟨go,stop,fun i H v H' x F2 e s s2 ra y=>by
  obtain⟨e1,r⟩:=yld i H v H' x e (s.trans s2) y;subst e1
  exact⟨F2,Grow.refl s2 ra,r.mono s⟩⟩
noncomputable def vZ(X:Cx)(rl:Option Addr)(tg iter:Expr)(fi:En->(List wD->Prop)->Prop):Prop:=∃wi,PI X tg iter wi/\∀{F₀ H₀ F H:Hp}{σ:St}{ρ:En},VR X.K rl F₀ H₀ F H σ ρ->∀(Qd:List wD->Prop)(R:It->Hp->Prop),fi ρ Qd ->
 (∀J xs F' H',Grow rl F H F' H'->VIt X.K rl F' J xs->Qd xs->R J H')->wi σ H R
end
section
variable{X:Cx}{rl:Option Addr}{st:Stmt}{rest body:List Stmt}{t u:vL}{a b c e:Expr}{es:List Expr}{fa fb:TV}{fs:vK}{f:TB}{pos p:Pos}{tg:Expr}
noncomputable def sh(i:Nat)(t:vL):vL:=fun D ρ=>∃xs,ρ[i]?=some (some (.ml xs))/\t D (ρ.set i (some (.d (.list xs))))
noncomputable def iL(fa:TV):En->(List wD->Prop)->Prop:=fun ρ Q=>fa ρ fun w=>∃xs,w.fz = .d (.list xs)/\Q xs
noncomputable def iT(fa:TV):En->(List wD->Prop)->Prop:=fun ρ Q=>fa ρ fun w=>∃xs,w.fz = .d (.tuple xs)/\Q xs
theorem cf{l:Expr}(hl:PV X rl l fa):vZ X rl tg l (iL fa):=by
 obtain⟨t,p,k⟩:=hl;refine⟨_,mh p,fun R Qd Q q h=>k R _ _ q fun v w F1 H1 g1 r1 n1 ⟨xs,ew,q1⟩=>?_⟩;obtain⟨F2,g2,s2,r2⟩:=ce.fz g1 r1 n1;rw[ew]at r2
 cases(show Rep X.K F2 v (.list xs)from r2)with
 | @lst a vs _ sq rs =>
   have sqH:∀H,aS F2 H->vR X.K H a vs:=fun H s=>.inl (.inl (s _ _ sq));refine⟨a,rfl,⟨vs,sqH H1 g2.sub⟩,h _ xs F2 H1 g2 (.of (fun i H x e s=>?_) (fun i H hl s=>⟨vs,sqH H s,by rw[rs.length];exact hl⟩) (fun i H v H' x e s y=>?_)) q1⟩
   · obtain⟨v,ev,_⟩:=rs.get e;exact⟨vs,v,sqH H s,ev⟩
   · obtain⟨e',hy⟩:=y;obtain⟨v',ev,rv⟩:=rs.get e;have:=hy vs (sqH H s);rw[ev]at this;cases this;exact⟨e',rv⟩
theorem kU{l:Expr}(hl:PV X rl l fa):vZ X rl tg l (iT fa):=by
 obtain⟨t,p,k⟩:=hl;refine⟨_,oE p,fun R Qd Q q h=>k R _ _ q fun v w F1 H1 g1 r1 n1 ⟨xs,ew,q1⟩=>?_⟩;obtain⟨F2,g2,s2,r2⟩:=ce.fz g1 r1 n1;rw[ew]at r2
 cases(show Rep X.K F2 v (.tuple xs)from r2)with
 | @tup a vs _ sq rs =>
   have sqH:∀H,aS F2 H->vQ X.K H a vs:=fun H s=>eI s sq;refine⟨a,rfl,⟨vs,sqH H1 g2.sub⟩,h _ xs F2 H1 g2 (.of (fun i H x e s=>?_) (fun i H hl s=>⟨vs,sqH H s,by rw[rs.length];exact hl⟩) (fun i H v H' x e s y=>?_)) q1⟩
   · obtain⟨v,ev,_⟩:=rs.get e;exact⟨vs,v,sqH H s,ev⟩
   · obtain⟨e',hy⟩:=y;obtain⟨v',ev,rv⟩:=rs.get e;have:=hy vs (sqH H s);rw[ev]at this;cases this;exact⟨e',rv⟩
noncomputable def aC(lo:Int)(n:Nat):List wD:=(w_ n).map fun(i:Nat)=>.int (lo+i)
theorem df{lo:Int}{x:wD}(h:(aC lo n)[i]?=some x):i<n/\x = .int (lo+i):=by
 unfold aC at h;rw[xM]at h;by_cases hi:i<n
 · rw[wX (by simpa using hi)]at h;simp at h;exact⟨hi,h.symm⟩
 · rw[List.getElem?_eq_none (by simpa using hi)]at h;cases h
theorem dF{lo:Int}:(aC lo n).length=n:=by simp[aC]
theorem ic{K:W.Frag}(lo:Int)(n:Nat):VIt K rl F (wo lo n) (aC lo n) :=
 .of (fun i H x e s=>(df e).1) (fun i H hl s=>by rw[dF]at hl;exact hl) (fun i H v H' x e s y=>by
  obtain⟨e1,e2⟩:=y;subst e2;rw[(df e).2]
  exact⟨e1,.int _⟩)
noncomputable def vj(fs:vK):En->(List wD->Prop)->Prop:=fun ρ Q=>fs ρ fun ws=>∃j:Int,ws=[.d (.int j)]/\(-(2^62)<=j/\j<2^62)/\Q (aC 0 j.toNat)
noncomputable def vh(fs:vK):En->(List wD->Prop)->Prop:=fun ρ Q=>fs ρ fun ws=>∃i j:Int,ws=[.d (.int i),.d (.int j)]/\(-(2^62)<=i/\i<2^62 /\ -(2^62)<=j/\j<2^62)/\Q (aC i (j-i).toNat)
theorem d6(hm:X.mg "range" = none)(ha:vV X rl [a] fs)(hg:autoParam (Gl X "range") æa._auto_1)(hs:autoParam (wR [a] X.env=[(false,eval a X.env)]) æa._auto_1):vZ X rl tg (.Call (.Name "range" p) [a] [] pos) (vj fs):=by
 obtain⟨t,p1,k⟩:=ha;refine⟨_,iQ hg hm p1 hs,fun R Qd Q q h=>k R _ _ q fun vs ws F1 H1 g1 r1 ⟨j,ew,b,q1⟩=>?_⟩;subst ew;obtain⟨v,rfl,rv⟩:=jZ r1;have e:=ay rv;subst e;exact⟨j,rfl,b.1,b.2,h _ _ F1 H1 g1 (ic 0 _) q1⟩
theorem VR.own{K:W.Frag}{F₀ H₀ F H:Hp}{σ:St}{ρ:En}(r:VR K rl F₀ H₀ F H σ ρ){i:Nat}{xs ys:List wD}{a:Addr}{us:List V}(e:ρ[i]?=some (some (.ml xs)))(es:σ[i]?=some (some (.ref a)))(rs:Reps K F us ys) :
 VR K rl F₀ H₀ F (upd H a (.lst us)) σ (ρ.set i (some (.ml ys))):=by
 obtain⟨v,h1,h2,h3⟩:=r.sl i _ e;rw[es]at h1;cases h1;obtain⟨a',vs,ev,f,hr,hh,q⟩:=(show hZ K rl F H (.ref a) xs from h2);cases ev;have n0:H₀ a=none:=h3 a rfl;have hi:i<ρ.length:=(wY.mp e).1;have neF:∀b u,F b=some u->b≠a:=fun b u q z=>by subst z;rw[f]at q;cases q
 have g:Grow rl F₀ H₀ F (upd H a (.lst us)):=by
  refine⟨fun b o q1 n=>by rw[upd_ne (ar q1 n0)];exact r.g.same b o q1 n,r.g.fs,fun b o q1=>by rw[upd_ne (neF b o q1)];exact r.sub b o q1,r.g.old,fun y z=>?_⟩;obtain⟨z1,⟨u,h1,h2⟩⟩:=r.reel y z;exact⟨z1,⟨u,by rw[upd_ne (fun q=>hr (by rw[<- q];exact z))];exact h1,h2⟩⟩
 refine⟨g,fun j w e1=>?_,fun j k ys' zs u hjk e1 e2 w1 w2 s1 s2=>?_,fun j ys' z=>?_,by simp[r.len]⟩
 · by_cases hj:i=j
   · subst hj;rw[xp hi]at e1;cases e1;exact⟨_,es,⟨a,us,rfl,f,hr,ak,rs⟩,h3⟩
   · rw[xb hj]at e1;obtain⟨u,g1,g2,g3⟩:=r.sl j w e1;refine⟨u,g1,?_,g3⟩
     cases w with
     | d x=>exact g2
     | reel=>exact g2
     | vv u=>exact g2
     | ml zs =>
       obtain⟨b,us',eb,f1,f2,f3,f4⟩:=(show hZ K rl F H u zs from g2);have ne:b≠a:=fun z=>r.ap i j _ _ (.ref a) hj e e1 rfl rfl es (by rw[g1,eb,z])
       exact⟨b,us',eb,f1,f2,by rw[upd_ne ne];exact f3,f4⟩
     | pk zs=>exact absurd e1 (r.np j zs)
     | md zs =>
       obtain⟨b,us',eb,f1,f2,f3,f4⟩:=(show p4 K rl F H u zs from g2);have ne:b≠a:=fun z=>r.ap i j _ _ (.ref a) hj e e1 rfl rfl es (by rw[g1,eb,z])
       exact⟨b,us',eb,f1,f2,by rw[upd_ne ne];exact f3,f4⟩
     | mk zs =>
       obtain⟨b,us',eb,f1,f2,f3,f4⟩:=(show pZ K rl F H u zs from g2);have ne:b≠a:=fun z=>r.ap i j _ _ (.ref a) hj e e1 rfl rfl es (by rw[g1,eb,z])
       exact⟨b,us',eb,f1,f2,by rw[upd_ne ne];exact f3,f4⟩
     | xm zs =>
       obtain⟨b,us',eb,f1,f2,f3,f4⟩:=(show pY K rl F H u zs from g2);have ne:b≠a:=fun z=>r.ap i j _ _ (.ref a) hj e e1 rfl rfl es (by rw[g1,eb,z])
       exact⟨b,us',eb,f1,f2,by rw[upd_ne ne];exact f3,f4⟩
     | nt ds=>exact g2
     | lk=>trivial
     | sc _=>exact g2
     | fd _=>exact g2
     | xr _=>exact g2
     | fw _=>exact g2
     | ft _=>exact g2
     | xc _ _=>exact g2
     | dp _ _=>exact g2
 · have nd:∀(j:Nat)(z:W),(ρ.set i (some (W.ml ys)))[j]?=some (some z)->z.own=true->∃z',ρ[j]?=some (some z')/\z'.own=true:=fun j zs z o=>by
     by_cases hj:i=j
     · subst hj;exact⟨_,e,rfl⟩
     · rw[xb hj]at z;exact⟨zs,z,o⟩
   obtain⟨_,d1,o1⟩:=nd j _ e1 w1;obtain⟨_,d2,o2⟩:=nd k _ e2 w2;exact r.ap j k _ _ u hjk d1 d2 o1 o2 s1 s2
 · rw[xP]at z;split at z
   · first|cases z|(split at z<;>cases z)
   · exact r.np j ys' z
noncomputable def sT(K:W.Frag)(rl:Option Addr)(r:V->List V->Hp->VK->Prop)(g:List wD->List W->(List wD->Prop)->Prop):Prop :=
 ∀ {F H:Hp}{a:Addr}{vs args:List V}{xs:List wD}{ws:List W}(Qn:List wD->Prop)(Q:VK),aS F H->H a=some (.lst vs)->Reps K F vs xs->cF K rl F H args ws->g xs ws Qn ->
   (∀us ys,Reps K F us ys->Qn ys->Q .non (upd H a (.lst us)))->r (.ref a) args H Q
noncomputable def pN(i:Nat)(g:List wD->List W->(List wD->Prop)->Prop)(fs:vK):vL:=fun D ρ=>∃xs,ρ[i]?=some (some (.ml xs))/\fs ρ fun ws=>g xs ws fun ys=>D.nx (ρ.set i (some (.ml ys)))
theorem ng(i:Nat){nm:Str}{id:String}{r:V->List V->Hp->VK->Prop}{g:List wD->List W->(List wD->Prop)->Prop}{px apos cpos:Pos}(slot:Slot "list" nm id)(hty:typeOf (.builtin id)=pure (.type "method_descriptor"))(hm:wa X id r)(vm:sT X.K rl r g)(ha:vV X rl (e::es) fs)
 (hN:autoParam (X.N[i]?=some x) æa._auto_1)(hv:autoParam (vH X.env.scope x) æg._auto_1)
 (hd:autoParam ((x==("__debug__" : Str))=false) æb._auto_1)(hcd:autoParam ((x==("__classdict__" : Str))=false) æb._auto_1)
 (hbase:autoParam (BS (.Name x px) nm X.env (eval (.Name x px) X.env)=eval (.Name x px) X.env) æa._auto_1)
 (hfew:autoParam (((yR cpos (wR (e::es) X.env)).all (fun x=>!x.1)&&(backToKw cpos (Cd [] X.env)).all (fun x=>x.1.isSome)
  && decide ((e::es).length+([]:List BW).length+(if([]:List BW).isEmpty then 0 else 1)<30))=true) æa._auto_1)
 (hline:autoParam ((apos.endLine==cpos.line)=true) æa._auto_1)(hs:autoParam (wR (e::es) X.env=(false,eval e X.env)::wR es X.env) æa._auto_1)(hplain:autoParam ((yR cpos (wR es X.env)).any (·.1)=false) æa._auto_1)
 (hsw:autoParam (zR (.Call (.Attribute (.Name x px) nm apos) (e::es) [] cpos) none pos.line X.env=pure false) æa._auto_1) :
 vY X rl (.Expr (.Call (.Attribute (.Name x px) nm apos) (e::es) [] cpos) pos) (pN i g fs):=by
 obtain⟨t,p1,k⟩:=ha;refine⟨_,l8 (qC PySem.F.plainAttrs_list slot hty hm (iR hN hv hd hcd) p1 hbase hfew hline hs hplain) hsw,fun{F₀ H₀ F H σ ρ} R Dv D ok ⟨xs,e1,q⟩=>?_⟩;obtain⟨v,h1,h2,h3⟩:=R.sl i _ e1;obtain⟨a,vs,rfl,f,hr,hh,rs⟩:=(show hZ X.K rl F H v xs from h2);refine⟨.ref a,h1,.inl ⟨rfl,vs,.inl (.inl hh)⟩,k R _ _ q fun args ws F1 H1 g1 r1 q1=>?_⟩;refine vm _ _ g1.sub (g1.same a _ hh hr) (rs.mono g1.fs) r1 q1 fun us ys r2 q2=>?_;exact ok.nx _ _ _ _ g1.fs ((R.grow g1).own e1 h1 r2) q2
noncomputable def pV:List wD->List W->(List wD->Prop)->Prop:=fun xs ws Q=>∃x,dS ws=some [x]/\xs.length<sizeLine/\Q (xs++[x])
theorem nh{K:W.Frag}:sT K rl iK pV:=fun{F H a vs args xs ws} Qn Q s ha rs ra ⟨x,e,z,q⟩ k=>by
 have r2:=ca ra e
 cases r2 with
 | cons rx r3 =>
   cases r3;exact⟨a,vs,_,rfl,rfl,ha,by rw[rs.length];exact z,k _ _ (rs.snoc rx) q⟩
noncomputable def sO:List wD->List W->(List wD->Prop)->Prop:=fun xs ws Q=>∃ys,dS ws=some [.list ys]/\xs.length+ys.length<=sizeLine/\Q (xs++ys)
theorem kR(i:Nat){px apos cpos:Pos}(ha:vV X rl [e] fs)(hN:autoParam (X.N[i]?=some x) æa._auto_1)(hv:autoParam (vH X.env.scope x) æg._auto_1)
 (hd:autoParam ((x==("__debug__" : Str))=false) æb._auto_1)(hcd:autoParam ((x==("__classdict__" : Str))=false) æb._auto_1)
 (hbase:autoParam (BS (.Name x px) "append" X.env (eval (.Name x px) X.env)=eval (.Name x px) X.env) æa._auto_1)
 (hfew:autoParam (((yR cpos (wR [e] X.env)).all (fun x=>!x.1)&&(backToKw cpos (Cd [] X.env)).all (fun x=>x.1.isSome)
  && decide (([e]).length+([]:List BW).length+(if([]:List BW).isEmpty then 0 else 1)<30))=true) æa._auto_1)
 (hline:autoParam ((apos.endLine==cpos.line)=true) æa._auto_1)(hs:autoParam (wR [e] X.env=(false,eval e X.env)::wR [] X.env) æa._auto_1)(hplain:autoParam ((yR cpos (wR [] X.env)).any (·.1)=false) æa._auto_1)
 (hsw:autoParam (zR (.Call (.Attribute (.Name x px) "append" apos) [e] [] cpos) none pos.line X.env=pure false) æa._auto_1) :
 vY X rl (.Expr (.Call (.Attribute (.Name x px) "append" apos) [e] [] cpos) pos) (pN i pV fs) :=
 ng i PySem.F.slot_list_append PySem.F.type_list_append eS nh ha hN hv hd hcd hbase hfew hline hs hplain hsw
noncomputable def cu:W->Bool
 | .ml _=>false
 | .md _=>false
 | .mk _=>false
 | .xm _=>false
 | .pk _=>false
 | _=>true
noncomputable def uk(K:W.Frag)(rl:Option Addr)(P:List W->(wD->Prop)->Prop):Sp:=fun vs H Q _=>∃F ws,aS F H/\vU rl F H/\cF K rl F H vs ws/\ws.all cu=true/\P ws fun d=>∀v F' H',Grow rl F H F' H'->Rep K F' v d->Q v H'
noncomputable def bO(N:List Str)(ws:List W):En:=ws.map some++x6 (N.length-ws.length) none
theorem eN{K:W.Frag}{F H:Hp}:∀{vs:List V}{ws:List W}{i:Nat}{w:W},cF K rl F H vs ws->ws[i]?=some w->∃v,vs[i]?=some v/\ce K rl F H v w
 | _,_,_,_,.nil,e=>by simp at e
 | _,_,0,_,.cons h _,e=>by simp at e;subst e;exact⟨_,rfl,h⟩
 | _,_,i+1,w,.cons _ r,e=>by
   obtain⟨v,h1,h2⟩:=eN (i:=i) (w:=w) r (by simpa using e);exact⟨v,by simpa using h1,h2⟩
theorem d_{ws:List W}{w:W}(h:(bO N ws)[i]?=some (some w)):ws[i]?=some w:=by
 unfold bO at h;by_cases hi:i<ws.length
 · rw[zk (by simpa using hi),xM]at h
   cases q:ws[i]? with
   | none=>rw[q]at h;cases h
   | some x=>rw[q]at h;cases h;rfl
 · rw[Ax (by simpa using hi),AY]at h;split at h<;>cases h
theorem f_{K:W.Frag}{ws:List W}(s:aS F H)(ra:vU rl F H)(r:cF K rl F H vs ws)(ok:ws.all cu=true):VR K rl F H F H (start N vs) (bO N ws):=by
 have hl:vs.length=ws.length:=Ac r;have no:∀(i:Nat) w,(bO N ws)[i]?=some (some w)->cu w=true:=fun i w e=>(z4.mp ok) w (z_ (d_ e));refine⟨Grow.refl s ra,fun i w e=>?_,fun i j xs ys v _ e1 _ o _ _ _=>(by have:=no i _ e1;cases xs<;>first|exact Bool.noConfusion o|exact Bool.noConfusion this),fun i xs e=>(by have:=no i _ e;cases this),?_⟩
 · obtain⟨v,h1,h2⟩:=eN r (d_ e);refine⟨v,?_,h2,?_⟩
   · unfold start;rw[zk (by simpa using(wY.mp h1).1),xM,h1];rfl
   · have:=no i w e
     cases w with
     | ml xs=>cases this
     | md xs=>cases this
     | mk xs=>cases this
     | xm xs=>cases this
     | nt _=>trivial
     | lk=>trivial
     | sc _=>trivial
     | fd _=>trivial
     | xr _=>trivial
     | fw _=>trivial
     | ft _=>trivial
     | xc _ _=>trivial
     | dp _ _=>trivial
     | d _=>trivial
     | pk _=>trivial
     | reel=>trivial
     | vv _=>trivial
 · unfold bO start;simp[hl]
noncomputable def jU(Q:wD->Prop):VEnds:=⟨fun _=>Q .none,fun w=>∃d,w.fz = .d d/\Q d,fun _=>False,fun _=>False⟩
theorem ul{P:wZ}{w:xx}{K:W.Frag}{mg:Str->Option wF}{base:Heap}{st:Stmt}{fa:Addr}{fd:yM}{Pd:List W->(wD->Prop)->Prop}{t:vL}
 (Fn:Fun K x qual st fa fd)(S:FnScope N ps (defScope st))(len:∀ws Q,Pd ws Q->ws.length=ps.length)
 (hbody:∀(cdv:wF)(A:xB)(outer:List Env)(s:wG)(H:Hp)(E:XK),Room k (A.deeper (A7 qual (defScope st) s.heap.objs.size fa cdv)) ->
  hJ (jL ww P w K mg base N qual (defScope st) fa cdv A outer s H E).nox rl (defBody st) t)
 (hread:∀ws Q,Pd ws Q->t (jU Q) (bO N ws)):FnOk P w K mg base ww (k+1) fa fd ps (uk K rl Pd):=by
 refine Fn.ok S (fun vs H Q E ⟨F,ws,_,_,r,_,q⟩=>(Ac r).trans (len ws _ q)) fun cdv A outer s H vs Q E hr h=>?_;obtain⟨F,ws,sm,ra,r,ok,q⟩:=h;obtain⟨T,p,kk⟩:=hbody cdv A outer s H E hr;refine⟨T,p,kk (f_ sm ra r ok) (jU _) _ ⟨?_,?_,fun _ _ _ _ _ _ z=>yk z,fun _ _ _ _ _ _ z=>yk z⟩ (hread ws _ q)⟩
 · intro F1 H1 σ1 ρ1 _ R1 q1;exact q1 .non F1 H1 R1.g .non
 · rintro v w1 F1 H1 g1 r1 n1 ⟨d,ed,q1⟩;obtain⟨F2,g2,s2,r2⟩:=ce.fz g1 r1 n1;rw[ed]at r2;exact q1 v F2 H1 g2 r2
structure Dfn (P:wZ) (w:xx) (K:W.Frag) (mg:Str->Option wF) (base:Heap) (rl:Option Addr) (x:Str) (ps:List Str) (k:Nat) (Pd:List W->(wD->Prop)->Prop):Prop where
 mono:∀ws Q Q',(∀d,Q d->Q' d)->Pd ws Q->Pd ws Q'
 ex:∃f fd,mg x=some (.ref f)/\W.keepIn K (.ref f)=true/\Binds K fd ps []/\FnOk P w K mg base ww k f fd ps (uk K rl Pd)
noncomputable def rX(Pd:List W->(wD->Prop)->Prop)(fs:vK):TV:=fun ρ Q=>fs ρ fun ws=>ws.all cu=true/\Pd ws fun d=>Q (.d d)
theorem aF{Pd:List W->(wD->Prop)->Prop}(D:Dfn X.prog X.w X.K X.mg X.base rl x ps k Pd)(hr:Room k X.A)(ha:vV X rl (e::es) fs)(hg:autoParam (Gl X x) æa._auto_1)
 (hdb:autoParam ((x==("__debug__" : Str))=false) æb._auto_1)(he:autoParam (wR (e::es) X.env=(false,eval e X.env)::wR es X.env) æa._auto_1)(hpl:autoParam ((yR pos (wR es X.env)).any (·.1)=false) æa._auto_1) :
 PV X rl (.Call (.Name x p) (e::es) [] pos) (rX Pd fs):=by
 obtain⟨f,fd,hm,hk,hb,F⟩:=D.ex;obtain⟨t,p1,kk⟩:=ha;refine⟨_,iS F hr hg hm hk hb .nil oH p1 hdb he hpl,fun R Qd Q q h=>kk R _ _ q fun vs ws F1 H1 g1 r1 ⟨ok,q1⟩=>?_⟩;refine⟨F1,ws,g1.sub,g1.reel,by rw[yF];exact r1,ok,?_⟩;exact D.mono ws _ _ (fun d qd v F2 H2 g2 r2=>h v (.d d) F2 H2 (g1.trans g2) r2 trivial qd) q1
end
end L2.VL
variable{w:L2.VL.W}{ρ:L2.VL.En}
namespace L2
theorem cr{env:Env}:∀(names:List (Str×zD))(acc:List (Str×Addr)),(∀x∈names,x.2 = .free->∃c,env.cells.lookup x.1=some c)->(∀x c,acc.lookup x=some c->env.cells.lookup x=some c) ->
 ∃ cl,(forIn names acc (fun(x:Str×zD)(cs:List (Str×Addr))=>if(x.2==xF)=true then do let c <- cellOf env x.1;pure (za ((x.1,c)::cs))else pure (za cs)):Sem (List (Str×Addr)))=pure cl /\
   (∀x c,cl.lookup x=some c->env.cells.lookup x=some c)/\(∀x,(acc.lookup x).isSome=true->(cl.lookup x).isSome=true)/\∀x,(x,xF)∈names->(cl.lookup x).isSome=true
 | [],acc,_,h2=>⟨acc,rfl,h2,fun _ z=>z,fun _ z=>nomatch z⟩
 | (n,k)::r,acc,h1,h2=>by
   by_cases hk:k = .free
   · subst hk;obtain⟨c,hc⟩:=h1 (n,.free) wQ rfl
     have h2':∀x c',((n,c)::acc).lookup x=some c'->env.cells.lookup x=some c':=fun x c' z=>by
      rw[xG]at z
      cases e:x==n with
      | true =>
        rw[e]at z;have e':x=n:=by simpa using e
        cases z;rw[e']
        exact hc
      | false =>
        rw[e]at z;exact h2 x c' z
     obtain⟨cl,e,g1,g2,g3⟩:=cr r ((n,c)::acc) (fun x hx=>h1 x (wL _ hx)) h2';refine⟨cl,?_,g1,fun x z=>g2 x ?_,fun x z=>?_⟩
     · rw[Bh];simp only[beq_self_eq_true,if_true];have e0:cellOf env n=pure c:=by unfold cellOf;rw[hc]
       rw[e0,pure_bind,pure_bind];exact e
     · rw[xG];split
       · rfl
       · exact z
     · rcases xC.mp z with z|z
       · cases z;refine g2 _ ?_;rw[xG];simp
       · exact g3 x z
   · obtain⟨cl,e,g1,g2,g3⟩:=cr r acc (fun x hx=>h1 x (wL _ hx)) h2;refine⟨cl,?_,g1,g2,fun x z=>?_⟩
     · rw[Bh];have hb:(k==xF)=false:=by simpa using hk
       simp only[hb,yX,if_false];rw[pure_bind];exact e
     · rcases xC.mp z with z|z
       · cases z;exact absurd rfl hk
       · exact g3 x z
theorem cY{env:Env}(h:∀x∈scope.names,x.2 = .free->∃c,env.cells.lookup x.1=some c) :
 ∃cl,closureFor scope env=pure cl/\(∀x c,cl.lookup x=some c->env.cells.lookup x=some c)/\∀x,(x,xF)∈scope.names->(cl.lookup x).isSome=true:=by
 obtain⟨cl,e,g1,_,g3⟩:=cr scope.names [] h (fun _ _ z=>by cases z);refine⟨cl,?_,g1,g3⟩;unfold closureFor
 first
  | exact e
  | (simp only[bind_pure];exact e)
theorem eK{env:Env}(h:(relabel scope env).names.lookup x=some .cell\/(relabel scope env).names.lookup x=some .free):(x,xF)∈scope.names\/(x,yn)∈scope.names:=by
 have key:∀names:List (Str×zD),∀k,(k = .cell\/k = .free) ->
  (names.map fun(n,k)=>if(k==xF&&env.scope.kind == .function&&env.kindOf n==some .cell)then(n,yn)else(n,k)).lookup x=some k->(x,xF)∈names\/(x,yn)∈names:=by
  intro names
  induction names with
  | nil=>intro k _ z;cases z
  | cons y r ih =>
    intro k hk z;obtain⟨n,kn⟩:=y;have step:((x,xF)∈r\/(x,yn)∈r)->((x,xF)∈(n,kn)::r\/(x,yn)∈(n,kn)::r):=fun z=>z.imp (wL _) (wL _);rw[x9]at z;dsimp only at z;by_cases hc:(kn==xF&&env.scope.kind == .function&&env.kindOf n==some .cell)=true
    · rw[if_pos hc,xG]at z
      have hf:kn = .free:=by
       have:=(wU.mp (wU.mp hc).1).1;simpa using this
      cases e:x==n with
      | true =>
        have e':x=n:=by simpa using e
        rw[e',<- hf]
        exact .inl wQ
      | false =>
        rw[e]at z;exact step (ih k hk z)
    · rw[if_neg hc,xG]at z
      cases e:x==n with
      | true =>
        rw[e]at z;have e':x=n:=by simpa using e
        cases z;rcases hk with hk|hk
        · rw[e',hk];exact .inr wQ
        · rw[e',hk];exact .inl wQ
      | false =>
        rw[e]at z;exact step (ih k hk z)
 rcases h with h|h
 · exact key scope.names .cell (.inl rfl) h
 · exact key scope.names .free (.inr rfl) h
theorem aB:∀(names:List (Str×zD))(n:Nat)(acc:List (Str×Addr)),yc n names acc=yc n names []++acc
 | [],_,_=>rfl
 | (x,k)::r,n,acc=>by
   unfold yc;split
   · rw[aB r (n+1) ((x,n)::acc),aB r (n+1) [(x,n)],zL];rfl
   · exact aB r n acc
theorem bB{x:Str}{c:Addr}:∀{names:List (Str×zD)}{n:Nat},(x,c)∈yc n names []->(x,yn)∈names
 | (y,k)::r,n,h=>by
   unfold yc at h;split at h
   · rename_i hk;rw[aB]at h;rcases yr.mp h with h|h
     · exact wL _ (bB h)
     · simp at h;have:k = .cell:=by simpa using hk
       rw[h.1,this];exact wQ
   · exact wL _ (bB h)
theorem cn{a b:List (Str×Addr)}:(a++b).lookup x=(a.lookup x).or (b.lookup x):=by
 induction a with
 | nil=>simp
 | cons y a ih =>
   obtain⟨n,c⟩:=y;rw[List.cons_append,xG,xG];cases x==n<;>simp[ih]
theorem fM{M:Model}{A:xB}{E:wF->wG->Prop}{s:wG}{globals:Addr}{cl:List (Str×Addr)}{o:Env}{Q:Env->wG->Prop}
 (hQ:Q {scope,locals:=s.heap.objs.size,globals,cells:=yc (s.heap.objs.size+1) scope.names cl,qual,func:=none,code:=o.code,frame:=o.frame,builtins:=o.builtins} {s with heap:=Ce (s.heap.push {cls:=.type "dict", data:=.dict #[]}) scope.names}) :
 xq M A (AH scope globals cl [] qual none .none (some o)) Q E s:=by
 simp only[AH,Option.isSome_some,if_true];refine wE (wpAny_alloc ?_);refine wE (wpAny_layCells _ (fun name kind cells=>by cases hkc:kind==yn<;>simp[hkc]) _ _ _ _ ?_);rw[show({s with heap:=s.heap.push {cls:=.type "dict", data:=.dict #[]}}:wG).heap.objs.size=s.heap.objs.size+1 from yU ..];exact wE (wI (wI hQ))
noncomputable def aX(X:Cx)(N':List Str)(scope:Scope)(cl:List (Str×Addr))(fp:List Addr)(pn:List (Addr×Obj))(s:wG)(H:Hp):Cx :=
 {X with N:=N',s₀:=s,H₀:=H,env:={compEnvC scope cl s.heap.objs.size X.env with cells:=yc (s.heap.objs.size+1) scope.names cl},outer:=X.stack,ex:=fp,fn:=fun x=>scope.names.lookup x==some .cell,pn:=pn,xe:=fun _ _=>False}
abbrev iw(ifs:List Expr)(env:Env):Sem Bool:=forIn ifs true fun c r=>if r=true then do let ok <- isTrue c env (eval c env);pure (za ok)else pure (za r)
noncomputable def vW(X:Cx)(ifs:List Expr)(t:TT):Prop :=
 ∀(pins:List (Addr×Obj))(s:wG)(σ:St)(H:Hp)(Q:Bool->Hp->Prop),Inv X pins σ H s->t σ H Q->xq (xH X.prog X.w) X.A (iw ifs X.env) (TP X pins σ Q) X.xe s
theorem l5{X:Cx}:vW X [] (fun _ H Q=>Q true H):=fun _ _ _ H _ I h=>wpAny_tests_nil ⟨H,I,h⟩
theorem l4{X:Cx}{c:Expr}{t:TT}(h:PT X c t):vW X [c] t:=fun pins s σ H Q I hw=>wpAny_tests_one (h pins s σ H Q I hw)
theorem js{prog:wZ}{w:xx}{A:xB}{R:Result->wG->Prop}{s:wG}{elt target iter:Expr}{ifs:List Expr}{it acc:wF}{env:Env}(I:Nat->wG->Prop)
 (turn:∀n s,I n s->xq (xH prog w) A (A6 it) (fun r s₁=>(r=none/\R (.ok .next) s₁)\/∃v,r=some v /\
  xq (xH prog w) A (Aj target it v) (fun _ s₂=>xq (xH prog w) A (Bw target env v) (fun _ s₃=>xq (xH prog w) A (iw ifs env) (fun ok s₄ =>
   if ok=true then xq (xH prog w) A (eval elt env) (fun x s₅=>xq (xH prog w) A (call (.builtin "list.append") [acc,x]) (fun _ s₆=>∃m,m<n/\I m s₆) (fun _ _=>False) s₅) (fun _ _=>False) s₄
   else ∃m,m<n/\I m s₄) (fun _ _=>False) s₃) (fun _ _=>False) s₂) (fun _ _=>False) s₁) (fun _ _=>False) s)
 (n:Nat)(h:I n s):Al (xH prog w) A (.compLoop (.ListComp elt [⟨target,iter,ifs,0⟩] scope pos) 0 it acc env) R s:=by
 refine codeAny_loop rfl I (fun n s hI=>?_) n h;show xq _ A ((compTurn (.ListComp elt [⟨target,iter,ifs,0⟩] scope pos) 0 it acc env).onRaise (fun x=>do noteFrame x env;theTreesLotGoes x)) _ _ s;refine wpAny_noted ?_;rw[compTurn_list];refine wE (AU (wE (zh (turn n s hI) (fun r s₁ h₁=>?_) fun _ _ h'=>h'.elim)));rcases h₁ with⟨rfl,h₁⟩|⟨v,rfl,h₁⟩
 · exact wI h₁
 · refine wE (zh h₁ (fun _ s₂ h₂=>wE (zh h₂ (fun _ s₃ h₃=>wE (zh h₃ (fun ok s₄ h₄=>?_) fun _ _ z=>z.elim)) fun _ _ z=>z.elim)) fun _ _ z=>z.elim)
   cases ok with
   | false=>exact wI ⟨rfl,h₄⟩
   | true=>exact wE (wE (zh h₄ (fun x s₅ h₅=>wE (zh h₅ (fun _ s₆ h₆=>wI (wI ⟨rfl,h₆⟩)) fun _ _ z=>z.elim)) fun _ _ z=>z.elim))
noncomputable def kF(fr:List (Option Nat))(σ:St):St:=fr.map fun o=>o.bind fun j=>(σ[j]?).join
noncomputable def m9(fr:List (Option Nat))(N' N:List Str)(sc scX:Scope):Bool :=
 decide (fr.length=N'.length)&&(w_ fr.length).all fun i=>match fr[i]? with
  | some (some j)=>match N'[i]? with
    | some x=>decide (N[j]?=some x)&&decide (sc.names.lookup x=some .free)&&(decide (scX.names.lookup x=some .cell)||decide (scX.names.lookup x=some .free))
    | none=>false
  | _=>true
noncomputable def pP(sc scX:Scope):Bool :=
 decide (sc.kind = .function)&&sc.names.all fun y=>(decide (y.2 ≠ .cell)||decide (sc.names.lookup y.1=some .cell))&&(decide (y.2 ≠ .local)||decide (sc.names.lookup y.1=some .local)) &&
  (decide (y.2 ≠ .free)||(decide (scX.names.lookup y.1=some .cell)||decide (scX.names.lookup y.1=some .free)))
theorem m9.get{fr:List (Option Nat)}{N':List Str}{sc scX:Scope}(h:m9 fr N' N sc scX=true):fr.length=N'.length/\∀(i j:Nat),fr[i]?=some (some j)->∃x,N'[i]?=some x/\N[j]?=some x/\sc.names.lookup x=some .free/\(scX.names.lookup x=some .cell\/scX.names.lookup x=some .free):=by
 unfold m9 at h;obtain⟨h1,h2⟩:=wU.mp h;refine⟨of_decide_eq_true h1,fun i j e=>?_⟩;have hi:i<fr.length:=(wY.mp e).1;have q:=z4.mp h2 i (xL.mpr hi);rw[e]at q;dsimp only at q
 cases en:N'[i]? with
 | none=>rw[en]at q;cases q
 | some x =>
   rw[en]at q;dsimp only at q;obtain⟨q1,q2⟩:=wU.mp q;obtain⟨q3,q4⟩:=wU.mp q1;exact⟨x,rfl,of_decide_eq_true q3,of_decide_eq_true q4,(xN.mp q2).imp of_decide_eq_true of_decide_eq_true⟩
theorem g8{k:zD}:∀{names:List (Str×zD)},names.lookup x=some k->(x,k)∈names:=fun h=>xJ h
structure CompA where
 cl:List (Str×Addr)
 fp:List Addr
 pn:List (Addr×Obj)
 s:wG
 H:Hp
abbrev blk(X:Cx)(N':List Str)(scope:Scope)(y:CompA):Cx:=aX X N' scope y.cl y.fp y.pn y.s y.H
noncomputable def lK(wi:TI)(fr:List (Option Nat))(g:CompA->TG)(tt:CompA->TT)(te:CompA->TE):TE:=fun σ H Q=>wi σ H fun J H1=>∀D,H1 D=none->∃Wv:Nat->Nat->List V->St->Hp->Prop,(∃m,Wv 0 m [] (kF fr σ) (upd H1 D (.lst []))) /\
 ∀ (z:CompA) i m acc σc H,Wv i m acc σc H->(J.stop i H/\Q (.ref D) H)\/(J.go i H/\∀x H',J.yld i H x H'->g z x σc H' fun σ2 H2=>tt z σ2 H2 fun b H3 =>
   if b=true then te z σ2 H3 fun y H4=>H4 D=some (.lst acc)/\acc.length<sizeLine/\∃m',m'<m/\Wv (i+1) m' (acc++[y]) σ2 (upd H4 D (.lst (acc++[y])))else ∃m',m'<m/\Wv (i+1) m' acc σ2 H3)
theorem cy{env:Env}:∀{names:List (Str×zD)}{x:Str},names.lookup x=some .free ->
 (names.map fun(n,k)=>if(k==xF&&env.scope.kind == .function&&env.kindOf n==some .cell)then(n,yn)else(n,k)).lookup x=some .cell \/
 (names.map fun(n,k)=>if(k==xF&&env.scope.kind == .function&&env.kindOf n==some .cell)then(n,yn)else(n,k)).lookup x=some .free
 | [],_,h=>by simp at h
 | (n,k)::r,x,h=>by
   have ih:=@cy env r x;rw[x9];dsimp only
   cases hx:x==n with
   | true =>
     simp only[xG,hx]at h;cases h;by_cases hc:((xF==xF)&&env.scope.kind == .function&&env.kindOf n==some .cell)=true
     · rw[if_pos hc];simp[xG,hx]
     · rw[if_neg hc];simp[xG,hx]
   | false =>
     simp only[xG,hx]at h;by_cases hc:(k==xF&&env.scope.kind == .function&&env.kindOf n==some .cell)=true
     · rw[if_pos hc];simp only[xG,hx];exact ih h
     · rw[if_neg hc];simp only[xG,hx];exact ih h
theorem fQ{X:Cx}{ex:Expr}{H3:Hp}{s3:wG}{it D:Addr}{tn:Nat->Heap->Prop}{J:It}{Q:VK}
 {cl:List (Str×Addr)}(N':List Str)(fr:List (Option Nat))(hc:X.calm=true)(hkind:scope.kind = .function)(hcell:∀y∈scope.names,y.2 = .cell->scope.names.lookup y.1=some .cell)
 (hfree:∀y∈scope.names,y.2 = .free->X.env.kindOf y.1=some .cell\/X.env.kindOf y.1=some .free)(frl:fr.length=N'.length)
 (frg:∀(i j:Nat),fr[i]?=some (some j)->∃x,N'[i]?=some x/\X.N[j]?=some x/\scope.names.lookup x=some .free/\(X.env.scope.names.lookup x=some .cell\/X.env.scope.names.lookup x=some .free))
 (cl1:∀x c,cl.lookup x=some c->X.env.cells.lookup x=some c)(cl2:∀x,(x,xF)∈scope.names->(cl.lookup x).isSome=true)
 (I3:Inv X pins σ H3 s3)(T:Turn X.prog X.w X.K tg J fp it tn)(tn3:tn 0 s3.heap)(fpD:∀b∈fp,H3 b=none)(fp3:∀b∈fp,b<s3.heap.objs.size)
 (fpk:∀b∈fp,b≠X.env.locals/\b∉X.fs/\(b∈X.ex\/X.s₀.heap.objs.size<=b)/\(∀x c,X.env.cells.lookup x=some c->c≠b)/\∀p∈X.pn++pins,p.1≠b)
 (loop:∀s',Inv (aX X N' scope cl fp (X.pn++pins) s3 H3) [] (kF fr σ) H3 s'->tn 0 s'.heap->(∀{H':Hp},(∀b∈fp,H' b=none)->∀b∈fp,jM (aX X N' scope cl fp (X.pn++pins) s3 H3) [] H' b) ->
  Al (xH X.prog X.w) X.A (.compStart ex 0 (.ref it) (.ref D) (aX X N' scope cl fp (X.pn++pins) s3 H3).env) (fun r s5=>r = .ok .next/\∃σ5 H4,Inv (aX X N' scope cl fp (X.pn++pins) s3 H3) [] σ5 H4 s5/\Q (.ref D) H4) s')
 {Rp:Addr->Result->wG->Prop}(fin:∀s5 H4 m,s5.heap.Ns s3.heap.objs.size m->(∀h',yJ s3.heap.objs.size s5.heap h'->Inv X pins σ H4 {s5 with heap:=h' })->jM X pins H4 s3.heap.objs.size->Q (.ref D) H4->Rp s3.heap.objs.size (.ok .next) s5) :
 xq (xH X.prog X.w) X.A (AH scope X.env.globals cl [] X.env.qual none .none (some X.env)) (fun cenv s₄ =>
  Al (xH X.prog X.w) X.A (.compStart ex 0 (.ref it) (.ref D) {cenv with scope:=relabel scope X.env})
   (Rp cenv.locals) s₄) X.xe s3:=by
 refine fM ?_;have ok:=cellsFrom_ok scope.names (s3.heap.push {cls:=.type "dict", data:=.dict #[]}) (s3.heap.objs.size+1) [] ⟨fun _ _ hm=>(nomatch hm),AZ.nil⟩ (by rw[yU];exact wM _);rw[yU]at ok;have kp:∀b o,s3.heap.get? b=some o->(Ce (s3.heap.push {cls:=.type "dict", data:=.dict #[]}) scope.names).get? b=some o:=fun b o e=>pushCells_keeps _ _ b o (wH _ e);have hns₁:(Ce (s3.heap.push {cls:=.type "dict", data:=.dict #[]}) scope.names).Ns s3.heap.objs.size (fun _=>none):=(Heap.Ns.new s3.heap (.type "dict")).keeps (pushCells_keeps _ _);generalize Ce (s3.heap.push {cls:=.type "dict", data:=.dict #[]}) scope.names=h₁ at ok kp hns₁ ⊢
 have cs:∀x c,(yc (s3.heap.objs.size+1) scope.names cl).lookup x=some c->(yc (s3.heap.objs.size+1) scope.names []).lookup x=some c\/cl.lookup x=some c:=fun x c e=>by
  rw[aB,cn]at e
  cases q:(yc (s3.heap.objs.size+1) scope.names []).lookup x with
  | none=>rw[q]at e;exact .inr (by simpa using e)
  | some c'=>rw[q]at e;exact .inl (by simpa using e)
 have own:∀x c,(yc (s3.heap.objs.size+1) scope.names []).lookup x=some c->h₁.IsCell c none/\s3.heap.objs.size+1<=c:=fun x c e=>ok.empty x c (xJ e)
 have clt:∀x c,cl.lookup x=some c->c<s3.heap.objs.size:=fun x c e=>by
  obtain⟨v,o,ho,_⟩:=I3.cell x c (cl1 x c e);exact wO ho
 have frn:∀x,scope.names.lookup x=some .free->(yc (s3.heap.objs.size+1) scope.names []).lookup x=none:=fun x e=>by
  cases q:(yc (s3.heap.objs.size+1) scope.names []).lookup x with
  | none=>rfl
  | some c =>
    have:=hcell (x,.cell) (bB (xJ q)) rfl;rw[e]at this;cases this
 have notC:∀b o,s3.heap.get? b=some o->b≠s3.heap.objs.size:=fun b o e=>xA (wO e);have fpstk:∀b∈fp,b∉frs X.stack:=fun b hb z=>(xC.mp (I3.stkSub b z)).elim (fpk b hb).1 (fpk b hb).2.1;have cellK:∀c v,s3.heap.IsCell c v->h₁.IsCell c v:=fun c v ⟨o,ho,hd⟩=>⟨o,kp c o ho,hd⟩
 have IY:Inv (aX X N' scope cl fp (X.pn++pins) s3 H3) [] (kF fr σ) H3 {s3 with heap:=h₁}:=by
  refine⟨⟨I3.ok.mod,hkind,I3.ok.glob,I3.ok.blt,wM _,fun x y c e1 e2=>?_,fun x hx=>?_,fun x c _ e=>?_,I3.ok.hd,I3.ok.frames,.inl rfl,
   fun b hb=>⟨xA (fp3 b hb),fun x c e=>?_⟩,I3.bs,yI I3.ok.bsz I3.sz,fun b o e hb=>?_,fun b hb=>fpstk b hb,I3.stack,I3.stkFree⟩,
   rfl,I3.bare,Un.kept kp,⟨_,hns₁,fun i x v e1 e2 e3=>?_⟩,fun x c e=>?_,I3.hok.fresh (wM _),fun x c e=>?_,fun p hp=>?_,I3.hok.kept kp,?_⟩
  · rcases cs x c e1 with q1|q1<;>rcases cs y c e2 with q2|q2
    · exact name_of_addr ok.apart (xJ q1) (xJ q2)
    · exact absurd (wK (clt y c q2) (zi (own x c q1).2)) (ye _)
    · exact absurd (wK (clt x c q1) (zi (own y c q2).2)) (ye _)
    · exact I3.ok.inj x y c (cl1 x c q1) (cl1 y c q2)
  · refine yG.mp ?_;show((yc (s3.heap.objs.size+1) scope.names cl).lookup x).isSome=true;rcases eK hx with q|q
    · exact W.cellsFrom_some _ _ _ (.inr (cl2 x q))
    · exact W.cellsFrom_some _ _ _ (.inl (hcell _ q rfl))
  · rename_i hfn;rcases cs x c e with q|q
    · have:=(own x c q).2;show s3.heap.objs.size<=c;omega
    · have hfn:(scope.names.lookup x==some yn)=true:=hfn;have hl:scope.names.lookup x=some .cell:=by simpa using hfn
      obtain⟨c',ec'⟩:=yG.mp (W.cellsFrom_some scope.names (s3.heap.objs.size+1) [] (.inl hl));have e':(yc (s3.heap.objs.size+1) scope.names cl).lookup x=some c:=e;rw[aB,cn,ec']at e';simp at e';subst e';exact zi (own x c' ec').2
  · rcases cs x c e with q|q
    · exact fun z=>absurd (wK (fp3 b hb) (zi (by rw[<- z];exact(own x c q).2))) (ye _)
    · exact(fpk b hb).2.2.2.1 x c (cl1 x c q)
  · rcases(fpk b hb).2.2.1 with z|z
    · exact I3.ok.noex b o e z
    · exact absurd (wK (wO e) (yI I3.ok.bsz z)) (ye _)
  · have e2':(fr[i]?).map (fun o=>o.bind fun j=>(σ[j]?).join)=some (some v):=by unfold kF at e2;rw[xM]at e2;exact e2
    cases ef:fr[i]? with
    | none=>rw[ef]at e2';cases e2'
    | some o =>
      cases o with
      | none=>rw[ef]at e2';cases e2'
      | some j =>
        rw[ef]at e2';have e3':(σ[j]?).join=some v:=xk e2'
        have e4:σ[j]?=some (some v):=by
         cases q:σ[j]? with
         | none=>rw[q]at e3';cases e3'
         | some z=>rw[q]at e3';cases e3';rfl
        obtain⟨x',n1,n2,n3,n4⟩:=frg i j ef;have ex:x'=x:=xk (n1.symm.trans e1);subst ex;obtain⟨m,hn,hl⟩:=I3.loc;obtain⟨u,ru,lk⟩:=hl j x' v n2 e4 (n4.elim (fun z=>.inr (.inl z)) fun z=>.inr (.inr z));refine⟨u,ru,?_⟩;rcases lk with⟨kl,_⟩|⟨_,c,ec,hcl⟩
        · exact absurd (show X.env.scope.names.lookup x'=some .local from kl) (by rcases n4 with z|z<;>rw[z]<;>decide)
        · obtain⟨c',ec'⟩:=yG.mp (cl2 x' (g8 n3));have:=cl1 x' c' ec';rw[ec]at this;cases this;refine .inr ⟨cy n3,c,?_,cellK _ _ hcl⟩;show(yc (s3.heap.objs.size+1) scope.names cl).lookup x'=some c;rw[aB,cn,frn x' n3];simpa using ec'
  · rcases cs x c e with q|q
    · exact⟨_,(own x c q).1⟩
    · obtain⟨v,z⟩:=I3.cell x c (cl1 x c q);exact⟨v,cellK _ _ z⟩
  · rcases cs x c e with q|q
    · exact I3.hok.fresh (by have:=(own x c q).2;omega)
    · exact I3.freeC x c (cl1 x c q)
  · rw[yF]at hp;obtain⟨e,n,ne,nf,d⟩:=I3.pin p hp;exact⟨kp _ _ e,n,notC _ _ e,fun z=>(xC.mp (I3.stkSub p.1 z)).elim ne nf,d⟩
  · unfold kF;rw[wP];exact frl
 have stat:∀{H':Hp},(∀b∈fp,H' b=none)->∀b∈fp,jM (aX X N' scope cl fp (X.pn++pins) s3 H3) [] H' b:=fun hn b hb =>
  ⟨hn b hb,xA (fp3 b hb),fpstk b hb,.inl hb,fun x c e=>(by
   rcases cs x c e with q|q
   · exact fun z=>absurd (wK (fp3 b hb) (zi (by rw[<- z];exact(own x c q).2))) (ye _)
   · exact(fpk b hb).2.2.2.1 x c (cl1 x c q)),fun p hp=>by rw[yF]at hp;exact(fpk b hb).2.2.2.2 p hp⟩
 refine zS (loop _ IY (T.keep _ _ _ tn3 fun b _ o e=>kp b o e) stat) fun r s5 ⟨hr,σ5,H4,I5,qn⟩=>?_;subst hr;obtain⟨m,hn,_⟩:=I5.loc;refine fin s5 H4 m hn (fun h' hs'=>?_) (I3.fpOk (wM _) I5.free) qn;have k':∀b o,b≠s3.heap.objs.size->s5.heap.get? b=some o->h'.get? b=some o:=fun b o nb e=>hs'.extBut b o nb e;have u5:Un (frs X.stack) fp H3 H4 s3.heap s5.heap:=I5.base
 have un:Un (frs X.stack) fp H3 H4 s3.heap h' :=
  ⟨fun b o e n hb hx=>k' b o (notC b o e) (u5.keep b o e n hb hx),fun b o e n hb hx=>by obtain⟨sl,q⟩:=u5.slot b o e n hb hx;exact⟨sl,k' b _ (notC b o e) q⟩,u5.free,
   fun b o e hx=>by obtain⟨o',q⟩:=u5.there b o e hx;exact⟨o',k' b _ (notC b o e) q⟩,u5.tups,u5.frzs,u5.tbls⟩
 have nC:H4 s3.heap.objs.size=none:=I5.free
 have hok':wq X.prog X.w H4 h':=fun b u e=>(I5.hok b u e).stay (fun c v hcv q=>k' c v (by
  rintro rfl;rcases hcv with z|z
  · rw[<- z]at e;rw[nC]at e;cases e
  · rw[nC]at z;cases z) q) (fun _ q=>q) fun _ _ q=>q
 obtain⟨hh,g5,d5,t5,os5⟩:=s5;have os':os5=s3.os:=I5.os;subst os';have I':=Inv.call (s:=s3) (h':=h') (g':=g5) (d':=d5) (t':=t5) (ch:=fp) I3 un hok' I5.bare (fun b hb=>⟨(fpk b hb).2.2.1,(fpk b hb).1,(fpk b hb).2.2.2.1,(fpk b hb).2.2.2.2⟩);exact I'
theorem dr{X:Cx}{elt iter:Expr}{ifs:List Expr}{g:TG}{tt:TT}{te:TE}{H3:Hp}{s3:wG}{it D:Addr}{tn:Nat->Heap->Prop}{J:It}{Q:VK}
 {cl:List (Str×Addr)}(N':List Str)(fr:List (Option Nat))(hc:X.calm=true)(hkind:scope.kind = .function)(hcell:∀y∈scope.names,y.2 = .cell->scope.names.lookup y.1=some .cell)
 (hfree:∀y∈scope.names,y.2 = .free->X.env.kindOf y.1=some .cell\/X.env.kindOf y.1=some .free)(frl:fr.length=N'.length)
 (frg:∀(i j:Nat),fr[i]?=some (some j)->∃x,N'[i]?=some x/\X.N[j]?=some x/\scope.names.lookup x=some .free/\(X.env.scope.names.lookup x=some .cell\/X.env.scope.names.lookup x=some .free))
 (cl1:∀x c,cl.lookup x=some c->X.env.cells.lookup x=some c)(cl2:∀x,(x,xF)∈scope.names->(cl.lookup x).isSome=true)
 (I3:Inv X pins σ H3 s3)(T:Turn X.prog X.w X.K tg J fp it tn)(tn3:tn 0 s3.heap)(fpD:∀b∈fp,H3 b=none)(fp3:∀b∈fp,b<s3.heap.objs.size)
 (fpk:∀b∈fp,b≠X.env.locals/\b∉X.fs/\(b∈X.ex\/X.s₀.heap.objs.size<=b)/\(∀x c,X.env.cells.lookup x=some c->c≠b)/\∀p∈X.pn++pins,p.1≠b)
 (hg:PG (aX X N' scope cl fp (X.pn++pins) s3 H3) tg g)(ht:vW (aX X N' scope cl fp (X.pn++pins) s3 H3) ifs tt)(he:PE (aX X N' scope cl fp (X.pn++pins) s3 H3) elt te)
 {Wv:Nat->Nat->List V->St->Hp->Prop}{m0:Nat}(w0:Wv 0 m0 [] (kF fr σ) H3)
 (turn:∀i m acc σc H,Wv i m acc σc H->(J.stop i H/\Q (.ref D) H)\/(J.go i H/\∀x H',J.yld i H x H'->g x σc H' fun σ2 H2=>tt σ2 H2 fun b H3 =>
  if b=true then te σ2 H3 fun y H4=>H4 D=some (.lst acc)/\acc.length<sizeLine/\∃m',m'<m/\Wv (i+1) m' (acc++[y]) σ2 (upd H4 D (.lst (acc++[y])))else ∃m',m'<m/\Wv (i+1) m' acc σ2 H3))
 {Rp:Addr->Result->wG->Prop}(fin:∀s5 H4 m,s5.heap.Ns s3.heap.objs.size m->(∀h',yJ s3.heap.objs.size s5.heap h'->Inv X pins σ H4 {s5 with heap:=h' })->jM X pins H4 s3.heap.objs.size->Q (.ref D) H4->Rp s3.heap.objs.size (.ok .next) s5) :
 xq (xH X.prog X.w) X.A (AH scope X.env.globals cl [] X.env.qual none .none (some X.env)) (fun cenv s₄ =>
  Al (xH X.prog X.w) X.A (.compStart (.ListComp elt [⟨tg,iter,ifs,0⟩] scope pos) 0 (.ref it) (.ref D) {cenv with scope:=relabel scope X.env})
   (Rp cenv.locals) s₄) X.xe s3:=by
 refine fQ N' fr hc hkind hcell hfree frl frg cl1 cl2 I3 T tn3 fpD fp3 fpk (fun s' IY tY stat=>?_) fin
 have loop:Al (xH X.prog X.w) X.A (.compLoop (.ListComp elt [⟨tg,iter,ifs,0⟩] scope pos) 0 (.ref it) (.ref D) (aX X N' scope cl fp (X.pn++pins) s3 H3).env)
  (fun r s5=>r = .ok .next/\∃σ5 H4,Inv (aX X N' scope cl fp (X.pn++pins) s3 H3) [] σ5 H4 s5/\Q (.ref D) H4) s':=by
  refine js (fun n s'=>∃i acc σ' H',Inv (aX X N' scope cl fp (X.pn++pins) s3 H3) [] σ' H' s'/\tn i s'.heap/\(∀b∈fp,H' b=none)/\Wv i n acc σ' H') ?_ m0
   ⟨0,[],_,_,IY,tY,fpD,w0⟩
  rintro n s4 ⟨i,acc,σ4,H4,I4,st4,fr4,w4⟩;rcases turn i n acc σ4 H4 w4 with⟨stop,qn⟩|⟨go,step⟩
  · exact uC (T.done (aX X N' scope cl fp (X.pn++pins) s3 H3) rfl rfl rfl hc i [] s4 σ4 H4 (fun _ _=>False) I4 (stat fr4) st4 stop) fun r s5 ⟨hr,I5⟩=>.inl ⟨hr,rfl,σ4,H4,I5,qn⟩
  · refine uC (T.item (aX X N' scope cl fp (X.pn++pins) s3 H3) rfl rfl rfl hc i [] s4 σ4 H4 (fun _ _=>False) I4 (stat fr4) st4 go) fun r s5 ⟨u,hr,h5⟩=>.inr ⟨u,hr,?_⟩;refine uC h5 fun _ s6 ⟨x,H6,I6,r6,y6,st6,fr6⟩=>?_;have I6':=I6.pinned (stat fr6) (T.obj _ _ st6)
    have again:∀{σ7:St}{H7:Hp}{s7:wG},Inv (aX X N' scope cl fp (X.pn++pins) s3 H3) ([]++eQ fp s6.heap) σ7 H7 s7->∀{acc':List V}{m':Nat},m'<n->Wv (i+1) m' acc' σ7 H7 ->
     ∃m,m<n/\∃i acc σ' H',Inv (aX X N' scope cl fp (X.pn++pins) s3 H3) [] σ' H' s7/\tn i s7.heap/\(∀b∈fp,H' b=none)/\Wv i m acc σ' H':=fun{σ7 H7 s7} I7 {acc' m'} hm w7=>by
     refine⟨m',hm,i+1,acc',σ7,H7,I7.unpinned,T.keep _ _ _ st6 fun b hb o e=>(I7.pin (b,o) (xD _ (xD _ (bN hb e)))).1,fun b hb=>?_,w7⟩;obtain⟨o,e,d⟩:=T.obj _ _ st6 b hb;exact(I7.pin (b,o) (xD _ (xD _ (bN hb e)))).2.1
    refine uC (hg _ s6 σ4 H6 x u _ I6' r6 (step x H6 y6)) fun _ s7 ⟨σ7,H7,I7,q7⟩=>?_;refine uC (ht _ s7 σ7 H7 _ I7 q7) fun ok s8 ⟨H8,I8,q8⟩=>?_
    cases ok with
    | false =>
      rw[if_neg xi]at q8 ⊢;obtain⟨m',hm,w8⟩:=q8
      exact again I8 hm w8
    | true =>
      rw[if_pos rfl]at q8 ⊢;refine uC (he _ s8 σ7 H8 _ I8 q8) fun y s9 ⟨yv,H9,I9,r9,eD,hl,m',hm,w9⟩=>?_
      exact uC (eS (X:=aX X N' scope cl fp (X.pn++pins) s3 H3) _ s9 σ7 H9 (.ref D) [yv] (.ref D) [y] (fun _ H'=>H'=upd H9 D (.lst (acc++[yv]))) I9 rfl (.cons r9 .nil) ⟨D,acc,yv,rfl,rfl,eD,hl,rfl⟩)
       fun _ s10 ⟨_,H10,I10,_,e10⟩=>by subst e10;exact again I10 hm w9
 exact codeAny_compStart_list loop (T.self X.A 0 _ _ _ tY loop)
section
variable{X:Cx}{elt tg iter:Expr}{ifs:List Expr}{scope:Scope}{pos:Pos}{wi:TI}{g:CompA->TG}{tt:CompA->TT}{te:CompA->TE}
theorem gn(N':List Str)(fr:List (Option Nat))(hc:X.calm=true)(hi:PI X tg iter wi)(hfr:m9 fr N' X.N scope X.env.scope=true)(hsc:pP scope X.env.scope=true)
 (hg:∀y,PG (blk X N' scope y) tg (g y))(ht:∀y,vW (blk X N' scope y) ifs (tt y))(he:∀y,PE (blk X N' scope y) elt (te y))
 (hs:autoParam (∀x,yE iter X.env x=pure x) æc._auto_1):PE X (.ListComp elt [⟨tg,iter,ifs,0⟩] scope pos) (lK wi fr g tt te):=by
 intro pins s σ H Q I h;obtain⟨sk,sn⟩:=wU.mp hsc;have hkind:scope.kind = .function:=of_decide_eq_true sk;have hall:=z4.mp sn
 have hcell:∀y∈scope.names,y.2 = .cell->scope.names.lookup y.1=some .cell:=fun y hy hl=>by
  rcases xN.mp (wU.mp (wU.mp (hall y hy)).1).1 with z|z
  · exact absurd hl (of_decide_eq_true z)
  · exact of_decide_eq_true z
 have hnames:∀y∈scope.names,y.2 = .local->scope.names.lookup y.1=some .local:=fun y hy hl=>by
  rcases xN.mp (wU.mp (wU.mp (hall y hy)).1).2 with z|z
  · exact absurd hl (of_decide_eq_true z)
  · exact of_decide_eq_true z
 have hfree:∀y∈scope.names,y.2 = .free->X.env.kindOf y.1=some .cell\/X.env.kindOf y.1=some .free:=fun y hy hl=>by
  rcases xN.mp (wU.mp (hall y hy)).2 with z|z
  · exact absurd hl (of_decide_eq_true z)
  · exact(xN.mp z).imp of_decide_eq_true of_decide_eq_true
 obtain⟨frl,frg⟩:=m9.get hfr;obtain⟨cl,hclos,cl1,cl2⟩:=cY (env:=X.env) (scope:=scope) fun y hy hl=>I.ok.has y.1 (hfree y hy hl);rw[eval_ListComp];refine AM (use:=none) rfl hs hclos hkind hnames (uC (hi pins s σ H _ I h) fun v s1 h1=>uC h1 fun itv s2 h2=>?_);obtain⟨it,fp,tn,J,H2,e,I2,T,st2,f2,q2⟩:=h2;subst e;refine xX ?_;have hD:H2 s2.heap.objs.size=none:=I2.hok.fresh (wM _)
 have I3:Inv X pins σ (upd H2 s2.heap.objs.size (.lst [])) {s2 with heap:=s2.heap.push {cls:=.type "list", data:=.seq ([]:List wF).toArray}} :=
  I2.laid (t':=s2.toks) (fun b u e=>wH _ e) (wM _) ⟨by show 0<=sizeLine;exact zr _,[],0,.nil,wS _ rfl⟩
 obtain⟨Wv,⟨m0,w0⟩,turn⟩:=q2 _ hD;have tn3:tn 0 (s2.heap.push {cls:=.type "list", data:=.seq ([]:List wF).toArray}):=T.keep _ _ _ st2 fun b _ o e=>wH _ e
 have fpD:∀b∈fp,(upd H2 s2.heap.objs.size (.lst [])) b=none:=fun b hb=>by
  obtain⟨o,e,_⟩:=T.obj _ _ st2 b hb;rw[upd_ne (xA (wO e))];exact(f2 b hb).1
 have fp3:∀b∈fp,b<(s2.heap.push {cls:=.type "list", data:=.seq ([]:List wF).toArray}).objs.size:=fun b hb=>by
  obtain⟨o,e,_⟩:=T.obj _ _ tn3 b hb;exact wO e
 exact dr N' fr hc hkind hcell hfree frl frg cl1 cl2 I3 T tn3 fpD fp3 (fun b hb=>(f2 b hb).2) (hg ⟨cl,fp,X.pn++pins,_,_⟩) (ht ⟨cl,fp,X.pn++pins,_,_⟩) (he ⟨cl,fp,X.pn++pins,_,_⟩) w0 (turn ⟨cl,fp,X.pn++pins,_,_⟩)
  (Rp:=compPost (xH X.prog X.w) X.A X.xe none (EP X pins σ Q) (.ref s2.heap.objs.size)) fun s5 H4 m hn k _ qn=>⟨m,hn,fun h' hs'=>⟨.ref _,H4,k h' hs',rfl,qn⟩⟩
theorem gX{b:Bool}{px spos:Pos}{ix:Nat}(N':List Str)(fr:List (Option Nat))(hc:X.calm=true)(hi:PI X tg iter wi)(hfr:m9 fr N' X.N scope X.env.scope=true)(hsc:pP scope X.env.scope=true)
 (hg:∀y,PG (blk X N' scope y) tg (g y))(ht:∀y,vW (blk X N' scope y) ifs (tt y))(he:∀y,PE (blk X N' scope y) elt (te y))(hN:X.N.Nodup)(hix:X.N[ix]?=some x)(hx:Loc X.env.scope x)
 (hf:X.fn x=true\/X.env.scope.names.lookup x=some .local)(hsw:zR (.ListComp elt [⟨tg,iter,ifs,0⟩] scope pos) (some (.Name x px)) spos.line X.env=pure b)
 (hs:∀x,yE iter X.env x=pure x):PS X (.Assign [.Name x px] (.ListComp elt [⟨tg,iter,ifs,0⟩] scope pos) spos) (qv (lK wi fr g tt te) (kB ix)):=by
 cases b with
 | false=>exact b8 hN hix hx (gn N' fr hc hi hfr hsc hg ht he hs) hsw hf
 | true =>
 intro pins s σ H DD I h;obtain⟨sk,sn⟩:=wU.mp hsc;have hkind:scope.kind = .function:=of_decide_eq_true sk;have hall:=z4.mp sn
 have hcell:∀y∈scope.names,y.2 = .cell->scope.names.lookup y.1=some .cell:=fun y hy hl=>by
  rcases xN.mp (wU.mp (wU.mp (hall y hy)).1).1 with z|z
  · exact absurd hl (of_decide_eq_true z)
  · exact of_decide_eq_true z
 have hnames:∀y∈scope.names,y.2 = .local->scope.names.lookup y.1=some .local:=fun y hy hl=>by
  rcases xN.mp (wU.mp (wU.mp (hall y hy)).1).2 with z|z
  · exact absurd hl (of_decide_eq_true z)
  · exact of_decide_eq_true z
 have hfree:∀y∈scope.names,y.2 = .free->X.env.kindOf y.1=some .cell\/X.env.kindOf y.1=some .free:=fun y hy hl=>by
  rcases xN.mp (wU.mp (hall y hy)).2 with z|z
  · exact absurd hl (of_decide_eq_true z)
  · exact(xN.mp z).imp of_decide_eq_true of_decide_eq_true
 obtain⟨frl,frg⟩:=m9.get hfr;obtain⟨cl,hclos,cl1,cl2⟩:=cY (env:=X.env) (scope:=scope) fun y hy hl=>I.ok.has y.1 (hfree y hy hl);rw[exec_Assign_Name_used _ _ _ _ hsw];refine wE (AU (wE ?_));show xq _ X.A (do let _ <- comprehension (.ListComp elt [⟨tg,iter,ifs,0⟩] scope pos) scope X.env _ (newList []) false (eval iter X.env) (some (Bw (.Name x px) X.env))) _ _ s
 refine wE (zh (AM (use:=some (Bw (.Name x px) X.env)) (Q:=fun _ s'=>SP X pins DD .next s') rfl hs hclos hkind hnames
  (uC (hi pins s σ H _ I h) fun v s1 h1=>uC h1 fun itv s2 h2=>?_)) (fun _ s' hq=>wI (wI hq)) fun _ _ e=>e)
 obtain⟨it,fp,tn,J,H2,e,I2,T,st2,f2,q2⟩:=h2;subst e;refine xX ?_;have hD:H2 s2.heap.objs.size=none:=I2.hok.fresh (wM _)
 have I3:Inv X pins σ (upd H2 s2.heap.objs.size (.lst [])) {s2 with heap:=s2.heap.push {cls:=.type "list", data:=.seq ([]:List wF).toArray}} :=
  I2.laid (t':=s2.toks) (fun b u e=>wH _ e) (wM _) ⟨by show 0<=sizeLine;exact zr _,[],0,.nil,wS _ rfl⟩
 obtain⟨Wv,⟨m0,w0⟩,turn⟩:=q2 _ hD;have tn3:tn 0 (s2.heap.push {cls:=.type "list", data:=.seq ([]:List wF).toArray}):=T.keep _ _ _ st2 fun b _ o e=>wH _ e
 have fpD:∀b∈fp,(upd H2 s2.heap.objs.size (.lst [])) b=none:=fun b hb=>by
  obtain⟨o,e,_⟩:=T.obj _ _ st2 b hb;rw[upd_ne (xA (wO e))];exact(f2 b hb).1
 have fp3:∀b∈fp,b<(s2.heap.push {cls:=.type "list", data:=.seq ([]:List wF).toArray}).objs.size:=fun b hb=>by
  obtain⟨o,e,_⟩:=T.obj _ _ tn3 b hb;exact wO e
 refine dr (Q:=fun v H1=>kB ix v σ H1 DD.nx) N' fr hc hkind hcell hfree frl frg cl1 cl2 I3 T tn3 fpD fp3 (fun b hb=>(f2 b hb).2) (hg ⟨cl,fp,X.pn++pins,_,_⟩) (ht ⟨cl,fp,X.pn++pins,_,_⟩) (he ⟨cl,fp,X.pn++pins,_,_⟩) w0 (turn ⟨cl,fp,X.pn++pins,_,_⟩)
  (Rp:=compPost (xH X.prog X.w) X.A X.xe (some (Bw (.Name x px) X.env)) (fun _ s'=>SP X pins DD .next s') (.ref s2.heap.objs.size)) fun s5 H4 m hn k fpo qn=>?_
 show xq _ X.A (Bw (.Name x px) X.env (.ref s2.heap.objs.size)) _ _ s5;have I5:Inv X pins σ H4 s5:=k s5.heap (yJ.refl _ _);obtain⟨f0,f1,f2',f3,f4,f5⟩:=fpo;refine wpAny_assign_Name (d9 I5 hN hix hx (v:=.ref s2.heap.objs.size) rfl (fun s6 I6 sb=>?_) hf);obtain⟨a,sb,ha⟩:=sb
 have hne:(s2.heap.push {cls:=.type "list", data:=.seq ([]:List wF).toArray}).objs.size≠a:=by
  rcases ha with rfl|ha
  · exact f1
  · exact fun z=>f4 x a ha z.symm
 refine⟨m,hn.at' fun o e=>sb.extBut _ o hne e,fun h' hs'=>?_⟩;exact⟨_,H4,I6.turned (t':=s6.toks) (fun b o hb e=>hs'.extBut b o hb e) f0 f1 f3 f4 f5,qn⟩
end
end L2
namespace L2.VL
noncomputable def W.cap:W->Option W
 | .d x=>some (.d x)
 | .reel=>some .reel
 | .vv u=>some (.vv u)
 | .sc ns=>some (.sc ns)
 | .fd kvs=>some (.fd kvs)
 | .xr kvs=>some (.xr kvs)
 | .fw kvs=>some (.fw kvs)
 | .ft kvs=>some (.ft kvs)
 | .xc x fs=>some (.xc x fs)
 | .dp kvs x=>some (.dp kvs x)
 | _=>none
noncomputable def hV(fr:List (Option Nat))(ρ:En):En:=fr.map fun o=>o.bind fun j=>((ρ[j]?).join).bind W.cap
noncomputable def pJ(X:Cx)(rl:Option Addr)(ifs:List Expr)(f:TB):Prop:=∃t,vW X ifs t/\∀{F₀ H₀ F H:Hp}{σ:St}{ρ:En},VR X.K rl F₀ H₀ F H σ ρ->∀(Qd:Bool->Prop)(Q:Bool->Hp->Prop),f ρ Qd ->
 (∀b F' H',Grow rl F H F' H'->Qd b->Q b H')->t σ H Q
theorem h8{X:Cx}:pJ X rl [] (fun _ Q=>Q true):=⟨_,l5,fun R Qd Q q k=>k true _ _ (Grow.refl R.sub R.reel) q⟩
theorem fY{X:Cx}{c:Expr}{f:TB}(h:PB X rl c f):pJ X rl [c] f:=let ⟨t,p,k⟩:=h;⟨t,l4 p,k⟩
theorem cN{fr:List (Option Nat)}(h:(hV fr ρ)[i]?=some (some w)):∃j w',fr[i]?=some (some j)/\ρ[j]?=some (some w')/\w'.cap=some w:=by
 unfold hV at h;rw[xM]at h
 cases ef:fr[i]? with
 | none=>rw[ef]at h;cases h
 | some o =>
   cases o with
   | none=>rw[ef]at h;cases h
   | some j =>
     rw[ef]at h;have h':((ρ[j]?).join).bind W.cap=some w:=xk h
     cases q:ρ[j]? with
     | none=>rw[q]at h';cases h'
     | some o =>
       cases o with
       | none=>rw[q]at h';cases h'
       | some w'=>rw[q]at h';exact⟨j,w',rfl,q,h'⟩
theorem gK{w':W}(h:w'.cap=some w):w=w'/\w.own=false/\∀xs,w ≠ .pk xs:=by
 cases w'<;>cases h<;>exact⟨rfl,rfl,(fun _ z=>by cases z)⟩
theorem jP{K:W.Frag}{fr:List (Option Nat)}(R:VR K rl F₀ H₀ F H σ ρ)(g:Grow rl F H F H'):VR K rl F H F H' (kF fr σ) (hV fr ρ):=by
 refine⟨g,fun i w e=>?_,fun i j xs ys v _ e1 _ o1 _ _ _=>?_,fun i xs e=>?_,by simp[kF,hV]⟩
 · obtain⟨j,w',e1,e2,e3⟩:=cN e;obtain⟨rfl,n1,n2⟩:=gK e3;obtain⟨v,s1,r1,_⟩:=R.sl j w e2;refine⟨v,?_,r1.grow g,?_⟩
   · unfold kF;rw[xM,e1];show some ((σ[j]?).join)=_;rw[s1];rfl
   · cases w with
     | ml xs=>cases n1
     | md xs=>cases n1
     | mk xs=>cases n1
     | xm xs=>cases n1
     | nt _=>trivial
     | lk=>trivial
     | sc _=>trivial
     | fd _=>trivial
     | xr _=>trivial
     | fw _=>trivial
     | ft _=>trivial
     | xc _ _=>trivial
     | dp _ _=>trivial
     | d _=>trivial
     | pk _=>trivial
     | reel=>trivial
     | vv _=>trivial
 · obtain⟨_,_,_,_,e3⟩:=cN e1;rw[(gK e3).2.1]at o1;cases o1
 · obtain⟨_,_,_,_,e3⟩:=cN e;exact absurd rfl ((gK e3).2.2 xs)
theorem gZ{fr:List (Option Nat)}:kP (hV fr ρ):=fun i xs e=>by
 obtain⟨_,_,_,_,e3⟩:=cN e;exact(gK e3).2.1
theorem VR.other{K:W.Frag}(R:VR K rl F₀ H₀ F H σ ρ)(n:kP ρ){D:Addr}{o:HO}(h0:H₀ D=none)(f:F D=none)(hr:rl≠some D):VR K rl F₀ H₀ F (upd H D o) σ ρ:=by
 have neF:∀b u,F b=some u->b≠D:=fun b u q z=>by subst z;rw[f]at q;cases q
 have g:Grow rl F₀ H₀ F (upd H D o):=by
  refine⟨fun b o q1 n=>by rw[upd_ne (ar q1 h0)];exact R.g.same b o q1 n,R.g.fs,fun b o q1=>by rw[upd_ne (neF b o q1)];exact R.sub b o q1,R.g.old,fun y z=>?_⟩;obtain⟨z1,⟨u,h1,h2⟩⟩:=R.reel y z;exact⟨z1,⟨u,by rw[upd_ne (fun q=>hr (by rw[<- q];exact z))];exact h1,h2⟩⟩
 refine⟨g,fun i w e=>?_,R.ap,R.np,R.len⟩;obtain⟨v,h1,h2,h3⟩:=R.sl i w e;refine⟨v,h1,?_,h3⟩
 cases w with
 | d x=>exact h2
 | reel=>exact h2
 | vv u=>exact h2
 | ml xs=>cases n i _ e
 | md xs=>cases n i _ e
 | mk xs=>cases n i _ e
 | xm xs=>cases n i _ e
 | nt ds=>exact h2
 | lk=>trivial
 | sc _=>exact h2
 | fd _=>exact h2
 | xr _=>exact h2
 | fw _=>exact h2
 | ft _=>exact h2
 | xc _ _=>exact h2
 | dp _ _=>exact h2
 | pk xs=>exact absurd e (R.np i xs)
section
variable{X:Cx}{rl:Option Addr}{elt tg iter:Expr}{ifs:List Expr}{scope:Scope}{pos:Pos}{fi:En->(List wD->Prop)->Prop}{g:vN}{ft:TB}{fe:TV}
end
mutual
def sW:wD->Prop
 | .none=>True
 | .bool _=>True
 | .int i=>i.natAbs<2^1900
 | .str x=>wD.strOk x=true
 | .list xs=>fX xs
 | .tuple xs=>fX xs
 | .dict _=>False
def fX:List wD->Prop
 | []=>True
 | x::xs=>sW x/\fX xs
end
noncomputable def vT(d:wD):Prop:=sW d/\d.depth<=60/\d.bulk<=8000
section
variable{X:Cx}{rl:Option Addr}{a b e:Expr}{es:List Expr}{fa fb fc:TV}{fs:vK}{pos p:Pos}
noncomputable def pc:List W->(W->Prop)->Prop:=fun ws Q=>∃w d,ws=[w]/\w.dat=some d/\vT d/\Q (.d (.str d.shown))
noncomputable def ux:wD->String
 | .none => "NoneType"
 | .bool _ => "bool"
 | .int _ => "int"
 | .str _ => "str"
 | .list _ => "list"
 | .tuple _ => "tuple"
 | .dict _ => "dict"
noncomputable def sF(d:wD)(T:String):Bool:=ux d==T||(ux d == "bool" && T == "int")
noncomputable def su(T:String):Bool:=["int", "bool", "str", "list", "tuple"].contains T
noncomputable def sK:List W->(W->Prop)->Prop:=fun ws Q=>∃w d T,ws=[w,.vv (.ty T)]/\w.dat=some d/\su T=true/\Q (.d (.bool (sF d T)))
theorem ij(hm:X.mg "len" = none)(ha:vV X rl [a] fs)(hg:autoParam (Gl X "len") æa._auto_1)(he:autoParam (wR [a] X.env=(false,eval a X.env)::wR [] X.env) æa._auto_1)(hpl:autoParam ((yR pos (wR [] X.env)).any (·.1)=false) æa._auto_1) :
 PV X rl (.Call (.Name "len" p) [a] [] pos) (ci pU fs):=bQ bp nq hm boot_len ha hg (by decide) (by decide) he hpl
theorem nD(hm:X.mg "abs" = none)(ha:vV X rl [a] fs)(hg:autoParam (Gl X "abs") æa._auto_1)(he:autoParam (wR [a] X.env=(false,eval a X.env)::wR [] X.env) æa._auto_1)(hpl:autoParam ((yR pos (wR [] X.env)).any (·.1)=false) æa._auto_1) :
 PV X rl (.Call (.Name "abs" p) [a] [] pos) (ci pW fs):=bQ dW nu hm (by first|rfl|exact boot_abs) ha hg (by decide) (by decide) he hpl
noncomputable def o8:List W->(W->Prop)->Prop:=fun ws Q=>∃i,ws=[.d (.int i)]/\i.natAbs.log2<1920/\Q (.d (.str (toString i)))
end
structure FnIn (K:W.Frag) (mg:Str->Option wF) (x:Str) (st:Stmt) (ps:List Str):Prop where
 ex:∃f fd,mg x=some (.ref f)/\Fun K x x st f fd/\Binds K fd ps []
structure Bz (mg:Str->Option wF):Prop where
 int_:mg "int" = none
 bool_:mg "bool" = none
 str_:mg "str" = none
 list_:mg "list" = none
 tuple_:mg "tuple" = none
 dict_:mg "dict" = none
 isinstance_:mg "isinstance" = none
 len_:mg "len" = none
 abs_:mg "abs" = none
 repr_:mg "repr" = none
 range_:mg "range" = none
 all_:mg "all" = none
 any_:mg "any" = none
 sum_:mg "sum" = none
 min_:mg "min" = none
 max_:mg "max" = none
 sorted_:mg "sorted" = none
 zip_:mg "zip" = none
 enumerate_:mg "enumerate" = none
 reversed_:mg "reversed" = none
 divmod_:mg "divmod" = none
 set_:mg "set" = none
section
variable{P:wZ}{w:xx}{K:W.Frag}{mg:Str->Option wF}{base:Heap}{rl:Option Addr}{x:Str}{st:Stmt}{N ps:List Str}{k:Nat}{Pd:List W->(wD->Prop)->Prop}{t:vL}
theorem Dfn.of(Fn:FnIn K mg x st ps)(S:FnScope N ps (defScope st))(mono:∀ws Q Q',(∀d,Q d->Q' d)->Pd ws Q->Pd ws Q')(len:∀ws Q,Pd ws Q->ws.length=ps.length)
 (hbody:∀{f:Addr}(cdv:wF)(A:xB)(outer:List Env)(s:wG)(H:Hp)(E:XK),Room k (A.deeper (A7 x (defScope st) s.heap.objs.size f cdv)) ->
  hJ (jL ww P w K mg base N x (defScope st) f cdv A outer s H E).nox rl (defBody st) t)
 (hread:∀ws Q,Pd ws Q->t (jU Q) (bO N ws)):Dfn P w K mg base rl x ps (k+1) Pd:=by
 obtain⟨f,fd,hm,F,hb⟩:=Fn.ex;exact⟨mono,f,fd,hm,F.kp,hb,ul F S len hbody hread⟩
end
section
variable{X:Cx}{rl:Option Addr}{e:Expr}{es:List Expr}{fa fb fc:TV}{fs:vK}{pos p:Pos}
end
noncomputable def dI:List W->(wD->Prop)->Prop:=fun ws Q=>∃m:Int,ws=[.reel,.d (.int m)]/\0<m/\m<2^60/\∀k:Int,0<=k->k<m->Q (.int k)
theorem dI.mono:∀ws (Q Q':wD->Prop),(∀d,Q d->Q' d)->dI ws Q->dI ws Q':=fun _ _ _ h ⟨m,e,p,z,q⟩=>⟨m,e,p,z,fun k a b=>h _ (q k a b)⟩
theorem dI.len:∀ws (Q:wD->Prop),dI ws Q->ws.length=2:=fun _ _ ⟨m,e,_⟩=>by subst e;rfl
theorem fz_d(x:wD):(W.d x).fz = .d x:=rfl
theorem fz_ml(x:List wD):(W.ml x).fz = .d (.list x):=rfl
theorem fz_pk(x:List wD):(W.pk x).fz = .pk x:=rfl
theorem fz_reel:W.reel.fz = .reel:=rfl
theorem fz_vv(x:V):(W.vv x).fz = .vv x:=rfl
theorem pk_d(x:wD):L2.VL.W.peek (.d x) = .d x:=rfl
theorem pk_ml(x:List wD):L2.VL.W.peek (.ml x) = .pk x:=rfl
theorem pk_reel:L2.VL.W.peek .reel = .reel:=rfl
theorem pk_vv(x:V):L2.VL.W.peek (.vv x) = .vv x:=rfl
theorem dat_d(x:wD):(W.d x).dat=some x:=rfl
theorem dat_ml(x:List wD):(W.ml x).dat=some (.list x):=rfl
theorem dat_pk(x:List wD):(W.pk x).dat=some (.list x):=rfl
theorem isPk_d(x:wD):(W.d x).isPk=false:=rfl
theorem isPk_ml(x:List wD):(W.ml x).isPk=false:=rfl
theorem isPk_reel:W.reel.isPk=false:=rfl
theorem dats_nil:dS []=some []:=rfl
theorem dats_d(x:wD)(r:List W):dS (.d x::r)=(dS r).map (x :: ·):=rfl
theorem arg_d(x:wD):cu (.d x)=true:=rfl
theorem arg_reel:cu .reel=true:=rfl
theorem item_l(xs:List wD)(i:Int):L2.VL.itemAt (.list xs) i=L2.atI xs i:=rfl
theorem item_t(xs:List wD)(i:Int):L2.VL.itemAt (.tuple xs) i=L2.atI xs i:=rfl
theorem len_l(xs:List wD):mK (.list xs)=some xs.length:=rfl
theorem len_t(xs:List wD):mK (.tuple xs)=some xs.length:=rfl
theorem at0{α:Type}(x:α)(r:List α):L2.atI (x::r) 0=some x:=by simp[L2.atI,L2.ixN]
theorem at1{α:Type}(x y:α)(r:List α):L2.atI (x::y::r) 1=some y:=by
 have:(1:Int)<((x::y::r).length:Int):=by simp;omega
 simp only[L2.atI,L2.ixN];rw[if_pos (by decide),if_pos this];rfl
theorem bW{x y:Int}(h:y≠0):(x.fmod y).natAbs<y.natAbs:=by
 rcases Int.lt_or_gt_of_ne h with hy|hy
 · have h1:=Bi x y
   have e:x.fmod y = -((-x).fmod (-y)):=by
    have:=Int.neg_fmod_neg x y;omega
   have p:0 < -y:=by omega
   have b1:=xU (-x) p;have b2:=yB (-x) p;omega
 · have b1:=xU x hy;have b2:=yB x hy;omega
theorem cM(x y:Int):xu y (x.fmod y)=xu x y:=by
 have e:x.fmod y=x+y*(-(x.fdiv y)):=by
  have:=Bi x y;rw[Int.mul_neg];omega
 rw[e,Int.gcd_add_mul_left_right];exact B2 y x
theorem eqv_ii(a b:Int):yH (.int a) (.int b)=(a==b):=by simp[yH]
theorem shaped_i(a:Int):yA (.int a)=true:=rfl
theorem shaped_b(a:Bool):yA (.bool a)=true:=rfl
theorem bM{x y:Int}(h:y≠0)(b:y.natAbs<2^64):(x.fmod y).natAbs<2^64:=Nat.lt_trans (bW h) b
theorem bY.of{i j:Int}(h:j≠0)(b:j.natAbs<2^64):bY i j:=⟨h,wK b (xj (by decide) (by decide))⟩
theorem mR{a:Int}(h:b≠0):0<(xu a b:Int):=by
 have:=yY a h;omega
theorem o6{a:Int}(h:b≠0):(xu a b)<=b.natAbs:=Nat.le_of_dvd (by omega) (Int.gcd_dvd_natAbs_right a b)
theorem qX{xs:List α}{k:Int}(h0:0<=k)(h1:k<(xs.length:Int)):∃z,L2.atI xs k=some z/\z∈xs:=by
 obtain⟨n,rfl⟩:=yN h0;have hn:n<xs.length:=by omega
 exact⟨xs[n],fT (wX hn),yy hn⟩
noncomputable def sP(neg:Bool):W->W->(W->Prop)->Prop:=fun x y Q=>∃a b:Str,x = .d (.str a)/\y = .d (.str b)/\Q (.d (.bool (if neg then !decide (a=b)else decide (a=b))))
section
variable{P:wZ}{w:xx}{K:W.Frag}{mg:Str->Option wF}{base:Heap}{rl:Option Addr}{x:Str}{st:Stmt}{N ps:List Str}{k:Nat}{Pd:List W->(List wD->Prop)->Prop}{t:vL}
end
section
variable{X:Cx}{rl:Option Addr}{e:Expr}{es:List Expr}{fs:vK}{pos p:Pos}
noncomputable def qf(Pd:List W->(List wD->Prop)->Prop)(fs:vK):TV:=fun ρ Q=>fs ρ fun ws=>ws.all cu=true/\Pd ws fun xs=>Q (.ml xs)
theorem l7(X:Cx)(rest:List Stmt):vX X rest (fun D σ H=>∀pins s,Inv X pins σ H s->xq (xH X.prog X.w) X.A (execs rest X.env) (SP X pins D) X.xe s):=fun pins s σ H D I h=>h pins s I
end
theorem kI(h:ns.length<=63):m_ (ns.map V.int) none (some 63)=ns.map V.int:=by
 unfold m_;rw[HT.sIx_none]
 have e:HT.sIx (ns.map V.int).length (ns.map V.int).length (some 63)=(ns.map V.int).length:=by
  have:=HT.sIx_nat (ns.map V.int).length (ns.map V.int).length 63;rw[show((63:Nat):Int)=63 from rfl]at this;rw[this,wP];omega
 rw[e];simp;exact yV (by simp)
section
variable{X:Cx}{rl:Option Addr}{a b c e:Expr}{es:List Expr}{fa fb fc:TV}{fs:vK}{pos p:Pos}
noncomputable def de:wD->Option (List wD)
 | .list xs=>some xs
 | .tuple xs=>some xs
 | _=>none
theorem seq_l(xs:List wD):de (.list xs)=some xs:=rfl
theorem seq_t(xs:List wD):de (.tuple xs)=some xs:=rfl
theorem de.of{o:Option wD}{d:wD}{xs:List wD}(h:o=some d)(e:de d=some xs):o=some (.list xs)\/o=some (.tuple xs):=by
 cases d<;>cases e
 · exact .inl h
 · exact .inr h
noncomputable def ky:List W->(W->Prop)->Prop:=fun ws Q=>∃w d xs,ws=[w]/\w.dat=some d/\de d=some xs/\Q (.d (.tuple xs))
theorem ni:cE X rl (fun xs H Q=>∃p ys,xs=[.ref p]/\((vR X.K H p ys/\∀l,H l=none->Q (.ref l) (upd H l (.tup ys)))\/(vQ X.K H p ys/\Q (.ref p) H))) ky:=fun{F H vs ws} Qd Q s ra r ⟨w,d,xs,ew,ed1,ed2,q⟩ k=>by
 have ed:=de.of ed1 ed2;subst ew;obtain⟨v,rfl,r1⟩:=jZ r;rcases ed with ed|ed
 · obtain⟨a,us,rfl,sq,rs⟩:=r1.items s ed;refine⟨a,us,rfl,.inl ⟨sq,fun l hl=>?_⟩⟩;have g:=Grow.data (a:=l) (o:=.tup us) s ra hl;exact k _ (.d (.tuple xs)) _ _ g (.tup (.inl (.inl ak)) (rs.mono g.fs)) trivial q
 · cases w with
   | d y =>
     cases ed
     cases(show Rep X.K F v (.tuple xs)from r1)with
     | tup sq rs=>exact⟨_,_,rfl,.inr ⟨eI s sq,k _ (.d (.tuple xs)) _ _ (Grow.refl s ra) (.tup sq rs) trivial q⟩⟩
   | ml ys=>cases ed
   | pk ys=>cases ed
   | reel=>cases ed
   | vv u=>cases ed
   | md u=>cases ed
   | mk u=>cases ed
   | xm u=>cases ed
   | lk=>cases ed
   | sc _=>cases ed
   | fd _=>cases ed
   | xr _=>cases ed
   | fw _=>cases ed
   | ft _=>cases ed
   | xc _ _=>cases ed
   | dp _ _=>cases ed
   | nt ds =>
     cases ed;obtain⟨b,us,rfl,h,q'⟩:=r1;exact⟨_,_,rfl,.inr ⟨.inl (.inl (s _ _ h)),k _ (.d (.tuple xs)) _ _ (Grow.refl s ra) (.tup (.inl (.inl h)) q') trivial q⟩⟩
theorem fE(hm:X.mg "tuple" = none)(ha:vV X rl [a] fs)(hg:autoParam (Gl X "tuple") æa._auto_1)(he:autoParam (wR [a] X.env=(false,eval a X.env)::wR [] X.env) æa._auto_1)(hpl:autoParam ((yR pos (wR [] X.env)).any (·.1)=false) æa._auto_1) :
 PV X rl (.Call (.Name "tuple" p) [a] [] pos) (ci ky fs):=jT dU ni hm (by rfl) ha hg (by decide) (by decide) he hpl
noncomputable def ph:List W->(W->Prop)->Prop:=fun ws Q=>∃w d xs,ws=[w]/\w.dat=some d/\de d=some xs/\Q (.ml xs)
noncomputable def qi(i j l:Nat)(fs:vK):vL:=fun D ρ=>fs ρ fun ws=>∃x y z,dS ws=some [x,y,z]/\D.nx (((ρ.set i (some (.d x))).set j (some (.d y))).set l (some (.d z)))
end
section
variable{X:Cx}{rl:Option Addr}
noncomputable def sM:W->W->(W->Prop)->Prop:=fun x y Q=>∃b c,x = .d (.bool b)/\y = .d (.bool c)/\Q (.d (.bool (b==c)))
end
section
variable{X:Cx}{rl:Option Addr}{a b c e:Expr}{es:List Expr}{fa fb fc:TV}{fs:vK}{pos p p2:Pos}
noncomputable def vt(f:Int->Int->wD):List W->(W->Prop)->Prop:=fun ws Q=>∃i j,ws=[.d (.int i),.d (.int j)]/\Q (.d (f i j))
theorem qa{f:Int->Int->V}{g:Int->Int->wD}(h:∀K F i j,Rep K F (f i j) (g i j)):cE X rl (fun xs H Q=>∃i j,xs=[.int i,.int j]/\Q (f i j) H) (vt g):=fun{F H vs ws} Qd Q s ra r ⟨i,j,ew,q⟩ k=>by
 subst ew;obtain⟨v,u,rfl,r1,r2⟩:=qw r;have e1:=ay r1;have e2:=ay r2;subst e1 e2;exact⟨i,j,rfl,k _ (.d _) _ _ (Grow.refl s ra) (h _ _ i j) trivial q⟩
theorem ny(hm:X.mg "min" = none)(ha:vV X rl [a,b] fs)(hc:autoParam (X.calm=true) æa._auto_1)(hg:autoParam (Gl X "min") æa._auto_1)(he:autoParam (wR [a,b] X.env=(false,eval a X.env)::wR [b] X.env) æa._auto_1)(hpl:autoParam ((yR pos (wR [b] X.env)).any (·.1)=false) æa._auto_1) :
 PV X rl (.Call (.Name "min" p) [a,b] [] pos) (ci (vt fun i j=>.int (min i j)) fs) :=
 bQ (jA hc) (qa (f:=fun i j=>.int (if j<i then j else i)) fun _ _ i j=>(show(if j<i then j else i)=min i j by split<;>omega) ▸ .int _) hm (by rfl) ha hg (by decide) (by decide) he hpl
noncomputable def dQ:List W->(W->Prop)->Prop:=fun ws Q=>∃i j,ws=[.d (.int i),.d (.int j)]/\0<j/\j<1073741824/\Q (.d (.tuple [.int (i / j),.int (i%j)]))
theorem ie:cE X rl (fun xs H Q=>∃i j,xs=[.int i,.int j]/\sX i j/\∀p,H p=none->Q (.ref p) (upd H p (.tup [.int (i / j),.int (i%j)]))) dQ:=fun{F H vs ws} Qd Q s ra r ⟨i,j,ew,h1,h2,q⟩ k=>by
 subst ew;obtain⟨v,u,rfl,r1,r2⟩:=qw r;have e1:=ay r1;have e2:=ay r2;subst e1 e2;refine⟨i,j,rfl,⟨h1,h2⟩,fun p hp=>?_⟩;have g:=Grow.data (a:=p) (o:=.tup [.int (i / j),.int (i%j)]) s ra hp;exact k _ (.d _) _ _ g (.tup (.inl (.inl ak)) (.cons (.int _) (.cons (.int _) .nil))) trivial q
theorem jS(hm:X.mg "divmod" = none)(ha:vV X rl [a,b] fs)(hg:autoParam (Gl X "divmod") æa._auto_1)(he:autoParam (wR [a,b] X.env=(false,eval a X.env)::wR [b] X.env) æa._auto_1)(hpl:autoParam ((yR pos (wR [b] X.env)).any (·.1)=false) æa._auto_1) :
 PV X rl (.Call (.Name "divmod" p) [a,b] [] pos) (ci dQ fs):=bQ fR ie hm (by rfl) ha hg (by decide) (by decide) he hpl
noncomputable def po:List W->(W->Prop)->Prop:=fun ws Q=>(∃i,ws=[.d (.int i)]/\Q (.d (.int i)))\/∃k:Bool,ws=[.d (.bool k)]/\Q (.d (.int (if k then 1 else 0)))
noncomputable def si(i:Nat)(C:Int->Int->Prop)(f:Int->Int->Int)(fa:TV):vL:=fun D ρ=>∃n,ρ[i]?=some (some (.d (.int n)))/\fa ρ fun w=>∃m,w = .d (.int m)/\C n m/\D.nx (ρ.set i (some (.d (.int (f n m)))))
noncomputable def cutD(xs:List wD)(lo hi:Option Int):List wD:=(xs.drop (HT.sIx xs.length 0 lo)).take (HT.sIx xs.length xs.length hi-HT.sIx xs.length 0 lo)
abbrev vM:=En->(Option Int->Prop)->Prop
noncomputable def uZ:vM:=fun _ Q=>Q none
noncomputable def u0(fa:TV):vM:=fun ρ Q=>fa ρ fun w=>∃i,w = .d (.int i)/\Q (some i)
noncomputable def rZ(fa:TV)(fl fh:vM):TV:=fun ρ Q=>fa ρ fun w=>fl ρ fun l=>fh ρ fun h=>∃xs,w.dat=some (.list xs)/\Q (.ml (cutD xs l h))
noncomputable def kD:W->W->(W->Prop)->Prop:=fun x y Q=>∃xs ys,x.dat=some (.list xs)/\y.dat=some (.list ys)/\xs.length+ys.length<=sizeLine/\Q (.ml (xs++ys))
theorem ce.lst{K:W.Frag}{F H:Hp}{v:V}{w:W}{xs:List wD}(s:aS F H)(r:ce K rl F H v w)(e:w.dat=some (.list xs)):∃a vs,v = .ref a/\H a=some (.lst vs)/\Reps K F vs xs:=by
 have own:hZ K rl F H v xs->∃a vs,v = .ref a/\H a=some (.lst vs)/\Reps K F vs xs:=fun⟨a,vs,e1,_,_,e2,e3⟩=>⟨a,vs,e1,e2,e3⟩
 cases w with
 | d y =>
   cases e
   cases(show Rep K F v (.list xs)from r)with
   | lst h q=>exact⟨_,_,rfl,s _ _ h,q⟩
 | ml ys=>cases e;exact own r
 | pk ys=>cases e;exact own r
 | reel=>cases e
 | vv u=>cases e
 | md u=>cases e
 | mk u=>cases e
 | xm u=>cases e
 | nt u=>cases e
 | lk=>cases e
 | sc _=>cases e
 | fd _=>cases e
 | xr _=>cases e
 | fw _=>cases e
 | ft _=>cases e
 | xc _ _=>cases e
 | dp _ _=>cases e
theorem lB:vI X rl sC kD:=fun{F H x y wx wy} Qd Q s ra r1 r2 q k=>by
 obtain⟨xs,ys,e1,e2,z,q⟩:=q;obtain⟨a,vs,rfl,h1,q1⟩:=r1.lst s e1;obtain⟨b,us,rfl,h2,q2⟩:=r2.lst s e2;refine⟨a,b,vs,us,rfl,rfl,h1,h2,by rw[q1.length,q2.length];exact z,fun p hp=>?_⟩;exact k _ (.ml _) _ _ (Grow.laid s ra hp) (cJ s ra hp (q1.append q2)) (fun a ea=>by cases ea;exact hp) q
theorem nB(ha:PV X rl a fa)(hb:PV X rl b fb):PV X rl (.BinOp a .Add b pos) (uq kD fa fb):=fJ oM lB ha hb
noncomputable def kZ(p p':Int->Int->Bool)(fa fb fc:TV):TV:=fun ρ Q=>fa ρ fun x=>fb ρ fun y=>∃i j,x = .d (.int i)/\y = .d (.int j) /\
 if p i j=true then fc ρ fun z=>∃k,z = .d (.int k)/\Q (.d (.bool (p' j k)))else Q (.d (.bool false))
theorem gb{op':Cn}{p p':Int->Int->Bool}(ho:v9 X (yz op) (uT fun i j=>.bl (p i j)))(ho':v9 X (yz op') (uT fun i j=>.bl (p' i j)))(ha:PV X rl a fa)(hb:PV X rl b fb)(hc:PV X rl c fc)
 (hm:autoParam (lastMarks [op,op'] [b,c]=false) æh._auto_1):PB X rl (.Compare a [op,op'] [b,c] pos) (im (kZ p p' fa fb fc)):=by
 obtain⟨t,p1,k1⟩:=ha;obtain⟨t2,p2,k2⟩:=hb;obtain⟨t3,p3,k3⟩:=hc;refine⟨_,j6 ho ho' p1 p2 p3 hm,fun R Qd Q q h=>k1 R _ _ q fun v w F1 H1 g1 r1 n1 q1=>k2 (R.grow g1) _ _ q1 fun v2 w2 F2 H2 g2 r2 n2 q2=>?_⟩;obtain⟨i,j,rfl,rfl,q2⟩:=q2;have e1:=ay r1;have e2:=ay r2;subst e1 e2;refine⟨i,j,rfl,rfl,p i j,rfl,?_⟩
 cases hp:p i j with
 | false =>
   rw[hp]at q2;rw[if_neg (by decide)]at q2 ⊢;obtain⟨k,ek,q2⟩:=q2;cases ek
   exact⟨false,rfl,h false F2 H2 (g1.trans g2) q2⟩
 | true =>
   rw[hp]at q2;rw[if_pos rfl]at q2 ⊢;refine k3 ((R.grow g1).grow g2) _ _ q2 fun v3 w3 F3 H3 g3 r3 n3 ⟨k,ek,q3⟩=>?_;subst ek;have e3:=ay r3;subst e3;obtain⟨kk,ekk,q3⟩:=q3;cases ekk;exact⟨j,k,rfl,rfl,p' j k,rfl,h _ F3 H3 ((g1.trans g2).trans g3) q3⟩
structure GlD (K:W.Frag) (mg:Str->Option wF) (x:Str) (d:wD):Prop where
 ex:∃v u,mg x=some u/\RelV v u/\∀F,Rep K F v d
theorem nA{d:wD}(G:GlD X.K X.mg x d)(hg:autoParam (Gl X x) æa._auto_1)(hd:autoParam ((x==("__debug__" : Str))=false) æb._auto_1):PV X rl (.Name x pos) (vC d):=by
 obtain⟨v,u,h1,h2,h3⟩:=G.ex;exact lZ h1 h2 h3 hg hd
structure GlK (K:W.Frag) (x:Str) (d:wD):Prop where
 ex:∃v u,W.nsIn K xt x=some (some u)/\RelV v u/\∀F,Rep K F v d
theorem GlK.of{K:W.Frag}{d:wD}{mg:Str->Option wF}(k:GlK K x d)(Y:K.In h)(G:h.Ns xt mg):GlD K mg x d:=by
 obtain⟨v,u,h1,h2,h3⟩:=k.ex;exact⟨v,u,W.mg_of Y G h1,h2,h3⟩
end
end L2.VL
namespace L2
section
variable{X:Cx}{a b:Expr}{ta:TA}{p q pos pos2:Pos}
end
end L2
namespace L2.VL
section
variable{X:Cx}{rl:Option Addr}{a b c e:Expr}{es:List Expr}{fa fb fc:TV}{fs:vK}{pos pos2 p q:Pos}
noncomputable def tj(fs:vK):TV:=fun ρ Q=>fs ρ fun ws=>∃i j:Int,ws=[.d (.int i),.d (.int j)]/\(-(2^62)<=i/\i<2^62 /\ -(2^62)<=j/\j<2^62)/\(j-i).toNat<=2^24/\Q (.ml (aC i (j-i).toNat))
noncomputable def tm(fs:vK):TV:=fun ρ Q=>fs ρ fun ws=>∃j:Int,ws=[.d (.int j)]/\(-(2^62)<=j/\j<2^62)/\j.toNat<=2^24/\Q (.ml (aC 0 j.toNat))
noncomputable def io(i j:Nat)(fa:TV):vL:=fun D ρ=>∃xs ys,ρ[i]?=some (some (.ml xs))/\ρ[j]?=some (some (.ml ys))/\fa ρ fun w=>∃k y,w = .d (.int k)/\0<=k/\k<(ys.length:Int)/\ys.length<2^62/\ys[k.toNat]?=some y/\xs.length<sizeLine /\
 D.nx ((ρ.set j (some (.ml (ys.eraseIdx k.toNat)))).set i (some (.ml (xs++[y]))))
end
theorem g_{β:Type}{xs:List α}{f:β->α->β}{a:β}(h:i<xs.length):(xs.take (i+1)).foldl f a=f ((xs.take i).foldl f a) xs[i]:=by
 rw[zI h,List.foldl_append];rfl
end L2.VL
namespace L2
section
variable{X:Cx}{tg e:Expr}{ta te:TE}{p p2 pos:Pos}
end
end L2
namespace L2.VL
section
variable{X:Cx}{rl:Option Addr}{a b c e tg:Expr}{es:List Expr}{fa fb fc:TV}{fs:vK}{pos pos2 p p2 q:Pos}
theorem Reps.rev{K:W.Frag}{F:Hp}:∀{vs:List V}{ds:List wD},Reps K F vs ds->Reps K F vs.reverse ds.reverse
 | _,_,.nil=>.nil
 | _,_,.cons h r=>by rw[AN,AN];exact(Reps.rev r).snoc h
noncomputable def nJ(fa:TV):TV:=fun ρ Q=>fa ρ fun w=>∃xs,w.dat=some (.list xs)/\Q (.ml xs.reverse)
end
end L2.VL
namespace L2
section
variable{X:Cx}
end
end L2
namespace L2.VL
section
variable{X:Cx}{rl:Option Addr}{a b c e:Expr}{es:List Expr}{fa fb fc:TV}{fs:vK}{pos p p2:Pos}
noncomputable def sQ(f:List Bool->Bool):List W->(W->Prop)->Prop:=fun ws Q=>∃(w:W)(bs:List Bool),ws=[w]/\w.dat=some (.list (bs.map .bool))/\Q (.d (.bool (f bs)))
end
end L2.VL
namespace L2.TM
section
variable{prog:wZ}{w:xx}{A:xB}{E:wF->wG->Prop}{s:wG}{k:Int}{t:Tok}{l:Addr}{its:Array wF}
end
end L2.TM
namespace L2
section
variable{X:Cx}
end
end L2
namespace L2.VL
section
variable{X:Cx}{rl:Option Addr}{a b c e:Expr}{es:List Expr}{fa fb fc:TV}{fs:vK}{pos p p2:Pos}
noncomputable def pd:W->W->(W->Prop)->Prop:=fun x y Q=>∃xs k,x = .d (.tuple xs)/\y = .d (.int k)/\xs≠[]/\1<=k/\k<2^62/\xs.length*k.toNat<=sizeLine/\Q (.d (.tuple (x6 k.toNat xs).flatten))
end
end L2.VL
namespace L2
section
variable{X:Cx}
section
variable{prog:wZ}{w:xx}{A:xB}{E:wF->wG->Prop}{s:wG}
end
theorem c_{vs:List wF}(h:y_ vs ns):bq (ns.map V.int) vs:=by
 induction h with
 | nil=>exact .nil
 | cons n t r ih=>exact .cons ⟨t,rfl⟩ ih
end
end L2
namespace L2.VL
section
variable{X:Cx}{rl:Option Addr}{a b c e:Expr}{es:List Expr}{fa fb fc:TV}{fs:vK}{pos p p2:Pos}
noncomputable def pz:W->W->(W->Prop)->Prop:=fun x y Q=>∃xs ys,x = .d (.tuple xs)/\y = .d (.tuple ys)/\xs.length+ys.length<=sizeLine/\Q (.d (.tuple (xs++ys)))
theorem cI{K:W.Frag}{F:Hp}:∀{vs:List V}{ns:List Int},Reps K F vs (ns.map .int)->vs=ns.map V.int
 | _,[],h=>h.nil_iff
 | _,n::ns,.cons h r=>by rw[ay h,cI r];rfl
theorem dN{K:W.Frag}{F:Hp}:∀{ns:List Int},Reps K F (ns.map V.int) (ns.map .int)
 | []=>.nil
 | n::ns=>.cons (.int n) dN
noncomputable def o9:List W->(W->Prop)->Prop:=fun ws Q=>∃(ns:List Int),ws=[.d (.tuple (ns.map .int))]/\ns.length<64/\∀ns':List Int,ns'.Perm ns->ns'.Pairwise (· <= ·)->Q (.ml (ns'.map .int))
end
end L2.VL
namespace L2.TO
section
variable{prog:wZ}{w:xx}{A:xB}{E:wF->wG->Prop}{s:wG}
end
end L2.TO
namespace L2
section
variable{X:Cx}{a b e:Expr}{ta:TA}{te:TE}{p p2 q pos pos2:Pos}
end
end L2
namespace L2.VL
section
variable{X:Cx}{rl:Option Addr}{a b c e:Expr}{es:List Expr}{fa fb fc:TV}{fs:vK}{pos pos2 p q p2:Pos}
noncomputable def s_(fs:vK):TV:=fun ρ Q=>fs ρ fun ws=>∃j:Int,ws=[.d (.int j)]/\(-(2^62)<=j/\j<2^62)/\j.toNat<=2^24/\Q (.d (.tuple (aC 0 j.toNat)))
noncomputable def nG(fa:TV):TV:=fun ρ Q=>fa ρ fun w=>∃xs,w = .d (.tuple xs)/\Q (.d (.tuple xs.reverse))
end
end L2.VL
namespace L2.TW
section
variable{prog:wZ}{w:xx}{A:xB}{E:wF->wG->Prop}{s:wG}
end
end L2.TW
namespace L2
section
variable{X:Cx}
end
end L2
namespace L2.VL
section
variable{X:Cx}{rl:Option Addr}{a b c e:Expr}{es:List Expr}{fa fb fc:TV}{fs:vK}{pos p p2:Pos}
noncomputable def r8(fa:TV)(fl fh:vM):TV:=fun ρ Q=>fa ρ fun w=>fl ρ fun l=>fh ρ fun h=>∃xs,w = .d (.tuple xs)/\Q (.d (.tuple (cutD xs l h)))
end
end L2.VL
namespace L2
abbrev tu(D:List (Str×Int)):List (wD×wD):=(D.map fun q=>(q.1,xv q.2)).map fun q=>(wD.str q.1,q.2)
section
variable{X:Cx}{e:Expr}{ty:TE}{px apos cpos:Pos}
end
end L2
namespace L2.VL
section
variable{X:Cx}{rl:Option Addr}{a b c e:Expr}{es:List Expr}{fa fb fc:TV}{fs:vK}{pos p p2 px apos cpos:Pos}
noncomputable def nW(D:List (Str×Int))(k:Str):wD:=(PySem.Spec.lookup (.str k) (tu D)).getD .none
noncomputable def nE(D:List (Str×Int))(fk:TV):TV:=fun ρ Q=>fk ρ fun w=>∃k,w = .d (.str k)/\Q (.d (nW D k))
end
end L2.VL
set_option exponentiation.threshold 10000
namespace L2.VL
noncomputable def mI(a b:Int):wD:=.tuple [.int (a.fdiv (xu a b)),.int (b.fdiv (xu a b))]
theorem dP{a:Int}(hb:0<b)(z:b.natAbs<2^8000)(i:Int):bY i (xu a b:Int):=by
 have h1:=mR (a:=a) (b:=b) (by omega);have h2:=o6 (a:=a) (b:=b) (by omega);exact⟨by omega,AC (by omega) (wK z (xj (by decide) (by decide)))⟩
noncomputable def pL(bs:List Int):Prop:=bs.length=4/\(∀b∈bs,2<=b/\b<=16)/\bs.Pairwise fun x y=>xu x y=1
instance (bs:List Int):Decidable (pL bs):=by unfold pL;infer_instance
noncomputable def pr(a b:Int):wD:=.tuple [.int a,.int b]
theorem GlK.pair{K:W.Frag}{a:Int}{p:Addr}{sl:Array (Option wF)}{t u:Tok}(h1:W.nsIn K xt x=some (some (.ref p)))
 (h2:K.lookup p=some ⟨.type "tuple", none,.seq #[.int a t,.int b u] n,sl⟩):GlK K x (pr a b):=by
 refine⟨.ref p,.ref p,h1,rfl,fun F=>.tup (vs:=[.int a,.int b]) (.inr ⟨_,_,n,h2,rfl,rfl,(by show 2<=sizeLine;decide),.cons ⟨t,rfl⟩ (.cons ⟨u,rfl⟩ .nil),rfl⟩) (.cons (.int a) (.cons (.int b) .nil))⟩
end L2.VL
set_option exponentiation.threshold 10000
namespace L2.VL
noncomputable def stepT(b:Int)(p:List Int)(t:Int)(a:Nat):Int:=t*b+p.getD a 0
noncomputable def uv:wD->Int
 | .int i=>i
 | _=>0
section
variable{P:wZ}{w:xx}{K:W.Frag}{mg:Str->Option wF}{base:Heap}{rl:Option Addr}{x:Str}{st:Stmt}{N ps:List Str}{k:Nat}{Pd:List W->(List wD->Prop)->Prop}{t:vL}
end
section
variable{X:Cx}{rl:Option Addr}{a b c e:Expr}{es:List Expr}{fa fb fc:TV}{fs:vK}{pos p p2 px apos cpos:Pos}
end
end L2.VL
namespace L2.IX
section
variable{prog:wZ}{w:xx}{A:xB}{E:wF->wG->Prop}{s:wG}
end
end L2.IX
namespace L2
section
variable{X:Cx}
end
end L2
namespace L2.VL
section
variable{X:Cx}{rl:Option Addr}{a b c e:Expr}{es:List Expr}{fa fb fc:TV}{fs:vK}{pos p p2 px apos cpos:Pos}
noncomputable def eW:wD->Bool
 | .none=>true
 | _=>false
noncomputable def sL(neg:Bool):W->W->(W->Prop)->Prop:=fun x y Q=>∃d,x.dat=some d/\y = .d .none/\Q (.d (.bool (if neg then !eW d else eW d)))
noncomputable def pf:W->W->(W->Prop)->Prop:=fun x y Q=>∃xs k,x.dat=some (.list xs)/\y = .d (.int k) /\ -(2^63)<=k/\k<2^63/\xs.length*k.toNat<=sizeLine/\Q (.ml (x6 k.toNat xs).flatten)
noncomputable def nK(i:Nat):vL:=fun D ρ=>∃xs,ρ[i]?=some (some (.ml xs))/\D.rt (.ml xs)
noncomputable def nP(i:Nat)(fa:TV):vL:=fun D ρ=>∃xs,ρ[i]?=some (some (.ml xs))/\fa ρ fun w=>∃ys,w.isPk=false/\w.dat=some (.list ys)/\xs.length+ys.length<=sizeLine/\D.nx (ρ.set i (some (.ml (xs++ys))))
end
end L2.VL
namespace L2.ZP
section
variable{prog:wZ}{w:xx}{A:xB}{E:wF->wG->Prop}{s:wG}{it a:Addr}{k:Nat}{xs:Array wF}{v:wF}
end
section
variable{prog:wZ}{w:xx}{A:xB}{E:wF->wG->Prop}{s:wG}{it a:Addr}{k:Nat}{xs:Array wF}{v:wF}
end
section
variable{prog:wZ}{w:xx}{A:xB}{E:wF->wG->Prop}{s:wG}{z ti to i1 i2 a1 a2:Addr}{k1 k2:Nat}{xs ys:Array wF}{x y p q:wF}
end
noncomputable def u9(b:Bool):String:=bif b then "tuple_iterator" else "list_iterator"
section
variable{prog:wZ}{w:xx}{A:xB}{E:wF->wG->Prop}{s:wG}{b b1 b2:Bool}{a a1 a2:Addr}{xs ys:Array wF}
abbrev y1(h:Heap)(b1:Bool)(a1:Addr):Heap:=h.push {cls:=.type (u9 b1),data:=.fields #[.ref a1,.int 0 0]}
abbrev y2(h:Heap)(b1 b2:Bool)(a1 a2:Addr):Heap:=(y1 h b1 a1).push {cls:=.type (u9 b2),data:=.fields #[.ref a2,.int 0 0]}
abbrev y3(h:Heap)(b1 b2:Bool)(a1 a2:Addr):Heap:=(y2 h b1 b2 a1 a2).push {cls:=.type "tuple", data:=.seq #[.ref h.objs.size,.ref (y1 h b1 a1).objs.size]}
abbrev y4(h:Heap)(b1 b2:Bool)(a1 a2:Addr):Heap:=(y3 h b1 b2 a1 a2).push {cls:=.type "tuple", data:=.seq #[.none,.none]}
abbrev y5(h:Heap)(b1 b2:Bool)(a1 a2:Addr):Heap:=(y4 h b1 b2 a1 a2).push {cls:=.type "zip", data:=.fields #[.none,.bool false,.bool false,.ref (y2 h b1 b2 a1 a2).objs.size,.ref (y3 h b1 b2 a1 a2).objs.size]}
end
end L2.ZP
namespace L2
open PySem PySem.Spec PyProof.Rows L2.ZP
open PySem PySem.Spec PyProof.Rows L2.ZP
section
variable{X:Cx}{e1 e2:Expr}{ta:TA}{elts:List Expr}{kt:Nat}{pt p pos:Pos}
end
end L2
namespace L2.VL
section
variable{X:Cx}{rl:Option Addr}{a b:Expr}{elts:List Expr}{kt:Nat}{pt p pos:Pos}{fs:vK}
noncomputable def pM(xs ys:List wD):List wD:=List.zipWith (fun x y=>.tuple [x,y]) xs ys
noncomputable def cq:wD->Bool
 | .tuple _=>true
 | _=>false
noncomputable def vg(b1 b2:Bool)(fs:vK):En->(List wD->Prop)->Prop:=fun ρ Q=>fs ρ fun ws=>∃dx dy xs ys,ws=[.d dx,.d dy]/\de dx=some xs/\de dy=some ys/\cq dx=b1/\cq dy=b2/\Q (pM xs ys)
end
theorem nr{α:Sort u}{a b:α}(h:a=b):a=b:=h
abbrev Mo(α:Type):=(α->Prop)->Prop
noncomputable def ret{α:Type}(a:α):Mo α:=fun Q=>Q a
noncomputable def vB{α β:Type}(m:Mo α)(f:α->Mo β):Mo β:=fun Q=>m fun a=>f a Q
noncomputable def vk{α:Type}(P:Prop)(m:Mo α):Mo α:=fun Q=>P/\m Q
noncomputable def stk{α:Type}:Mo α:=fun _=>False
noncomputable def anyM{α:Type}(P:α->Prop):Mo α:=fun Q=>∀a,P a->Q a
noncomputable def aj{α β:Type}(o:Option α)(f:α->Mo β):Mo β:=match o with
 | some a=>f a
 | none=>stk
section
variable{α β γ:Type}
theorem bnd_ret(a:α)(f:α->Mo β):vB (ret a) f=f a:=nr rfl
theorem bnd_bnd(m:Mo α)(f:α->Mo β)(g:β->Mo γ):vB (vB m f) g=vB m fun a=>vB (f a) g:=nr rfl
theorem bnd_grd(P:Prop)(m:Mo α)(f:α->Mo β):vB (vk P m) f=vk P (vB m f):=nr rfl
theorem bnd_stk(f:α->Mo β):vB stk f=stk:=nr rfl
theorem bnd_ite(c:Prop)[Decidable c](a b:Mo α)(f:α->Mo β):vB (if c then a else b) f=if c then vB a f else vB b f:=by split<;>rfl
theorem bnd_opt(o:Option α)(k:α->Mo β)(f:β->Mo γ):vB (aj o k) f=aj o fun a=>vB (k a) f:=by cases o<;>rfl
theorem opt_some(a:α)(k:α->Mo β):aj (some a) k=k a:=nr rfl
theorem opt_none(k:α->Mo β):aj none k=stk:=nr rfl
theorem al{P:Prop}(h:P)(m:Mo α):vk P m=m:=by funext Q;exact propext ⟨fun z=>z.2,fun z=>⟨h,z⟩⟩
theorem grd_T(m:Mo α):vk True m=m:=al trivial m
theorem cz(c:Prop)[Decidable c](a b:Mo α)(Q:α->Prop):(if c then a else b) Q=if c then a Q else b Q:=by split<;>rfl
theorem ab{m n:Mo α}(h:∀Q,m Q↔n Q):m=n:=funext fun Q=>propext (h Q)
end
noncomputable def asI:W->Option Int
 | .d (.int i)=>some i
 | _=>none
noncomputable def asB:W->Option Bool
 | .d (.bool b)=>some b
 | _=>none
noncomputable def asS:W->Option Str
 | .d (.str b)=>some b
 | _=>none
noncomputable def asD:W->Option wD
 | .d x=>some x
 | _=>none
noncomputable def lstD:wD->Option (List wD)
 | .list xs=>some xs
 | _=>none
noncomputable def tupD:wD->Option (List wD)
 | .tuple xs=>some xs
 | _=>none
noncomputable def vG(w:W):Option (List wD):=w.dat.bind lstD
noncomputable def vE(w:W):Option (List wD):=(asD w).bind tupD
noncomputable def vF(w:W):Option (List wD):=w.dat.bind de
noncomputable def uB:W->Option Int
 | .d (.int i)=>some i
 | .d (.bool b)=>some (if b then 1 else 0)
 | _=>none
noncomputable def isiT:W->Option String
 | .vv (.ty T)=>some T
 | _=>none
noncomputable def lp:List wD->Option (List Bool)
 | []=>some []
 | .bool b::r=>(lp r).map (b :: ·)
 | _=>none
noncomputable def c8:List wD->Option (List Int)
 | []=>some []
 | .int b::r=>(c8 r).map (b :: ·)
 | _=>none
theorem blsD_map:∀bs:List Bool,lp (bs.map .bool)=some bs
 | []=>rfl
 | b::bs=>by show(lp (bs.map .bool)).map (b :: ·)=_;rw[blsD_map bs];rfl
theorem fS:∀{xs:List wD}{bs:List Bool},lp xs=some bs->xs=bs.map .bool
 | [],bs,h=>by cases h;rfl
 | .bool b::r,bs,h=>by
   have h:(lp r).map (b :: ·)=some bs:=h
   cases q:lp r with
   | none=>rw[q]at h;cases h
   | some cs=>rw[q]at h;cases h;rw[fS q];rfl
 | .none::_,_,h=>by cases h
 | .int _::_,_,h=>by cases h
 | .str _::_,_,h=>by cases h
 | .list _::_,_,h=>by cases h
 | .tuple _::_,_,h=>by cases h
 | .dict _::_,_,h=>by cases h
theorem aM:∀bs:List Int,c8 (bs.map .int)=some bs
 | []=>rfl
 | b::bs=>by show(c8 (bs.map .int)).map (b :: ·)=_;rw[aM bs];rfl
theorem cL:∀{xs:List wD}{bs:List Int},c8 xs=some bs->xs=bs.map .int
 | [],bs,h=>by cases h;rfl
 | .int b::r,bs,h=>by
   have h:(c8 r).map (b :: ·)=some bs:=h
   cases q:c8 r with
   | none=>rw[q]at h;cases h
   | some cs=>rw[q]at h;cases h;rw[cL q];rfl
 | .none::_,_,h=>by cases h
 | .bool _::_,_,h=>by cases h
 | .str _::_,_,h=>by cases h
 | .list _::_,_,h=>by cases h
 | .tuple _::_,_,h=>by cases h
 | .dict _::_,_,h=>by cases h
theorem asI_d(i:Int):asI (.d (.int i))=some i:=rfl
theorem asB_d(i:Bool):asB (.d (.bool i))=some i:=rfl
theorem asS_d(i:Str):asS (.d (.str i))=some i:=rfl
theorem asD_d(i:wD):asD (.d i)=some i:=rfl
theorem asT_d(x:wD):vE (.d x)=tupD x:=rfl
theorem asL_d(x:wD):vG (.d x)=lstD x:=rfl
theorem asL_ml(x:List wD):vG (.ml x)=some x:=rfl
theorem asL_pk(x:List wD):vG (.pk x)=some x:=rfl
theorem asQ_d(x:wD):vF (.d x)=de x:=rfl
theorem asQ_ml(x:List wD):vF (.ml x)=some x:=rfl
theorem asQ_pk(x:List wD):vF (.pk x)=some x:=rfl
theorem lstD_l(x:List wD):lstD (.list x)=some x:=rfl
theorem tupD_t(x:List wD):tupD (.tuple x)=some x:=rfl
theorem toI_i(i:Int):uB (.d (.int i))=some i:=rfl
theorem toI_b(i:Bool):uB (.d (.bool i))=some (if i then 1 else 0):=rfl
theorem isiT_t(T:String):isiT (.vv (.ty T))=some T:=rfl
theorem be{i:Int}:asI w=some i↔w = .d (.int i):=by
 constructor
 · intro h;unfold asI at h;split at h<;>simp_all
 · rintro rfl;rfl
theorem cZ{i:Bool}:asB w=some i↔w = .d (.bool i):=by
 constructor
 · intro h;unfold asB at h;split at h<;>simp_all
 · rintro rfl;rfl
theorem lq{i:Str}:asS w=some i↔w = .d (.str i):=by
 constructor
 · intro h;unfold asS at h;split at h<;>simp_all
 · rintro rfl;rfl
theorem gM{i:wD}:asD w=some i↔w = .d i:=by
 constructor
 · intro h;unfold asD at h;split at h<;>simp_all
 · rintro rfl;rfl
theorem mM{i:String}:isiT w=some i↔w = .vv (.ty i):=by
 constructor
 · intro h;unfold isiT at h;split at h<;>simp_all
 · rintro rfl;rfl
theorem mH{w:wD}{i:List wD}:lstD w=some i↔w = .list i:=by
 constructor
 · intro h;unfold lstD at h;split at h<;>simp_all
 · rintro rfl;rfl
theorem lH{w:wD}{i:List wD}:tupD w=some i↔w = .tuple i:=by
 constructor
 · intro h;unfold tupD at h;split at h<;>simp_all
 · rintro rfl;rfl
theorem gL{i:List wD}:vE w=some i↔w = .d (.tuple i):=by
 constructor
 · intro h;unfold vE at h
   cases q:asD w with
   | none=>rw[q]at h;cases h
   | some x=>rw[q]at h;rw[gM.mp q,lH.mp h]
 · rintro rfl;rfl
theorem dt{i:List wD}:vG w=some i↔w.dat=some (.list i):=by
 unfold vG;constructor
 · intro h
   cases q:w.dat with
   | none=>rw[q]at h;cases h
   | some x=>rw[q]at h;rw[mH.mp h]
 · intro h;rw[h];rfl
theorem ac{β:Type}{o:Option α}{k:α->Mo β}{Q:β->Prop}:aj o k Q↔∃a,o=some a/\k a Q:=by
 cases o with
 | none=>exact⟨fun z=>z.elim,fun⟨_,z,_⟩=>by cases z⟩
 | some a=>exact⟨fun z=>⟨a,rfl,z⟩,fun⟨_,e,z⟩=>by cases e;exact z⟩
section
variable{fa fb fc:TV}{fs:vK}{f g:TB}{ρ:En}{t u:vL}
theorem m_vC(x:wD):vC x ρ=ret (.d x):=nr rfl
theorem aQ(i:Nat):c6 i ρ=aj ((ρ[i]?).join) fun w=>ret w.peek:=by
 refine ab fun Q=>?_;rw[ac];constructor
 · rintro⟨w,e,q⟩;exact⟨w,by rw[e];rfl,q⟩
 · rintro⟨w,e,q⟩;refine⟨w,?_,q⟩
   cases h:ρ[i]? with
   | none=>rw[h]at e;cases e
   | some o=>rw[h]at e;cases o with
     | none=>cases e
     | some x=>cases e;rfl
theorem m_vOp(h:W->W->(W->Prop)->Prop):uq h fa fb ρ=vB (fa ρ) fun x=>vB (fb ρ) fun y=>h x y:=nr rfl
theorem m_gI(C:Int->Int->Prop)(h:Int->Int->wD)(x y:W):gI C h x y=aj (asI x) fun i=>aj (asI y) fun j=>vk (C i j) (ret (.d (h i j))):=by
 refine ab fun Q=>?_;simp only[ac,be,gI,vk,ret];exact⟨fun⟨i,j,a,b,c,q⟩=>⟨i,a,j,b,c,q⟩,fun⟨i,a,j,b,c,q⟩=>⟨i,j,a,b,c,q⟩⟩
theorem m_gI0(h:Int->Int->wD)(x y:W):vw h x y=aj (asI x) fun i=>aj (asI y) fun j=>ret (.d (h i j)):=by
 refine ab fun Q=>?_;simp only[ac,be,vw,ret];exact⟨fun⟨i,j,a,b,q⟩=>⟨i,a,j,b,q⟩,fun⟨i,a,j,b,q⟩=>⟨i,j,a,b,q⟩⟩
theorem m_vNeg:qj fa ρ=vB (fa ρ) fun x=>aj (asI x) fun i=>ret (.d (.int (-i))):=by
 refine ab fun Q=>?_;simp only[qj,vB,ac,be,ret]
theorem m_vTest{f:TV}:im f ρ=vB (f ρ) fun w=>aj (asB w) ret:=by
 refine ab fun Q=>?_;simp only[im,vB,ac,cZ,ret]
theorem m_gEqD(neg:Bool)(x y:W):qQ neg x y=aj x.dat fun dx=>aj y.dat fun dy=>vk (yA dx=true) (vk (yA dy=true) (ret (.d (.bool (if neg then !yH dx dy else yH dx dy))))):=by
 refine ab fun Q=>?_;simp only[ac,qQ,vk,ret];exact⟨fun⟨i,j,a,b,c,d,q⟩=>⟨i,a,j,b,c,d,q⟩,fun⟨i,a,j,b,c,d,q⟩=>⟨i,j,a,b,c,d,q⟩⟩
theorem pG{i:List wD}:vF w=some i↔(w.dat=some (.list i)\/w.dat=some (.tuple i)):=by
 unfold vF;constructor
 · intro h
   cases q:w.dat with
   | none=>rw[q]at h;cases h
   | some x=>rw[q]at h;exact de.of (o:=some x) rfl h
 · rintro(h|h)<;>rw[h]<;>rfl
theorem m_gInD(neg:Bool)(x y:W):sN neg x y=aj x.dat fun dx=>aj (vF y) fun ys=>vk (yA dx=true) (vk (wD.canLayAll0 ys=true) (ret (.d (.bool (if neg then !(ys.any fun z=>yH z dx)else ys.any fun z=>yH z dx))))):=by
 refine ab fun Q=>?_;simp only[ac,pG,sN,vk,ret];exact⟨fun⟨i,j,a,b,c,d,q⟩=>⟨i,a,j,b,c,d,q⟩,fun⟨i,a,j,b,c,d,q⟩=>⟨i,j,a,b,c,d,q⟩⟩
theorem m_vAnd:sj f g ρ=vB (f ρ) fun b=>if b=true then g ρ else ret false:=by
 refine ab fun Q=>?_;simp only[sj,vB,cz,ret]
theorem m_vOr:uo f g ρ=vB (f ρ) fun b=>if b=true then ret true else g ρ:=by
 refine ab fun Q=>?_;simp only[uo,vB,cz,ret]
theorem m_vNot:tf f ρ=vB (f ρ) fun b=>ret (!b):=nr rfl
theorem m_vAndV:nQ fa fb ρ=vB (fa ρ) fun w=>aj (asB w) fun b=>if b=true then fb ρ else ret (.d (.bool false)):=by
 refine ab fun Q=>?_;simp only[nQ,vB,ac,cZ,cz,ret]
theorem m_vOrV:sg fa fb ρ=vB (fa ρ) fun w=>aj (asB w) fun b=>if b=true then ret (.d (.bool true))else fb ρ:=by
 refine ab fun Q=>?_;simp only[sg,vB,ac,cZ,cz,ret]
theorem m_vNotV:nL fa ρ=vB (fa ρ) fun w=>aj (asB w) fun b=>ret (.d (.bool (!b))):=by
 refine ab fun Q=>?_;simp only[nL,vB,ac,cZ,ret]
theorem m_vIf{t:TB}:ut t fa fb ρ=vB (t ρ) fun c=>if c=true then fa ρ else fb ρ:=by
 refine ab fun Q=>?_;simp only[ut,vB,cz]
theorem m_vTup:qg fs ρ=vB (fs ρ) fun ws=>aj (dS ws) fun ds=>vk (ds.length<=sizeLine) (ret (.d (.tuple ds))):=by
 refine ab fun Q=>?_;simp only[qg,vB,ac,vk,ret]
theorem m_vLst:qk fs ρ=vB (fs ρ) fun ws=>aj (dS ws) fun ds=>vk (ds.length<=sizeLine) (ret (.ml ds)):=by
 refine ab fun Q=>?_;simp only[qk,vB,ac,vk,ret]
theorem m_gIx(x y:W):vq x y=aj x.dat fun dx=>aj (asI y) fun i=>aj (itemAt dx i) fun z=>ret (.d z):=by
 refine ab fun Q=>?_;simp only[vq,ac,be,ret];exact⟨fun⟨i,j,z,a,b,c,q⟩=>⟨i,a,j,b,z,c,q⟩,fun⟨i,a,j,b,z,c,q⟩=>⟨i,j,z,a,b,c,q⟩⟩
theorem m_vCall(h:List W->(W->Prop)->Prop):ci h fs ρ=vB (fs ρ) h:=nr rfl
theorem m_gAbs(w:W):pW [w]=aj (asI w) fun i=>ret (.d (.int (if i<0 then -i else i))):=by
 refine ab fun Q=>?_;simp only[pW,ac,be,ret,xa,and_true]
theorem m_gLen(w:W):pU [w]=aj w.dat fun d=>aj (mK d) fun n=>ret (.d (.int n)):=by
 refine ab fun Q=>?_;simp only[pU,ac,ret,xa,and_true];exact⟨fun⟨w',d,n,e,a,b,q⟩=>by subst e;exact⟨d,a,n,b,q⟩,fun⟨d,a,n,b,q⟩=>⟨w,d,n,rfl,a,b,q⟩⟩
theorem m_gRepr(w:W):pc [w]=aj w.dat fun d=>vk (vT d) (ret (.d (.str d.shown))):=by
 refine ab fun Q=>?_;simp only[pc,ac,ret,vk,xa,and_true];exact⟨fun⟨w',d,e,a,b,q⟩=>by subst e;exact⟨d,a,b,q⟩,fun⟨d,a,b,q⟩=>⟨w,d,rfl,a,b,q⟩⟩
theorem m_gIsi(w v:W):sK [w,v]=aj w.dat fun d=>aj (isiT v) fun T=>vk (su T=true) (ret (.d (.bool (sF d T)))):=by
 refine ab fun Q=>?_;simp only[sK,ac,mM,ret,vk,xa,and_true];exact⟨fun⟨w',d,T,⟨e,e'⟩,a,b,q⟩=>by subst e;exact⟨d,a,T,e',b,q⟩,fun⟨d,a,T,e',b,q⟩=>⟨w,d,T,⟨rfl,e'⟩,a,b,q⟩⟩
theorem m_gStrI(w:W):o8 [w]=aj (asI w) fun i=>vk (i.natAbs.log2<1920) (ret (.d (.str (toString i)))):=by
 refine ab fun Q=>?_;simp only[o8,ac,be,ret,vk,xa,and_true]
theorem m_gTupO(w:W):ky [w]=aj (vF w) fun xs=>ret (.d (.tuple xs)):=by
 refine ab fun Q=>?_;simp only[ky,ac,ret,xa,and_true];constructor
 · rintro⟨w',d,xs,e,a,b,q⟩;subst e;exact⟨xs,by unfold vF;rw[a];exact b,q⟩
 · rintro⟨xs,e,q⟩;unfold vF at e
   cases h:w.dat with
   | none=>rw[h]at e;cases e
   | some d=>rw[h]at e;exact⟨w,d,xs,rfl,h,e,q⟩
theorem m_gLstO(w:W):ph [w]=aj (vF w) fun xs=>ret (.ml xs):=by
 refine ab fun Q=>?_;simp only[ph,ac,ret,xa,and_true];constructor
 · rintro⟨w',d,xs,e,a,b,q⟩;subst e;exact⟨xs,by unfold vF;rw[a];exact b,q⟩
 · rintro⟨xs,e,q⟩;unfold vF at e
   cases h:w.dat with
   | none=>rw[h]at e;cases e
   | some d=>rw[h]at e;exact⟨w,d,xs,rfl,h,e,q⟩
theorem m_gIsB(x y:W):sM x y=aj (asB x) fun i=>aj (asB y) fun j=>ret (.d (.bool (i==j))):=by
 refine ab fun Q=>?_;simp only[ac,cZ,sM,ret];exact⟨fun⟨i,j,a,b,q⟩=>⟨i,a,j,b,q⟩,fun⟨i,a,j,b,q⟩=>⟨i,j,a,b,q⟩⟩
theorem m_gIsN(neg:Bool)(x:W):sL neg x (.d .none)=aj x.dat fun d=>ret (.d (.bool (if neg then !eW d else eW d))):=by
 refine ab fun Q=>?_;simp only[ac,sL,ret,true_and]
theorem m_gI2(h:Int->Int->wD)(x y:W):vt h [x,y]=aj (asI x) fun i=>aj (asI y) fun j=>ret (.d (h i j)):=by
 refine ab fun Q=>?_;simp only[ac,be,vt,ret,xa,and_true];exact⟨fun⟨i,j,⟨a,b⟩,q⟩=>⟨i,a,j,b,q⟩,fun⟨i,a,j,b,q⟩=>⟨i,j,⟨a,b⟩,q⟩⟩
theorem m_gDivmod(x y:W):dQ [x,y]=aj (asI x) fun i=>aj (asI y) fun j=>vk (0<j) (vk (j<1073741824) (ret (.d (.tuple [.int (i / j),.int (i%j)])))):=by
 refine ab fun Q=>?_;simp only[ac,be,dQ,vk,ret,xa,and_true];exact⟨fun⟨i,j,⟨a,b⟩,c,d,q⟩=>⟨i,a,j,b,c,d,q⟩,fun⟨i,a,j,b,c,d,q⟩=>⟨i,j,⟨a,b⟩,c,d,q⟩⟩
theorem nV{i:Int}:uB w=some i↔(w = .d (.int i)\/∃b:Bool,w = .d (.bool b)/\i=if b then 1 else 0):=by
 constructor
 · intro h;unfold uB at h;split at h
   · cases h;exact .inl rfl
   · cases h;exact .inr ⟨_,rfl,rfl⟩
   · cases h
 · rintro(rfl|⟨b,rfl,rfl⟩)<;>rfl
theorem m_gInt1(w:W):po [w]=aj (uB w) fun i=>ret (.d (.int i)):=by
 refine ab fun Q=>?_;simp only[ac,nV,po,ret,xa,and_true];constructor
 · rintro(⟨i,rfl,q⟩|⟨k,rfl,q⟩)
   · exact⟨i,.inl rfl,q⟩
   · exact⟨_,.inr ⟨k,rfl,rfl⟩,q⟩
 · rintro⟨i,rfl|⟨b,rfl,rfl⟩,q⟩
   · exact .inl ⟨i,rfl,q⟩
   · exact .inr ⟨b,rfl,q⟩
theorem m_oNo:uZ ρ=ret none:=nr rfl
theorem m_oIt:u0 fa ρ=vB (fa ρ) fun w=>aj (asI w) fun i=>ret (some i):=by
 refine ab fun Q=>?_;simp only[u0,vB,ac,be,ret]
theorem m_vSlL{fl fh:vM}:rZ fa fl fh ρ=vB (fa ρ) fun w=>vB (fl ρ) fun l=>vB (fh ρ) fun h=>aj (vG w) fun xs=>ret (.ml (cutD xs l h)):=by
 refine ab fun Q=>?_;simp only[rZ,vB,ac,dt,ret]
theorem m_vSlA{fl fh:vM}:r8 fa fl fh ρ=vB (fa ρ) fun w=>vB (fl ρ) fun l=>vB (fh ρ) fun h=>aj (vE w) fun xs=>ret (.d (.tuple (cutD xs l h))):=by
 refine ab fun Q=>?_;simp only[r8,vB,ac,gL,ret]
theorem m_gCatD(x y:W):kD x y=aj (vG x) fun xs=>aj (vG y) fun ys=>vk (xs.length+ys.length<=sizeLine) (ret (.ml (xs++ys))):=by
 refine ab fun Q=>?_;simp only[kD,ac,dt,vk,ret];exact⟨fun⟨i,j,a,b,c,q⟩=>⟨i,a,j,b,c,q⟩,fun⟨i,a,j,b,c,q⟩=>⟨i,j,a,b,c,q⟩⟩
theorem m_gCatA(x y:W):pz x y=aj (vE x) fun xs=>aj (vE y) fun ys=>vk (xs.length+ys.length<=sizeLine) (ret (.d (.tuple (xs++ys)))):=by
 refine ab fun Q=>?_;simp only[pz,ac,gL,vk,ret];exact⟨fun⟨i,j,a,b,c,q⟩=>⟨i,a,j,b,c,q⟩,fun⟨i,a,j,b,c,q⟩=>⟨i,j,a,b,c,q⟩⟩
theorem m_vChain(p p':Int->Int->Bool):kZ p p' fa fb fc ρ=vB (fa ρ) fun x=>vB (fb ρ) fun y=>aj (asI x) fun i=>aj (asI y) fun j=>if p i j=true then vB (fc ρ) fun z=>aj (asI z) fun k=>ret (.d (.bool (p' j k)))else ret (.d (.bool false)):=by
 show(vB (fa ρ) fun x=>vB (fb ρ) fun y=>fun(Q:W->Prop)=>∃i j,x = .d (.int i)/\y = .d (.int j)/\if p i j=true then fc ρ fun z=>∃k,z = .d (.int k)/\Q (.d (.bool (p' j k)))else Q (.d (.bool false)))=_;congr 1;funext x;congr 1;funext y;refine ab fun Q=>?_;simp only[vB,ac,be,ret,cz];exact⟨fun⟨i,j,a,b,q⟩=>⟨i,a,j,b,q⟩,fun⟨i,a,j,b,q⟩=>⟨i,j,a,b,q⟩⟩
theorem m_vLR1:tm fs ρ=vB (fs ρ) fun ws=>aj (ws.head?.bind asI) fun j=>vk (ws.length=1) (vk (-(2^62)<=j/\j<2^62) (vk (j.toNat<=2^24) (ret (.ml (aC 0 j.toNat))))):=by
 show(vB (fs ρ) fun ws=>fun(Q:W->Prop)=>∃j:Int,ws=[.d (.int j)]/\(-(2^62)<=j/\j<2^62)/\j.toNat<=2^24/\Q (.ml (aC 0 j.toNat)))=_;congr 1;funext ws;refine ab fun Q=>?_;simp only[ac,vk,ret];constructor
 · rintro⟨j,rfl,a,b,q⟩;exact⟨j,rfl,rfl,a,b,q⟩
 · rintro⟨j,e,l,a,b,q⟩
   match ws,l with
   | [w],_=>rw[show w = .d (.int j)from be.mp e];exact⟨j,rfl,a,b,q⟩
theorem m_vTR1:s_ fs ρ=vB (fs ρ) fun ws=>aj (ws.head?.bind asI) fun j=>vk (ws.length=1) (vk (-(2^62)<=j/\j<2^62) (vk (j.toNat<=2^24) (ret (.d (.tuple (aC 0 j.toNat)))))):=by
 show(vB (fs ρ) fun ws=>fun(Q:W->Prop)=>∃j:Int,ws=[.d (.int j)]/\(-(2^62)<=j/\j<2^62)/\j.toNat<=2^24/\Q (.d (.tuple (aC 0 j.toNat))))=_;congr 1;funext ws;refine ab fun Q=>?_;simp only[ac,vk,ret];constructor
 · rintro⟨j,rfl,a,b,q⟩;exact⟨j,rfl,rfl,a,b,q⟩
 · rintro⟨j,e,l,a,b,q⟩
   match ws,l with
   | [w],_=>rw[show w = .d (.int j)from be.mp e];exact⟨j,rfl,a,b,q⟩
noncomputable def uy(ws:List W):Option (Int×Int):=match ws with
 | [a,b]=>(asI a).bind fun i=>(asI b).map fun j=>(i,j)
 | _=>none
theorem two_d(a b:Int):uy [.d (.int a),.d (.int b)]=some (a,b):=rfl
theorem k4{ws:List W}{p:Int×Int}:uy ws=some p↔ws=[.d (.int p.1),.d (.int p.2)]:=by
 constructor
 · intro h
   match ws with
   | []=>cases h
   | [_]=>cases h
   | _::_::_::_=>cases h
   | [a,b] =>
     have h:((asI a).bind fun i=>(asI b).map fun j=>(i,j))=some p:=h
     cases ha:asI a with
     | none=>rw[ha]at h;cases h
     | some i =>
       cases hb:asI b with
       | none=>rw[ha,hb]at h;cases h
       | some j=>rw[ha,hb]at h;cases h;rw[be.mp ha,be.mp hb]
 · rintro rfl;rfl
theorem m_vLR2:tj fs ρ=vB (fs ρ) fun ws=>aj (uy ws) fun p=>vk (-(2^62)<=p.1/\p.1<2^62 /\ -(2^62)<=p.2/\p.2<2^62) (vk ((p.2-p.1).toNat<=2^24) (ret (.ml (aC p.1 (p.2-p.1).toNat)))):=by
 show(vB (fs ρ) fun ws=>fun(Q:W->Prop)=>∃i j:Int,ws=[.d (.int i),.d (.int j)]/\(-(2^62)<=i/\i<2^62 /\ -(2^62)<=j/\j<2^62)/\(j-i).toNat<=2^24/\Q (.ml (aC i (j-i).toNat)))=_;congr 1;funext ws;refine ab fun Q=>?_;simp only[ac,k4,vk,ret];exact⟨fun⟨i,j,a,b,c,q⟩=>⟨(i,j),a,b,c,q⟩,fun⟨p,a,b,c,q⟩=>⟨p.1,p.2,a,b,c,q⟩⟩
theorem m_iL:iL fa ρ=vB (fa ρ) fun w=>aj ((asD w.fz).bind lstD) ret:=by
 show(vB (fa ρ) fun w=>fun(Q:List wD->Prop)=>∃xs,w.fz = .d (.list xs)/\Q xs)=_;congr 1;funext w;refine ab fun Q=>?_;simp only[ac,ret];constructor
 · rintro⟨xs,e,q⟩;exact⟨xs,by rw[e];rfl,q⟩
 · rintro⟨xs,e,q⟩
   cases h:asD w.fz with
   | none=>rw[h]at e;cases e
   | some x=>rw[h]at e;rw[gM.mp h,mH.mp e];exact⟨xs,rfl,q⟩
theorem m_iT:iT fa ρ=vB (fa ρ) fun w=>aj ((asD w.fz).bind tupD) ret:=by
 show(vB (fa ρ) fun w=>fun(Q:List wD->Prop)=>∃xs,w.fz = .d (.tuple xs)/\Q xs)=_;congr 1;funext w;refine ab fun Q=>?_;simp only[ac,ret];constructor
 · rintro⟨xs,e,q⟩;exact⟨xs,by rw[e];rfl,q⟩
 · rintro⟨xs,e,q⟩
   cases h:asD w.fz with
   | none=>rw[h]at e;cases e
   | some x=>rw[h]at e;rw[gM.mp h,lH.mp e];exact⟨xs,rfl,q⟩
theorem m_iR1:vj fs ρ=vB (fs ρ) fun ws=>aj (ws.head?.bind asI) fun j=>vk (ws.length=1) (vk (-(2^62)<=j/\j<2^62) (ret (aC 0 j.toNat))):=by
 show(vB (fs ρ) fun ws=>fun(Q:List wD->Prop)=>∃j:Int,ws=[.d (.int j)]/\(-(2^62)<=j/\j<2^62)/\Q (aC 0 j.toNat))=_;congr 1;funext ws;refine ab fun Q=>?_;simp only[ac,vk,ret];constructor
 · rintro⟨j,rfl,a,q⟩;exact⟨j,rfl,rfl,a,q⟩
 · rintro⟨j,e,l,a,q⟩
   match ws,l with
   | [w],_=>rw[show w = .d (.int j)from be.mp e];exact⟨j,rfl,a,q⟩
theorem m_iR2:vh fs ρ=vB (fs ρ) fun ws=>aj (uy ws) fun p=>vk (-(2^62)<=p.1/\p.1<2^62 /\ -(2^62)<=p.2/\p.2<2^62) (ret (aC p.1 (p.2-p.1).toNat)):=by
 show(vB (fs ρ) fun ws=>fun(Q:List wD->Prop)=>∃i j:Int,ws=[.d (.int i),.d (.int j)]/\(-(2^62)<=i/\i<2^62 /\ -(2^62)<=j/\j<2^62)/\Q (aC i (j-i).toNat))=_;congr 1;funext ws;refine ab fun Q=>?_;simp only[ac,k4,vk,ret];exact⟨fun⟨i,j,a,b,q⟩=>⟨(i,j),a,b,q⟩,fun⟨p,a,b,q⟩=>⟨p.1,p.2,a,b,q⟩⟩
noncomputable def p6(b1 b2:Bool)(ws:List W):Option (List wD):=match ws with
 | [.d x,.d y]=>if cq x=b1/\cq y=b2 then(de x).bind fun xs=>(de y).map fun ys=>pM xs ys else none
 | _=>none
theorem m_iZb(b1 b2:Bool):vg b1 b2 fs ρ=vB (fs ρ) fun ws=>aj (p6 b1 b2 ws) ret:=by
 show(vB (fs ρ) fun ws=>fun(Q:List wD->Prop)=>∃dx dy xs ys,ws=[.d dx,.d dy]/\de dx=some xs/\de dy=some ys/\cq dx=b1/\cq dy=b2/\Q (pM xs ys))=_;congr 1;funext ws;refine ab fun Q=>?_;simp only[ac,ret];constructor
 · rintro⟨dx,dy,xs,ys,rfl,a,b,c,d,q⟩;exact⟨_,by show(if cq dx=b1/\cq dy=b2 then(de dx).bind fun xs=>(de dy).map fun ys=>pM xs ys else none)=_;rw[if_pos ⟨c,d⟩,a,b];rfl,q⟩
 · rintro⟨zs,e,q⟩;unfold p6 at e;split at e
   · rename_i dx dy;split at e
     · rename_i c
       cases ha:de dx with
       | none=>rw[ha]at e;cases e
       | some xs =>
         cases hb:de dy with
         | none=>rw[ha,hb]at e;cases e
         | some ys=>rw[ha,hb]at e;cases e;exact⟨dx,dy,xs,ys,rfl,ha,hb,c.1,c.2,q⟩
     · cases e
   · cases e
theorem m_vUse(Pd:List W->(wD->Prop)->Prop):rX Pd fs ρ=vB (fs ρ) fun ws=>vk (ws.all cu=true) (vB (Pd ws) fun d=>ret (.d d)):=nr rfl
theorem m_vUseL(Pd:List W->(List wD->Prop)->Prop):qf Pd fs ρ=vB (fs ρ) fun ws=>vk (ws.all cu=true) (vB (Pd ws) fun d=>ret (.ml d)):=nr rfl
theorem m_gAll(h:List Bool->Bool)(w:W):sQ h [w]=aj ((vG w).bind lp) fun bs=>ret (.d (.bool (h bs))):=by
 refine ab fun Q=>?_;simp only[sQ,ac,ret,xa,and_true];constructor
 · rintro⟨w',bs,rfl,e,q⟩;exact⟨bs,by rw[dt.mpr e];exact blsD_map bs,q⟩
 · rintro⟨bs,e,q⟩
   cases hl:vG w with
   | none=>rw[hl]at e;cases e
   | some xs=>rw[hl]at e;refine⟨w,bs,rfl,?_,q⟩;rw[<- fS e];exact dt.mp hl
theorem m_gRepT(x y:W):pd x y=aj (vE x) fun xs=>aj (asI y) fun k=>vk (xs≠[]/\1<=k/\k<2^62/\xs.length*k.toNat<=sizeLine) (ret (.d (.tuple (x6 k.toNat xs).flatten))):=by
 refine ab fun Q=>?_;simp only[pd,ac,gL,be,vk,ret];exact⟨fun⟨i,j,a,b,c,d,e,f,q⟩=>⟨i,a,j,b,⟨c,d,e,f⟩,q⟩,fun⟨i,a,j,b,⟨c,d,e,f⟩,q⟩=>⟨i,j,a,b,c,d,e,f,q⟩⟩
theorem m_gRepL(x y:W):pf x y=aj (vG x) fun xs=>aj (asI y) fun k=>vk (-(2^63)<=k/\k<2^63/\xs.length*k.toNat<=sizeLine) (ret (.ml (x6 k.toNat xs).flatten)):=by
 refine ab fun Q=>?_;simp only[pf,ac,dt,be,vk,ret];exact⟨fun⟨i,j,a,b,c,d,e,q⟩=>⟨i,a,j,b,⟨c,d,e⟩,q⟩,fun⟨i,a,j,b,⟨c,d,e⟩,q⟩=>⟨i,j,a,b,c,d,e,q⟩⟩
theorem m_vRevT:nG fa ρ=vB (fa ρ) fun w=>aj (vE w) fun xs=>ret (.d (.tuple xs.reverse)):=by
 refine ab fun Q=>?_;simp only[nG,vB,ac,gL,ret]
theorem m_vRevL:nJ fa ρ=vB (fa ρ) fun w=>aj (vG w) fun xs=>ret (.ml xs.reverse):=by
 refine ab fun Q=>?_;simp only[nJ,vB,ac,dt,ret]
theorem m_gEqS(neg:Bool)(x y:W):sP neg x y=aj (asS x) fun i=>aj (asS y) fun j=>ret (.d (.bool (if neg then !decide (i=j)else decide (i=j)))):=by
 refine ab fun Q=>?_;simp only[ac,lq,sP,ret];exact⟨fun⟨i,j,a,b,q⟩=>⟨i,a,j,b,q⟩,fun⟨i,a,j,b,q⟩=>⟨i,j,a,b,q⟩⟩
theorem m_vTGet(D:List (Str×Int)):nE D fa ρ=vB (fa ρ) fun w=>aj (asS w) fun k=>ret (.d (nW D k)):=by
 refine ab fun Q=>?_;simp only[nE,vB,ac,lq,ret]
noncomputable def sS(w:W):Option (List Int):=(vE w).bind c8
theorem m_gSrtT(w:W):o9 [w]=aj (sS w) fun ns=>vk (ns.length<64) (vB (anyM fun ns':List Int=>ns'.Perm ns/\ns'.Pairwise (· <= ·)) fun ns'=>ret (.ml (ns'.map .int))):=by
 refine ab fun Q=>?_;simp only[o9,ac,ret,vk,vB,anyM,xa,and_true];constructor
 · rintro⟨ns,rfl,a,q⟩;exact⟨ns,aM ns,a,fun n' ⟨h1,h2⟩=>q n' h1 h2⟩
 · rintro⟨ns,e,a,q⟩;unfold sS at e
   cases hl:vE w with
   | none=>rw[hl]at e;cases e
   | some xs=>rw[hl]at e;exact⟨ns,by rw[gL.mp hl,<- cL e],a,fun n' h1 h2=>q n' ⟨h1,h2⟩⟩
end
inductive Fl where
 | nx (ρ:En)|rt (w:W)|bk (ρ:En)|ct (ρ:En)
noncomputable def mS(t:vL)(ρ:En):Mo Fl:=fun Q=>t ⟨fun ρ=>Q (.nx ρ),fun w=>Q (.rt w),fun ρ=>Q (.bk ρ),fun ρ=>Q (.ct ρ)⟩ ρ
noncomputable def sq(m:Mo Fl)(k:En->Mo Fl):Mo Fl:=vB m fun fl=>match fl with
 | .nx ρ=>k ρ
 | .rt w=>ret (.rt w)
 | .bk ρ=>ret (.bk ρ)
 | .ct ρ=>ret (.ct ρ)
noncomputable def pD(Q:wD->Prop):Fl->Prop
 | .nx _=>Q .none
 | .rt w=>∃d,w.fz = .d d/\Q d
 | _=>False
section
variable{fa fb fc:TV}{fs:vK}{f g:TB}{ρ:En}{t u:vL}{k:En->Mo Fl}
theorem aK{Q:wD->Prop}(h:mS t ρ (pD Q)):t (jU Q) ρ:=h
theorem end_d(Q:wD->Prop)(d:wD):pD Q (.rt (.d d))=Q d:=propext ⟨fun⟨_,e,q⟩=>by cases e;exact q,fun q=>⟨d,rfl,q⟩⟩
theorem end_ml(Q:wD->Prop)(d:List wD):pD Q (.rt (.ml d))=Q (.list d):=propext ⟨fun⟨_,e,q⟩=>by cases e;exact q,fun q=>⟨_,rfl,q⟩⟩
theorem end_nx(Q:wD->Prop)(ρ:En):pD Q (.nx ρ)=Q .none:=nr rfl
theorem sq_nx:sq (ret (.nx ρ)) k=k ρ:=nr rfl
theorem sq_rt(w:W):sq (ret (.rt w)) k=ret (.rt w):=nr rfl
theorem sq_bk:sq (ret (.bk ρ)) k=ret (.bk ρ):=nr rfl
theorem sq_ct:sq (ret (.ct ρ)) k=ret (.ct ρ):=nr rfl
theorem sq_grd(P:Prop)(m:Mo Fl):sq (vk P m) k=vk P (sq m k):=nr rfl
theorem sq_stk:sq stk k=stk:=nr rfl
theorem sq_ite(c:Prop)[Decidable c](a b:Mo Fl):sq (if c then a else b) k=if c then sq a k else sq b k:=by split<;>rfl
theorem n_(o:Option α)(h:α->Mo Fl):sq (aj o h) k=aj o fun a=>sq (h a) k:=by cases o<;>rfl
theorem s_next:mS nM ρ=ret (.nx ρ):=nr rfl
theorem s_seq:mS (sa t u) ρ=sq (mS t ρ) (mS u):=by
 refine ab fun Q=>?_;show t ⟨fun ρ=>u ⟨_,_,_,_⟩ ρ,_,_,_⟩ ρ↔_;exact BI
theorem s_drop:mS (qm fa) ρ=vB (fa ρ) fun _=>ret (.nx ρ):=nr rfl
theorem s_ret:mS (sd fa) ρ=vB (fa ρ) fun w=>ret (.rt w):=nr rfl
theorem s_retN:mS qh ρ=ret (.rt (.d .none)):=nr rfl
theorem s_ifS:mS (ql f t u) ρ=vB (f ρ) fun b=>if b=true then mS t ρ else mS u ρ:=by
 refine ab fun Q=>?_;simp only[mS,ql,vB,cz]
theorem s_set(i:Nat):mS (r_ i fa) ρ=vB (fa ρ) fun w=>vk (w.isPk=false) (ret (.nx (ρ.set i (some w)))):=nr rfl
theorem s_never:mS (fun _ _=>False) ρ=stk:=nr rfl
theorem m_hName(i:Nat)(x:wD):o5 i x ρ=ret (ρ.set i (some (.d x))):=nr rfl
theorem oS(xs:List wD):qM xs ρ=vk (xs=[]) (ret ρ):=nr rfl
theorem mF{g:vN}{gs:hW}(xs:List wD):kv g gs xs ρ=aj (match xs with | []=>none|y::r=>some (y,r)) fun p=>vB (g p.1 ρ) fun ρ'=>gs p.2 ρ':=by
 refine ab fun Q=>?_;simp only[ac,kv,vB];constructor
 · rintro⟨y,r,rfl,q⟩;exact⟨(y,r),rfl,q⟩
 · rintro⟨p,e,q⟩
   cases xs with
   | nil=>cases e
   | cons y r=>cases e;exact⟨y,r,rfl,q⟩
theorem m_hCons_c{g:vN}{gs:hW}(y:wD)(r:List wD):kv g gs (y::r) ρ=vB (g y ρ) fun ρ'=>gs r ρ':=by rw[mF];rfl
theorem m_hNil_n:qM [] ρ=ret ρ:=by rw[oS,al rfl]
theorem m_hTup(n:Nat){gs:hW}(x:wD):qL n gs x ρ=aj (tupD x) fun xs=>vk (xs.length=n) (gs xs ρ):=by
 refine ab fun Q=>?_;simp only[ac,lH,qL,vk]
theorem s_asg{g:vN}:mS (qo fa g) ρ=vB (fa ρ) fun w=>aj (asD w) fun x=>vB (g x ρ) fun ρ'=>ret (.nx ρ'):=by
 refine ab fun Q=>?_;simp only[mS,qo,vB,ac,gM,ret]
theorem s_par(i j:Nat):mS (sf i j fs) ρ=vB (fs ρ) fun ws=>aj (dS ws) fun ds=>aj (match ds with | [x,y]=>some (x,y)|_=>none) fun p=>ret (.nx ((ρ.set i (some (.d p.1))).set j (some (.d p.2)))):=by
 show(vB (fs ρ) fun ws=>fun(Q:Fl->Prop)=>∃x y,dS ws=some [x,y]/\Q (.nx ((ρ.set i (some (.d x))).set j (some (.d y)))))=_;congr 1;funext ws;refine ab fun Q=>?_;simp only[ac,ret];constructor
 · rintro⟨x,y,e,q⟩;exact⟨_,e,(x,y),rfl,q⟩
 · rintro⟨ds,e,p,e2,q⟩;split at e2
   · cases e2;exact⟨_,_,e,q⟩
   · cases e2
theorem s_par3(i j l:Nat):mS (qi i j l fs) ρ=vB (fs ρ) fun ws=>aj (dS ws) fun ds=>aj (match ds with | [x,y,z]=>some (x,y,z)|_=>none) fun p=>ret (.nx (((ρ.set i (some (.d p.1))).set j (some (.d p.2.1))).set l (some (.d p.2.2)))):=by
 show(vB (fs ρ) fun ws=>fun(Q:Fl->Prop)=>∃x y z,dS ws=some [x,y,z]/\Q (.nx (((ρ.set i (some (.d x))).set j (some (.d y))).set l (some (.d z)))))=_;congr 1;funext ws;refine ab fun Q=>?_;simp only[ac,ret];constructor
 · rintro⟨x,y,z,e,q⟩;exact⟨_,e,(x,y,z),rfl,q⟩
 · rintro⟨ds,e,p,e2,q⟩;split at e2
   · cases e2;exact⟨_,_,_,e,q⟩
   · cases e2
noncomputable def uO(ρ:En)(i:Nat):Option Int:=((ρ[i]?).join).bind asI
noncomputable def asM:W->Option (List wD)
 | .ml xs=>some xs
 | _=>none
noncomputable def uN(ρ:En)(i:Nat):Option (List wD):=((ρ[i]?).join).bind asM
theorem asM_ml(xs:List wD):asM (.ml xs)=some xs:=rfl
theorem sR{xs:List wD}:asM w=some xs↔w = .ml xs:=by
 constructor
 · intro h;unfold asM at h;split at h<;>simp_all
 · rintro rfl;rfl
theorem eB{xs:List wD}:uN ρ i=some xs↔ρ[i]?=some (some (.ml xs)):=by
 unfold uN;constructor
 · intro h
   cases q:ρ[i]? with
   | none=>rw[q]at h;cases h
   | some o=>rw[q]at h;cases o with
     | none=>cases h
     | some w=>rw[sR.mp h]
 · intro h;rw[h];rfl
theorem oa{n:Int}:uO ρ i=some n↔ρ[i]?=some (some (.d (.int n))):=by
 unfold uO;constructor
 · intro h
   cases q:ρ[i]? with
   | none=>rw[q]at h;cases h
   | some o=>rw[q]at h;cases o with
     | none=>cases h
     | some w=>rw[be.mp h]
 · intro h;rw[h];rfl
theorem s_aug(i:Nat)(C:Int->Int->Prop)(h:Int->Int->Int):mS (si i C h fa) ρ=aj (uO ρ i) fun n=>vB (fa ρ) fun w=>aj (asI w) fun m=>vk (C n m) (ret (.nx (ρ.set i (some (.d (.int (h n m))))))):=by
 refine ab fun Q=>?_;simp only[mS,si,vB,ac,oa,be,vk,ret]
theorem s_augL(i:Nat):mS (nP i fa) ρ=aj (uN ρ i) fun xs=>vB (fa ρ) fun w=>aj (vG w) fun ys=>vk (w.isPk=false) (vk (xs.length+ys.length<=sizeLine) (ret (.nx (ρ.set i (some (.ml (xs++ys))))))):=by
 refine ab fun Q=>?_;simp only[mS,nP,ac,eB];refine exists_congr fun xs=>and_congr_right fun _=>?_;show(fa ρ fun w=>∃ys,w.isPk=false/\w.dat=some (.list ys)/\_/\_)↔(fa ρ fun w=>_)
 have:(fun w:W=>∃ys,w.isPk=false/\w.dat=some (.list ys)/\xs.length+ys.length<=sizeLine/\Q (.nx (ρ.set i (some (.ml (xs++ys))))))=fun w=>(aj (vG w) fun ys=>vk (w.isPk=false) (vk (xs.length+ys.length<=sizeLine) (ret (.nx (ρ.set i (some (.ml (xs++ys)))))))) Q:=by
  funext w;refine propext ?_;rw[ac];simp only[dt,vk,ret];exact⟨fun⟨ys,a,b,c,d⟩=>⟨ys,b,a,c,d⟩,fun⟨ys,b,a,c,d⟩=>⟨ys,a,b,c,d⟩⟩
 rw[this]
theorem s_frz(i:Nat):mS (sh i t) ρ=aj (uN ρ i) fun xs=>mS t (ρ.set i (some (.d (.list xs)))):=by
 refine ab fun Q=>?_;simp only[mS,sh,ac,eB]
theorem s_mut(i:Nat)(h:List wD->List W->(List wD->Prop)->Prop):mS (pN i h fs) ρ=aj (uN ρ i) fun xs=>vB (fs ρ) fun ws=>vB (h xs ws) fun ys=>ret (.nx (ρ.set i (some (.ml ys)))):=by
 refine ab fun Q=>?_;simp only[mS,pN,vB,ac,eB,ret]
theorem m_gApp(xs:List wD)(w:W):pV xs [w]=aj (asD w) fun x=>vk (xs.length<sizeLine) (ret (xs++[x])):=by
 refine ab fun Q=>?_;simp only[pV,ac,gM,vk,ret];constructor
 · rintro⟨x,e,a,q⟩;cases w<;>first|(cases e;exact⟨_,rfl,a,q⟩)|cases e
 · rintro⟨x,rfl,a,q⟩;exact⟨x,rfl,a,q⟩
theorem m_gExt(xs:List wD)(w:W):sO xs [w]=aj ((asD w).bind lstD) fun ys=>vk (xs.length+ys.length<=sizeLine) (ret (xs++ys)):=by
 refine ab fun Q=>?_;simp only[sO,ac,vk,ret];constructor
 · rintro⟨x,e,a,q⟩;cases w<;>first|(cases e;exact⟨_,rfl,a,q⟩)|cases e
 · rintro⟨x,e,a,q⟩
   cases h:asD w with
   | none=>rw[h]at e;cases e
   | some d=>rw[h]at e;rw[gM.mp h,mH.mp e];exact⟨x,rfl,a,q⟩
theorem s_retO(i:Nat):mS (nK i) ρ=aj (uN ρ i) fun xs=>ret (.rt (.ml xs)):=by
 refine ab fun Q=>?_;simp only[mS,nK,ac,eB,ret]
theorem s_appPop(i j:Nat):mS (io i j fa) ρ=aj (uN ρ i) fun xs=>aj (uN ρ j) fun ys=>vB (fa ρ) fun w=>aj (asI w) fun k=>vk (0<=k/\k<(ys.length:Int)/\ys.length<2^62) (aj (ys[k.toNat]?) fun y=>vk (xs.length<sizeLine) (ret (.nx ((ρ.set j (some (.ml (ys.eraseIdx k.toNat)))).set i (some (.ml (xs++[y]))))))):=by
 refine ab fun Q=>?_;simp only[mS,io,ac,eB]
 have:∀xs ys:List wD,(fun w:W=>∃k y,w = .d (.int k)/\0<=k/\k<(ys.length:Int)/\ys.length<2^62/\ys[k.toNat]?=some y/\xs.length<sizeLine/\Q (.nx ((ρ.set j (some (.ml (ys.eraseIdx k.toNat)))).set i (some (.ml (xs++[y]))))))=fun w=>(aj (asI w) fun k=>vk (0<=k/\k<(ys.length:Int)/\ys.length<2^62) (aj (ys[k.toNat]?) fun y=>vk (xs.length<sizeLine) (ret (.nx ((ρ.set j (some (.ml (ys.eraseIdx k.toNat)))).set i (some (.ml (xs++[y])))))))) Q:=by
  intro xs ys;funext w;refine propext ?_;simp only[ac,be,vk,ret];exact⟨fun⟨k,y,a,b,c,d,e,f,q⟩=>⟨k,a,⟨b,c,d⟩,y,e,f,q⟩,fun⟨k,a,⟨b,c,d⟩,y,e,f,q⟩=>⟨k,y,a,b,c,d,e,f,q⟩⟩
 constructor
 · rintro⟨xs,ys,e1,e2,q⟩;refine⟨xs,e1,ys,e2,?_⟩;rw[this]at q;exact q
 · rintro⟨xs,e1,ys,e2,q⟩;refine⟨xs,ys,e1,e2,?_⟩;rw[this];exact q
end
noncomputable def Le(a b:En):Prop:=a.length=b.length/\∀(i:Nat) w,a[i]?=some (some w)->b[i]?=some (some w)
theorem Le.refl(a:En):Le a a:=⟨rfl,fun _ _ h=>h⟩
theorem Le.trans{a b c:En}(h:Le a b)(h':Le b c):Le a c:=⟨h.1.trans h'.1,fun i w e=>h'.2 i w (h.2 i w e)⟩
theorem le_nil:Le [] []=True:=propext ⟨fun _=>trivial,fun _=>Le.refl _⟩
theorem le_cn(x:Option W)(a b:En):Le (none::a) (x::b)=Le a b:=by
 refine propext ⟨fun h=>⟨by have:=h.1;simpa using this,fun i w e=>by have:=h.2 (i+1) w (by simpa using e);simpa using this⟩,fun h=>⟨by simp[h.1],fun i w e=>?_⟩⟩
 cases i with
 | zero=>simp at e
 | succ i=>simpa using h.2 i w (by simpa using e)
theorem le_cs(x:Option W)(a b:En):Le (x::a) (x::b)=Le a b:=by
 refine propext ⟨fun h=>⟨by have:=h.1;simpa using this,fun i w e=>by have:=h.2 (i+1) w (by simpa using e);simpa using this⟩,fun h=>⟨by simp[h.1],fun i w e=>?_⟩⟩
 cases i with
 | zero=>simpa using e
 | succ i=>simpa using h.2 i w (by simpa using e)
theorem VR.le{K:W.Frag}{ρ0:En}(R:VR K rl F₀ H₀ F H σ ρ)(h:Le ρ0 ρ):VR K rl F₀ H₀ F H σ ρ0 :=
 ⟨R.g,fun i w e=>R.sl i w (h.2 i w e),fun i j x y v n e1 e2=>R.ap i j x y v n (h.2 i x e1) (h.2 j y e2),fun i xs e=>R.np i xs (h.2 i _ e),h.1.trans R.len⟩
noncomputable def fo:List Nat->En->En
 | [],ρ=>ρ
 | i::l,ρ=>fo l (ρ.set i none)
theorem oU(ρ:En)(i:Nat):Le (ρ.set i none) ρ:=by
 refine⟨by simp,fun j w e=>?_⟩;rw[xP]at e;split at e
 · split at e
   · cases e
   · cases e
 · exact e
theorem dL:∀(l:List Nat)(ρ:En),Le (fo l ρ) ρ
 | [],ρ=>Le.refl ρ
 | i::l,ρ=>(dL l (ρ.set i none)).trans (oU ρ i)
theorem fo_nil(ρ:En):fo [] ρ=ρ:=rfl
theorem fo_cons(i:Nat)(l:List Nat)(ρ:En):fo (i::l) ρ=fo l (ρ.set i none):=rfl
noncomputable def bF(fl:List Nat)(g:vN)(t:vL):List wD->vL
 | [],D,ρ=>D.nx ρ
 | x::xs,D,ρ=>g x ρ fun ρ2=>t {D with nx:=fun ρ'=>bF fl g t xs D (fo fl ρ'),ct:=fun ρ'=>bF fl g t xs D (fo fl ρ'),bk:=fun ρ'=>D.nx (fo fl ρ')} ρ2
noncomputable def nO(fl:List Nat)(fi:En->(List wD->Prop)->Prop)(g:vN)(t:vL):vL:=fun D ρ=>fi ρ fun xs=>bF fl g t xs D (fo fl ρ)
section
variable{X:Cx}{rl:Option Addr}{st:Stmt}{rest body:List Stmt}{t u:vL}{a b c e:Expr}{es:List Expr}{fa fb:TV}{fs:vK}{f:TB}{pos p:Pos}
theorem dv(fl:List Nat){iter:Expr}{fi:En->(List wD->Prop)->Prop}{g:vN}(hp:Ca (xH X.prog X.w) X.A X.env X.xe)(hc:X.calm=true)(hi:vZ X rl tg iter fi)(hg:v7 X rl tg g)(hb:hJ X rl body t)
 (hs:autoParam (∀x,yE iter X.env x=pure x) æc._auto_1):vY X rl (.For tg iter body [] pos) (nO fl fi g t):=by
 obtain⟨wi,p0,k0⟩:=hi;obtain⟨G,p1,k1⟩:=hg;obtain⟨T,p2,k2⟩:=hb;refine⟨_,oD hp hc p0 p1 p2 hs,fun{F₀ H₀ F H σ ρ} R Dv D ok q=>k0 R _ _ q fun J xs F1 H1 g1 vi q1=>?_⟩;refine⟨fun i m σ H=>m=xs.length-i/\i<=xs.length/\∃F ρ,aS F1 F/\VR X.K rl F₀ H₀ F H σ ρ/\bF fl g t (xs.drop i) Dv ρ,⟨xs.length,by simp,zr _,F1,fo fl ρ,.refl _,(R.grow g1).le (dL fl ρ),by simpa using q1⟩,?_⟩;rintro i m σ H ⟨rfl,hi,F2,ρ2,s2,R2,j2⟩;have sH:aS F1 H:=s2.trans R2.sub;by_cases hlt:i<xs.length
 · have ei:xs[i]?=some xs[i]:=by simp[hlt]
   rw[zm hlt]at j2;refine .inr ⟨vi.go i H _ ei sH,fun σ' H'=>∃F ρ,aS F1 F/\VR X.K rl F₀ H₀ F H' σ' ρ/\bF fl g t (xs.drop (i+1)) Dv ρ,fun σ' H' z=>⟨xs.length-(i+1),by omega,rfl,hlt,z⟩,fun v H' y=>?_⟩;obtain⟨Fy,gy,rv⟩:=vi.yld i H v H' _ F2 ei s2 R2.sub R2.reel y;refine k1 (R2.grow gy) v _ _ _ rv j2 fun F3 H3 σ3 ρ3 s3 n3 R3 q3=>?_;have s13:aS F1 F3:=s2.trans (gy.fs.trans s3.fs)
   exact k2 R3 {Dv with nx:=fun ρ'=>bF fl g t (xs.drop (i+1)) Dv (fo fl ρ'),ct:=fun ρ'=>bF fl g t (xs.drop (i+1)) Dv (fo fl ρ'),bk:=fun ρ'=>Dv.nx (fo fl ρ')} _
    ⟨fun F4 H4 σ4 ρ4 s4 R4 q4=>⟨F4,fo fl ρ4,s13.trans s4,R4.le (dL fl ρ4),q4⟩,ok.rt,fun F4 H4 σ4 ρ4 s4 R4 q4=>ok.nx _ _ _ _ (g1.fs.trans (s13.trans s4)) (R4.le (dL fl ρ4)) q4,fun F4 H4 σ4 ρ4 s4 R4 q4=>⟨F4,fo fl ρ4,s13.trans s4,R4.le (dL fl ρ4),q4⟩⟩ q3
 · have e:i=xs.length:=by omega
   subst e;rw[List.drop_length]at j2;exact .inl ⟨vi.stop _ H (wM _) sH,ok.nx _ _ _ _ (g1.fs.trans s2) R2 j2⟩
noncomputable def um(fl:List Nat)(f:TB)(t:vL)(m:Nat):vL:=fun D ρ=>f ρ fun b=>if b=true then t {D with nx:=fun ρ'=>∃k,∃h:k<m,um fl f t k D (fo fl ρ'),ct:=fun ρ'=>∃k,∃h:k<m,um fl f t k D (fo fl ρ'),bk:=fun ρ'=>D.nx (fo fl ρ')} ρ else D.nx ρ
termination_by m
noncomputable def il(fl:List Nat)(f:TB)(t:vL):vL:=fun D ρ=>∃m,um fl f t m D (fo fl ρ)
theorem kX(fl:List Nat)(f:TB)(t:vL)(m:Nat)(D:VEnds)(ρ:En):um fl f t m D ρ=f ρ fun b=>if b=true then t {D with nx:=fun ρ'=>∃k,∃h:k<m,um fl f t k D (fo fl ρ'),ct:=fun ρ'=>∃k,∃h:k<m,um fl f t k D (fo fl ρ'),bk:=fun ρ'=>D.nx (fo fl ρ')} ρ else D.nx ρ:=by
 conv=>lhs;unfold um
theorem cO(fl:List Nat)(hp:Ca (xH X.prog X.w) X.A X.env X.xe)(hc:PB X rl c f)(hb:hJ X rl body t):vY X rl (.While c body [] pos) (il fl f t):=by
 obtain⟨t0,p0,k0⟩:=hc;obtain⟨t1,p1,k1⟩:=hb;refine⟨_,gi hp p0 p1,fun{F₀ H₀ F H σ ρ} R Dv D ok q=>?_⟩;obtain⟨m,j0⟩:=q;refine⟨fun m σ' H'=>∃F' ρ',aS F F'/\VR X.K rl F₀ H₀ F' H' σ' ρ'/\um fl f t m Dv ρ',⟨m,F,fo fl ρ,.refl _,R.le (dL fl ρ),j0⟩,?_⟩;rintro m σ2 H2 ⟨F2,ρ2,s2,R2,j⟩;rw[kX]at j;refine k0 R2 _ _ j fun b F1 H1 g1 q1=>?_
 cases b with
 | false=>exact ok.nx _ _ _ _ (s2.trans g1.fs) (R2.grow g1) q1
 | true =>
   refine⟨fun σ' H'=>∃F' ρ',aS F F'/\VR X.K rl F₀ H₀ F' H' σ' ρ'/\∃m',m'<m/\um fl f t m' Dv ρ',fun σ' H' ⟨F',ρ',s',R',m',hm,j⟩=>⟨m',hm,F',ρ',s',R',j⟩,?_⟩
   exact k1 (R2.grow g1) {Dv with nx:=fun ρ'=>∃k,∃h:k<m,um fl f t k Dv (fo fl ρ'),ct:=fun ρ'=>∃k,∃h:k<m,um fl f t k Dv (fo fl ρ'),bk:=fun ρ'=>Dv.nx (fo fl ρ')} _
    ⟨fun F3 H3 σ3 ρ3 s3 R3 ⟨m',hm,q3⟩=>⟨F3,fo fl ρ3,(s2.trans g1.fs).trans s3,R3.le (dL fl ρ3),m',hm,q3⟩,ok.rt,fun F3 H3 σ3 ρ3 s3 R3 q3=>ok.nx _ _ _ _ ((s2.trans g1.fs).trans s3) (R3.le (dL fl ρ3)) q3,fun F3 H3 σ3 ρ3 s3 R3 ⟨m',hm,q3⟩=>⟨F3,fo fl ρ3,(s2.trans g1.fs).trans s3,R3.le (dL fl ρ3),m',hm,q3⟩⟩ q1
end
noncomputable def u8(fl:List Nat)(k:En->Mo Fl):Fl->Mo Fl
 | .nx ρ=>k (fo fl ρ)
 | .ct ρ=>k (fo fl ρ)
 | .bk ρ=>ret (.nx (fo fl ρ))
 | .rt w=>ret (.rt w)
noncomputable def cU(fl:List Nat)(b:wD->En->Mo Fl):List wD->En->Mo Fl
 | [],ρ=>ret (.nx ρ)
 | x::xs,ρ=>vB (b x ρ) (u8 fl (cU fl b xs))
theorem jc(fl:List Nat)(g:vN)(t:vL):∀(xs:List wD)(ρ:En),mS (bF fl g t xs) ρ=cU fl (fun x ρ=>vB (g x ρ) (mS t)) xs ρ
 | [],ρ=>rfl
 | x::xs,ρ=>by
   refine ab fun Q=>?_;show(g x ρ fun ρ2=>t ⟨fun ρ'=>mS (bF fl g t xs) (fo fl ρ') Q,fun w=>Q (.rt w),fun ρ'=>Q (.nx (fo fl ρ')),fun ρ'=>mS (bF fl g t xs) (fo fl ρ') Q⟩ ρ2)↔_;simp only[jc fl g t xs];exact BI
noncomputable def vD(g:vN)(t:vL):wD->En->Mo Fl:=fun x ρ=>vB (g x ρ) (mS t)
theorem bdy_ap(g:vN)(t:vL)(x:wD)(ρ:En):vD g t x ρ=vB (g x ρ) (mS t):=nr rfl
theorem s_for(fl:List Nat)(fi:En->(List wD->Prop)->Prop)(g:vN)(t:vL)(ρ:En):mS (nO fl fi g t) ρ=vB (fi ρ) fun xs=>cU fl (vD g t) xs (fo fl ρ):=by
 refine ab fun Q=>?_;show(fi ρ fun xs=>mS (bF fl g t xs) (fo fl ρ) Q)↔_;simp only[jc];exact BI
noncomputable def u7(fl:List Nat)(J:En->Prop)(Q:Fl->Prop):Fl->Prop
 | .nx ρ=>J (fo fl ρ)
 | .ct ρ=>J (fo fl ρ)
 | .bk ρ=>Q (.nx (fo fl ρ))
 | .rt w=>Q (.rt w)
section
variable{α σ:Type}{fl:List Nat}{b:wD->En->Mo Fl}
theorem gu(J:Nat->En->Prop){Q:Fl->Prop}:∀{xs:List wD}{ρ:En}(n:Nat),J n ρ->(∀i x ρ,xs[i]?=some x->J (n+i) ρ->∀k:Fl->Prop,(∀r,u7 fl (J (n+i+1)) Q r->k r)->b x ρ k)->(∀ρ,J (n+xs.length) ρ->Q (.nx ρ))->cU fl b xs ρ Q
 | [],ρ,n,h0,_,fin=>fin ρ h0
 | x::xs,ρ,n,h0,step,fin=>by
   refine step 0 x ρ rfl h0 (fun r=>u8 fl (cU fl b xs) r Q) fun r hr=>?_;have rc:∀ρ',J (n+1) ρ'->cU fl b xs ρ' Q:=fun ρ' h'=>gu J (n+1) h' (fun i y ρ e j k hk=>step (i+1) y ρ (by simpa using e) (by rw[show n+(i+1)=n+1+i by omega];exact j) k (by rw[show n+(i+1)+1=n+1+i+1 by omega];exact hk)) (fun ρ j=>fin ρ (by rw[xf,show n+(xs.length+1)=n+1+xs.length by omega];exact j))
   cases r with
   | nx ρ'=>exact rc _ hr
   | ct ρ'=>exact rc _ hr
   | bk ρ'=>exact hr
   | rt w=>exact hr
theorem jd{xs:List α}{enc:α->wD}{Q:Fl->Prop}(J:Nat->En->Prop)(h0:J 0 ρ)
 (step:∀i (h:i<xs.length) ρ,J i ρ->∀k:Fl->Prop,(∀r,u7 fl (J (i+1)) Q r->k r)->b (enc xs[i]) ρ k)(fin:∀ρ,J xs.length ρ->Q (.nx ρ)):cU fl b (xs.map enc) ρ Q:=by
 refine gu J 0 h0 (fun i x ρ e j k hk=>?_) (fun ρ j=>fin ρ (by simpa using j));have hi:i<xs.length:=by have:=(wY.mp e).1;simpa using this
 rw[xM,wX hi]at e;cases e;rw[zV]at j hk;exact step i hi ρ j k hk
theorem kg{lo:Int}{Q:Fl->Prop}(J:Nat->En->Prop)(h0:J 0 ρ)
 (step:∀i,i<n->∀ρ,J i ρ->∀k:Fl->Prop,(∀r,u7 fl (J (i+1)) Q r->k r)->b (.int (lo+i)) ρ k)(fin:∀ρ,J n ρ->Q (.nx ρ)):cU fl b (aC lo n) ρ Q:=by
 refine jd (xs:=w_ n) J h0 (fun i h ρ j k hk=>?_) (fun ρ j=>fin ρ (by simpa using j));rw[List.getElem_range];exact step i (by simpa using h) ρ j k hk
end
noncomputable def c9(fl:List Nat)(f:TB)(t:vL)(ρ:En):Mo Fl:=fun Q=>∃m,mS (um fl f t m) ρ Q
theorem s_while(fl:List Nat)(f:TB)(t:vL)(ρ:En):mS (il fl f t) ρ=c9 fl f t (fo fl ρ):=nr rfl
theorem jN(fl:List Nat)(f:TB)(t:vL)(m:Nat)(ρ:En):mS (um fl f t m) ρ=vB (f ρ) fun b=>if b=true then vB (mS t ρ) (u8 fl fun ρ'=>fun Q=>∃k,∃h:k<m,mS (um fl f t k) ρ' Q)else ret (.nx ρ):=by
 refine ab fun Q=>?_;show um fl f t m _ ρ↔_;rw[kX];simp only[vB,cz];exact BI
theorem lw{fl:List Nat}{f:TB}{t:vL}(h:f ρ=ret false):c9 fl f t ρ=ret (.nx ρ):=by
 refine ab fun Q=>?_;constructor
 · rintro⟨m,q⟩;rw[jN,h,bnd_ret,if_neg (by decide)]at q;exact q
 · intro q;refine⟨0,?_⟩;rw[jN,h,bnd_ret,if_neg (by decide)];exact q
theorem lv{fl:List Nat}{f:TB}{t:vL}{ρ':En}(h:f ρ=ret true)(h2:mS t ρ=ret (.nx ρ')):c9 fl f t ρ=c9 fl f t (fo fl ρ'):=by
 refine ab fun Q=>?_;constructor
 · rintro⟨m,q⟩;rw[jN,h,bnd_ret,if_pos rfl,h2,bnd_ret]at q;obtain⟨k,_,q⟩:=q;exact⟨k,q⟩
 · rintro⟨m,q⟩;refine⟨m+1,?_⟩;rw[jN,h,bnd_ret,if_pos rfl,h2,bnd_ret];exact⟨m,A8 m,q⟩
theorem h7{σ:Type}{fl:List Nat}{f:TB}{t:vL}(st:σ->En)(c:σ->Bool)(nxt:σ->σ)(μ:σ->Nat)(I:σ->Prop)
 (hf:∀s,I s->f (st s)=ret (c s))(ht:∀s,I s->c s=true->I (nxt s)/\μ (nxt s)<μ s/\∃ρ',mS t (st s)=ret (.nx ρ')/\fo fl ρ'=st (nxt s))(s:σ)(hs:I s):∃s',I s'/\c s'=false/\c9 fl f t (st s)=ret (.nx (st s')):=by
 induction hm:μ s using Nat.strongRecOn generalizing s with
 | ind n ih =>
   subst hm
   cases hc:c s with
   | false=>exact⟨s,hs,hc,lw (by rw[hf s hs,hc])⟩
   | true =>
     obtain⟨i1,m1,ρ',e1,e2⟩:=ht s hs hc;obtain⟨s',a,b,e⟩:=ih _ m1 (nxt s) i1 rfl;exact⟨s',a,b,by rw[lv (by rw[hf s hs,hc]) e1,e2,e]⟩
noncomputable def kY(ρ0:En)(g:vN)(ft:TB)(fe:TV):List wD->List wD->(List wD->Prop)->Prop
 | [],acc,Q=>Q acc
 | x::xs,acc,Q=>g x ρ0 fun ρ2=>Le ρ0 ρ2/\ft ρ2 fun b=>if b=true then fe ρ2 fun w=>∃d,w.fz = .d d/\acc.length<sizeLine/\kY ρ0 g ft fe xs (acc++[d]) Q else kY ρ0 g ft fe xs acc Q
noncomputable def ge(fi:En->(List wD->Prop)->Prop)(fr:List (Option Nat))(g:vN)(ft:TB)(fe:TV):TV:=fun ρ Q=>fi ρ fun xs=>kY (hV fr ρ) g ft fe xs [] fun ds=>Q (.ml ds)
section
variable{X:Cx}{rl:Option Addr}{elt tg iter:Expr}{ifs:List Expr}{scope:Scope}{pos:Pos}{fi:En->(List wD->Prop)->Prop}{g:vN}{ft:TB}{fe:TV}
theorem gw{N':List Str}{wi:TI}(fr:List (Option Nat))(k0:∀{F₀ H₀ F H:Hp}{σ:St}{ρ:En},VR X.K rl F₀ H₀ F H σ ρ->∀(Qd:List wD->Prop)(R:It->Hp->Prop),fi ρ Qd ->
 (∀J xs F' H',Grow rl F H F' H'->VIt X.K rl F' J xs->Qd xs->R J H')->wi σ H R)
 (hg:∀y,v7 (blk X N' scope y) rl tg g)(ht:∀y,pJ (blk X N' scope y) rl ifs ft)(he:∀y,PV (blk X N' scope y) rl elt fe)
 (R:VR X.K rl F₀ H₀ F H σ ρ)(Qd:W->Prop)(Q:VK)(q:ge fi fr g ft fe ρ Qd)
 (k:∀v w F' H',Grow rl F H F' H'->ce X.K rl F' H' v w->c5 H v w->Qd w->Q v H'):lK wi fr (fun y=>A9 (hg y)) (fun y=>A9 (ht y)) (fun y=>A9 (he y)) σ H Q:=by
 refine k0 R _ _ q fun J xs F1 H1 g1 vi q1=>?_;intro D hD;have rD:rl≠some D:=fun e=>by obtain⟨o,z⟩:=g1.reel.live e;rw[hD]at z;cases z
 have FD:F1 D=none:=g1.sub.free hD;have gD:Grow rl F1 H1 F1 (upd H1 D (.lst [])):=Grow.laid g1.sub g1.reel hD;have R1:=R.grow g1;have n0:kP (hV fr ρ):=gZ
 refine⟨fun i m acc σc Hc=>m=xs.length-i/\i<=xs.length/\∃Fc ds,VR X.K rl F1 H1 Fc Hc σc (hV fr ρ)/\Hc D=some (.lst acc)/\Fc D=none/\Reps X.K Fc acc ds/\kY (hV fr ρ) g ft fe (xs.drop i) ds (fun ds=>Qd (.ml ds)),
  ⟨xs.length,by simp,zr _,F1,[],jP R1 gD,ak,FD,.nil,by simpa using q1⟩,?_⟩
 rintro z i m acc σc Hc ⟨rfl,hi,Fc,ds,Rc,hDc,fDc,rs,q2⟩;have sH:aS F1 Hc:=Rc.g.fs.trans Rc.sub;by_cases hlt:i<xs.length
 · have ei:xs[i]?=some xs[i]:=by simp[hlt]
   have ed:xs.drop i=xs[i]::xs.drop (i+1):=zm hlt;rw[ed]at q2;refine .inr ⟨vi.go i Hc _ ei sH,fun v H' y=>?_⟩;obtain⟨Fy,gy,rv⟩:=vi.yld i Hc v H' _ Fc ei Rc.g.fs Rc.sub Rc.reel y;refine(xI (hg z)).2 (Rc.grow gy) v _ _ _ rv q2 fun F3 H3 σ3 ρ3 g3 n3 R3 ⟨le3,q3⟩=>?_;refine(xI (ht z)).2 R3 _ _ q3 fun b F4 H4 g4 q4=>?_;have R4:=R3.grow g4;have g34:=(gy.trans g3).trans g4;have keepD:∀{Fx Hx:Hp},Grow rl Fc Hc Fx Hx->Hx D=some (.lst acc)/\Fx D=none:=fun gx=>⟨gx.same D _ hDc rD,by rw[gx.old D _ hDc];exact fDc⟩
   cases b with
   | false=>exact⟨xs.length-(i+1),by omega,rfl,hlt,F4,ds,R4.le le3,(keepD g34).1,(keepD g34).2,rs.mono g34.fs,q4⟩
   | true =>
     refine(xI (he z)).2 R4 _ _ q4 fun v5 w5 F5 H5 g5 r5 n5 ⟨d,ed5,hl,q5⟩=>?_;obtain⟨F6,g6,s6,r6⟩:=ce.fz g5 r5 n5;rw[ed5]at r6;have g36:=g34.trans g6;refine⟨(keepD g36).1,by rw[rs.length];exact hl,xs.length-(i+1),by omega,rfl,hlt,F6,ds++[d],((R4.grow g6).le le3).other n0 hD (keepD g36).2 rD,ak,(keepD g36).2,(rs.mono g36.fs).snoc r6,q5⟩
 · have e:i=xs.length:=by omega
   subst e;rw[List.drop_length]at q2;refine .inl ⟨vi.stop _ Hc (wM _) sH,k _ (.ml ds) Fc Hc (g1.trans Rc.g) ⟨D,acc,rfl,fDc,rD,hDc,rs⟩ (fun a ea=>by cases ea;exact g1.freeB hD) q2⟩
theorem bL(N':List Str)(fr:List (Option Nat))(hc:X.calm=true)(hi:vZ X rl tg iter fi)
 (hg:∀y,v7 (blk X N' scope y) rl tg g)(ht:∀y,pJ (blk X N' scope y) rl ifs ft)(he:∀y,PV (blk X N' scope y) rl elt fe)
 (hfr:autoParam (m9 fr N' X.N scope X.env.scope=true) æa._auto_1)(hsc:autoParam (pP scope X.env.scope=true) æa._auto_1)
 (hs:autoParam (∀x,yE iter X.env x=pure x) æc._auto_1):PV X rl (.ListComp elt [⟨tg,iter,ifs,0⟩] scope pos) (ge fi fr g ft fe):=by
 obtain⟨wi,p0,k0⟩:=hi;exact⟨_,gn N' fr hc p0 hfr hsc (fun y=>(xI (hg y)).1) (fun y=>(xI (ht y)).1) (fun y=>(xI (he y)).1) hs,fun R Qd Q q k=>gw fr k0 hg ht he R Qd Q q k⟩
end
noncomputable def va(ρ0:En)(g:vN)(ft:TB)(fe:TV)(x:wD):Mo (Option wD):=vB (g x ρ0) fun ρ2=>vk (Le ρ0 ρ2) (vB (ft ρ2) fun b=>if b=true then vB (fe ρ2) fun w=>aj (asD w.fz) fun d=>ret (some d)else ret none)
noncomputable def bE(b:wD->Mo (Option wD)):List wD->List wD->Mo (List wD)
 | [],acc=>ret acc
 | x::xs,acc=>vB (b x) fun o=>match o with
   | some d=>vk (acc.length<sizeLine) (bE b xs (acc++[d]))
   | none=>bE b xs acc
theorem ju(ρ0:En)(g:vN)(ft:TB)(fe:TV):∀(xs acc:List wD),kY ρ0 g ft fe xs acc=bE (va ρ0 g ft fe) xs acc
 | [],acc=>rfl
 | x::xs,acc=>by
   refine ab fun Q=>?_;show(g x ρ0 fun ρ2=>Le ρ0 ρ2/\ft ρ2 fun b=>if b=true then fe ρ2 fun w=>∃d,w.fz = .d d/\acc.length<sizeLine/\kY ρ0 g ft fe xs (acc++[d]) Q else kY ρ0 g ft fe xs acc Q)↔(vB (va ρ0 g ft fe x) _) Q;simp only[ju ρ0 g ft fe xs]
   have:∀(ρ2:En)(b:Bool),(if b=true then fe ρ2 fun w=>∃d,w.fz = .d d/\acc.length<sizeLine/\bE (va ρ0 g ft fe) xs (acc++[d]) Q else bE (va ρ0 g ft fe) xs acc Q)=(vB (if b=true then vB (fe ρ2) fun w=>aj (asD w.fz) fun d=>ret (some d)else ret none) fun o=>match o with
   | some d=>vk (acc.length<sizeLine) (bE (va ρ0 g ft fe) xs (acc++[d]))
   | none=>bE (va ρ0 g ft fe) xs acc) Q:=by
     intro ρ2 b
     cases b with
     | false=>rfl
     | true =>
       rw[if_pos rfl,if_pos rfl];show _=fe ρ2 fun w=>_;congr 1;funext w;refine propext ?_;show _↔(vB (aj (asD w.fz) fun d=>ret (some d)) _) Q;rw[bnd_opt,ac];simp only[gM];exact BI
   simp only[this];exact BI
theorem m_comp(fi:En->(List wD->Prop)->Prop)(fr:List (Option Nat))(g:vN)(ft:TB)(fe:TV)(ρ:En):ge fi fr g ft fe ρ=vB (fi ρ) fun xs=>vB (bE (va (hV fr ρ) g ft fe) xs []) fun ds=>ret (.ml ds):=by
 refine ab fun Q=>?_;show(fi ρ fun xs=>kY (hV fr ρ) g ft fe xs [] fun ds=>Q (.ml ds))↔_;simp only[ju];exact BI
section
variable{α:Type}{b:wD->Mo (Option wD)}
theorem cX{enc:α->wD}(f:α->Option wD):∀(xs:List α)(acc:List wD),(∀x∈xs,b (enc x)=ret (f x))->acc.length+xs.length<=sizeLine->bE b (xs.map enc) acc=ret (acc++xs.filterMap f)
 | [],acc,_,_=>by simp[bE]
 | x::xs,acc,h,hl=>by
   show vB (b (enc x)) _=_;rw[h x wQ,bnd_ret];simp at hl
   cases e:f x with
   | none =>
     show bE b (xs.map enc) acc=_
     rw[cX f xs acc (fun y hy=>h y (wL _ hy)) (by omega),List.filterMap_cons_none e]
   | some d =>
     show vk (acc.length<sizeLine) (bE b (xs.map enc) (acc++[d]))=_;rw[al (by omega),cX f xs (acc++[d]) (fun y hy=>h y (wL _ hy)) (by simp;omega),List.filterMap_cons_some e];simp
theorem jt{xs:List α}{enc:α->wD}(f:α->Option wD)(h:∀x∈xs,b (enc x)=ret (f x))(hl:xs.length<=sizeLine):bE b (xs.map enc) []=ret (xs.filterMap f):=by
 have:=cX f xs [] h (by simpa using hl);simpa using this
theorem comp_map{xs:List α}{enc:α->wD}(f:α->wD)(h:∀x∈xs,b (enc x)=ret (some (f x)))(hl:xs.length<=sizeLine):bE b (xs.map enc) []=ret (xs.map f):=by
 rw[jt (fun x=>some (f x)) h hl,List.filterMap_eq_map']
theorem jr{lo:Int}(f:Nat->wD)(h:∀j,j<n->b (.int (lo+j))=ret (some (f j)))(hl:n<=sizeLine):bE b (aC lo n) []=ret ((w_ n).map f) :=
 comp_map (xs:=w_ n) f (fun j hj=>h j (xL.mp hj)) (by simpa using hl)
end
section
variable(c:Prop)[Decidable c]
theorem ite_nx(a b:En):(if c then ret (Fl.nx a)else ret (Fl.nx b))=ret (Fl.nx (if c then a else b)):=by split<;>rfl
theorem ite_rt(a b:W):(if c then ret (Fl.rt a)else ret (Fl.rt b))=ret (Fl.rt (if c then a else b)):=by split<;>rfl
theorem ite_retd(a b:wD):(if c then ret (W.d a)else ret (W.d b))=ret (W.d (if c then a else b)):=by split<;>rfl
theorem ite_retb(a b:Bool):(if c then ret a else ret b)=ret (if c then a else b):=by split<;>rfl
theorem ite_rets(a b:wD):(if c then ret (some a)else ret (some b))=ret (some (if c then a else b)):=by split<;>rfl
theorem ite_cons{α:Type}(x y:α)(l m:List α):(if c then x::l else y::m)=(if c then x else y)::(if c then l else m):=by split<;>rfl
theorem ite_some{α:Type}(x y:α):(if c then some x else some y)=some (if c then x else y):=by split<;>rfl
theorem ite_d(a b:wD):(if c then W.d a else W.d b)=W.d (if c then a else b):=by split<;>rfl
theorem ite_pi(a b:Int):(if c then xv a else xv b)=xv (if c then a else b):=by split<;>rfl
theorem ite_pb(a b:Bool):(if c then BJ a else BJ b)=BJ (if c then a else b):=by split<;>rfl
theorem itb_tt(b y:Bool):(if b=true then true else y)=(b||y):=by cases b<;>rfl
theorem itb_ff(b y:Bool):(if b=true then y else false)=(b&&y):=by cases b<;>rfl
theorem itb_ft(b y:Bool):(if b=true then false else y)=(!b&&y):=by cases b<;>rfl
theorem itb_tf(b y:Bool):(if b=true then y else true)=(!b||y):=by cases b<;>rfl
end
theorem af(h:n<=1000):(n<=sizeLine)=True:=by have:=xw;exact propext ⟨fun _=>trivial,fun _=>by omega⟩
theorem tup2(x y:wD):(match [x,y]with | [x,y]=>some (x,y)|_=>none)=some (x,y):=rfl
theorem bnd_tt{α β:Type}(a:α)(f:α->Mo β):vB (fun Q=>Q a) f=f a:=nr rfl
section
variable{α β:Type}
theorem aG{P:α->Prop}{f:α->Mo β}{Q:β->Prop}(h:∀a,P a->f a Q):vB (anyM P) f Q:=h
end
theorem bc{Q:wD->Prop}{d:wD}(h:Q d):ret (Fl.rt (.d d)) (pD Q):=⟨d,rfl,h⟩
section
variable{α:Type}{k:En->Mo Fl}{Q:Fl->Prop}
theorem uL{m:Mo α}{h:α->Mo Fl}(z:vB m (fun a=>sq (h a) k) Q):sq (vB m h) k Q:=z
theorem uK{o:Option α}{h:α->Mo Fl}(z:aj o (fun a=>sq (h a) k) Q):sq (aj o h) k Q:=by rw[n_];exact z
noncomputable def kc(k1 k2:En->Mo Fl):En->Mo Fl:=fun ρ=>sq (k1 ρ) k2
theorem kc_ap(k1 k2:En->Mo Fl)(ρ:En):kc k1 k2 ρ=sq (k1 ρ) k2:=nr rfl
theorem sq_sq(m:Mo Fl)(k1 k2:En->Mo Fl):sq (sq m k1) k2=sq m (kc k1 k2):=by
 refine ab fun Q=>?_;show m _↔m _;have:∀fl:Fl,(sq (match fl with | .nx ρ=>k1 ρ | .rt w=>ret (.rt w) | .bk ρ=>ret (.bk ρ) | .ct ρ=>ret (.ct ρ)) k2) Q=(match fl with | .nx ρ=>kc k1 k2 ρ | .rt w=>ret (.rt w) | .bk ρ=>ret (.bk ρ) | .ct ρ=>ret (.ct ρ):Mo Fl) Q:=by intro fl;cases fl<;>rfl
 exact Iff.of_eq (congrArg m (funext this))
theorem aR{P:α->Prop}{f:α->Mo Fl}(z:∀a,P a->sq (f a) k Q):sq (vB (anyM P) f) k Q:=z
end
theorem pk_sc(x:List Int):L2.VL.W.peek (.sc x) = .sc x:=rfl
theorem fz_sc(x:List Int):(W.sc x).fz = .sc x:=rfl
theorem arg_sc(x:List Int):cu (.sc x)=true:=rfl
theorem isPk_sc(x:List Int):(W.sc x).isPk=false:=rfl
section
variable{X:Cx}{rl:Option Addr}{a b c e:Expr}{es:List Expr}{fa fb fc:TV}{fs:vK}{pos p p2:Pos}{ρ:En}
noncomputable def pi:List W->(W->Prop)->Prop:=fun ws Q=>∃ns,ws=[.sc ns]/\Q (.d (.int ns.length))
noncomputable def asSc:W->Option (List Int)
 | .sc ns=>some ns
 | _=>none
theorem asSc_s(ns:List Int):asSc (.sc ns)=some ns:=rfl
theorem fW{i:List Int}:asSc w=some i↔w = .sc i:=by
 constructor
 · intro h;unfold asSc at h;split at h<;>simp_all
 · rintro rfl;rfl
theorem m_gLenS(w:W):pi [w]=aj (asSc w) fun ns=>ret (.d (.int ns.length)):=by
 refine ab fun Q=>?_;simp only[pi,ac,fW,ret,xa,and_true]
noncomputable def sJ:W->W->(W->Prop)->Prop:=fun x y Q=>∃ns i n,x = .sc ns/\y = .d (.int i)/\atI ns i=some n/\Q (.d (.int n))
theorem fU{β:Type}(f:α->β)(xs:List α)(i:Int):atI (xs.map f) i=(atI xs i).map f:=by
 unfold atI;rw[wP];cases ixN xs.length i<;>simp
theorem m_gIxS(x y:W):sJ x y=aj (asSc x) fun ns=>aj (asI y) fun i=>aj (atI ns i) fun n=>ret (.d (.int n)):=by
 refine ab fun Q=>?_;simp only[sJ,ac,fW,be,ret];exact⟨fun⟨i,j,z,a,b,c,q⟩=>⟨i,a,j,b,z,c,q⟩,fun⟨i,a,j,b,z,c,q⟩=>⟨i,j,z,a,b,c,q⟩⟩
noncomputable def rY(fa:TV)(fl fh:vM):TV:=fun ρ Q=>fa ρ fun w=>fl ρ fun l=>fh ρ fun h=>∃ns:List Int,w = .sc ns/\Q (.ml (cutD (ns.map .int) l h))
theorem m_vSlS{fl fh:vM}:rY fa fl fh ρ=vB (fa ρ) fun w=>vB (fl ρ) fun l=>vB (fh ρ) fun h=>aj (asSc w) fun ns=>ret (.ml (cutD (ns.map .int) l h)):=by
 refine ab fun Q=>?_;simp only[rY,vB,ac,fW,ret]
end
noncomputable def uM(K:W.Frag)(pre:List W->Prop):Sp:=fun vs H Q _=>∃F ws,aS F H/\cF K none F H vs ws/\ws.all cu=true/\pre ws/\∀r F' H',H r=none->Grow none F H F' H'->vU (some r) F' H'->Q (.ref r) H'
structure DfnR (P:wZ) (w:xx) (K:W.Frag) (mg:Str->Option wF) (base:Heap) (x:Str) (ps:List Str) (k:Nat) (pre:List W->Prop):Prop where
 ex:∃f fd,mg x=some (.ref f)/\W.keepIn K (.ref f)=true/\Binds K fd ps []/\FnOk P w K mg base ww k f fd ps (uM K pre)
noncomputable def u3:Option W->Option W
 | some .reel=>none
 | o=>o
noncomputable def nR(ρ:En):En:=ρ.map u3
noncomputable def W.isR:W->Bool
 | .reel=>true
 | _=>false
noncomputable def nN(i:Nat)(pre:List W->Prop)(fs:vK)(t:vL):vL:=fun D ρ=>fs ρ fun ws=>ws.all cu=true/\pre ws/\t ⟨fun ρ'=>D.nx (nR ρ'),fun w=>w.isR=false/\D.rt w,fun ρ'=>D.bk (nR ρ'),fun ρ'=>D.ct (nR ρ')⟩ (ρ.set i (some .reel))
theorem mQ(g:Grow none F₀ H₀ F H)(ra:vU (some r) F H):Grow (some r) F₀ H₀ F H:=⟨fun b o e _=>g.same b o e (by simp),g.fs,g.sub,g.old,ra⟩
theorem gz(g:Grow (some r) F₀ H₀ F H)(n:H₀ r=none):Grow none F₀ H₀ F H:=⟨fun b o e _=>g.same b o e (fun z=>by cases z;rw[n]at e;cases e),g.fs,g.sub,g.old,fun _ z=>by cases z⟩
theorem om{K:W.Frag}(h:ce K none F H v w)(ne:∀a,w.own=true\/(∃xs,w = .pk xs)->v = .ref a->a≠r):ce K (some r) F H v w:=by
 cases w with
 | d x=>exact h
 | ml xs=>obtain⟨a,vs,e,f,_,g⟩:=h;exact⟨a,vs,e,f,fun z=>ne a (.inl rfl) e (by cases z;rfl),g⟩
 | pk xs=>obtain⟨a,vs,e,f,_,g⟩:=h;exact⟨a,vs,e,f,fun z=>ne a (.inr ⟨_,rfl⟩) e (by cases z;rfl),g⟩
 | reel=>obtain⟨_,z,_⟩:=h;cases z
 | vv u=>exact h
 | md kvs=>obtain⟨a,vs,e,f,_,g⟩:=h;exact⟨a,vs,e,f,fun z=>ne a (.inl rfl) e (by cases z;rfl),g⟩
 | mk kvs=>obtain⟨a,vs,e,f,_,g⟩:=h;exact⟨a,vs,e,f,fun z=>ne a (.inl rfl) e (by cases z;rfl),g⟩
 | xm kvs=>obtain⟨a,vs,e,f,_,g⟩:=h;exact⟨a,vs,e,f,fun z=>ne a (.inl rfl) e (by cases z;rfl),g⟩
 | nt ds=>exact h
 | lk=>trivial
 | sc ns=>exact h
 | fd _=>exact h
 | xr _=>exact h
 | fw _=>exact h
 | ft _=>exact h
 | xc _ _=>exact h
 | dp _ _=>exact h
theorem iJ{K:W.Frag}(h:ce K (some r) F H v w)(n:w.isR=false):ce K none F H v w:=by
 cases w with
 | d x=>exact h
 | ml xs=>obtain⟨a,vs,e,f,_,g⟩:=h;exact⟨a,vs,e,f,by simp,g⟩
 | pk xs=>obtain⟨a,vs,e,f,_,g⟩:=h;exact⟨a,vs,e,f,by simp,g⟩
 | reel=>cases n
 | vv u=>exact h
 | md kvs=>obtain⟨a,vs,e,f,_,g⟩:=h;exact⟨a,vs,e,f,by simp,g⟩
 | mk kvs=>obtain⟨a,vs,e,f,_,g⟩:=h;exact⟨a,vs,e,f,by simp,g⟩
 | xm kvs=>obtain⟨a,vs,e,f,_,g⟩:=h;exact⟨a,vs,e,f,by simp,g⟩
 | nt ds=>exact h
 | lk=>trivial
 | sc ns=>exact h
 | fd _=>exact h
 | xr _=>exact h
 | fw _=>exact h
 | ft _=>exact h
 | xc _ _=>exact h
 | dp _ _=>exact h
theorem gt(h:(nR ρ)[i]?=some (some w)):ρ[i]?=some (some w)/\w.isR=false:=by
 unfold nR at h;rw[xM]at h
 cases e:ρ[i]? with
 | none=>rw[e]at h;cases h
 | some o =>
   rw[e]at h
   cases o with
   | none=>cases h
   | some u=>cases u<;>first|(cases h;exact⟨rfl,rfl⟩)|cases h
theorem VR.out{K:W.Frag}(R:VR K (some r) F₀ H₀ F H σ ρ)(n:H₀ r=none):VR K none F₀ H₀ F H σ (nR ρ):=by
 refine⟨gz R.g n,fun i w e=>?_,fun i j x y v hn e1 e2=>R.ap i j x y v hn (gt e1).1 (gt e2).1,fun i xs e=>R.np i xs (gt e).1,?_⟩
 · obtain⟨e1,e2⟩:=gt e;obtain⟨v,h1,h2,h3⟩:=R.sl i w e1;exact⟨v,h1,iJ h2 e2,h3⟩
 · have:=R.len;simpa[nR]using this
theorem VR.into{K:W.Frag}(R:VR K none F₀ H₀ F H σ ρ)(n:H r=none)(g:Grow none F H F' H')(ra:vU (some r) F' H')(i:Nat):VR K (some r) F₀ H₀ F' H' (σ.set i (some (.ref r))) (ρ.set i (some .reel)):=by
 have R1:=R.grow g;refine⟨mQ R1.g ra,fun j w e=>?_,fun j k x y v hn e1 e2 o1 o2 s1 s2=>?_,fun j xs e=>?_,by simp[R.len]⟩
 · by_cases hj:i=j
   · subst hj
     have hi:i<ρ.length:=by
      rw[xP]at e;by_cases hi:i<ρ.length
      · exact hi
      · simp[hi]at e
     rw[xp hi]at e;cases e;exact⟨.ref r,by rw[xp (by rw[<- R.len];exact hi)],⟨r,rfl,rfl⟩,trivial⟩
   · rw[xb hj]at e;obtain⟨v,h1,h2,h3⟩:=R1.sl j w e;refine⟨v,by rw[xb hj];exact h1,om h2 fun a ow ea z=>?_,h3⟩;obtain⟨v0,h10,h20,_⟩:=R.sl j w e;rw[h1]at h10;cases h10;rcases ow with ow|⟨xs,rfl⟩
     · obtain⟨b,o,eb,hb⟩:=h20.live ow;rw[ea]at eb;cases eb;rw[z,n]at hb;cases hb
     · exact absurd e (R.np j xs)
 · have key:∀(m:Nat)(z:W),(ρ.set i (some W.reel))[m]?=some (some z)->z.own=true->i≠m/\ρ[m]?=some (some z):=fun m z e o=>by
     by_cases hm:i=m
     · subst hm;rw[xP]at e;split at e
       · split at e
         · cases e;cases o
         · cases e
       · exact absurd rfl (by assumption)
     · rw[xb hm]at e;exact⟨hm,e⟩
   obtain⟨n1,d1⟩:=key j x e1 o1;obtain⟨n2,d2⟩:=key k y e2 o2;rw[xb n1]at s1;rw[xb n2]at s2;exact R1.ap j k x y v hn d1 d2 o1 o2 s1 s2
 · rw[xP]at e;split at e
   · split at e
     · cases e
     · cases e
   · exact R1.np j xs e
section
variable{X:Cx}{st:Stmt}{rest body:List Stmt}{t u:vL}{a b c e:Expr}{es:List Expr}{fa fb:TV}{fs:vK}{pos p px cpos:Pos}{ρ:En}
theorem ly(i:Nat){f:Str}{pre:List W->Prop}(D:DfnR X.prog X.w X.K X.mg X.base f ps k pre)(hr:Room k X.A)(hN:X.N.Nodup)(ha:vV X none (e::es) fs)(hrest:∀r,hJ X (some r) rest t)
 (hi:autoParam (X.N[i]?=some x) æa._auto_1)(hx:autoParam (Loc X.env.scope x) æd._auto_1)(hg:autoParam (Gl X f) æa._auto_1)(hdb:autoParam ((f==("__debug__" : Str))=false) æb._auto_1)
 (he:autoParam (wR (e::es) X.env=(false,eval e X.env)::wR es X.env) æa._auto_1)(hpl:autoParam ((yR cpos (wR es X.env)).any (·.1)=false) æa._auto_1)
 (hs:autoParam (zR (.Call (.Name f p) (e::es) [] cpos) (some (.Name x px)) pos.line X.env=pure false) æa._auto_1)(hf:autoParam (X.fn x=true\/X.env.scope.names.lookup x=some .local) æe._auto_1) :
 hJ X none (.Assign [.Name x px] (.Call (.Name f p) (e::es) [] cpos) pos::rest) (nN i pre fs t):=by
 obtain⟨fa,fd,hm,hk,hb,F⟩:=D.ex;obtain⟨ta,p1,k1⟩:=ha;refine⟨_,aN (b8 hN hi hx (iS F hr hg hm hk hb .nil oH p1 hdb he hpl) hs hf) (l7 X rest),fun{F₀ H₀ F H σ ρ} R Dv D ok q=>k1 R _ _ q fun vs ws F1 H1 g1 r1 ⟨ao,pw,q1⟩=>?_⟩;have R1:=R.grow g1;refine⟨F1,ws,g1.sub,by rw[yF];exact r1,ao,pw,fun r F2 H2 hr2 g2 ra=>?_⟩;intro pins s I;obtain⟨T,pT,kT⟩:=hrest r;have h0:H₀ r=none:=R1.g.freeB hr2;refine pT pins s _ H2 D I (kT (R1.into hr2 g2 ra i) _ D ⟨fun F3 H3 σ3 ρ3 s3 R3 q3=>?_,fun v w F3 H3 g3 r3 n3 q3=>?_,fun F3 H3 σ3 ρ3 s3 R3 q3=>?_,fun F3 H3 σ3 ρ3 s3 R3 q3=>?_⟩ q1)
 · exact ok.nx F3 H3 σ3 _ (g1.fs.trans (g2.fs.trans s3)) (R3.out h0) q3
 · exact ok.rt v w F3 H3 (gz g3 h0) (iJ r3 q3.1) n3 q3.2
 · exact ok.bk F3 H3 σ3 _ (g1.fs.trans (g2.fs.trans s3)) (R3.out h0) q3
 · exact ok.ct F3 H3 σ3 _ (g1.fs.trans (g2.fs.trans s3)) (R3.out h0) q3
end
noncomputable def uu:Fl->Mo Fl
 | .nx ρ=>ret (.nx (nR ρ))
 | .rt w=>vk (w.isR=false) (ret (.rt w))
 | .bk ρ=>ret (.bk (nR ρ))
 | .ct ρ=>ret (.ct (nR ρ))
theorem s_newR(i:Nat)(pre:List W->Prop)(fs:vK)(t:vL)(ρ:En):mS (nN i pre fs t) ρ=vB (fs ρ) fun ws=>vk (ws.all cu=true) (vk (pre ws) (vB (mS t (ρ.set i (some .reel))) uu)):=nr rfl
theorem nR_nil:nR []=[]:=rfl
theorem nR_r(l:En):nR (some .reel::l)=none::nR l:=rfl
theorem nR_n(l:En):nR (none::l)=none::nR l:=rfl
theorem nR_d(x:wD)(l:En):nR (some (.d x)::l)=some (.d x)::nR l:=rfl
theorem nR_ml(x:List wD)(l:En):nR (some (.ml x)::l)=some (.ml x)::nR l:=rfl
theorem nR_sc(x:List Int)(l:En):nR (some (.sc x)::l)=some (.sc x)::nR l:=rfl
noncomputable def dd(K:W.Frag):Sp:=fun vs H Q _=>∃(a:Addr)(ns:List Int),vs=[.ref a]/\vR K H a (ns.map V.int)/\ns.length<=63/\∀H',Q (.bl true) H'
noncomputable def tL:VEnds:=⟨fun _=>False,fun w=>w = .d (.bool true),fun _=>False,fun _=>False⟩
noncomputable def m8:Fl->Prop
 | .rt w=>w = .d (.bool true)
 | _=>False
theorem un_law(m:Mo Fl):vB m uu m8=m m8:=by
 show m (fun fl=>uu fl m8)=m m8;congr 1;funext fl
 cases fl with
 | rt w=>exact propext ⟨fun⟨_,h⟩=>h,fun h=>⟨by rw[show w = .d (.bool true)from h];rfl,h⟩⟩
 | _=>rfl
theorem mL:ret (Fl.rt (.d (.bool true))) m8:=rfl
section
variable{P:wZ}{w:xx}{K:W.Frag}{mg:Str->Option wF}{base:Heap}{st:Stmt}{N:List Str}{k:Nat}{t:vL}{x:Str}
theorem mC{fd:yM}(F:Fun K "law" "law" st f fd)(S:FnScope N [x] (defScope st))
 (hbody:∀(cdv:wF)(A:xB)(outer:List Env)(s:wG)(H:Hp)(E:XK),Room k (A.deeper (A7 "law" (defScope st) s.heap.objs.size f cdv))->hJ (jL ww P w K mg base N "law" (defScope st) f cdv A outer s H E).nox none (defBody st) t)
 (hread:∀ns:List Int,ns.length<=63->mS t (bO N [.sc ns]) m8):FnOk P w K mg base ww (k+1) f fd [x] (dd K):=by
 refine F.ok S (fun vs H Q E h=>?_) (fun cdv A outer s H vs Q E hr h=>?_)
 · obtain⟨a,ns,rfl,_⟩:=h;rfl
 · obtain⟨a,ns,rfl,hS,hl,kq⟩:=h;obtain⟨T,p,kk⟩:=hbody cdv A outer s H E hr;have rw0:cF K none H H [.ref a] [.sc ns]:=.cons ⟨a,rfl,hS⟩ .nil;have R:VR K none H H H H (start N [.ref a]) (bO N [.sc ns]):=f_ (.refl H) (fun _ z=>by cases z) rw0 rfl;refine⟨T,p,kk R tL _ ⟨fun _ _ _ _ _ _ z=>yk z,?_,fun _ _ _ _ _ _ z=>yk z,fun _ _ _ _ _ _ z=>yk z⟩ (hread ns hl)⟩;rintro v w1 F1 H1 g1 r1 n1 z;have z:w1 = .d (.bool true):=z;subst z;have e:=iI r1;subst e;exact kq H1
end
noncomputable def lG(i:Nat)(fa:TV):vL:=fun D ρ=>fa ρ fun w=>∃d,w.fz = .d d/\D.nx (ρ.set i (some (.d d)))
section
variable{X:Cx}{rl:Option Addr}{st:Stmt}{rest body:List Stmt}{t u:vL}{a b c e:Expr}{es:List Expr}{fa fb:TV}{fs:vK}{f:TB}{pos p:Pos}{ρ:En}
theorem aw(i:Nat){pos':Pos}(hN:X.N.Nodup)(he:PV X rl e fa)(hi:autoParam (X.N[i]?=some x) æa._auto_1)(hx:autoParam (Loc X.env.scope x) æd._auto_1)
 (hs:autoParam (zR e (some (.Name x pos')) pos.line X.env=pure false) æa._auto_1)(hf:autoParam (X.fn x=true\/X.env.scope.names.lookup x=some .local) æe._auto_1) :
 vY X rl (.Assign [.Name x pos'] e pos) (lG i fa):=by
 obtain⟨t,p,k⟩:=he;refine⟨_,b8 hN hi hx p hs hf,fun R Dv D ok q=>k R _ _ q fun v w F1 H1 g1 r1 n1 ⟨d,ed,q1⟩=>?_⟩;obtain⟨F2,g2,s2,r2⟩:=ce.fz g1 r1 n1;rw[ed]at r2;exact ok.nx _ _ _ _ g2.fs (R.set g2 r2 trivial (fun xs z=>by cases z) i) q1
theorem s_setZ(i:Nat):mS (lG i fa) ρ=vB (fa ρ) fun w=>aj (asD w.fz) fun d=>ret (.nx (ρ.set i (some (.d d)))):=by
 show(vB (fa ρ) fun w=>fun(Q:Fl->Prop)=>∃d,w.fz = .d d/\Q (.nx (ρ.set i (some (.d d)))))=_;congr 1;funext w;refine ab fun Q=>?_;simp only[ac,gM,ret]
end
section
variable{X:Cx}{rl:Option Addr}{elt tg iter:Expr}{ifs:List Expr}{scope:Scope}{pos:Pos}{fi:En->(List wD->Prop)->Prop}{g:vN}{ft:TB}{fe:TV}
theorem fD(i:Nat){b:Bool}{px spos:Pos}(hN:X.N.Nodup)(N':List Str)(fr:List (Option Nat))(hc:X.calm=true)(hi:vZ X rl tg iter fi)
 (hg:∀y,v7 (blk X N' scope y) rl tg g)(ht:∀y,pJ (blk X N' scope y) rl ifs ft)(he:∀y,PV (blk X N' scope y) rl elt fe)
 (hsw:autoParam (zR (.ListComp elt [⟨tg,iter,ifs,0⟩] scope pos) (some (.Name x px)) spos.line X.env=pure b) æa._auto_1)
 (hix:autoParam (X.N[i]?=some x) æa._auto_1)(hx:autoParam (Loc X.env.scope x) æd._auto_1)(hf:autoParam (X.fn x=true\/X.env.scope.names.lookup x=some .local) æe._auto_1)
 (hfr:autoParam (m9 fr N' X.N scope X.env.scope=true) æa._auto_1)(hsc:autoParam (pP scope X.env.scope=true) æa._auto_1)
 (hs:autoParam (∀x,yE iter X.env x=pure x) æc._auto_1):vY X rl (.Assign [.Name x px] (.ListComp elt [⟨tg,iter,ifs,0⟩] scope pos) spos) (lG i (ge fi fr g ft fe)):=by
 obtain⟨wi,p0,k0⟩:=hi;refine⟨_,gX N' fr hc p0 hfr hsc (fun y=>(xI (hg y)).1) (fun y=>(xI (ht y)).1) (fun y=>(xI (he y)).1) hN hix hx hf hsw hs,fun R Dv D ok q=>gw fr k0 hg ht he R _ _ q fun v w F1 H1 g1 r1 n1 ⟨d,ed,q1⟩=>?_⟩;obtain⟨F2,g2,s2,r2⟩:=ce.fz g1 r1 n1;rw[ed]at r2;exact ok.nx _ _ _ _ g2.fs (R.set g2 r2 trivial (fun xs z=>by cases z) i) q1
end
noncomputable def pO(xs:List Int):wD:=.tuple (xs.map .int)
noncomputable def qG(xs:List Int):wD:=.list (xs.map .int)
theorem bU:∀{xs ys:List Int},xs.map xv=ys.map xv↔xs=ys:=by
 intro xs ys;constructor
 · intro h;have:=congrArg c8 h;rw[aM,aM]at this;exact xk this
 · rintro rfl;rfl
theorem gf{xs ys:List Int}:pO xs=pO ys↔xs=ys:=by
 unfold pO;rw[xS,bU]
theorem kf{xs ys:List Int}:qG xs=qG ys↔xs=ys:=by
 unfold qG;rw[wD.list.injEq,bU]
theorem bf{α:Type}{f:α->wD}(h:∀a b,f a=f b↔a=b):∀{xs ys:List α},xs.map f=ys.map f↔xs=ys
 | [],[]=>by simp
 | [],_::_=>by simp
 | _::_,[]=>by simp
 | x::xs,y::ys=>by simp[h,bf h (xs:=xs) (ys:=ys)]
noncomputable def qp(xs:List (List Int)):wD:=.tuple (xs.map pO)
theorem jV{xs ys:List (List Int)}:qp xs=qp ys↔xs=ys:=by
 unfold qp;rw[xS,bf fun _ _=>gf]
section
variable{α σ:Type}{fl:List Nat}{b:wD->En->Mo Fl}{k:En->Mo Fl}{Q:Fl->Prop}{ρ:En}
theorem du{f:TB}{t:vL}(st:σ->En)(c:σ->Bool)(nxt:σ->σ)(μ:σ->Nat)(I:σ->Prop)(s:σ)(h0:ρ=st s)(hs:I s)
 (hf:∀s,I s->f (st s)=ret (c s))(ht:∀s,I s->c s=true->I (nxt s)/\μ (nxt s)<μ s/\∃ρ',mS t (st s)=ret (.nx ρ')/\fo fl ρ'=st (nxt s))(fin:∀s,I s->c s=false->k (st s) Q):sq (c9 fl f t ρ) k Q:=by
 subst h0;obtain⟨s',a,b,e⟩:=h7 st c nxt μ I hf ht s hs;rw[e];exact fin s' a b
noncomputable def u6(fl:List Nat)(J:En->Prop)(k:En->Mo Fl)(Q:Fl->Prop):Fl->Prop
 | .nx ρ=>J (fo fl ρ)
 | .ct ρ=>J (fo fl ρ)
 | .bk ρ=>k (fo fl ρ) Q
 | .rt w=>Q (.rt w)
theorem dj{J:En->Prop}{ρ:En}(h:J (fo fl ρ)):u6 fl J k Q (.nx ρ):=h
theorem ji{xs:List α}{enc:α->wD}{xs':List wD}(J:Nat->En->Prop)(hx:xs'=xs.map enc)(h0:J 0 ρ)
 (step:∀i (h:i<xs.length) ρ,J i ρ->∀K:Fl->Prop,(∀r,u6 fl (J (i+1)) k Q r->K r)->b (enc xs[i]) ρ K)(fin:∀ρ,J xs.length ρ->k ρ Q):sq (cU fl b xs' ρ) k Q:=by
 subst hx;refine jd (Q:=fun r=>(match r with | .nx ρ=>k ρ | .rt w=>ret (.rt w) | .bk ρ=>ret (.bk ρ) | .ct ρ=>ret (.ct ρ):Mo Fl) Q) J h0 (fun i hi ρ j K hK=>step i hi ρ j K fun r hr=>hK r ?_) fin;cases r<;>exact hr
theorem mN{lo:Int}(J:Nat->En->Prop)(h0:J 0 ρ)
 (step:∀i,i<n->∀ρ,J i ρ->∀K:Fl->Prop,(∀r,u6 fl (J (i+1)) k Q r->K r)->b (.int (lo+i)) ρ K)(fin:∀ρ,J n ρ->k ρ Q):sq (cU fl b (aC lo n) ρ) k Q:=by
 refine kg (Q:=fun r=>(match r with | .nx ρ=>k ρ | .rt w=>ret (.rt w) | .bk ρ=>ret (.bk ρ) | .ct ρ=>ret (.ct ρ):Mo Fl) Q) J h0 (fun i hi ρ j K hK=>step i hi ρ j K fun r hr=>hK r ?_) fin;cases r<;>exact hr
theorem kG{lo:Int}(step:∀i,i<n->∀K:Fl->Prop,(∀r,u6 fl (fun ρ'=>ρ'=ρ) k Q r->K r)->b (.int (lo+i)) ρ K)(fin:k ρ Q):sq (cU fl b (aC lo n) ρ) k Q :=
 mN (fun _ ρ'=>ρ'=ρ) rfl (fun i h ρ' e K hK=>by subst e;exact step i h K hK) fun ρ' e=>by subst e;exact fin
end
theorem tS{m:Mo Fl}{Q:Fl->Prop}(h:sq m (fun ρ=>ret (.nx ρ)) Q):m Q:=by
 have e:(fun fl:Fl=>(match fl with | .nx ρ=>ret (.nx ρ) | .rt w=>ret (.rt w) | .bk ρ=>ret (.bk ρ) | .ct ρ=>ret (.ct ρ):Mo Fl) Q)=Q:=by
  funext fl;cases fl<;>rfl
 have h:m (fun fl:Fl=>(match fl with | .nx ρ=>ret (.nx ρ) | .rt w=>ret (.rt w) | .bk ρ=>ret (.bk ρ) | .ct ρ=>ret (.ct ρ):Mo Fl) Q):=h;rw[e]at h;exact h
section
variable{α β:Type}{b:wD->Mo (Option wD)}{k:List wD->Mo β}{Q:β->Prop}
theorem gH{xs:List α}{enc:α->wD}{xs':List wD}(f:α->Option wD)(hx:xs'=xs.map enc)(h:∀x∈xs,b (enc x)=ret (f x))(hl:xs.length<=sizeLine)(fin:k (xs.filterMap f) Q):vB (bE b xs' []) k Q:=by
 subst hx;rw[jt f h hl];exact fin
theorem jw{xs:List α}{enc:α->wD}{xs':List wD}(f:α->wD)(hx:xs'=xs.map enc)(h:∀x∈xs,b (enc x)=ret (some (f x)))(hl:xs.length<=sizeLine)(fin:k (xs.map f) Q):vB (bE b xs' []) k Q:=by
 subst hx;rw[comp_map f h hl];exact fin
theorem kJ{lo:Int}(f:Nat->wD)(h:∀j,j<n->b (.int (lo+j))=ret (some (f j)))(hl:n<=sizeLine)(fin:k ((w_ n).map f) Q):vB (bE b (aC lo n) []) k Q:=by
 rw[jr f h hl];exact fin
end
section
variable{α β:Type}
theorem i7{xs:List wD}{i:Int}{k:wD->Mo β}{Q:β->Prop}(h0:0<=i)(h1:i<(xs.length:Int))(h:∀z∈xs,k z Q):aj (atI xs i) k Q:=by
 obtain⟨z,e,m⟩:=qX h0 h1;rw[e];exact h z m
theorem dh{xs:List α}{enc:α->wD}{xs':List wD}{i:Int}{k:wD->Mo β}{Q:β->Prop}(P:α->Prop)(hx:xs'=xs.map enc)(h0:0<=i)(h1:i<(xs.length:Int))(hP:∀z∈xs,P z)(h:∀z,P z->k (enc z) Q):aj (atI xs' i) k Q:=by
 subst hx;refine i7 h0 (by simpa using h1) fun z mz=>?_;obtain⟨x,hx,rfl⟩:=zb.mp mz;exact h x (hP x hx)
end
section
variable{X:Cx}{rl:Option Addr}{a b c o e:Expr}{es:List Expr}{fa fb:TV}{fs:vK}{pos p apos cpos:Pos}{ρ:En}
noncomputable def ur(g:List wD->List W->(W->Prop)->Prop)(fa:TV)(fs:vK):TV:=fun ρ Q=>fa ρ fun x=>∃xs,x.dat=some (.list xs)/\fs ρ fun ws=>g xs ws Q
theorem m_vML(g:List wD->List W->(W->Prop)->Prop):ur g fa fs ρ=vB (fa ρ) fun x=>aj (vG x) fun xs=>vB (fs ρ) fun ws=>g xs ws:=by
 show(vB (fa ρ) fun x=>fun(Q:W->Prop)=>∃xs,x.dat=some (.list xs)/\fs ρ fun ws=>g xs ws Q)=_;congr 1;funext x;refine ab fun Q=>?_;rw[ac];simp only[dt];exact BI
noncomputable def jm:List wD->List W->(W->Prop)->Prop:=fun xs ws Q=>∃(bs:List Bool)(k:Bool),xs=bs.map .bool/\ws=[.d (.bool k)]/\Q (.d (.int (bs.count k)))
theorem m_gCountB(xs:List wD)(w:W):jm xs [w]=aj (lp xs) fun bs=>aj (asB w) fun k=>ret (.d (.int (bs.count k))):=by
 refine ab fun Q=>?_;simp only[jm,ac,cZ,ret,xa,and_true];constructor
 · rintro⟨bs,k,rfl,e,q⟩;exact⟨bs,blsD_map bs,k,e,q⟩
 · rintro⟨bs,e,k,e',q⟩;exact⟨bs,k,fS e,e',q⟩
noncomputable def pg:W->W->(W->Prop)->Prop:=fun x y Q=>∃b c,x = .d (.bool b)/\y = .d (.bool c)/\Q (.d (.bool (b != c)))
theorem m_gNotB(x y:W):pg x y=aj (asB x) fun i=>aj (asB y) fun j=>ret (.d (.bool (i != j))):=by
 refine ab fun Q=>?_;simp only[ac,cZ,pg,ret];exact⟨fun⟨i,j,a,b,q⟩=>⟨i,a,j,b,q⟩,fun⟨i,a,j,b,q⟩=>⟨i,j,a,b,q⟩⟩
end
end L2.VL
namespace L2
section
variable{X:Cx}{pos:Pos}
end
end L2
namespace L2.VL
section
variable{X:Cx}{rl:Option Addr}{es:List Expr}{pos:Pos}{ρ:En}
noncomputable def sI(n:Nat)(gs:hW):vN:=fun x ρ Q=>∃xs,x = .list xs/\xs.length=n/\gs xs ρ Q
theorem m_hLst(n:Nat){gs:hW}(x:wD):sI n gs x ρ=aj (lstD x) fun xs=>vk (xs.length=n) (gs xs ρ):=by
 refine ab fun Q=>?_;simp only[ac,mH,sI,vk]
end
section
variable{α:Type}{a0 a1 a2 a3 a4 a5 a6 a7 a8 a9 a10 a11 a12 a13 a14 a15 a16 a17 a18 a19 x y:α}{l:List α}
theorem gt0:(x::l)[0]?=some x:=nr rfl
theorem st0:(x::l).set 0 y=y::l:=nr rfl
theorem gt1:(a0::x::l)[1]?=some x:=nr rfl
theorem st1:(a0::x::l).set 1 y=a0::y::l:=nr rfl
theorem gt2:(a0::a1::x::l)[2]?=some x:=nr rfl
theorem st2:(a0::a1::x::l).set 2 y=a0::a1::y::l:=nr rfl
theorem gt3:(a0::a1::a2::x::l)[3]?=some x:=nr rfl
theorem st3:(a0::a1::a2::x::l).set 3 y=a0::a1::a2::y::l:=nr rfl
theorem gt4:(a0::a1::a2::a3::x::l)[4]?=some x:=nr rfl
theorem st4:(a0::a1::a2::a3::x::l).set 4 y=a0::a1::a2::a3::y::l:=nr rfl
theorem gt5:(a0::a1::a2::a3::a4::x::l)[5]?=some x:=nr rfl
theorem st5:(a0::a1::a2::a3::a4::x::l).set 5 y=a0::a1::a2::a3::a4::y::l:=nr rfl
theorem gt6:(a0::a1::a2::a3::a4::a5::x::l)[6]?=some x:=nr rfl
theorem st6:(a0::a1::a2::a3::a4::a5::x::l).set 6 y=a0::a1::a2::a3::a4::a5::y::l:=nr rfl
theorem gt7:(a0::a1::a2::a3::a4::a5::a6::x::l)[7]?=some x:=nr rfl
theorem st7:(a0::a1::a2::a3::a4::a5::a6::x::l).set 7 y=a0::a1::a2::a3::a4::a5::a6::y::l:=nr rfl
theorem gt8:(a0::a1::a2::a3::a4::a5::a6::a7::x::l)[8]?=some x:=nr rfl
theorem st8:(a0::a1::a2::a3::a4::a5::a6::a7::x::l).set 8 y=a0::a1::a2::a3::a4::a5::a6::a7::y::l:=nr rfl
theorem gt9:(a0::a1::a2::a3::a4::a5::a6::a7::a8::x::l)[9]?=some x:=nr rfl
theorem st9:(a0::a1::a2::a3::a4::a5::a6::a7::a8::x::l).set 9 y=a0::a1::a2::a3::a4::a5::a6::a7::a8::y::l:=nr rfl
theorem gt10:(a0::a1::a2::a3::a4::a5::a6::a7::a8::a9::x::l)[10]?=some x:=nr rfl
theorem st10:(a0::a1::a2::a3::a4::a5::a6::a7::a8::a9::x::l).set 10 y=a0::a1::a2::a3::a4::a5::a6::a7::a8::a9::y::l:=nr rfl
theorem gt11:(a0::a1::a2::a3::a4::a5::a6::a7::a8::a9::a10::x::l)[11]?=some x:=nr rfl
theorem st11:(a0::a1::a2::a3::a4::a5::a6::a7::a8::a9::a10::x::l).set 11 y=a0::a1::a2::a3::a4::a5::a6::a7::a8::a9::a10::y::l:=nr rfl
theorem gt12:(a0::a1::a2::a3::a4::a5::a6::a7::a8::a9::a10::a11::x::l)[12]?=some x:=nr rfl
theorem st12:(a0::a1::a2::a3::a4::a5::a6::a7::a8::a9::a10::a11::x::l).set 12 y=a0::a1::a2::a3::a4::a5::a6::a7::a8::a9::a10::a11::y::l:=nr rfl
theorem gt13:(a0::a1::a2::a3::a4::a5::a6::a7::a8::a9::a10::a11::a12::x::l)[13]?=some x:=nr rfl
theorem st13:(a0::a1::a2::a3::a4::a5::a6::a7::a8::a9::a10::a11::a12::x::l).set 13 y=a0::a1::a2::a3::a4::a5::a6::a7::a8::a9::a10::a11::a12::y::l:=nr rfl
theorem gt14:(a0::a1::a2::a3::a4::a5::a6::a7::a8::a9::a10::a11::a12::a13::x::l)[14]?=some x:=nr rfl
theorem st14:(a0::a1::a2::a3::a4::a5::a6::a7::a8::a9::a10::a11::a12::a13::x::l).set 14 y=a0::a1::a2::a3::a4::a5::a6::a7::a8::a9::a10::a11::a12::a13::y::l:=nr rfl
theorem gt15:(a0::a1::a2::a3::a4::a5::a6::a7::a8::a9::a10::a11::a12::a13::a14::x::l)[15]?=some x:=nr rfl
theorem st15:(a0::a1::a2::a3::a4::a5::a6::a7::a8::a9::a10::a11::a12::a13::a14::x::l).set 15 y=a0::a1::a2::a3::a4::a5::a6::a7::a8::a9::a10::a11::a12::a13::a14::y::l:=nr rfl
theorem gt16:(a0::a1::a2::a3::a4::a5::a6::a7::a8::a9::a10::a11::a12::a13::a14::a15::x::l)[16]?=some x:=nr rfl
theorem st16:(a0::a1::a2::a3::a4::a5::a6::a7::a8::a9::a10::a11::a12::a13::a14::a15::x::l).set 16 y=a0::a1::a2::a3::a4::a5::a6::a7::a8::a9::a10::a11::a12::a13::a14::a15::y::l:=nr rfl
theorem gt17:(a0::a1::a2::a3::a4::a5::a6::a7::a8::a9::a10::a11::a12::a13::a14::a15::a16::x::l)[17]?=some x:=nr rfl
theorem st17:(a0::a1::a2::a3::a4::a5::a6::a7::a8::a9::a10::a11::a12::a13::a14::a15::a16::x::l).set 17 y=a0::a1::a2::a3::a4::a5::a6::a7::a8::a9::a10::a11::a12::a13::a14::a15::a16::y::l:=nr rfl
theorem gt18:(a0::a1::a2::a3::a4::a5::a6::a7::a8::a9::a10::a11::a12::a13::a14::a15::a16::a17::x::l)[18]?=some x:=nr rfl
theorem st18:(a0::a1::a2::a3::a4::a5::a6::a7::a8::a9::a10::a11::a12::a13::a14::a15::a16::a17::x::l).set 18 y=a0::a1::a2::a3::a4::a5::a6::a7::a8::a9::a10::a11::a12::a13::a14::a15::a16::a17::y::l:=nr rfl
theorem gt19:(a0::a1::a2::a3::a4::a5::a6::a7::a8::a9::a10::a11::a12::a13::a14::a15::a16::a17::a18::x::l)[19]?=some x:=nr rfl
theorem st19:(a0::a1::a2::a3::a4::a5::a6::a7::a8::a9::a10::a11::a12::a13::a14::a15::a16::a17::a18::x::l).set 19 y=a0::a1::a2::a3::a4::a5::a6::a7::a8::a9::a10::a11::a12::a13::a14::a15::a16::a17::a18::y::l:=nr rfl
end
section
variable{a0 a1 a2 a3 a4 a5 a6 a7 a8 a9 a10 a11 a12 a13 a14 a15 a16 a17 a18 a19:Option W}{w:W}{l:En}
theorem vv0:c6 0 (some w::l)=ret w.peek:=(aQ 0).trans rfl
theorem vv1:c6 1 (a0::some w::l)=ret w.peek:=(aQ 1).trans rfl
theorem vv2:c6 2 (a0::a1::some w::l)=ret w.peek:=(aQ 2).trans rfl
theorem vv3:c6 3 (a0::a1::a2::some w::l)=ret w.peek:=(aQ 3).trans rfl
theorem vv4:c6 4 (a0::a1::a2::a3::some w::l)=ret w.peek:=(aQ 4).trans rfl
theorem vv5:c6 5 (a0::a1::a2::a3::a4::some w::l)=ret w.peek:=(aQ 5).trans rfl
theorem vv6:c6 6 (a0::a1::a2::a3::a4::a5::some w::l)=ret w.peek:=(aQ 6).trans rfl
theorem vv7:c6 7 (a0::a1::a2::a3::a4::a5::a6::some w::l)=ret w.peek:=(aQ 7).trans rfl
theorem vv8:c6 8 (a0::a1::a2::a3::a4::a5::a6::a7::some w::l)=ret w.peek:=(aQ 8).trans rfl
theorem vv9:c6 9 (a0::a1::a2::a3::a4::a5::a6::a7::a8::some w::l)=ret w.peek:=(aQ 9).trans rfl
theorem vv10:c6 10 (a0::a1::a2::a3::a4::a5::a6::a7::a8::a9::some w::l)=ret w.peek:=(aQ 10).trans rfl
theorem vv11:c6 11 (a0::a1::a2::a3::a4::a5::a6::a7::a8::a9::a10::some w::l)=ret w.peek:=(aQ 11).trans rfl
theorem vv12:c6 12 (a0::a1::a2::a3::a4::a5::a6::a7::a8::a9::a10::a11::some w::l)=ret w.peek:=(aQ 12).trans rfl
theorem vv13:c6 13 (a0::a1::a2::a3::a4::a5::a6::a7::a8::a9::a10::a11::a12::some w::l)=ret w.peek:=(aQ 13).trans rfl
theorem vv14:c6 14 (a0::a1::a2::a3::a4::a5::a6::a7::a8::a9::a10::a11::a12::a13::some w::l)=ret w.peek:=(aQ 14).trans rfl
theorem vv15:c6 15 (a0::a1::a2::a3::a4::a5::a6::a7::a8::a9::a10::a11::a12::a13::a14::some w::l)=ret w.peek:=(aQ 15).trans rfl
theorem vv16:c6 16 (a0::a1::a2::a3::a4::a5::a6::a7::a8::a9::a10::a11::a12::a13::a14::a15::some w::l)=ret w.peek:=(aQ 16).trans rfl
theorem vv17:c6 17 (a0::a1::a2::a3::a4::a5::a6::a7::a8::a9::a10::a11::a12::a13::a14::a15::a16::some w::l)=ret w.peek:=(aQ 17).trans rfl
theorem vv18:c6 18 (a0::a1::a2::a3::a4::a5::a6::a7::a8::a9::a10::a11::a12::a13::a14::a15::a16::a17::some w::l)=ret w.peek:=(aQ 18).trans rfl
theorem vv19:c6 19 (a0::a1::a2::a3::a4::a5::a6::a7::a8::a9::a10::a11::a12::a13::a14::a15::a16::a17::a18::some w::l)=ret w.peek:=(aQ 19).trans rfl
end
section
variable{f1 f2 f3 f4 f5 f6 f7 f8 f9:TV}{fs:vK}{ρ:En}
theorem vk1:au f1 jK ρ=vB (f1 ρ) fun w1=>ret [w1.fz]:=nr rfl
theorem vk2:(au f1 (au f2 jK)) ρ=vB (f1 ρ) fun w1=>vB (f2 ρ) fun w2=>ret [w1.fz,w2.fz]:=nr rfl
theorem vk3:(au f1 (au f2 (au f3 jK))) ρ=vB (f1 ρ) fun w1=>vB (f2 ρ) fun w2=>vB (f3 ρ) fun w3=>ret [w1.fz,w2.fz,w3.fz]:=nr rfl
theorem vk4:(au f1 (au f2 (au f3 (au f4 jK)))) ρ=vB (f1 ρ) fun w1=>vB (f2 ρ) fun w2=>vB (f3 ρ) fun w3=>vB (f4 ρ) fun w4=>ret [w1.fz,w2.fz,w3.fz,w4.fz]:=nr rfl
theorem vk5:(au f1 (au f2 (au f3 (au f4 (au f5 jK))))) ρ=vB (f1 ρ) fun w1=>vB (f2 ρ) fun w2=>vB (f3 ρ) fun w3=>vB (f4 ρ) fun w4=>vB (f5 ρ) fun w5=>ret [w1.fz,w2.fz,w3.fz,w4.fz,w5.fz]:=nr rfl
theorem vk6:(au f1 (au f2 (au f3 (au f4 (au f5 (au f6 jK)))))) ρ=vB (f1 ρ) fun w1=>vB (f2 ρ) fun w2=>vB (f3 ρ) fun w3=>vB (f4 ρ) fun w4=>vB (f5 ρ) fun w5=>vB (f6 ρ) fun w6=>ret [w1.fz,w2.fz,w3.fz,w4.fz,w5.fz,w6.fz]:=nr rfl
theorem vk7:(au f1 (au f2 (au f3 (au f4 (au f5 (au f6 (au f7 jK))))))) ρ=vB (f1 ρ) fun w1=>vB (f2 ρ) fun w2=>vB (f3 ρ) fun w3=>vB (f4 ρ) fun w4=>vB (f5 ρ) fun w5=>vB (f6 ρ) fun w6=>vB (f7 ρ) fun w7=>ret [w1.fz,w2.fz,w3.fz,w4.fz,w5.fz,w6.fz,w7.fz]:=nr rfl
theorem vk8:(au f1 (au f2 (au f3 (au f4 (au f5 (au f6 (au f7 (au f8 jK)))))))) ρ=vB (f1 ρ) fun w1=>vB (f2 ρ) fun w2=>vB (f3 ρ) fun w3=>vB (f4 ρ) fun w4=>vB (f5 ρ) fun w5=>vB (f6 ρ) fun w6=>vB (f7 ρ) fun w7=>vB (f8 ρ) fun w8=>ret [w1.fz,w2.fz,w3.fz,w4.fz,w5.fz,w6.fz,w7.fz,w8.fz]:=nr rfl
theorem vk9:(au f1 (au f2 (au f3 (au f4 (au f5 (au f6 (au f7 (au f8 (au f9 fs))))))))) ρ=vB (f1 ρ) fun w1=>vB (f2 ρ) fun w2=>vB (f3 ρ) fun w3=>vB (f4 ρ) fun w4=>vB (f5 ρ) fun w5=>vB (f6 ρ) fun w6=>vB (f7 ρ) fun w7=>vB (f8 ρ) fun w8=>vB (au f9 fs ρ) fun ws=>ret (w1.fz::w2.fz::w3.fz::w4.fz::w5.fz::w6.fz::w7.fz::w8.fz::ws):=nr rfl
theorem vk0:jK ρ=ret []:=nr rfl
end
noncomputable def rq:=wC @bnd_tt (wC @bnd_ret (wC @bnd_bnd (wC @bnd_grd (wC @bnd_stk (wC @bnd_ite (wC @bnd_opt (wC @opt_some (wC @opt_none (wC @grd_T (wC @sq_nx (wC @sq_rt (wC @sq_bk (wC @sq_ct (wC @sq_grd (wC @sq_stk (wC @sq_ite (wC @sq_sq (@kc_ap))))))))))))))))))
noncomputable def rC:=wC @ite_nx (wC @ite_rt (wC @ite_retd (wC @ite_retb (wC @ite_rets (wC @ite_cons (wC @ite_some (wC @ite_d (wC @ite_pi (wC @ite_pb (wC @itb_tt (wC @itb_ff (wC @itb_ft (wC @itb_tf (@ite_self.{1}))))))))))))))
noncomputable def rG:=wC @m_vC (wC @m_vOp (wC @m_gI (wC @m_gI0 (wC @m_vNeg (wC @m_vTest (wC @m_gEqD (wC @m_gInD (wC @m_vAnd (wC @m_vOr (wC @m_vNot (wC @m_vAndV (wC @m_vOrV (wC @m_vNotV (wC @m_vIf (wC @m_vTup (wC @m_vLst (wC @m_gIx (wC @m_vCall (wC @m_gAbs (wC @m_gLen (wC @m_gRepr (wC @m_gIsi (@m_gStrI)))))))))))))))))))))))
noncomputable def rF:=wC @m_gTupO (wC @m_gLstO (wC @m_gIsB (wC @m_gIsN (wC @m_gI2 (wC @m_gDivmod (wC @m_gInt1 (wC @m_oNo (wC @m_oIt (wC @m_vSlL (wC @m_vSlA (wC @m_gCatD (wC @m_gCatA (wC @m_vChain (wC @m_vLR1 (wC @m_vLR2 (wC @m_vTR1 (wC @m_iL (wC @m_iT (wC @m_iR1 (wC @m_iR2 (wC @m_iZb (wC @m_vUse (@m_vUseL)))))))))))))))))))))))
noncomputable def rE:=wC @m_gAll (wC @m_gRepT (wC @m_gRepL (wC @m_vRevT (wC @m_vRevL (wC @m_gEqS (wC @m_vTGet (wC @m_gSrtT (wC @m_comp (wC @m_gLenS (wC @m_gIxS (wC @m_vSlS (wC @m_hLst (wC @m_vML (wC @m_gCountB (@m_gNotB)))))))))))))))
noncomputable def re:=wC @s_next (wC @s_seq (wC @s_drop (wC @s_ret (wC @s_retN (wC @s_ifS (wC @s_set (wC @s_setZ (wC @s_never (wC @s_asg (wC @s_par (wC @s_par3 (wC @s_aug (wC @s_augL (wC @s_frz (wC @s_mut (wC @s_retO (wC @s_appPop (wC @s_for (wC @bdy_ap (wC @s_while (wC @s_newR (wC @m_hName (@m_hNil_n)))))))))))))))))))))))
noncomputable def rb:=wC @m_hCons_c (wC @m_hTup (wC @m_gApp (@m_gExt)))
noncomputable def rj:=wC @pk_sc (wC @fz_sc (wC @arg_sc (wC @isPk_sc (wC @asI_d (wC @asB_d (wC @asS_d (wC @asD_d (wC @asT_d (wC @asL_d (wC @asL_ml (wC @asL_pk (wC @asQ_d (wC @asQ_ml (wC @asQ_pk (wC @lstD_l (wC @tupD_t (wC @toI_i (wC @toI_b (wC @isiT_t (wC @asM_ml (wC @asSc_s (wC @two_d (@fz_d)))))))))))))))))))))))
noncomputable def rh:=wC @fz_ml (wC @fz_pk (wC @fz_reel (wC @fz_vv (wC @pk_d (wC @pk_ml (wC @pk_reel (wC @pk_vv (wC @dat_d (wC @dat_ml (wC @dat_pk (wC @isPk_d (wC @isPk_ml (wC @isPk_reel (wC @dats_nil (wC @dats_d (wC @arg_d (wC @arg_reel (wC @item_l (wC @item_t (wC @len_l (wC @len_t (wC @seq_l (@seq_t)))))))))))))))))))))))
noncomputable def rg:=wC @at0 (wC @at1 (wC @blsD_map (wC @tup2 (wC @fo_nil (wC @fo_cons (wC @nR_nil (wC @nR_r (wC @nR_n (wC @nR_d (wC @nR_ml (wC @nR_sc (wC @le_nil (wC @le_cn (wC @le_cs (wC @end_d (wC @end_ml (wC @end_nx (@un_law))))))))))))))))))
noncomputable def rB:=wC @x9.{0,0} (wC @AB.{0,0} (wC @xf.{0} (wC @y8.{0} (wC @List.set_nil.{0} (wC @List.cons_append.{0} (wC @List.nil_append.{0} (wC @List.all_cons.{0} (wC @List.all_nil.{0} (wC @List.head?_cons.{0} (wC @Bool.and_true (wC @Option.some.injEq.{0} (wC @Option.map_some.{0,0} (wC @Option.bind_some.{0,0} (wC @Option.bind_none.{0,0} (wC @Option.join_some.{0} (wC @Option.join_none.{0} (wC @yX (wC @and_self (wC @and_true (wC @true_and (wC @shaped_i (wC @eqv_ii (@shaped_b)))))))))))))))))))))))
noncomputable def rA:=wC @Bool.true_and (wC @Bool.and_self (wC @zj (wC @Bool.not_false (wC @wP.{0,0} (wC @xY (wC @Bool.true_eq_false (wC @decide_true (wC @decide_false (wC @List.isEmpty_cons.{0} (wC @z5.{0} (@List.isEmpty_map.{0,0})))))))))))
noncomputable def rn:=wC @gt0 (wC @gt1 (wC @gt2 (wC @gt3 (wC @gt4 (wC @gt5 (wC @gt6 (wC @gt7 (wC @gt8 (wC @gt9 (wC @gt10 (wC @gt11 (wC @gt12 (wC @gt13 (wC @gt14 (wC @gt15 (wC @gt16 (wC @gt17 (wC @gt18 (wC @gt19 (wC @st0 (wC @st1 (wC @st2 (@st3)))))))))))))))))))))))
noncomputable def rm:=wC @st4 (wC @st5 (wC @st6 (wC @st7 (wC @st8 (wC @st9 (wC @st10 (wC @st11 (wC @st12 (wC @st13 (wC @st14 (wC @st15 (wC @st16 (wC @st17 (wC @st18 (wC @st19 (wC @vv0 (wC @vv1 (wC @vv2 (wC @vv3 (wC @vv4 (wC @vv5 (wC @vv6 (@vv7)))))))))))))))))))))))
noncomputable def rk:=wC @vv8 (wC @vv9 (wC @vv10 (wC @vv11 (wC @vv12 (wC @vv13 (wC @vv14 (wC @vv15 (wC @vv16 (wC @vv17 (wC @vv18 (wC @vv19 (wC @vk0 (wC @vk1 (wC @vk2 (wC @vk3 (wC @vk4 (wC @vk5 (wC @vk6 (wC @vk7 (wC @vk8 (@vk9)))))))))))))))))))))
section
variable{α β:Type}
end
noncomputable def vz(c:Addr)(a l t:Int):HO:=.lst [.ref c,.int a,.int l,.int t]
theorem bP{K:W.Frag}{xs:List V}{k:Int}{Q:VK}(h:H r=some (.lst xs))(e:L2.atI xs k=some v)(q:Q v H):uS K (.ref r) (.int k) H Q:=.inl ⟨r,xs,k,v,rfl,rfl,.inl (.inl h),e,q⟩
theorem g9{xs:List V}{k:Int}{Q:Hp->Prop}(h:H r=some (.lst xs))(e:ixN xs.length k=some j)(q:Q (upd H r (.lst (xs.set j v)))):oo (.ref r) (.int k) v H Q:=⟨r,xs,k,j,rfl,rfl,h,e,q⟩
theorem dY{k:Int}(h0:0<=k)(h1:k.toNat<ns.length):L2.atI (ns.map V.int) k=some (.int ns[k.toNat]):=by
 obtain⟨n,rfl⟩:=yN h0;have h1:n<ns.length:=h1;exact fT (by rw[xM,wX h1];rfl)
theorem u_{b:Bool}{A B:Prop}(h:b=true)(a:A):if b=true then A else B:=by rw[if_pos h];exact a
theorem vb{b:Bool}{A B:Prop}(h:b=false)(x:B):if b=true then A else B:=by rw[if_neg (by rw[h];decide)];exact x
theorem p_{l:Int}(h:l≠0):decide (V.int l=V.int 0)=false:=decide_eq_false fun z=>h (by injection z)
theorem Grow.turn{o:HO}(s:aS F H)(ra:vU (some r) F H)(h:RO F o):Grow (some r) F H F (upd H r o):=by
 have fr:F r=none:=(ra r rfl).1;have neF:∀b u,F b=some u->b≠r:=fun b u q z=>by subst z;rw[fr]at q;cases q
 refine⟨fun b u q n=>by rw[upd_ne (fun z=>n (by rw[z]))];exact q,.refl F,fun b u q=>by rw[upd_ne (neF b u q)];exact s b u q,fun _ _ _=>rfl,fun y z=>?_⟩;cases z;exact⟨fr,⟨o,ak,h⟩⟩
section
variable{P:wZ}{w:xx}{K:W.Frag}{mg:Str->Option wF}{base:Heap}{rl:Option Addr}{x:Str}{st:Stmt}{N ps:List Str}{k:Nat}{Pd:List W->(wD->Prop)->Prop}
theorem Dfn.hand(Fn:FnIn K mg x st ps)(S:FnScope N ps (defScope st))(mono:∀ws Q Q',(∀d,Q d->Q' d)->Pd ws Q->Pd ws Q')(len:∀ws Q,Pd ws Q->ws.length=ps.length)
 (h:∀(f:Addr)(cdv:wF)(A:xB)(outer:List Env)(s:wG)(H:Hp)(E:XK) vs ws F (Q:wD->Prop) (Qv:VK),Room k (A.deeper (A7 x (defScope st) s.heap.objs.size f cdv))->aS F H->vU rl F H->cF K rl F H vs ws->Pd ws Q->(∀v F' H' d,Grow rl F H F' H'->Rep K F' v d->Q d->Qv v H') ->
  ∃T,vX (jL ww P w K mg base N x (defScope st) f cdv A outer s H E).nox (defBody st) T/\T {nx:=fun _ H'=>Qv .non H',rt:=Qv} (start N vs) H):Dfn P w K mg base rl x ps (k+1) Pd:=by
 obtain⟨f,fd,hm,F,hb⟩:=Fn.ex;refine⟨mono,f,fd,hm,F.kp,hb,?_⟩;refine F.ok S (fun vs H Q E ⟨F,ws,_,_,r,_,q⟩=>(Ac r).trans (len ws _ q)) fun cdv A outer s H vs Q E hr h=>?_;obtain⟨F,ws,sm,ra,r,ok,q⟩:=h;exact h f cdv A outer s H E vs ws F _ Q hr sm ra r q fun v F' H' d g rp qd=>qd v F' H' g rp
end
end L2.VL
namespace L2.TI
section
variable{prog:wZ}{w:xx}{A:xB}{E:wF->wG->Prop}{s:wG}{t:Addr}{vs:List wF}{ns:List Int}{k:Int}{tok:Tok}{j:Nat}
theorem dM:∀{vs:List wF}{ns:List Int}{i:Nat}{n:Int},y_ vs ns->ns[i]?=some n->∃u,vs[i]?=some (.int n u)
 | _,_,_,_,.nil,e=>by simp at e
 | _,_,0,_,.cons n t r,e=>by simp at e;subst e;exact⟨t,rfl⟩
 | _,_,i+1,_,.cons n t r,e=>by
   obtain⟨u,h⟩:=dM (i:=i) r (by simpa using e);exact⟨u,by simpa using h⟩
theorem scan{Q:Option Fin×Unit->wG->Prop}(hI:y_ vs ns)(hj:ns[j]?=some k)(hno:∀m,m<j->ns[m]?≠some k)(q:Q (some (.done (.ret (.int j s.toks))),()) {s with toks:=s.toks+1}) :
 ∀ len start:Nat,start<=j->j<start+len->xq (xH prog w) A (forIn (List.range' start len) ((none,()):Option Fin×Unit) fun(i:Nat)(_:Option Fin×Unit) =>
   match vs.toArray[i]? with
   | some y=>do
     let b <- eqBool y (BQ k tok)
     if b=true then do
      let r <- retInt (i:Int)
      pure (ForInStep.done (some r,()))
     else pure (za (none,()))
   | _=>pure (za (none,()))) Q E s
 | 0,start,h1,h2=>by omega
 | len+1,start,h1,h2=>by
   rw[List.range'_succ,Bh];have hl:start<ns.length:=by have:=(wY.mp hj).1;omega
   obtain⟨u,hu⟩:=dM (i:=start) (n:=ns[start]) hI (wX hl);have hv:vs.toArray[start]?=some (.int ns[start] u):=by simpa using hu
   refine wE ?_;rw[hv];refine wE (wpAny_eqBool_int ?_);by_cases e:ns[start]=k
   · have es:start=j:=by
       rcases Nat.lt_or_eq_of_le h1 with z|z
       · exact absurd (by rw[wX hl,e]) (hno start z)
       · exact z
     subst es;rw[if_pos (by simpa using e)];exact wE (wE (wpAny_mkInt (wI (wI (wI q)))))
   · rw[if_neg (by simpa using e)];refine wI ?_;have ne:start≠j:=fun z=>by subst z;rw[wX hl]at hj;exact e (xk hj)
     exact scan hI hj hno q len (start+1) (by omega) (by omega)
theorem body{R:Result->wG->Prop}(tp:IsTup s.heap t vs.toArray)(hI:y_ vs ns)(hj:ns[j]?=some k)(hno:∀m,m<j->ns[m]?≠some k)
 (q:R (.ok (.ret (.int j s.toks))) {s with toks:=s.toks+1}) :
 xq (xH prog w) A.in1 (Builtin.«tuple.index» ⟨[.ref t,.int k tok],[]⟩) (fun fin s'=>match fin with | .done f=>R (.ok f) s' | .again c'=>c'.quiet=true/\Al (xH prog w) A c' R s') (fun e s'=>R (.error e) s') s:=by
 unfold Builtin.«tuple.index»;show xq _ _ (do let z <- Builtin.Tuple.tupleItemsOf (.ref t);_) _ _ s;refine wE (tupleItemsOf_ tp ?_);refine wE (wI (wE (wI ?_)));dsimp only;rw[Std.Legacy.Range.forIn_eq_forIn_range']
 have hl:j<vs.toArray.size:=by
  have h1:=(wY.mp hj).1;have h2:=hI.length;simp only[wN];omega
 refine wE (scan hI hj hno ?_ _ 0 (zr _) ?_)
 · exact wI q
 · show j<0+Std.Legacy.Range.size _;simp[Std.Legacy.Range.size];simpa using hl
end
end L2.TI
namespace L2
section
variable{X:Cx}
end
end L2
namespace L2.VL
section
variable{X:Cx}{rl:Option Addr}{a b c o e:Expr}{es:List Expr}{fa fb:TV}{fs:vK}{pos p apos cpos:Pos}{ρ:En}
end
noncomputable def fr(q:Rat):wD:=.tuple [.int q.num,.int q.den]
theorem gB{r:Rat}(h:fr q=fr r):q=r:=by
 simp only[fr,xS,xa,zp,and_true]at h;exact Rat.ext h.1 (by omega)
theorem cK(n:Int)(d:Nat)(h:d≠0):mI n d=fr (A0 n d h):=by
 unfold mI fr;rw[Rat.normalize_eq];have g:(xu n d:Int)=((n.natAbs.gcd d:Nat):Int):=by simp[xu]
 have gp:0<n.natAbs.gcd d:=Nat.gcd_pos_of_pos_right _ (by omega);have e1:n.fdiv (xu n d)=n / ((n.natAbs.gcd d:Nat):Int):=by rw[g,xh _ (by omega)]
 have e2:(d:Int).fdiv (xu n d)=((d / n.natAbs.gcd d:Nat):Int):=by rw[g,xh _ (by omega),Int.natCast_ediv]
 rw[e1,e2]
theorem dJ{a:Int}(hb:0<b):mI a b=fr ((a:Rat) / (b:Rat)):=by
 obtain⟨d,rfl⟩:=yN (show 0<=b by omega);rw[cK a d (by omega)];congr 1;have:(A0 a d (by omega))=mkRat a d:=by rw[Rat.normalize_eq_mkRat]
 rw[this,Rat.mkRat_eq_div];rfl
theorem pB(q r:Rat):mI (q.num*r.den+r.num*q.den) (q.den*r.den)=fr (q+r):=by
 have:=cK (q.num*r.den+r.num*q.den) (q.den*r.den) (Nat.mul_ne_zero q.den_nz r.den_nz);rw[Int.natCast_mul]at this;rw[this,Rat.add_def]
theorem pA(q r:Rat):mI (q.num*r.num) (q.den*r.den)=fr (q*r):=by
 have:=cK (q.num*r.num) (q.den*r.den) (Nat.mul_ne_zero q.den_nz r.den_nz);rw[Int.natCast_mul]at this;rw[this,Rat.mul_def]
theorem qU(q r:Rat):decide (q.num*r.den<r.num*q.den)=decide (q<r):=by
 rw[decide_eq_decide];exact(Rat.lt_iff q r).symm
noncomputable def uV(n:Nat)(q:Rat):Prop:=q.num.natAbs<2^n/\q.den<2^n
theorem uV.mono(h:uV n q)(hm:n<=m):uV m q:=⟨wK h.1 (xj (by decide) hm),wK h.2 (xj (by decide) hm)⟩
theorem jD{i:Int}(h:i.natAbs<2^2000):wz i:=wK h (xj (by decide) (by decide))
theorem uV.bn(h:uV 2000 q):wz q.num:=jD h.1
theorem uV.bd(h:uV 2000 q):wz (q.den:Int):=jD (by rw[yl];exact h.2)
theorem den_pos(q r:Rat):(0:Int)<(q.den:Int)*(r.den:Int):=A1 (by have:=q.den_nz;omega) (by have:=r.den_nz;omega)
theorem eZ{r:Rat}(h:uV 2000 q)(h':uV 2000 r):((q.den:Int)*(r.den:Int)).natAbs<2^8000:=by
 rw[AI,yl,yl];have:q.den*r.den<2^2000*2^2000:=Nat.mul_lt_mul'' h.2 h'.2;rw[<- Nat.pow_add]at this;exact wK this (xj (by decide) (by decide))
inductive Sd where
 | to (t:Rat)|from(a b:Rat)|round (a b:Rat)
noncomputable def Sd.last:Sd->Rat
 | .to t=>t | .from _ b=>b | .round _ b=>b
noncomputable def uQ:Sd->wD
 | .to t=>.tuple [.str "to", fr t]
 | .from a b=>.tuple [.str "from", fr a,fr b]
 | .round a b=>.tuple [.str "round", fr a,fr b]
noncomputable def mx(q r:Rat):Rat:=if q<r then r else q
noncomputable def mn(q r:Rat):Rat:=if q<r then q else r
theorem fr0:pr 0 1=fr 0:=rfl
theorem fr1:pr 1 1=fr 1:=rfl
theorem tU:uV 60 1:=⟨by decide,by decide⟩
theorem fL{n:Int}{d:Nat}(hd:d≠0)(h1:n.natAbs<2^k)(h2:d<2^k):uV k (A0 n d hd):=by
 rw[Rat.normalize_eq];refine⟨?_,AC (Nat.div_le_self _ _) h2⟩;show(n / ((n.natAbs.gcd d:Nat):Int)).natAbs<2^k;have hdv:((n.natAbs.gcd d:Nat):Int)∣n:=Int.ofNat_dvd_left.mpr (Nat.gcd_dvd_left _ _);rw[Int.natAbs_ediv_of_dvd hdv,yl];exact AC (Nat.div_le_self _ _) h1
theorem bu{a b:Nat}(h1:a<2^m)(h2:b<2^n):a*b<2^(m+n):=by
 rw[Nat.pow_add];exact Nat.mul_lt_mul'' h1 h2
theorem oQ{r:Rat}(h:uV m q)(h':uV n r):uV (m+n) (q*r):=by
 rw[Rat.mul_def];refine fL _ ?_ (bu h.2 h'.2);rw[AI];exact bu h.1 h'.1
theorem pI{r:Rat}(h:uV m q)(h':uV n r):uV (m+n+1) (q+r):=by
 rw[Rat.add_def];have a1:=bu h.1 h'.2;have a2:=bu h'.1 h.2;rw[Nat.add_comm n m]at a2;have a3:=bu h.2 h'.2;refine fL _ ?_ (wK a3 (xj (by decide) (by omega)));have t:=Int.natAbs_add_le (q.num*r.den) (r.num*q.den);rw[AI,AI,yl,yl]at t;rw[zy];omega
theorem uV.up(h:uV 60 q):uV 2000 q:=h.mono (by decide)
noncomputable def ln(ss:List Sd):wD:=.tuple (ss.map uQ)
noncomputable def uX(qs:List Rat):wD:=.tuple (qs.map fr)
noncomputable def l6(ps:List (List Rat)):wD:=.tuple (ps.map uX)
theorem at_last2{α:Type}(x y:α):L2.atI [x,y] (-1)=some y:=rfl
theorem at_last3{α:Type}(x y z:α):L2.atI [x,y,z] (-1)=some z:=rfl
theorem jp{α:Type}(p:α->Bool)(f:α->wD):∀xs:List α,(xs.filterMap fun x=>if p x=true then some (f x)else none).length=(xs.filter p).length
 | []=>rfl
 | x::xs=>by
   have ih:=jp p f xs;cases h:p x<;>simp[h,ih]
theorem at_last1{α:Type}(x:α):L2.atI [x] (-1)=some x:=rfl
theorem gC{r:Rat}:fr q=fr r↔q=r:=⟨gB,fun h=>by rw[h]⟩
theorem cB{s t:Sd}:uQ s=uQ t↔s=t:=by
 constructor
 · intro h;have n1:¬(zW "from" = zW "round"):=by decide +kernel
   cases s<;>cases t<;>simp[uQ,gC,n1,BG n1]at h ⊢ <;> first|exact h|exact(n1 h.1.symm).elim|exact(n1 h.1).elim
 · rintro rfl;rfl
theorem cC{a b:List Rat}:uX a=uX b↔a=b:=by
 unfold uX;rw[xS,bf fun _ _=>gC]
theorem bK{a b:List Sd}:ln a=ln b↔a=b:=by
 unfold ln;rw[xS,bf fun _ _=>cB]
theorem bG{a b:List (List Rat)}:l6 a=l6 b↔a=b:=by
 unfold l6;rw[xS,bf fun _ _=>cC]
theorem cW{a b:List Rat}:a.map fr=b.map fr↔a=b:=bf fun _ _=>gC
theorem item_fr0(q:Rat):itemAt (fr q) 0=some (.int q.num):=rfl
theorem item_fr1(q:Rat):itemAt (fr q) 1=some (.int q.den):=rfl
theorem tupD_pt(a:List Rat):tupD (uX a)=some (a.map fr):=rfl
theorem seqD_pt(a:List Rat):de (uX a)=some (a.map fr):=rfl
theorem lenD_pt(a:List Rat):mK (uX a)=some a.length:=by show some (a.map fr).length=_;rw[wP]
theorem item_pt(a:List Rat)(i:Int):itemAt (uX a) i=(atI a i).map fr:=fU _ _ _
theorem tupD_bx(a:List Sd):tupD (ln a)=some (a.map uQ):=rfl
theorem seqD_bx(a:List Sd):de (ln a)=some (a.map uQ):=rfl
theorem lenD_bx(a:List Sd):mK (ln a)=some a.length:=by show some (a.map uQ).length=_;rw[wP]
theorem item_bx(a:List Sd)(i:Int):itemAt (ln a) i=(atI a i).map uQ:=fU _ _ _
theorem tupD_ps(a:List (List Rat)):tupD (l6 a)=some (a.map uX):=rfl
theorem seqD_ps(a:List (List Rat)):de (l6 a)=some (a.map uX):=rfl
theorem lenD_ps(a:List (List Rat)):mK (l6 a)=some a.length:=by show some (a.map uX).length=_;rw[wP]
theorem item_ps(a:List (List Rat))(i:Int):itemAt (l6 a) i=(atI a i).map uX:=fU _ _ _
theorem kind_pt(a:List Rat):cq (uX a)=cq (.tuple []):=rfl
theorem kind_bx(a:List Sd):cq (ln a)=cq (.tuple []):=rfl
noncomputable def qd(a b:Int):Rat:=(a:Rat) / (b:Rat)
theorem eU{a:Int}(hb:0<b):B3 [.int (a.fdiv (xu a b)),.int (b.fdiv (xu a b))]=fr (qd a b):=dJ hb
theorem iM(q:Rat):qd q.num q.den=q:=by
 unfold qd;have:=Rat.mkRat_self q;rw[Rat.mkRat_eq_div]at this;exact this
theorem ox(q r:Rat):qd (q.num*r.den+r.num*q.den) (q.den*r.den)=q+r:=gB (by rw[<- pB];exact(dJ (den_pos q r)).symm)
theorem ou(q r:Rat):qd (q.num*r.num) (q.den*r.den)=q*r:=gB (by rw[<- pA];exact(dJ (den_pos q r)).symm)
theorem kH(q:Rat):(0:Int)<(q.den:Int):=by have:=q.den_nz;omega
theorem qz{a:Int}(hb:0<b)(h1:a.natAbs<2^k)(h2:b.natAbs<2^k):uV k (qd a b):=by
 obtain⟨d,rfl⟩:=yN (show 0<=b by omega);have hd:d≠0:=by omega
 have e:qd a d=A0 a d hd:=gB (by rw[<- cK,dJ (by omega)];rfl);rw[e];exact fL _ h1 (by simpa using h2)
theorem at2(x y z:α)(r:List α):L2.atI (x::y::z::r) 2=some z:=by
 rw[show(2:Int)=((2:Nat):Int)from rfl];exact fT rfl
theorem lX{a:Int}(hb:0<b)(h:0<=a):0<=qd a b:=by
 unfold qd;have h1:(0:Rat)<=(a:Rat):=by exact_mod_cast h
 have h2:(0:Rat)<(b:Rat):=by exact_mod_cast hb
 rw[Cf];exact Rat.mul_nonneg h1 (Rat.le_of_lt (Rat.inv_pos.mpr h2))
theorem iN{a:Int}(hb:0<b)(h:a<b):qd a b<1:=by
 unfold qd;have h1:(a:Rat)<(b:Rat):=by exact_mod_cast h
 have h2:(0:Rat)<(b:Rat):=by exact_mod_cast hb
 exact(Rat.div_lt_iff h2).mpr (by rw[Rat.one_mul];exact h1)
noncomputable def wB:=wC @item_fr0 (wC @item_fr1 (wC @tupD_pt (wC @seqD_pt (wC @lenD_pt (wC @item_pt (wC @tupD_bx (wC @seqD_bx (wC @lenD_bx (wC @item_bx (wC @tupD_ps (wC @seqD_ps (wC @lenD_ps (wC @item_ps (wC @at_last1 (wC @at_last2 (wC @at_last3 (wC @kind_pt (wC @kind_bx (wC @fr0 (@fr1))))))))))))))))))))
noncomputable def tv(b:Int)(ds:List Int):Int:=ds.foldl (fun t d=>t*b+d) 0
noncomputable def ix(p:List Int)(f:Int):Int:=(p.idxOf f:Int)
noncomputable def Fx(b:Int)(N:Nat)(q:Rat):Prop:=∃(T:Int)(k:Nat),q=qd T (b^k)/\0<=T/\T<b^k/\b^k<2^N
section
variable{X:Cx}{rl:Option Addr}{e:Expr}{fa:TV}{pos dpos q1 q2 q3 q4:Pos}{ρ:En}{j1 j2 j3 j4:Nat}{a b x y:Str}
end
theorem lI(q:Rat):tupD (fr q)=some [.int q.num,.int q.den]:=rfl
theorem o7(q:Rat):xu q.num q.den=1:=by
 have:=q.reduced;simpa[xu,Cg]using this
end L2.VL
namespace L2
section
variable{X:Cx}{kx vx tg iter:Expr}{ifs:List Expr}{scope:Scope}{pos:Pos}{wi:TI}{g:CompA->TG}{tt:CompA->TT}{tk te:CompA->TE}
end
section
variable{prog:wZ}{w:xx}{A:xB}{E:wF->wG->Prop}
end
section
variable{X:Cx}
end
end L2
namespace L2.VL
section
variable{K:W.Frag}{F:Hp}{us:List (wc×V)}{kvs:List (wc×wD)}
end
section
variable{X:Cx}{rl:Option Addr}{kx vx tg iter:Expr}{ifs:List Expr}{scope:Scope}{pos:Pos}{fi:En->(List wD->Prop)->Prop}{g:vN}{ft:TB}{fk fe:TV}
end
section
variable{α:Type}{b:wD->Mo (Option (wc×wD))}
end
section
variable{X:Cx}{rl:Option Addr}{a c e o i:Expr}{es:List Expr}{fa fb:TV}{fs:vK}{pos p kpos:Pos}{ρ:En}
end
end L2.VL
namespace L2
end L2
namespace L2.VL
section
variable{X:Cx}{rl:Option Addr}{tg:Expr}{fa:TV}{ρ:En}
end
end L2.VL
namespace L2
variable{X:Cx}
end L2
namespace L2.VL
section
variable{X:Cx}{rl:Option Addr}{a e:Expr}{es:List Expr}{fs:vK}{pos:Pos}
end
end L2.VL
namespace L2.KS
open PySem PySem.W PyProof.Rows
structure Ord (n:Nat) (c:Nat->Nat->Bool):Prop where
 asym:∀i j,i<n->j<n->c i j=true->c j i=false
 trans:∀i j k,i<n->j<n->k<n->c j i=false->c k j=false->c k i=false
section
variable{n:Nat}{c:Nat->Nat->Bool}
abbrev at_(p:Array Nat)(i:Nat):Nat:=p.getD i 0
noncomputable def Ok(n:Nat)(p:Array Nat):Prop:=p.toList.Perm (w_ n)
variable(O:Ord n c)
include O
end
open PySem PySem.W PyProof.Rows
section
variable{prog:wZ}{w:xx}{A:xB}{E:wF->wG->Prop}{s:wG}{κ:SortKind}
end
open PySem PySem.W PyProof.Rows
section
variable{prog:wZ}{w:xx}{A:xB}{E:wF->wG->Prop}{s:wG}
end
open PySem PySem.W PyProof.Rows
section
variable{prog:wZ}{w:xx}{A:xB}{E:wF->wG->Prop}{s:wG}
end
open PySem PySem.W PyProof.Rows
section
variable{prog:wZ}{w:xx}{A:xB}{E:wF->wG->Prop}{s:wG}
end
open PySem PySem.W PyProof.Rows
section
variable{prog:wZ}{w:xx}{A:xB}{E:wF->wG->Prop}{s:wG}
end
end L2.KS
namespace L2
open PySem PySem.Spec PyProof.Rows KS
section
variable{X:Cx}
end
end L2
namespace L2.VL
open PySem PySem.Spec PyProof.Rows KS
section
variable{X:Cx}{rl:Option Addr}{a:Expr}{fs:vK}{pos p:Pos}
abbrev vd(z:Int×Int):wD:=.tuple [.int z.1,.int z.2]
end
open PySem PySem.Spec PyProof.Rows KS
end L2.VL
namespace L2
open PySem
noncomputable def Up(xs:Array Nat):Prop:=∀i k,i<k->k<xs.size->xs.getD i 0<xs.getD k 0
theorem qN{a b:Nat}(h:i<xs.size):xs.getD i a=xs.getD i b:=by
 simp[Ag,h]
theorem dX{xs:Array Nat}(hr:Up xs)(j:Nat):∀(f lo hi:Nat),hi-lo<=f->lo<=hi->hi<=xs.size->(∀i,i<lo->xs.getD i 0<j)->(∀i,hi<=i->i<xs.size->j<=xs.getD i 0) ->
 zM xs j f lo hi<=xs.size/\(∀i,i<zM xs j f lo hi->xs.getD i 0<j)/\∀i,zM xs j f lo hi<=i->i<xs.size->j<=xs.getD i 0
 | 0,lo,hi,h1,h2,h3,h4,h5=>by
   have e:lo=hi:=by omega
   subst e
   exact⟨h3,h4,h5⟩
 | f+1,lo,hi,h1,h2,h3,h4,h5=>by
   unfold zM;by_cases c:lo<hi
   · rw[if_pos c];have hm:(lo+hi) / 2<xs.size:=by omega
     dsimp only;rw[qN (b:=0) hm];by_cases c2:xs.getD ((lo+hi) / 2) 0<j
     · rw[if_pos c2];refine dX hr j f _ hi (by omega) (by omega) h3 (fun i hi'=>?_) h5;rcases zz i ((lo+hi) / 2)with h|h
       · have:=hr i _ h hm;omega
       · have e:i=(lo+hi) / 2:=by omega
         rw[e];exact c2
     · rw[if_neg c2];refine dX hr j f lo _ (by omega) (by omega) (by omega) h4 (fun i hi' hs=>?_);rcases zz ((lo+hi) / 2) i with h|h
       · have:=hr _ i h hs;omega
       · have e:i=(lo+hi) / 2:=by omega
         rw[e];omega
   · rw[if_neg c];have e:lo=hi:=by omega
     subst e;exact⟨h3,h4,h5⟩
theorem cb(hr:Up xs)(j:Nat):wW xs j<=xs.size/\(∀i,i<wW xs j->xs.getD i 0<j)/\∀i,wW xs j<=i->i<xs.size->j<=xs.getD i 0 :=
 dX hr j _ 0 _ (by omega) (by omega) (wM _) (fun i h=>absurd h (Am _)) fun i h1 h2=>by omega
theorem hG(hr:Up xs)(hi:i<xs.size):wW xs (xs.getD i 0+1)=i+1:=by
 obtain⟨h1,h2,h3⟩:=cb hr (xs.getD i 0+1);rcases zz i (wW xs (xs.getD i 0+1))with h|h
 · rcases zz (i+1) (wW xs (xs.getD i 0+1))with h'|h'
   · have a:=h2 _ h';have b:=hr i (i+1) (by omega) (by omega);omega
   · omega
 · have:=h3 i h hi;omega
theorem hE(xs:Array Nat)(hr:Up xs):wW xs 0=0:=by
 obtain⟨h1,h2,h3⟩:=cb hr 0;rcases Nat.eq_zero_or_pos (wW xs 0)with h|h
 · exact h
 · exact absurd (h2 0 h) (Am _)
theorem gN(h:xs.toList.Pairwise (· < ·)):Up xs:=by
 intro i k ik hk;have hl:xs.toList.length=xs.size:=wJ;have:=List.pairwise_iff_getElem.mp h i k (by omega) (by omega) ik;have e:∀n,(hn:n<xs.size)->xs.getD n 0=xs.toList[n]:=fun n hn=>by simp[Ag,hn]
 rw[e i (by omega),e k hk];exact this
theorem dO(h:i<xs.toList.length):xs.getD i 0=xs.toList[i]:=by
 have h':i<xs.size:=by rw[<- wJ];exact h
 simp[Ag,h']
theorem bV(xs:Array α)(p:Nat)(x:α)(hp:p<=xs.size):(xZ xs p x).toList=xs.toList.take p++x::xs.toList.drop p:=by
 unfold xZ
 have e:(xs.extract p xs.size).toList=xs.toList.drop p:=by
  rw[Bt];simp[List.extract,yV]
 have e2:(xs.extract 0 p).toList=xs.toList.take p:=by
  rw[Bt];simp[List.extract]
 rw[Array.toList_append,AO,e,e2,zL];rfl
theorem jj(h:xs.toList.Pairwise (· < ·))(hj:j∉xs.toList):(xZ xs (wW xs j) j).toList.Pairwise (· < ·):=by
 obtain⟨h1,h2,h3⟩:=cb (gN h) j;rw[bV _ _ _ h1]
 have a:∀x∈xs.toList.take (wW xs j),x<j:=fun x mx=>by
  obtain⟨i,hi,rfl⟩:=zt mx;rw[zZ]at hi;rw[List.getElem_take,<- dO (by omega)];exact h2 i (by omega)
 have b:∀x∈xs.toList.drop (wW xs j),j<x:=fun x mx=>by
  obtain⟨i,hi,rfl⟩:=zt mx;rw[List.length_drop]at hi;have hl:xs.toList.length=xs.size:=wJ;have hx:xs.toList[wW xs j+i]∈xs.toList:=yy _;rw[List.getElem_drop];have k:=h3 (wW xs j+i) (by omega) (by omega);rw[dO (by omega)]at k;rcases Nat.lt_or_eq_of_le k with k|k
  · exact k
  · rw[<- k]at hx;exact absurd hx hj
 rw[Bu];refine⟨h.sublist (List.take_sublist _ _),AD.mpr ⟨b,h.sublist (List.drop_sublist _ _)⟩,fun x mx y my=>?_⟩;rcases xC.mp my with rfl|my
 · exact a x mx
 · have:=a x mx;have:=b y my;omega
theorem iz{t:xQ}(h:t.place.toList.Pairwise (· < ·))(hd:t.dummies = #[])(j:Nat):(j∉t.place.toList/\t.slot j = .empty)\/(j∈t.place.toList/\∃i,t.slot j = .live i):=by
 obtain⟨h1,h2,h3⟩:=cb (gN h) j;unfold xQ.slot;dsimp only;by_cases c:t.place[wW t.place j]?=some j
 · right
   refine⟨?_,_,by rw[c];simp;rfl⟩;rw[<- x4]at c;exact z_ c
 · left
   refine⟨fun m=>?_,?_⟩
   · obtain⟨i,hi,e⟩:=zt m;have hl:t.place.toList.length=t.place.size:=wJ;rcases zz i (wW t.place j)with k|k
     · have:=h2 i k;rw[dO hi,e]at this;omega
     · rcases zz (wW t.place j) i with k'|k'
       · have a:=gN h _ i k' (by omega);have b:=h3 (wW t.place j) (wM _) (by omega);rw[dO hi,e]at a;omega
       · have e2:wW t.place j=i:=by omega
         rw[e2,<- x4,wX hi,e]at c;exact c rfl
   · have b:(t.place[wW t.place j]?==some j)=false:=by simpa using c
     rw[b,hd];rfl
open PySem
noncomputable def gF:Nat->Nat->Nat
 | 0,x=>x
 | n+1,x=>gF n (5*x+1)
theorem gA:∀(m n x:Nat),gF (m+n) x=gF n (gF m x)
 | 0,n,x=>by rw[zV];rfl
 | m+1,n,x=>by rw[show m+1+n=(m+n)+1 by omega];exact gA m n (5*x+1)
theorem dk:∀(n x:Nat),gF n x=x+gF n 0*(4*x+1)
 | 0,x=>by show x=x+0*_;rw[Nat.zero_mul];rfl
 | n+1,x=>by
   show gF n (5*x+1)=x+gF n (5*0+1)*(4*x+1);rw[dk n (5*x+1),dk n (5*0+1)];generalize gF n 0=g;have e:(5*0+1+g*(4*(5*0+1)+1))=1+5*g:=by omega
   rw[e,Nat.add_mul]
   have e2:5*g*(4*x+1)=g*(4*(5*x+1)+1)-0:=by
    rw[Nat.sub_zero,AE 5 g,Nat.mul_assoc];congr 1;omega
   rw[e2];omega
theorem lg:∀n:Nat,gF n 0%2=n%2
 | 0=>rfl
 | n+1=>by
   have h:=gA n 1 0;have h2:gF 1 (gF n 0)=5*gF n 0+1:=rfl;have:=lg n;omega
theorem iY{b a:Nat}(hb:b%2=1)(h:2^k∣a*b):2^k∣a:=by
 refine Cg.dvd_of_dvd_mul_right (Cg.pow_left k ?_) h;show Nat.gcd 2 b=1;rw[Nat.gcd_rec,hb];rfl
theorem lj:∀(k d:Nat),2^k∣gF d 0->2^k∣d
 | 0,d,_=>by rw[Nat.pow_zero];exact Nat.one_dvd d
 | k+1,d,h=>by
   have p:=lg d;have h2:2∣gF d 0:=Nat.dvd_trans (by rw[zy];exact Nat.dvd_mul_left 2 _) h;obtain⟨m,rfl⟩:2∣d:=by omega
   have e:gF (2*m) 0=2*(gF m 0*(2*gF m 0+1)):=by
    rw[show 2*m=m+m by omega,gA,dk m (gF m 0)];generalize gF m 0=g;rw[Ch,Ch,Ch,Nat.mul_one,Nat.mul_left_comm g 4 g,Nat.mul_left_comm g 2 g];omega
   rw[e,zy,AE (2^k) 2]at h;have h3:=Nat.dvd_of_mul_dvd_mul_left (by decide) h;have h4:=lj k m (iY (by omega) h3);rw[zy,AE (2^k) 2];exact Nat.mul_dvd_mul_left 2 h4
theorem pp{x:Nat}(hm:m<2^k)(hn:n<2^k)(h:gF m x%2^k=gF n x%2^k):m=n:=by
 have key:∀m n,m<=n->n<2^k->gF m x%2^k=gF n x%2^k->m=n:=by
  intro m n hmn hn h;obtain⟨d,rfl⟩:=zE hmn;rw[gA,dk d (gF m x)]at h;generalize gF m x=y at h
  have h5:2^k∣gF d 0*(4*y+1):=by
   have:=Nat.sub_mod_eq_zero_of_mod_eq h.symm;rw[Nat.add_sub_cancel_left]at this;exact Nat.dvd_of_mod_eq_zero this
  have h6:=lj k d (iY (by omega) h5);have:d=0:=Nat.eq_zero_of_dvd_of_lt h6 (by omega);omega
 rcases Nat.le_total m n with c|c
 · exact key m n c hn h
 · exact(key n m c hm h.symm).symm
theorem pq{x e:Nat}(he:e<2^k):∃n,n<2^k/\gF n x%2^k=e:=by
 by_cases h:∃n,n<2^k/\gF n x%2^k=e
 · exact h
 · exfalso
   have nd:(e::(w_ (2^k)).map fun n=>gF n x%2^k).Nodup:=by
    rw[y9];refine⟨fun m=>?_,?_⟩
    · obtain⟨n,hn,q⟩:=zb.mp m;exact h ⟨n,xL.mp hn,q⟩
    · exact AQ.mpr ((A_).imp_of_mem fun{a b} ma mb ne q=>ne (pp (xL.mp ma) (xL.mp mb) q))
   have sub:∀y∈(e::(w_ (2^k)).map fun n=>gF n x%2^k),y∈w_ (2^k):=fun y my=>by
    rcases xC.mp my with rfl|my
    · exact xL.mpr he
    · obtain⟨n,hn,rfl⟩:=zb.mp my;exact xL.mpr (BY _ (Nat.pow_pos (by decide)))
   have:=yi nd sub;rw[xf,wP]at this;omega
noncomputable def u4(mask:Nat):Nat->Nat×Nat->Nat×Nat
 | 0,p=>p
 | c+1,p=>u4 mask c (yf mask p.1 p.2)
theorem fN(mask:Nat):∀(a b:Nat)(p:Nat×Nat),u4 mask (a+b) p=u4 mask b (u4 mask a p)
 | 0,b,p=>by rw[zV];rfl
 | a+1,b,p=>by rw[show a+1+b=(a+b)+1 by omega];exact fN mask a b _
theorem i_(mask:Nat):∀(c:Nat)(p:Nat×Nat),(u4 mask c p).2=p.2 / 32^c
 | 0,p=>by rw[Nat.pow_zero,Nat.div_one];rfl
 | c+1,p=>by
   show(u4 mask c _).2=_;rw[i_ mask c];show p.2 / 32 / 32^c=_;rw[Nat.div_div_eq_div_mul,zy,AE]
theorem ja{mask k:Nat}(hk:mask+1=2^k):∀(c x:Nat),x<2^k->(u4 mask c (x,0)).1=gF c x%2^k
 | 0,x,h=>(Nat.mod_eq_of_lt h).symm
 | c+1,x,h=>by
   show(u4 mask c (yf mask x 0)).1=gF c (5*x+1)%2^k
   have e:yf mask x 0=((5*x+1)%2^k,0):=by
    show((x*5+1+0)%(mask+1),0)=_;rw[hk,AE x 5]
   rw[e,ja hk c _ (BY _ (Nat.pow_pos (by decide)))];rw[dk c ((5*x+1)%2^k),dk c (5*x+1)];generalize 5*x+1=y;generalize gF c 0=g;rw[BK,BL,BK y,BL g (4*y+1)];have e3:(4*(y%2^k)+1)%2^k=(4*y+1)%2^k:=by rw[BK,BL,Nat.mod_mod,<- BL,<- BK]
   rw[e3,Nat.mod_mod]
theorem jb{mask e:Nat}(hk:mask+1=2^k)(he:e<=mask)(p:Nat×Nat)(hp:p.2<2^64):∃c,c<mask+15/\(u4 mask c p).1=e:=by
 have z:(u4 mask 13 p).2=0:=by
  rw[i_];exact Nat.div_eq_of_lt (wK hp (by decide))
 have l:(u4 mask 13 p).1<2^k:=by
  have e:u4 mask 13 p=yf mask (u4 mask 12 p).1 (u4 mask 12 p).2:=fN mask 12 1 p;rw[e,<- hk];exact BY _ (by omega)
 obtain⟨n,hn,q⟩:=pq (k:=k) (x:=(u4 mask 13 p).1) (e:=e) (by omega);refine⟨13+n,by omega,?_⟩;rw[fN,show u4 mask 13 p=((u4 mask 13 p).1,0)from Prod.ext rfl z,ja hk n _ l];exact q
open PySem
section
variable{t:xQ}{h:Int}
theorem iH(hu:t.place.toList.Pairwise (· < ·))(hd:t.dummies = #[]):∀(m j i q fuel:Nat),
 (∃j',j'∉t.place.toList/\x5 t (fun _=>h+1) h (m+1+fuel) ⟨j,m,i,q,none⟩=some (.empty j' none)) \/
 (j∈t.place.toList/\x5 t (fun _=>h+1) h (m+1+fuel) ⟨j,m,i,q,none⟩=x5 t (fun _=>h+1) h fuel ⟨(yf t.mask i q).1,x_ t.mask (yf t.mask i q).1-(yf t.mask i q).1,(yf t.mask i q).1,(yf t.mask i q).2,none⟩)
 | m,j,i,q,fuel=>by
   have ne:(h+1==h)=false:=by simp;omega
   rcases iz hu hd j with⟨a,b⟩|⟨a,l,b⟩
   · left
     refine⟨j,a,?_⟩;rw[show m+1+fuel=(m+fuel)+1 by omega];unfold x5;dsimp only;rw[b]
   · cases m with
     | zero =>
       right
       refine⟨a,?_⟩;rw[show 0+1+fuel=fuel+1 by omega]
       conv=>lhs;unfold x5
       dsimp only;rw[b];dsimp only;rw[ne,if_neg xi];unfold xQ.advance;dsimp only
       rw[if_neg (by omega)]
     | succ m =>
       have ih:=iH hu hd m (j+1) i q fuel
       have st:x5 t (fun _=>h+1) h (m+1+1+fuel) ⟨j,m+1,i,q,none⟩=x5 t (fun _=>h+1) h (m+1+fuel) ⟨j+1,m,i,q,none⟩:=by
        rw[show m+1+1+fuel=(m+1+fuel)+1 by omega]
        conv=>lhs;unfold x5
        dsimp only;rw[b];dsimp only;rw[ne,if_neg xi];unfold xQ.advance;dsimp only;rw[if_pos (by omega)];rfl
       rw[st];rcases ih with ih|⟨_,ih⟩
       · exact .inl ih
       · exact .inr ⟨a,ih⟩
theorem eJ(mask i:Nat):x_ mask i-i<=9:=by
 unfold x_;split<;>omega
theorem gk(hu:t.place.toList.Pairwise (· < ·))(hd:t.dummies = #[]):∀(c i q fuel:Nat),10*(c+1)<=fuel->(u4 t.mask c (i,q)).1∉t.place.toList ->
 ∃j',j'∉t.place.toList/\x5 t (fun _=>h+1) h fuel ⟨i,x_ t.mask i-i,i,q,none⟩=some (.empty j' none)
 | 0,i,q,fuel,hf,hn=>by
   have hm:=eJ t.mask i;obtain⟨f,rfl⟩:=zE (show x_ t.mask i-i+1<=fuel by omega);rcases iH (h:=h) hu hd (x_ t.mask i-i) i i q f with r|⟨a,_⟩
   · exact r
   · exact absurd a hn
 | c+1,i,q,fuel,hf,hn=>by
   have hm:=eJ t.mask i;obtain⟨f,rfl⟩:=zE (show x_ t.mask i-i+1<=fuel by omega);rcases iH (h:=h) hu hd (x_ t.mask i-i) i i q f with r|⟨_,e⟩
   · exact r
   · rw[e];exact gk hu hd c _ _ f (by omega) hn
end
theorem jC(h:Int):xR h<2^64:=by unfold xR;omega
structure Gd (t:xQ) (n:Nat) (led:Bool):Prop where
 pow:∃k,3<=k/\t.mask+1=2^k
 size:t.place.size=n
 up:t.place.toList.Pairwise (· < ·)
 dum:t.dummies = #[]
 room:n*5<t.mask*3
 plain:t.plain=true
 led:t.led=led
theorem Gd.mask7{t:xQ}{led:Bool}(g:Gd t n led):7<=t.mask:=by
 obtain⟨k,k3,e⟩:=g.pow;have:2^3<=2^k:=xj (by decide) k3;omega
theorem Gd.fits{t:xQ}{led:Bool}(g:Gd t n led):t.fits n=true:=by
 have m7:=g.mask7;have r:=g.room;unfold BU A2;rw[g.dum,g.size];simp;omega
theorem kE(led:Bool):Gd (.fresh 0 0 led) 0 led:=⟨⟨3,by decide,rfl⟩,rfl,.nil,rfl,(show 0*5<7*3 by decide),rfl,rfl⟩
theorem iy{xs:List Nat}(hl:xs.length<=m):∃e,e<=m/\e∉xs:=by
 by_cases h:∃e,e<=m/\e∉xs
 · exact h
 · exfalso
   have:(w_ (m+1)).length<=xs.length:=yi A_ fun y my=>by
    by_cases c:y∈xs
    · exact c
    · exact absurd ⟨y,by have:=xL.mp my;omega,c⟩ h
   rw[yq]at this;omega
theorem Gd.free{t:xQ}{led:Bool}(g:Gd t n led)(h:Int):∃j,j∉t.place.toList/\t.freeSlot h=some (j,false):=by
 obtain⟨k,k3,ek⟩:=g.pow;have m7:=g.mask7;have r:=g.room;have hl:t.place.toList.length=n:=by rw[wJ];exact g.size
 obtain⟨e,he,ne⟩:=iy (xs:=t.place.toList) (m:=t.mask) (by omega);obtain⟨c,hc,q⟩:=jb ek he (xR h%(t.mask+1),xR h) (jC h);obtain⟨j,nj,ej⟩:=gk (h:=h) g.up g.dum c (xR h%(t.mask+1)) (xR h) (10*zP t.mask) (by unfold zP;omega) (by rw[q];exact ne);refine⟨j,nj,?_⟩;unfold xQ.freeSlot xQ.probe xQ.probeStart;dsimp only;rw[ej];rfl
open PySem
theorem Gd.lay{t:xQ}{led:Bool}(g:Gd t n led)(es:Array (Int×wF))(he:es.size=n)(h:Int)(x:wF) :
 ∃es' t',layNew t es h x=(es',t',false,false)/\t'.mask=t.mask/\t'.place.size=n+1/\t'.place.toList.Pairwise (· < ·)/\t'.dummies = #[]/\t'.plain=true/\t'.led=led:=by
 obtain⟨j,nj,ej⟩:=g.free h;have m7:=g.mask7;have r:=g.room;obtain⟨b1,_,_⟩:=cb (gN g.up) j;have up:=jj g.up nj
 have sz:(xZ t.place (wW t.place j) j).size=n+1:=by
  rw[<- wJ,bV _ _ _ b1,xg,xf,<- BV,<- xg,Bj,wJ,g.size]
 have hd:xQ.has t.dummies j=false:=by rw[g.dum];rfl
 have se:(xZ es (wW t.place j) (h,x)).size=n+1:=by
  rw[<- wJ,bV _ _ _ (by rw[he,<- g.size];exact b1),xg,xf,<- BV,<- xg,Bj,wJ,he]
 have ep:t.put j=({t with place:=xZ t.place (wW t.place j) j,dummies:=t.dummies},wW t.place j):=by
  unfold xQ.put;dsimp only;rw[hd,if_neg xi]
 have ft:({t with place:=xZ t.place (wW t.place j) j,dummies:=t.dummies}:xQ).fits (n+1)=true:=by
  unfold BU A2;dsimp only;rw[sz,g.dum];simp;omega
 refine⟨xZ es (wW t.place j) (h,x),{t with place:=xZ t.place (wW t.place j) j,dummies:=t.dummies},?_,rfl,sz,up,g.dum,g.plain,g.led⟩;unfold layNew;rw[ej];dsimp only;rw[ep];dsimp only;rw[se,ft];unfold xQ.orStandIn;rw[ft,if_pos rfl];rfl
theorem gh:∀(f k n:Nat),∃k',k<=k'/\zc n f (2^k)=2^k'
 | 0,k,n=>⟨k,wM _,rfl⟩
 | f+1,k,n=>by
   unfold zc;by_cases c:2^k<=n
   · rw[if_pos c,<- zy];obtain⟨k',a,b⟩:=gh f (k+1) n;exact⟨k',by omega,b⟩
   · rw[if_neg c];exact⟨k,wM _,rfl⟩
theorem iC:∀(f k n:Nat),n<2^(k+f)->n<zc n f (2^k)
 | 0,k,n,h=>h
 | f+1,k,n,h=>by
   unfold zc;by_cases c:2^k<=n
   · rw[if_pos c,<- zy];exact iC f (k+1) n (by rw[show k+1+f=k+(f+1) by omega];exact h)
   · rw[if_neg c];omega
theorem kO(h:n<2^60):∃k,3<=k/\xQ.sizeAbove n=2^k/\n<2^k:=by
 obtain⟨k,a,b⟩:=gh 64 3 n;have c:=iC 64 3 n (wK h (xj (by decide) (by decide)));exact⟨k,a,b,by rw[<- b];exact c⟩
theorem jo{owner:Array (Option Nat)}{mask:Nat}:∀(f c i q:Nat),c<f->((owner.getD (u4 mask c (i,q)).1 (some 0)).isNone=true)->∃j,yw mask owner f i q=some j/\(owner.getD j (some 0)).isNone=true
 | 0,c,i,q,h,_=>absurd h (Am _)
 | f+1,c,i,q,h,hn=>by
   unfold yw
   cases hf:(w_ (x_ mask i+1-i)).find? fun k=>(owner.getD (i+k) (some 0)).isNone with
   | some k =>
     have:=List.find?_some hf
     exact⟨i+k,by simp[hf],this⟩
   | none =>
     have hno:=List.find?_eq_none.mp hf
     cases c with
     | zero =>
       exfalso;refine hno 0 (xL.mpr ?_) hn;unfold x_
       split<;>omega
     | succ c =>
       obtain⟨j,a,b⟩:=jo f c (yf mask i q).1 (yf mask i q).2 (by omega) hn;exact⟨j,by simp[hf];exact a,b⟩
theorem jp{xs:List (Option Nat)}(h:(xs.filterMap id).length<xs.length):∃e,e<xs.length/\xs[e]?=some none:=by
 by_cases c:∃e,e<xs.length/\xs[e]?=some none
 · exact c
 · exfalso
   have all:∀x∈xs,∃v,x=some v:=fun x mx=>by
    obtain⟨i,hi,rfl⟩:=zt mx
    cases e:xs[i]with
    | some v=>exact⟨v,rfl⟩
    | none=>exact absurd ⟨i,hi,by rw[wX hi,e]⟩ c
   have key:∀ys:List (Option Nat),(∀x∈ys,∃v,x=some v)->(ys.filterMap id).length=ys.length:=by
    intro ys
    induction ys with
    | nil=>intro _;rfl
    | cons y ys ih =>
      intro h;obtain⟨v,rfl⟩:=h y wQ;simp[ih fun x mx=>h x (wL _ mx)]
   rw[key xs all]at h;omega
theorem lm:∀{xs:List (Option Nat)}{j v:Nat},xs[j]?=some none->((xs.set j (some v)).filterMap id).Perm (v::xs.filterMap id)
 | [],j,v,h=>by cases h
 | x::xs,0,v,h=>by
   have e:x=none:=by simpa using h
   subst e
   exact zQ _
 | x::xs,j+1,v,h=>by
   have ih:=lm (v:=v) (show xs[j]?=some none from h)
   cases x with
   | none=>exact ih
   | some y=>exact(ih.cons y).trans (Co.swap _ _ _)
theorem getD_none:(owner.getD j (some 0)).isNone=true↔owner.toList[j]?=some none:=by
 rw[x4];by_cases c:j<owner.size
 · have e:owner.getD j (some 0)=owner[j]:=by simp[Ag,c]
   rw[e,yg c];cases owner[j]<;>simp
 · have e:owner.getD j (some 0)=some 0:=by simp[Ag,c]
   rw[e,yW (by omega)];simp
structure Laid (mask k:Nat) (owner:Array (Option Nat)):Prop where
 size:owner.size=mask+1
 perm:(owner.toList.filterMap id).Perm (w_ k)
theorem ki{mask K:Nat}(h:Laid mask k owner)(hK:mask+1=2^K)(hk:k<=mask)(x:Int) :
 ∃j,yw mask owner (zP mask) (xR x%(mask+1)) (xR x)=some j/\Laid mask (k+1) (owner.setIfInBounds j (some k)):=by
 have hl:owner.toList.length=mask+1:=by rw[wJ];exact h.size
 obtain⟨e,he,ee⟩:=jp (xs:=owner.toList) (by rw[h.perm.length_eq,yq];omega);obtain⟨c,hc,q⟩:=jb hK (show e<=mask by omega) (xR x%(mask+1),xR x) (jC x);obtain⟨j,a,b⟩:=jo (owner:=owner) (mask:=mask) (zP mask) c (xR x%(mask+1)) (xR x) hc (by rw[q];exact getD_none.mpr ee);refine⟨j,a,by rw[Array.size_setIfInBounds];exact h.size,?_⟩;have hj:=getD_none.mp b;rw[Array.toList_setIfInBounds,An];exact(lm hj).trans ((h.perm.cons k).trans (List.perm_append_comm (l₁:=[k]) (l₂:=w_ k)))
theorem jf{mask K:Nat}(hK:mask+1=2^K):∀(hs:List Int)(k:Nat)(owner:Array (Option Nat)),Laid mask k owner->k+hs.length<=mask ->
 ∃ owner',(hs.foldl (init:=some (owner,k)) fun acc h=>do
   let (owner,k) <- acc
   let j <- yw mask owner (zP mask) (xR h%(mask+1)) (xR h)
   pure (owner.setIfInBounds j (some k),k+1))=some (owner',k+hs.length)/\Laid mask (k+hs.length) owner'
 | [],k,owner,h,_=>⟨owner,rfl,h⟩
 | x::hs,k,owner,h,hl=>by
   rw[xf]at hl;obtain⟨j,a,b⟩:=ki h hK (by omega) x;obtain⟨o',c,d⟩:=jf hK hs (k+1) _ b (by omega);refine⟨o',?_,by rw[xf,show k+(hs.length+1)=k+1+hs.length by omega];exact d⟩;rw[List.foldl_cons,xf,show k+(hs.length+1)=k+1+hs.length by omega,<- c];congr 1;show(do let j <- yw mask owner _ _ _;pure _)=_;rw[a];rfl
theorem kK{mask K:Nat}(hK:mask+1=2^K)(hs:Array Int)(hl:hs.size<=mask):∃owner,BZ mask hs=some owner/\Laid mask hs.size owner:=by
 have h0:Laid mask 0 (Bk (mask+1) none):=⟨Array.size_replicate,by
  rw[Array.toList_replicate];have:∀n,(x6 n (none:Option Nat)).filterMap id=[]:=fun n=>by induction n<;>simp_all [BM]
  rw[this]
  exact zQ _⟩
 obtain⟨o',a,b⟩:=jf hK hs.toList 0 _ h0 (by rw[wJ];omega);rw[wJ,zV]at b;refine⟨o',?_,b⟩;unfold BZ;rw[<- Array.foldl_toList];rw[show(some (Bk (mask+1) none,0):Option (Array (Option Nat)×Nat))=some (Bk (mask+1) none,0)from rfl];refine(congrArg (Option.map (·.1)) a).trans ?_;rfl
theorem kh(h:owner.size=n):((w_ n).filterMap fun j=>(owner.getD j none).map (j,·)).map (·.2)=owner.toList.filterMap id:=by
 rw[List.map_filterMap]
 have:owner.toList=(w_ n).map fun j=>owner.getD j none:=by
  refine List.ext_getElem (by rw[wJ,wP,yq,h]) fun i h1 h2=>?_;rw[wJ]at h1;rw[List.getElem_map,List.getElem_range];simp[Ag,h1]
 conv=>rhs;rw[this]
 rw[List.filterMap_map];congr 1;funext j;simp only[Function.comp,id];cases owner.getD j none<;>rfl
theorem mJ:(((w_ n).filterMap fun j=>(owner.getD j none).map (j,·)).map (·.1)).Pairwise (· < ·):=by
 rw[AQ];refine AZ.filterMap _ (R:=(· < ·)) (fun a a' hab b hb b' hb'=>?_) List.pairwise_lt_range;obtain⟨v,_,rfl⟩:=yu.mp hb;obtain⟨v',_,rfl⟩:=yu.mp hb';exact hab
theorem pC(es:Array α):(w_ es.size).filterMap (fun i=>es[i]?)=es.toList:=by
 have e:(fun i=>es[i]?)=fun i=>es.toList[i]?:=funext fun i=>x4.symm;rw[e,<- wJ];generalize es.toList=xs
 induction xs with
 | nil=>rfl
 | cons x xs ih =>
   rw[xf,List.range_succ_eq_map,yK];simp only[List.getElem?_cons_zero,List.filterMap_map];congr 1
theorem jY{t:xQ}{led:Bool}(hd:t.dummies = #[])(hp:t.plain=true)(hl:t.led=led)(es:Array (Int×wF))(hn:es.size=n)(h1:1<=n)(h2:n<2^40) :
 ∃es' t',relayAll t es (zn n)=(es',t',false)/\Gd t' n led:=by
 have hw:zn n<2^60/\2*n<=zn n:=by unfold zn;split<;>omega
 generalize zn n=wn at hw;obtain⟨k,k3,ek,lk⟩:=kO hw.1;have k8:2^3<=2^k:=xj (by decide) k3;have hm:(2^k-1)+1=2^k:=by omega
 obtain⟨owner,a,b⟩:=kK hm (es.map (·.1)) (by rw[Array.size_map];omega);rw[Array.size_map,hn]at b;have bs:=b.size;generalize hv:(w_ (2^k-1+1)).filterMap (fun j=>(owner.getD j none).map (j,·))=live;have l2:live.map (·.2)=owner.toList.filterMap id:=by rw[<- hv];exact kh bs
 have l1:(live.map (·.1)).Pairwise (· < ·):=by rw[<- hv];exact mJ
 have ll:live.length=n:=by rw[<- wP (f:=(·.2)),l2,b.perm.length_eq,yq]
 have er:t.relaid (es.map (·.1)) wn=some ({mask:=2^k-1,place:=(live.map (·.1)).toArray,dummies:=#[],finger:=t.finger,led:=t.led,moves:=t.movedTo (2^k-1),plain:=t.plain},(live.map (·.2)).toArray):=by
  unfold xQ.relaid xQ.laid;rw[ek,a,<- hv];rfl
 have pm:(live.map (·.2)).Perm (w_ n):=by rw[l2];exact b.perm
 have es':((live.map (·.2)).toArray.filterMap (es[·]?)).size=n:=by
  rw[<- wJ,Array.toList_filterMap];have:=(pm.filterMap (fun i=>es[i]?)).length_eq;refine this.trans ?_;rw[<- hn,pC,wJ]
 have cv:coversAll (live.map (·.2)).toArray es.size=true:=by
  unfold coversAll;rw[hn];exact List.isPerm_iff.mpr pm
 refine⟨(live.map (·.2)).toArray.filterMap (es[·]?),{mask:=2^k-1,place:=(live.map (·.1)).toArray,dummies:=#[],finger:=t.finger,led:=t.led,moves:=t.movedTo (2^k-1),plain:=t.plain},?_,⟨k,k3,hm⟩,(by show(live.map (·.1)).toArray.size=n;rw[wN,wP];exact ll),l1,rfl,(by show n*5<(2^k-1)*3;omega),hp,hl⟩;unfold relayAll;rw[er];dsimp only;rw[cv,es']
 have ft:({mask:=2^k-1,place:=(live.map (·.1)).toArray,dummies:=#[],finger:=t.finger,led:=t.led,moves:=t.movedTo (2^k-1),plain:=t.plain}:xQ).fits n=true:=by
  unfold BU A2;dsimp only;rw[wN,wP,ll];simp;omega
 rw[ft];rfl
noncomputable def iv:wF->Int
 | .int n _=>n
 | _=>0
noncomputable def cD(w:xx):Bool:=!w.params.followText "set-order"
noncomputable def vA(l:List (Int×wF)):Prop:=∀e∈l,∃n t,e=(B9 n,.int n t)
structure SetI (w:xx) (h:Heap) (a:Addr) (ks:List Int) (o:Obj) (es:Array (Int×wF)) (ep:Nat) (t:xQ):Prop where
 at_:h.get? a=some o
 ex:o.ExactSet
 dat:o.data = .set es ep t
 el:vA es.toList
 ks:(es.toList.map fun e=>iv e.2).Perm ks
 gd:Gd t es.size (cD w)
 sm:es.size<4000
theorem vA.of{P:wZ}{w:xx}{l:List (Int×wF)}(h:vA l):ElemsOf (Ah P w) l:=fun e m=>by
 obtain⟨n,t,rfl⟩:=h e m;exact⟨⟨n,by simp[Ah,BC],rfl⟩,rfl⟩
section
variable{P:wZ}{w:xx}{A:xB}{E:wF->wG->Prop}{s:wG}{a:Addr}{ks:List Int}{o:Obj}{es:Array (Int×wF)}{ep:Nat}{t:xQ}
theorem SetI.len(h:SetI w s.heap a ks o es ep t):es.size=ks.length:=by rw[<- h.ks.length_eq,wP,wJ]
theorem gg{es':Array (Int×wF)}{t':xQ}(H:s.heap.get? a=some o)(ex:o.ExactSet)(hd:o.data = .set es ep t) :
 (s.heap.update a (Br es' t')).get? a=some {o with data:=.set es' (ep+1) t' }:=by
 have u:=yh (Br es' t') H (by rw[putSet_of es' t' hd];rfl);rw[putSet_of es' t' hd]at u;exact u
theorem og{k:Int}{tk:Tok}{Q:Bool->wG->Prop}(hS:SetI w s.heap a ks o es ep t)(hb:ks.length<3000)
 (h:∀h' o' es' ep' t',yJ a s.heap h'->SetI w h' a (if k∈ks then ks else ks++[k]) o' es' ep' t'->Q (!decide (k∈ks)) {s with heap:=h' }) :
 xq (xH P w) A (setAddHashed a (.int k tk) (B9 k)) Q E s:=by
 have hl:=hS.len;obtain⟨H,ex,hd,el,hk,gd,sm⟩:=id hS;have hf:=gd.fits;have E1:ElemsOf (Ah P w) es.toList:=el.of;have is1:(Ah P w).is k (.int k tk)=true:=by simp[Ah,BC]
 have mem:∀e∈es.toList,((Ah P w).is k e.2=true↔iv e.2=k):=fun e m=>by
  obtain⟨n,u,rfl⟩:=el e m;simp[Ah,BC,iv]
 unfold setAddHashed;unfold setAddHashedIn;refine yL ?_;refine wE (zN H hd hf ?_);dsimp only;rw[byScan_of rfl (by unfold scanBound;omega) E1,if_pos rfl];unfold setAddByScan;refine wE (wE (wpAny_rule (wE ?_)));refine wpAny_setScan_of (knd:=Ah P w) (k:=k) is1 H hd hf E1 ?_
 cases hr:es.toList.findIdx? (fun e=>(Ah P w).is k e.2)with
 | some j =>
   obtain⟨hj,pj,_⟩:=List.findIdx?_eq_some_iff_getElem.mp hr;have mk:k∈ks:=hk.mem_iff.mp (zb.mpr ⟨_,yy hj,(mem _ (yy hj)).mp pj⟩);have hh:=h s.heap o es ep t (yJ.refl a s.heap) (by rw[if_pos mk];exact hS);rw[decide_eq_true mk]at hh
   dsimp only;exact wI (wI hh)
 | none =>
   have mk:k∉ks:=fun m=>by
    obtain⟨e,me,q⟩:=zb.mp (hk.mem_iff.mpr m);have:=List.findIdx?_eq_none_iff.mp hr e me;rw[(mem e me).mpr q]at this;cases this
   obtain⟨e1,t1,eL,m1,z1,u1,d1,p1,l1⟩:=gd.lay es rfl (B9 k) (.int k tk);have pm:=layNew_perm t es (B9 k) (.int k tk);rw[eL,AO]at pm;have pm:e1.toList.Perm (es.toList++[(B9 k,.int k tk)]):=pm;have s1:e1.size=es.size+1:=by rw[<- wJ,pm.length_eq,xg,wJ];rfl
   have el1:vA e1.toList:=fun e m=>by
    rcases yr.mp (pm.mem_iff.mp m)with m|m
    · exact el e m
    · exact⟨k,tk,yZ.mp m⟩
   have k1:(e1.toList.map fun e=>iv e.2).Perm (ks++[k]):=by
    refine(pm.map _).trans ?_;rw[zF];exact hk.append_right _
   have zl:e1.size<=sizeLine:=by rw[Cb];omega
   have g1:=gg (es':=e1) (t':=t1) H ex hd;have sb:=xW s.heap a (Br e1 t1);dsimp only;rw[eL];dsimp only;refine wE (wI ?_);rw[p1,if_pos rfl];refine wE ?_;rw[show hashByValue 8 (.int k tk)=pure true from rfl];refine wI ?_;rw[if_pos rfl];refine wE (wpAny_storeSet_of H hd ?_ zl)
   cases hT:t1.tooFull with
   | false =>
     rw[show(!false&&false)=false from rfl,if_neg xi];refine wI (wI ?_);have m7:=gd.mask7
     have room:(es.size+1)*5<t1.mask*3:=by
      unfold xQ.tooFull A2 at hT;rw[z1,d1]at hT;have:=of_decide_eq_false hT;simp at this;omega
     have hh:=h _ _ _ _ _ sb (by rw[if_neg mk];exact⟨g1,ex,rfl,el1,k1,⟨by rw[m1];exact gd.pow,by rw[s1];exact z1,u1,d1,by rw[s1];exact room,p1,l1⟩,by omega⟩);rw[decide_eq_false mk]at hh
     exact hh
   | true =>
     rw[show(!false&&true)=true from rfl,if_pos rfl];obtain⟨e2,t2,eR,gd2⟩:=jY d1 p1 l1 e1 rfl (by omega) (by omega);have pr:=relayAll_perm t1 e1 (zn e1.size);rw[eR]at pr;have pr:e2.toList.Perm e1.toList:=pr;have s2:e2.size=e1.size:=by rw[<- wJ,pr.length_eq,wJ]
     rw[eR];dsimp only;refine wE (wI ?_);refine wE (wpAny_storeSet_of g1 rfl ?_ (by rw[s2];exact zl));refine wI (wI ?_);have g2:=gg (s:={s with heap:=s.heap.update a (Br e1 t1)}) (es':=e2) (t':=t2) g1 ex rfl;have hh:=h _ _ _ _ _ (sb.trans (xW _ a (Br e2 t2))) (by rw[if_neg mk];exact⟨g2,ex,rfl,fun e m=>el1 e (pr.mem_iff.mp m),(pr.map _).trans k1,by rw[s2];exact gd2,by omega⟩);rw[decide_eq_false mk]at hh;exact hh
end
noncomputable def met:List Int->List Int->List Int
 | ks,[]=>ks
 | ks,n::ns=>met (if n∈ks then ks else ks++[n]) ns
theorem i6:∀(ns ks:List Int),(met ks ns).length<=ks.length+ns.length
 | [],ks=>wM _
 | n::ns,ks=>by
   have:=i6 ns (if n∈ks then ks else ks++[n]);have e:(if n∈ks then ks else ks++[n]).length<=ks.length+1:=by split<;>simp
   show(met _ ns).length<=ks.length+(ns.length+1);omega
theorem i5{x:Int}:∀(ns ks:List Int),x∈met ks ns↔x∈ks\/x∈ns
 | [],ks=>by simp[met]
 | n::ns,ks=>by
   show x∈met _ ns↔_;rw[i5 ns,xC];by_cases c:n∈ks
   · rw[if_pos c];constructor
     · rintro(h|h)
       · exact .inl h
       · exact .inr (.inr h)
     · rintro(h|rfl|h)
       · exact .inl h
       · exact .inl c
       · exact .inr h
   · rw[if_neg c,yr,yZ,or_assoc]
theorem k_:∀(ns ks:List Int),ks.Nodup->(met ks ns).Nodup
 | [],ks,h=>h
 | n::ns,ks,h=>by
   refine k_ ns _ ?_;by_cases c:n∈ks
   · rw[if_pos c];exact h
   · rw[if_neg c];refine List.nodup_append.mpr ⟨h,y9.mpr ⟨z6,List.nodup_nil⟩,fun a ma b mb e=>?_⟩;rw[yZ.mp mb]at e;exact c (e▸ma)
section
variable{P:wZ}{w:xx}{A:xB}{R:Result->wG->Prop}{I S:Addr}{fp wr:List Addr}{n:Nat}{Pv:Nat->wF->Prop}{St:Nat->Heap->Prop}
noncomputable def hU(w:xx)(h:Heap)(a:Addr)(ks:List Int):Prop:=∃o es ep t,SetI w h a ks o es ep t
theorem hU.keep{h':Heap}{ks:List Int}(x:hU w h a ks)(k:∀o,h.get? a=some o->h'.get? a=some o):hU w h' a ks :=
 let ⟨o,es,ep,t,H⟩:=x;⟨o,es,ep,t,{H with at_:=k o H.at_}⟩
theorem lO(W:Walks P w A.in1 I fp wr n Pv St)(hS:S∉fp)(ns:List Int)(hn:ns.length=n)(hv:∀i v,Pv i v->∃t,v = .int (ns.getD i 0) t)(hb:n<2000) :
 ∀ (k i:Nat)(s:wG)(ks:List Int),n-i=k->i<=n->St i s.heap->ks.length<=i->hU w s.heap S ks ->
   (∀s':wG,s'.gens=s.gens->s'.drawn=s.drawn->s'.os=s.os->(∀b o,b∉S::wr->s.heap.get? b=some o->s'.heap.get? b=some o)->hU w s'.heap S (met ks (ns.drop i))->R (.ok (.ret .none)) s') ->
   Al (xH P w) A (.builtin "set.update.loop" ⟨[.ref S,.ref I],[]⟩) R s:=by
 have hw:S∉wr:=fun h=>hS (W.sub _ h);intro k
 induction k with
 | zero =>
   intro i s ks hk hi st lk hs hR;have e:i=n:=by omega
   subst e;refine Ao F.entry_set_update_loop ?_;rw[Ab F.plain_set_update_loop _];show xq _ A.in1 (A6 (.ref I) >>= _) _ _ s;refine wE (W.done s _ _ st fun h' tk hk'=>?_);show xq _ A.in1 (ret zv) _ _ _;refine wI (hR {s with heap:=h',toks:=tk} rfl rfl rfl (fun b o hb e=>hk' b o (fun m=>hb (wL _ m)) e) ?_);rw[List.drop_of_length_le (by omega)]
   exact hs.keep fun o e=>hk' S o hw e
 | succ k ih =>
   intro i s ks hk hi st lk hs hR;have lt:i<n:=by omega
   refine Ao F.entry_set_update_loop ?_;rw[Ab F.plain_set_update_loop _];show xq _ A.in1 (A6 (.ref I) >>= _) _ _ s;refine wE (W.item i s _ _ lt st fun v h' tk pv st' hk'=>?_);obtain⟨t,rfl⟩:=hv i v pv
   have ed:ns.drop i=ns.getD i 0::ns.drop (i+1):=by
    rw[zm (by omega)];congr 1;rw[List.getD_eq_getElem?_getD,wX (by omega)];rfl
   generalize ns.getD i 0=x at ed;have hs':hU w h' S ks:=hs.keep fun o e=>hk' S o hw e;obtain⟨o,es,ep,tb,hI⟩:=hs';show xq _ A.in1 (B_ [BQ x t] (setAdd S (.int x t)) >>= _) _ _ _;refine wE (yL ?_);unfold setAdd;refine yL ?_;refine wE ((Ah P w).pyHash (k:=x) (intKind_is _ _ _ _) ?_);refine og (s:={s with heap:=h',toks:=tk+1}) hI (by omega) fun h2 o2 es2 ep2 t2 sb hI2=>?_
   refine wI ⟨plainId_quiet F.plain_set_update_loop _,ih (i+1) _ _ (by omega) lt (W.frame _ _ _ st' fun b hb o e=>?_) (by
    split
    · omega
    · rw[xg,zT];omega) ⟨o2,es2,ep2,t2,hI2⟩ fun s' a b c d e=>hR s' a b c (fun b' o' hb' e'=>d b' o' hb' ?_) ?_⟩
   · rw[sb.2 b fun h:b=S=>hS (h▸hb)];exact e
   · show h2.get? b'=some o';rw[sb.2 b' fun h:b'=S=>hb' (h▸wQ)];exact hk' b' o' (fun m=>hb' (wL _ m)) e'
   · rw[ed];exact e
end
section
variable{P:wZ}{w:xx}{A:xB}{E:wF->wG->Prop}{s:wG}
theorem kd(a:wF){Q:wF->wG->Prop}
 (h:Q (.ref s.heap.objs.size) {s with heap:=s.heap.push {cls:=.type "set", dict:=none,data:=.set #[] 0 (.fresh 0 0 (cD w))}}) :
 Al (xH P w) A (.call (.builtin "set.__new__") ⟨[.type "set", a],[]⟩) (wants Q E) s:=by
 refine codeAny_of_tree ?_
 show xq _ A.in1 (do
  checkBuiltinCall "set.__new__" ⟨[.type "set", a],[]⟩
  again (.builtin "set.__new__" ⟨[.type "set", a],[]⟩)) _ _ s
 refine wE (zd (F.newCall_set_1 a) (wI ⟨plainId_quiet F.plain_set_new _,Ao F.entry_set_new ?_⟩));rw[Ab F.plain_set_new _];unfold Builtin.«set.__new__»;unfold Builtin.Frozenset.newClass;have sub:=sub_set_self;obtain⟨hp,g,d,tk,os⟩:=s;dsimp only
 wp_walk
 refine zq (wI ?_);dsimp only;simp only[newObj];exact wE (wpAny_alloc (wI (wI h)))
theorem mT:hU w (h.push {cls:=.type "set", dict:=none,data:=.set #[] 0 (.fresh 0 0 (cD w))}) h.objs.size [] :=
 ⟨_,#[],0,_,wS _ rfl,⟨rfl,rfl,rfl⟩,rfl,fun e m=>(by cases m),zQ _,kE _,by decide⟩
theorem jz{l:Addr}{vs:List wF}{Q:wF->wG->Prop}(hh:A.handled=none)(hl:s.heap.IsList l vs.toArray)(hi:y_ vs ns)(hb:ns.length<2000)
 (h:∀h' tk,hU w h' s.heap.objs.size (met [] ns)->(∀b o,s.heap.get? b=some o->h'.get? b=some o)->Q (.ref s.heap.objs.size) {s with heap:=h',toks:=tk}) :
 xq (xH P w) A (call (.type "set") [.ref l]) Q E s:=by
 obtain⟨c,tl,mro⟩:=F.called_set.mro;have made:=F.called_set.made;have sub:=F.called_set.sub;have lvs:vs.length=ns.length:=y_.length hi;refine wpAny_call (codeAny_of_tree ?_);show xq _ _ (callAny (.type "set") _) _ _ _;refine wI ⟨Code.quiet_builtin _ (by decide +kernel),Ao F.entry_type_call ?_⟩;rw[xB.under_plain (weight_type_call_type "set" [.ref l] []) rfl];have h1:=F.called_set.notType;have h2:=F.called_set.canCreate;have ct:=F.typeCall_set_1 (.ref l)
 repeat (any_goals (first|assumption|wp_step))
 refine zS (kd (.ref l) (E:=E) (Q:=fun obj s1=>obj = .ref s.heap.objs.size/\s1={s with heap:=s.heap.push {cls:=.type "set", dict:=none,data:=.set #[] 0 (.fresh 0 0 (cD w))}}) ⟨rfl,rfl⟩) fun r s1 hr=>?_
 cases r with
 | error e=>exact hr
 | ok fl =>
   cases fl with
   | ret obj =>
     obtain⟨rfl,rfl⟩:=hr;have HS:=mT (w:=w) (h:=s.heap);have gS:(s.heap.push {cls:=.type "set", dict:=none,data:=.set #[] 0 (.fresh 0 0 (cD w))}).get? s.heap.objs.size=some {cls:=.type "set", dict:=none,data:=.set #[] 0 (.fresh 0 0 (cD w))}:=wS _ rfl;have ty:wG.TypeIs {s with heap:=s.heap.push {cls:=.type "set", dict:=none,data:=.set #[] 0 (.fresh 0 0 (cD w))}} (.ref s.heap.objs.size) "set" := ⟨_,gS,rfl⟩;have li:=F.called_set.init.lookup;have bi:=F.called_set.init.bind (.ref s.heap.objs.size)
     repeat (any_goals (first|assumption|wp_step))
     refine zS (codeAny_call_builtin (R:=wants (fun r s2=>r = .none/\∃h' tk,s2={s with heap:=h',toks:=tk}/\hU w h' s.heap.objs.size (met [] ns)/\(∀b o,s.heap.get? b=some o->h'.get? b=some o)) E)
      F.called_set.init.plain F.entry_set_init (check_set_init_1 ty ?_)) fun r2 s2 hr2=>?_
     · have hl1:(s.heap.push {cls:=.type "set", dict:=none,data:=.set #[] 0 (.fresh 0 0 (cD w))}).IsList l vs.toArray:=hl.push _;obtain⟨ol,gol,cl,nl,dl⟩:=hl;have tl1:wG.TypeIs {s with heap:=s.heap.push {cls:=.type "set", dict:=none,data:=.set #[] 0 (.fresh 0 0 (cD w))}} (.ref l) "list" := ⟨ol,wH _ gol,cl⟩;have ls:=F.sub_list_set;have lf:=F.sub_list_frozenset;have ne:(wF.type "list" == wF.type "dict")=false:=by decide
       have llt:l<s.heap.objs.size:=wO gol;unfold Builtin.«set.__init__»;unfold noKeywords;unfold Builtin.Frozenset.updateFrom;generalize hPI:pyIter=PI
       wp_walk
       subst hPI;refine AL hl1 ?_;refine wE (wpAny_runValue ?_);have h3:A.in1.in1.in1.handled=none:=by simp[hh]
       have nI:l≠(s.heap.push {cls:=.type "set", dict:=none,data:=.set #[] 0 (.fresh 0 0 (cD w))}).objs.size:=by
        rw[yU];exact xA (Nat.lt_succ_of_lt llt)
       have nS:s.heap.objs.size∉[(s.heap.push {cls:=.type "set", dict:=none,data:=.set #[] 0 (.fresh 0 0 (cD w))}).objs.size,l]:=by
        rw[yU];simp only[xC,z6,or_false,not_or];exact⟨xA (A8 _),Be llt⟩
       have ev:∀(i:Nat)(v:wF),vs.toArray[i]?=some v->∃t,v = .int (ns.getD i 0) t:=fun i v hv=>y_.int_at hi i v (by rw[<- x4]at hv;exact hv)
       refine lO (Walks.list h3 _ l nI vs.toArray) nS ns (by rw[wN];exact lvs.symm) ev (by rw[wN];omega) _ 0 _ [] rfl (zr _)
        ⟨⟨_,wS _ rfl,rfl,rfl⟩,(hl1.push _)⟩ (wM _) (HS.keep fun o e=>wH _ e) fun s' a b c d e=>?_
       obtain⟨h',g',d',tk',os'⟩:=s';have a:g'=s.gens:=a;have b:d'=s.drawn:=b;have c:os'=s.os:=c;subst a;subst b;subst c;show xq _ _ _ _ _ _;refine wI ?_;show xq _ _ (ret zv) _ _ _;refine wI ⟨rfl,h',tk',rfl,e,fun b o hb=>?_⟩;have lb:=wO hb;refine d b o (fun m=>?_) (wH _ (wH _ hb));rw[yU]at m;simp only[xC,z6,or_false]at m;rcases m with rfl|rfl
       · exact ye _ lb
       · exact absurd lb (Nat.not_lt.mpr (Nat.le_succ _))
     · cases r2 with
       | error e=>exact hr2
       | ok fl2 =>
         cases fl2 with
         | ret r =>
           obtain⟨rfl,h',tk,rfl,hS',hk'⟩:=hr2
           repeat (any_goals (first|assumption|wp_step))
           exact h _ _ hS' hk'
         | _=>exact hr2.elim
   | _=>exact hr.elim
end
theorem bo:Slot "set_iterator" "__next__" "set_iterator.__next__" :=
 .of (owner := "set_iterator") (n := "__next__") (by rw[ze,yj];kernel_rfl) (by decide +kernel) (by decide +kernel) (by decide +kernel) (.inl (by decide +kernel)) (by rw[yC];kernel_rfl)
theorem b_:B8 table "set_iterator.__next__" = some Builtin.«set_iterator.__next__»:=entryFor_of_tree (by kernel_rfl)
set_option maxRecDepth 1000000 in
theorem eX:B8 table "set.__iter__" = some Builtin.«frozenset.__iter__»:=By (id' := "frozenset.__iter__") (by kernel_rfl) rfl (by decide +kernel) (by kernel_rfl)
theorem cx:Slot "set_iterator" "__iter__" "set_iterator.__iter__" :=
 .of (owner := "set_iterator") (n := "__iter__") (by rw[ze,yj];kernel_rfl) (by decide +kernel) (by decide +kernel) (by decide +kernel) (.inl (by decide +kernel)) (by rw[yC];kernel_rfl)
theorem k7:Manifest.owners.lookup (String.ofList ['r','o','t','a','r','e','t','i','_','t','e','s'].reverse)=some Manifest.sig_set_iterator:=by kernel_rfl
theorem cA(a:wF):Ci "set_iterator.__next__" ⟨[a],[]⟩:=by
 unfold Ci;rw[A3 (id := "set_iterator.__next__") (n:=['_','_','t','x','e','n','_','_']) (o:=['r','o','t','a','r','e','t','i','_','t','e','s']) (by kernel_rfl) k7];kernel_rfl
theorem fA(a:wF):Ci "set_iterator.__iter__" ⟨[a],[]⟩:=by
 unfold Ci;rw[A3 (id := "set_iterator.__iter__") (n:=['_','_','r','e','t','i','_','_']) (o:=['r','o','t','a','r','e','t','i','_','t','e','s']) (by kernel_rfl) k7];kernel_rfl
theorem dR:B8 table "set_iterator.__iter__" = some Builtin.«dict_keyiterator.__iter__»:=By (id' := "dict_keyiterator.__iter__") (by kernel_rfl) rfl (by decide +kernel) (by kernel_rfl)
noncomputable def pK(h:Heap)(it a:Addr)(slot i n ep:Nat):Prop:=∃o,h.get? it=some o/\o.cls = .type "set_iterator" /\ o.data = .fields #[.int slot 0,.int i 0,.ref a,.int n 0,.int ep 0]
theorem pK.ty{s:wG}{it:Addr}{slot ep:Nat}(x:pK s.heap it a slot i n ep):s.TypeIs (.ref it) "set_iterator" := let ⟨o,e,c,_⟩:=x;⟨o,e,c⟩
section
variable{P:wZ}{w:xx}{A:xB}{E:wF->wG->Prop}{s:wG}{a it:Addr}{ks:List Int}{o:Obj}{es:Array (Int×wF)}{ep:Nat}{t:xQ}{i slot:Nat}
theorem SetI.ty(x:SetI w s.heap a ks o es ep t):s.TypeIs (.ref a) "set" := ⟨o,x.at_,x.ex.1⟩
theorem lP{Q:wF->wG->Prop}(x:SetI w s.heap a ks o es ep t)
 (z:Q (.ref s.heap.objs.size) {s with heap:=s.heap.push {cls:=.type "set_iterator", data:=.fields #[.int 0 0,.int 0 0,.ref a,.int es.size 0,.int ep 0]}}):xq (xH P w) A (pyIter (.ref a)) Q E s:=by
 have hf:=x.gd.fits;refine AR x.ty F.slot_set_iter (yb F.slot_set_iter x.ty eX ?_ (F.args_set_iter_1 _));unfold Builtin.«frozenset.__iter__»;unfold Builtin.Frozenset.slot0;unfold slotArgs;simp only[z5,zj,yX,↓reduceIte,bind_assoc,y8,bne_self_eq_false];unfold Builtin.Frozenset.addrOf;refine wE (wI ?_);dsimp only;refine wE (wI ?_);unfold Builtin.Frozenset.sizeOf;refine wE (wE (Ap x.at_ x.dat hf (wI ?_)));unfold setDrawn;unfold setsByText;refine wE (wE (zN x.at_ x.dat hf ?_));dsimp only;refine wE (wE (zq (wI ?_)));show xq _ _ (pure (!w.params.followText "set-order" && (!t.plain&&decide (es.size>1)))) _ _ _;rw[x.gd.plain,zj,AG,Bool.and_false];refine wI ?_;rw[if_neg xi];refine wE (wI (wE (wpAny_setEpoch_of x.at_ x.dat hf ?_)));unfold newFields;refine wE (xX (wI ⟨_,rfl, "set_iterator", _,⟨_,wS _ rfl,rfl⟩,bo.lookup,?_⟩));exact z
noncomputable def fC(w:xx)(a:Addr)(es:Array (Int×wF))(ep:Nat):Array (Int×wF):=if w.params.followText "set-order" = true then pickOrder (w.params.setOrder a ep) es else es
noncomputable def na(w:xx)(t:xQ)(slot i:Nat):Prop:=w.params.followText "set-order" = true\/wW t.place slot=i
theorem iD{Q:Option (wF×Nat)->wG->Prop}(x:SetI w s.heap a ks o es ep t)(hs:na w t slot i)
 (z:∀r:Option (wF×Nat),r.map (·.1)=((fC w a es ep)[i]?).map (·.2)->(∀v n,r=some (v,n)->na w t n (i+1))->Q r s):xq (xH P w) A (setNext a slot i ep) Q E s:=by
 have hf:=x.gd.fits;unfold setNext;unfold setsByText;refine wE (zN x.at_ x.dat hf ?_);dsimp only;refine wE (wE (zq (wI ?_)));show xq _ _ (if w.params.followText "set-order" = true then _ else _) _ _ _;by_cases c:w.params.followText "set-order" = true
 · rw[if_pos c,if_neg (by simp)];unfold setWalk;unfold setsByText;refine wE (wE (zN x.at_ x.dat hf ?_));dsimp only;refine wE (wE (zq (wI ?_)));show xq _ _ (if w.params.followText "set-order" = true then _ else _) _ _ _;rw[if_pos c];refine wE (zq (wI (wI ?_)));refine z _ ?_ fun v n _=>.inl c;unfold fC;rw[if_pos c,Option.map_map];rfl
 · rw[if_neg c];have hb:wW t.place slot=i:=hs.resolve_left c;have hl:t.led=true:=by rw[x.gd.led];unfold cD;simpa using c
   show xq _ _ (if(!t.plain&&decide (es.size>1))=true then _ else _) _ _ _;rw[x.gd.plain,zj,AG,if_neg xi];refine wE ?_;show xq _ _ (if(!t.led && !es.isEmpty)=true then _ else pure ()) _ _ _;rw[hl,zj,AG,if_neg xi];refine wI (wI ?_);rw[hb];have ho:fC w a es ep=es:=if_neg c;rcases zz i es.size with k|k
   · have kp:i<t.place.size:=by rw[x.gd.size];exact k
     rw[yg k,yg kp];refine z _ (by rw[ho,yg k];rfl) fun v n e=>.inr ?_;have e:some (es[i].2,t.place[i]+1)=some (v,n):=e;have en:n=t.place[i]+1:=(Prod.ext_iff.mp (xk e)).2.symm;rw[en,show t.place[i]=t.place.getD i 0 by simp[Ag,kp]];exact hG (gN x.gd.up) kp
   · rw[yW k];exact z none (by rw[ho,yW k];rfl) fun v n e=>(by cases e)
theorem lQ(hit:pK s.heap it a slot i n ep)(x:SetI w s.heap a ks o es ep t)(hn:n=es.size)(hs:na w t slot i){Q:Option wF->wG->Prop}{v:wF}(hv:((fC w a es ep)[i]?).map (·.2)=some v)
 (z:∀h' slot',pK h' it a slot' (i+1) n ep->na w t slot' (i+1)->yJ it s.heap h'->Q (some v) {s with heap:=h' }):xq (xH P w) A (A6 (.ref it)) Q E s:=by
 obtain⟨ob,o1,o2,o3⟩:=id hit;have hf:=x.gd.fits;unfold A6;refine wE (Ad (yO (name:=zW "__next__") hit.ty bo (yb bo hit.ty b_ ?_ (cA _))));unfold Builtin.«set_iterator.__next__»;unfold slotArgs;simp only[z5,zj,yX,↓reduceIte,bind_assoc,y8,bne_self_eq_false];refine wE (wI ?_);dsimp only;refine wE (wpAny_fieldsOf o1 o3 ?_);dsimp only;refine wE (Ap x.at_ x.dat hf ?_);rw[if_neg (by rw[hn];simp)];rw[xY,xY,xY];refine wE (iD x hs fun r hr nx=>?_);rw[hv]at hr;obtain⟨⟨v',sl⟩,rfl,e⟩:=yu.mp hr;have e:v'=v:=e;subst e;have sl':=nx _ _ rfl;dsimp only;refine wE (zo o1 o3 (by simp) ?_);have g1:=yh (yP (·.setIfInBounds 0 (z9 (sl:Int)))) o1 (zf (ya o3 _));have d1:=ya o3 (·.setIfInBounds 0 (z9 (sl:Int)));refine wE (zo (s:={s with heap:=_}) g1 d1 (by simp) ?_);have g2:=yh (yP (·.setIfInBounds 1 (z9 ((i:Int)+1)))) g1 (zf (ya d1 _));have d2:=ya d1 (·.setIfInBounds 1 (z9 ((i:Int)+1)));refine wI ⟨_,rfl,wI (z _ sl ⟨_,g2,?_,?_⟩ sl' ((xW ..).trans (xW ..)))⟩
 · rw[AS,AS];exact o2
 · rw[d2];simp[z9]
theorem lS(hh:A.handled=none)(hit:pK s.heap it a slot i n ep)(x:SetI w s.heap a ks o es ep t)(hn:n=es.size)(hs:na w t slot i){Q:Option wF->wG->Prop}(hv:(fC w a es ep)[i]?=none)
 (z:∀h',Cj it s.heap h'->Q none {s with heap:=h' }):xq (xH P w) A (A6 (.ref it)) Q E s:=by
 obtain⟨ob,o1,o2,o3⟩:=id hit;have hf:=x.gd.fits;unfold A6;refine wE (Ad (yO (name:=zW "__next__") hit.ty bo (yb bo hit.ty b_ ?_ (cA _))));unfold Builtin.«set_iterator.__next__»;unfold slotArgs;simp only[z5,zj,yX,↓reduceIte,bind_assoc,y8,bne_self_eq_false];refine wE (wI ?_);dsimp only;refine wE (wpAny_fieldsOf o1 o3 ?_);dsimp only;refine wE (Ap x.at_ x.dat hf ?_);rw[if_neg (by rw[hn];simp)];rw[xY,xY,xY];refine wE (iD x hs fun r hr nx=>?_);rw[hv]at hr
 cases r with
 | some y=>cases hr
 | none =>
   dsimp only;refine wE (zo o1 o3 (by simp) ?_);show xq _ _ (newExc (.type "StopIteration") [] >>= _) _ _ _;refine wE ?_;simp only[newExc,newTuple];refine wE (xX (wE (m:=AJ _ _) (zd (a:=zv) (by first|rfl|(simp only[AJ];rfl)) (xX ?_ (by size_fits)))) (by size_fits));simp only[raiseNew];refine wE (wpAny_handled ?_);rw[show A.in1.handled=none from hh];refine wE (wI (wpAny_throw ?_));refine wE (z7 (T := "StopIteration") (b:=true) ⟨_,wS _ rfl,rfl⟩ isSubtype_stop ?_);exact wI (z _ (((xW ..).extBut.push _).push _))
theorem iV:(fC w a es ep).size=es.size/\(fC w a es ep).toList.Perm es.toList:=by
 have key:∀(f k:Nat)(next:Nat->Nat)(l:List (Int×wF))(out:Array (Int×wF)),l.length=f->(B4 next f k l out).toList.Perm (out.toList++l):=by
  intro f
  induction f with
  | zero =>
    intro k next l out e
    have:l=[]:=List.length_eq_zero_iff.mp e;subst this;unfold B4
    rw[yF]
  | succ f ih =>
    intro k next l out e
    unfold B4;have lt:next k%l.length<l.length:=BY _ (by omega)
    rw[wX lt];dsimp only;refine(ih (k+1) next _ _ (by rw[List.length_eraseIdx,if_pos lt];omega)).trans ?_;rw[AO,zL];refine Co.append_left _ ?_
    have pe:∀(xs:List (Int×wF))(j:Nat)(hj:j<xs.length),(xs[j]::xs.eraseIdx j).Perm xs:=by
     intro xs
     induction xs with
     | nil=>intro j hj;exact absurd hj (Am _)
     | cons x xs ih =>
       intro j hj
       cases j with
       | zero=>exact zQ _
       | succ j=>exact(Co.swap _ _ _).trans ((ih j (by simpa using hj)).cons x)
    exact pe l _ lt
 have pm:(fC w a es ep).toList.Perm es.toList:=by
  unfold fC;split
  · exact key _ 0 _ es.toList #[] (by rw[wJ])
  · exact zQ _
 exact⟨by rw[<- wJ,pm.length_eq,wJ],pm⟩
theorem lx(hh:A.handled=none)(I:Addr)(ne:a≠I) :
 Walks P w A I [I,a] [I] es.size (fun i v=>((fC w a es ep)[i]?).map (·.2)=some v) (fun i h=>∃slot,pK h I a slot i es.size ep/\na w t slot i/\SetI w h a ks o es ep t) where
 sub:=fun b hb=>by simp at hb;simp[hb]
 frame:=fun _ _ _ st hk=>by
  obtain⟨slot,⟨ob,g,r⟩,y,x⟩:=st;exact⟨slot,⟨ob,hk I (by simp) ob g,r⟩,y,{x with at_:=hk a (by simp) o x.at_}⟩
 item:=fun i s Q E hi st hQ=>by
  obtain⟨slot,g,y,x⟩:=st;have hz:i<(fC w a es ep).size:=by rw[iV.1];exact hi
  have hx:((fC w a es ep)[i]?).map (·.2)=some ((fC w a es ep)[i]).2:=by rw[yg hz];rfl
  exact lQ g x rfl y hx fun h' slot' g' y' sb=>hQ _ h' s.toks hx ⟨slot',g',y',{x with at_:=sb.extBut a o ne x.at_}⟩ fun b o hb e=>sb.extBut b o (fun h=>hb (by simp[h])) e
 done:=fun s Q E st hQ=>by
  obtain⟨slot,g,y,x⟩:=st;exact lS hh g x rfl y (yW (by rw[iV.1];exact wM _)) fun h' he=>hQ h' s.toks fun b o hb e=>he b o (fun h=>hb (by simp[h])) e
 self:=fun _ s Q E st hQ=>by
  obtain⟨slot,g,y,x⟩:=st;refine AR g.ty cx (yb cx g.ty dR ?_ (fA _));show xq _ _ (ret (.ref I)) _ _ s;exact wI ⟨_,rfl, "set_iterator", _,g.ty,bo.lookup,hQ⟩
end
section
variable{P:wZ}{w:xx}{A:xB}{E:wF->wG->Prop}{s:wG}{a:Addr}{ks:List Int}{o:Obj}{es:Array (Int×wF)}{ep:Nat}{t:xQ}
theorem lR{Q:Bool->wG->Prop}(hT:s.TypeIs (.ref a) "set")(h:Q false s):xq (xH P w) A (Aq (.ref a)) Q E s:=by
 unfold Aq;refine wE (Ar hT PySem.F.slot_set_len.lookup ?_);generalize hi:("set.__len__" : String)=i0
 wp_delta
 rw[show splitId i0=some ("set", "__len__")from by subst hi;decide +kernel];subst hi;refine wE (z7 (T := "set") (b:=true) hT (by rw[yC];kernel_rfl) ?_);refine wpAny_ite_split (fun q=>absurd q (by decide)) fun _=>?_;refine wpAny_ite_split (fun _=>?_) fun q=>absurd (by decide +kernel) q;exact wE (wpAny_typeOf hT (wI h))
theorem lL(a:Addr)(ks:List Int)(o:Obj)(es:Array (Int×wF))(ep:Nat)(t:xQ):W.KdlSrc P w "set" a a es.size (fun i v=>((fC w a es ep)[i]?).map (·.2)=some v) (fun h=>SetI w h a ks o es ep t) where
 type:=fun _ x=>⟨o,x.at_,x.ex.1⟩
 there:=fun _ x=>⟨wO x.at_,wO x.at_⟩
 keep:=fun _ _ x k=>{x with at_:=k a (.inl rfl) o x.at_}
 notList:=by decide
 notTuple:=by decide
 hint:=fun _ _ _ _ x q=>lR x.ty q
 iter:=fun _ _ hh x=>⟨_,_,fun _ _ q=>lP x q,lx hh _ (xA (wO x.at_)),
  ⟨0,⟨_,wS _ rfl,rfl,rfl⟩,.inr (hE _ (gN x.gd.up)),{x with at_:=wH _ x.at_}⟩⟩
theorem ko{acc:List wF}(x:SetI w s.heap a ks o es ep t)(hl:acc.length=es.size)(h:∀(i:Nat) v,acc[i]?=some v->((fC w a es ep)[i]?).map (·.2)=some v):∃ns,y_ acc ns/\ns.Perm ks:=by
 have e:acc=(fC w a es ep).toList.map (·.2):=by
  refine List.ext_getElem (by
   have q:=(iV (w:=w) (a:=a) (es:=es) (ep:=ep)).1;rw[<- wJ]at q
   rw[wP];omega) fun i h1 h2=>?_
  have q:=h i _ (wX h1);rw[<- x4,<- xM,wX h2]at q;exact(xk q).symm
 have key:∀l:List (Int×wF),vA l->y_ (l.map (·.2)) (l.map fun e=>iv e.2):=by
  intro l
  induction l with
  | nil=>intro _;exact .nil
  | cons y l ih =>
    intro h;obtain⟨n,u,rfl⟩:=h y wQ;exact .cons n u (ih fun e m=>h e (wL _ m))
 have pm:=(iV (w:=w) (a:=a) (es:=es) (ep:=ep)).2;refine⟨_,by rw[e];exact key _ fun y m=>x.el y (pm.mem_iff.mp m),(pm.map _).trans x.ks⟩
theorem gR{Q:wF->wG->Prop}(hh:A.handled=none)(x:SetI w s.heap a ks o es ep t)(h64:ks.length<64)
 (h:∀(h0 h':Heap)(tk:Nat)(out:Array wF)(ns':List Int)(c:Nat),(∀b o,s.heap.get? b=some o->h0.get? b=some o)->(∀b o,h0.get? b=some o->h'.get? b=some o)->h'.get? h0.objs.size=some (As "list" out c) ->
  y_ out.toList ns'->ns'.Perm ks->ns'.Pairwise (· <= ·)->Q (.ref h0.objs.size) {s with heap:=h',toks:=tk}) :
 xq (xH P w) A (call (.builtin "sorted") [.ref a]) Q E s:=by
 have sz:=xw;have hl:=x.len;refine AK kind_sorted plain_sorted entry_sorted (args_sorted1 (.ref a)) ?_;unfold Builtin.«sorted»;refine wE (m:=checkCount "sorted" 1 1 _) (wI (wE (W.kdu_collect (A:=A.in1) (lL a ks o es ep t) hh x (by omega) fun h0 tk acc k0 hacc=>wE (wpAny_newList ?_ ?_))))
 · obtain⟨ns,iA,pn⟩:=ko x (by rw[wJ];exact hacc.1) fun i v e=>hacc.2 i v (by rw[<- x4];exact e);have l64:acc.toList.length<64:=by rw[iA.length,pn.length_eq];exact h64
   have hoL:(h0.push (As "list" acc.toList.toArray 0)).get? h0.objs.size=some (As "list" acc.toList.toArray 0):=wS _ rfl;show xq _ _ _ _ _ {s with heap:=h0.push (As "list" acc.toList.toArray 0),toks:=tk};refine wE (yL (yb slot_list_sort ⟨_,hoL,rfl⟩ entry_list_sort (list_sort_tree (s:={s with heap:=h0.push (As "list" acc.toList.toArray 0),toks:=tk}) hoL iA l64 fun out ns' q1 q2 q3=>⟨_,rfl,?_⟩) (args_list_sort _)));have e1:=At hoL (fun _=>#[])
   have e2:((((h0.push (As "list" acc.toList.toArray 0)).update h0.objs.size (Af fun _=>#[])).push (As "tuple" acc.toList.toArray 0)).push (As "list" #[] 0)).get? h0.objs.size=_ :=
    wH _ (wH _ e1)
   have e3:=At e2 (fun _=>out);refine wI ⟨_,rfl,h h0 _ _ out ns' _ k0 (fun b ob eb=>?_) e3 q1 (q2.trans pn) q3⟩;have ne:h0.objs.size≠b:=Be (wO eb);exact(yd _ _ ne).trans (wH _ (wH _ ((yd _ _ ne).trans (wH _ eb))))
 · rw[wJ,hacc.1];omega
end
section
variable{X:Cx}
noncomputable def qx(w:xx)(K:W.Frag):List V->Hp->VK->Prop:=fun xs H Q=>∃(a:Addr)(ns:List Int),xs=[.ref a]/\vR K H a (ns.map V.int)/\ns.length<2000/\∀l,H l=none->Q (.ref l) (upd H l (.ext fun h=>hU w h l (met [] ns)))
theorem kL(hc:X.calm=true):bX X (.type "set") (qx X.w X.K):=by
 intro pins s σ H xs us Q I r ⟨a,ns,ex,sq,hb,q⟩;subst ex;obtain⟨u,rfl,ru⟩:=vals1 r;cases ru;obtain⟨its,rv,p,hz⟩:=I.list sq;refine jz (I.ok.hd hc) p.isList (intsAre_of rv) hb fun h' tk hi k=>?_;refine⟨.ref s.heap.objs.size,_,I.laid (t':=tk) (o:=.ext fun h=>hU X.w h s.heap.objs.size (met [] ns)) k (wM _) ⟨hi,?_,fun h1 h2 z y=>z.keep y⟩,rfl,q _ (I.hok.fresh (wM _))⟩;obtain⟨o,_,_,_,z⟩:=hi;exact⟨o,z.at_⟩
noncomputable def lW(w:xx):List V->Hp->VK->Prop:=fun xs H Q=>∃(a:Addr)(ks:List Int),xs=[.ref a]/\H a=some (.ext fun h=>hU w h a ks)/\ks.length<64/\∀ns':List Int,ns'.Perm ks->ns'.Pairwise (· <= ·)->∀l,H l=none->Q (.ref l) (upd H l (.lst (ns'.map V.int)))
theorem jy(hc:X.calm=true):bX X (.builtin "sorted") (lW X.w):=by
 intro pins s σ H xs us Q I r ⟨a,ks,ex,e,h64,q⟩;subst ex;obtain⟨u,rfl,ru⟩:=vals1 r;cases ru;obtain⟨⟨o,es,ep,t,x⟩,_⟩:=(show cw X.prog X.w H s.heap a (.ext fun h=>hU X.w h a ks)from I.hok a _ e);refine gR (I.ok.hd hc) x h64 fun h0 h' tk out ns' c k0 k1 e a1 a2 a3=>?_;have I1:Inv X pins σ H {s with heap:=h0}:=I.kept (t':=s.toks) k0;have sz:=xw;refine⟨.ref h0.objs.size,_,I1.laid (t':=tk) (o:=.lst (ns'.map V.int)) k1 (wM _) ⟨?_,out.toList,c,c_ a1,by rw[Bv];exact e⟩,rfl,q ns' a2 a3 _ (I1.hok.fresh (wM _))⟩;rw[wP,a2.length_eq];omega
end
end L2
namespace L2.VL
section
variable{X:Cx}{rl:Option Addr}{a b c o e:Expr}{es:List Expr}{fa fb fk fx:TV}{fs:vK}{pos p px p1 p2 pos2 apos cpos:Pos}{ρ:En}
noncomputable def uR(w:xx)(K:W.Frag):List V->Hp->VK->Prop:=fun vs H Q=>qx w K vs H fun v H1=>lW w [v] H1 Q
noncomputable def kz:List W->(W->Prop)->Prop:=fun ws Q=>∃(v:W)(ns:List Int),ws=[v]/\v.dat=some (.list (ns.map .int))/\ns.length<64/\∀ns':List Int,ns'.Pairwise (· < ·)->(∀x,x∈ns'↔x∈ns)->Q (.ml (ns'.map .int))
theorem lC:cE X rl (uR X.w X.K) kz:=fun{F H vs ws} Qd Q s ra r ⟨v,ns,ew,ed,hl,q⟩ k=>by
 subst ew;obtain⟨u,rfl,r1⟩:=jZ r;obtain⟨b,us,rfl,sq,rs⟩:=r1.items s ed;cases cI rs;have ml:=i6 ns [];rw[y8]at ml;refine⟨b,ns,rfl,sq,by omega,fun l hl2=>⟨l,met [] ns,rfl,ak,by omega,fun ns' pm pw l2 hl3=>?_⟩⟩;have g1:=Grow.laid (o:=.ext fun h=>hU X.w h l (met [] ns)) s ra hl2;have g2:=Grow.laid (o:=.lst (ns'.map V.int)) g1.sub g1.reel hl3;have nd:ns'.Nodup:=pm.nodup_iff.mpr (k_ ns [] List.nodup_nil);refine k _ (.ml _) _ _ (g1.trans g2) (cJ g1.sub g1.reel hl3 dN) (fun a ea=>by cases ea;exact g1.freeB hl3) (q _ ((pw.and nd).imp fun{a b} z=>by have:=z.1;have:=z.2;omega) fun x=>?_);rw[pm.mem_iff,i5];simp
theorem d8(hc:X.calm=true)(hm:X.mg "sorted" = none)(hm2:X.mg "set" = none)(ha:vV X rl [a] fs)(hg:autoParam (Gl X "sorted") æa._auto_1)(hg2:autoParam (Gl X "set") æa._auto_1)
 (he:autoParam (wR [.Call (.Name "set" p2) [a] [] pos2] X.env=(false,eval (.Call (.Name "set" p2) [a] [] pos2) X.env)::wR [] X.env) æa._auto_1)(he2:autoParam (wR [a] X.env=(false,eval a X.env)::wR [] X.env) æa._auto_1)
 (hpl:autoParam ((yR pos (wR [] X.env)).any (·.1)=false) æa._auto_1)(hpl2:autoParam ((yR pos2 (wR [] X.env)).any (·.1)=false) æa._auto_1) :
 PV X rl (.Call (.Name "sorted" p) [.Call (.Name "set" p2) [a] [] pos2] [] pos) (ci kz fs):=by
 refine dB (t:=fun _=>tC .non) lC ha fun ta p1=>?_;show PE X _ (uI (lW X.w) (n6 (uI (qx X.w X.K) ta) sx));exact bw (jy hc) hg hm (by rfl) (ba (cR (kL hc) hg2 hm2 (by rfl) p1 (by decide) (by decide) he2 hpl2) b9 he) (by decide) (by decide) he hpl
noncomputable def m5(w:W):Option (List Int):=match w.dat with
 | some (.list xs)=>c8 xs
 | _=>none
theorem jE:m5 w=some ns↔w.dat=some (.list (ns.map .int)):=by
 unfold m5;constructor
 · intro h;split at h
   · rename_i xs e;rw[e,cL h]
   · cases h
 · intro h;rw[h];exact aM ns
theorem i8(w:W):kz [w]=aj (m5 w) fun ns=>vk (ns.length<64) (vB (anyM fun ns':List Int=>ns'.Pairwise (· < ·)/\∀x,x∈ns'↔x∈ns) fun ns'=>ret (.ml (ns'.map .int))):=by
 refine ab fun Q=>?_;simp only[kz,ac,ret,vk,vB,anyM,xa,and_true,jE];constructor
 · rintro⟨v,ns,rfl,e,a,q⟩;exact⟨ns,e,a,fun n' ⟨h1,h2⟩=>q n' h1 h2⟩
 · rintro⟨ns,e,a,q⟩;exact⟨w,ns,rfl,e,a,fun n' h1 h2=>q n' ⟨h1,h2⟩⟩
theorem lr(ns:List Int):m5 (.d (.list (ns.map .int)))=some ns:=aM ns
theorem pH(ns:List Int):m5 (.pk (ns.map .int))=some ns:=aM ns
end
end L2.VL
namespace L2
section
variable{prog:wZ}{w:xx}{A:xB}{E:wF->wG->Prop}{s:wG}
theorem gT{l:Addr}{vs:List wF}{Q:wF->wG->Prop}(tp:s.heap.IsList l vs.toArray)(hI:y_ vs ns)(h64:vs.length<64)
 (h:∀(h0 h':Heap)(out:Array wF)(ns':List Int)(c:Nat),(∀b o,s.heap.get? b=some o->h0.get? b=some o)->(∀b o,h0.get? b=some o->h'.get? b=some o)->h'.get? h0.objs.size=some (As "list" out c) ->
  y_ out.toList ns'->ns'.Perm ns->ns'.Pairwise (· <= ·)->Q (.ref h0.objs.size) {s with heap:=h' }) :
 xq (xH prog w) A (call (.builtin "sorted") [.ref l]) Q E s:=by
 obtain⟨o,ho,hc,n,hd⟩:=tp;have sz:=xw;refine AK kind_sorted plain_sorted entry_sorted (args_sorted1 (.ref l)) ?_;unfold Builtin.«sorted»;refine wE (m:=checkCount "sorted" 1 1 _) (wI (wE (wpAny_collect_seq l (.inl rfl) ho hc hd (fun h0 k0=>wE (wpAny_newList ?_)) (by rw[wN];omega))));rw[show vs.toArray.toList=vs by simp];have hoL:(h0.push (As "list" vs.toArray 0)).get? h0.objs.size=some (As "list" vs.toArray 0):=wS _ rfl;show xq _ _ _ _ _ {s with heap:=h0.push (As "list" vs.toArray 0)};refine wE (yL (yb slot_list_sort ⟨_,hoL,rfl⟩ entry_list_sort (list_sort_tree (s:={s with heap:=h0.push (As "list" vs.toArray 0)}) hoL hI h64 fun out ns' q1 q2 q3=>⟨_,rfl,?_⟩) (args_list_sort _)));have e1:=At hoL (fun _=>#[])
 have e2:((((h0.push (As "list" vs.toArray 0)).update h0.objs.size (Af fun _=>#[])).push (As "tuple" vs.toArray 0)).push (As "list" #[] 0)).get? h0.objs.size=_ :=
  wH _ (wH _ e1)
 have e3:=At e2 (fun _=>out);refine wI ⟨_,rfl,h h0 _ out ns' _ k0 (fun b ob eb=>?_) e3 q1 q2 q3⟩;have ne:h0.objs.size≠b:=Be (wO eb);exact(yd _ _ ne).trans (wH _ (wH _ ((yd _ _ ne).trans (wH _ eb))))
end
section
variable{X:Cx}
theorem e8:bX X (.builtin "sorted") (fun xs H Q=>∃(p:Addr)(ns:List Int),xs=[.ref p]/\vR X.K H p (ns.map V.int)/\ns.length<64/\∀ns':List Int,ns'.Perm ns->ns'.Pairwise (· <= ·)->∀l,H l=none->Q (.ref l) (upd H l (.lst (ns'.map V.int)))):=by
 intro pins s σ H xs us Q I r ⟨p,ns,ex,hq,h64,q⟩;subst ex;obtain⟨u,rfl,ru⟩:=vals1 r;cases ru;obtain⟨its,rv,pl,hz⟩:=I.list hq;have hl:=rv.length;rw[wP]at hl;have sz:=xw;refine gT pl.isList (intsAre_of rv) (by omega) fun h0 h' out ns' c k0 k1 e a1 a2 a3=>?_;have I1:Inv X pins σ H {s with heap:=h0}:=I.kept (t':=s.toks) k0;refine⟨.ref h0.objs.size,_,I1.laid (t':=s.toks) (o:=.lst (ns'.map V.int)) k1 (wM _) ⟨?_,out.toList,c,c_ a1,by rw[Bv];exact e⟩,rfl,q ns' a2 a3 _ (I1.hok.fresh (wM _))⟩;rw[wP,a2.length_eq];omega
end
end L2
namespace L2.VL
section
variable{X:Cx}{rl:Option Addr}{a:Expr}{fs:vK}{pos p:Pos}
noncomputable def kA:List W->(W->Prop)->Prop:=fun ws Q=>∃(v:W)(ns:List Int),ws=[v]/\v.dat=some (.list (ns.map .int))/\ns.length<64/\∀ns':List Int,ns'.Perm ns->ns'.Pairwise (· <= ·)->Q (.ml (ns'.map .int))
theorem lD:cE X rl (fun xs H Q=>∃(p:Addr)(ns:List Int),xs=[.ref p]/\vR X.K H p (ns.map V.int)/\ns.length<64/\∀ns':List Int,ns'.Perm ns->ns'.Pairwise (· <= ·)->∀l,H l=none->Q (.ref l) (upd H l (.lst (ns'.map V.int)))) kA:=fun{F H vs ws} Qd Q s ra r ⟨v,ns,ew,ed,hl,q⟩ k=>by
 subst ew;obtain⟨u,rfl,r1⟩:=jZ r;obtain⟨b,us,rfl,sq,rs⟩:=r1.items s ed;cases cI rs;exact⟨b,ns,rfl,sq,hl,fun ns' h1 h2 l hl=>k _ (.ml _) _ _ (Grow.laid s ra hl) (cJ s ra hl dN) (fun a ea=>by cases ea;exact hl) (q ns' h1 h2)⟩
theorem ig(hm:X.mg "sorted" = none)(ha:vV X rl [a] fs)(hg:autoParam (Gl X "sorted") æa._auto_1)(he:autoParam (wR [a] X.env=(false,eval a X.env)::wR [] X.env) æa._auto_1)(hpl:autoParam ((yR pos (wR [] X.env)).any (·.1)=false) æa._auto_1) :
 PV X rl (.Call (.Name "sorted" p) [a] [] pos) (ci kA fs):=bQ e8 lD hm (by rfl) ha hg (by decide) (by decide) he hpl
theorem mG(w:W):kA [w]=aj (m5 w) fun ns=>vk (ns.length<64) (vB (anyM fun ns':List Int=>ns'.Perm ns/\ns'.Pairwise (· <= ·)) fun ns'=>ret (.ml (ns'.map .int))):=by
 refine ab fun Q=>?_;simp only[kA,ac,ret,vk,vB,anyM,xa,and_true,jE];constructor
 · rintro⟨v,ns,rfl,e,a,q⟩;exact⟨ns,e,a,fun n' ⟨h1,h2⟩=>q n' h1 h2⟩
 · rintro⟨ns,e,a,q⟩;exact⟨w,ns,rfl,e,a,fun n' h1 h2=>q n' ⟨h1,h2⟩⟩
end
end L2.VL
namespace L2.RT
theorem iU:Manifest.owners.lookup (String.ofList ['d','e','s','r','e','v','e','r'].reverse)=some Manifest.sig_reversed:=by kernel_rfl
theorem b7:Slot "reversed" "__next__" "reversed.__next__" :=
 .of (owner := "reversed") (n := "__next__") (by rw[ze,yj];kernel_rfl) (by decide +kernel) (by decide +kernel) (by decide +kernel)
  (by first|exact .inl (by decide +kernel)|exact .inr (by decide +kernel)) (by rw[yC];kernel_rfl)
theorem dm:B8 table "reversed.__next__" = some Builtin.«reversed.__next__»:=entryFor_of_tree (by kernel_rfl)
theorem fB(a:wF):Ci "reversed.__next__" ⟨[a],[]⟩:=by
 unfold Ci;rw[A3 (id := "reversed.__next__") (n:=['_','_','t','x','e','n','_','_']) (o:=['d','e','s','r','e','v','e','r']) (by kernel_rfl) iU];kernel_rfl
theorem eg:Slot "reversed" "__iter__" "reversed.__iter__" :=
 .of (owner := "reversed") (n := "__iter__") (by rw[ze,yj];kernel_rfl) (by decide +kernel) (by decide +kernel) (by decide +kernel)
  (by first|exact .inl (by decide +kernel)|exact .inr (by decide +kernel)) (by rw[yC];kernel_rfl)
theorem jF(a:wF):Ci "reversed.__iter__" ⟨[a],[]⟩:=by
 unfold Ci;rw[A3 (id := "reversed.__iter__") (n:=['_','_','r','e','t','i','_','_']) (o:=['d','e','s','r','e','v','e','r']) (by kernel_rfl) iU];kernel_rfl
theorem hC:B8 table "reversed.__iter__" = some Builtin.«dict_keyiterator.__iter__» :=
 By (id' := "dict_keyiterator.__iter__") (by kernel_rfl) (by first|rfl|decide +kernel|(unfold String.splitOn;simp +decide [String.splitOnAux])) (by decide +kernel) (by kernel_rfl)
theorem iB:Slot "reversed" "__init__" "object.__init__" :=
 .of (owner := "object") (n := "__init__") (by rw[ze,yj];kernel_rfl) (by decide +kernel) (by decide +kernel) (by decide +kernel)
  (by first|exact .inl (by decide +kernel)|exact .inr (by decide +kernel)) (by rw[yC];kernel_rfl)
theorem pF:TypeCalled "reversed" "reversed.__new__" "object.__init__" :=
 ⟨by decide +kernel,by decide +kernel,⟨_,_,F.mro_reversed⟩,F.made_reversed,by decide +kernel,by rw[yC];kernel_rfl,iB⟩
theorem ir:typeLookup (.type "tuple") "__reversed__" = pure none:=by rw[ze,yj];kernel_rfl
theorem gQ:isSubtype (.type "tuple") (.type "dict")=pure false:=by rw[yC];kernel_rfl
noncomputable def rObj(a:Addr)(i:Int):Obj:={cls:=.type "reversed", data:=.fields #[.ref a,z9 i]}
noncomputable def IsRv(h:Heap)(r a:Addr)(i:Int):Prop:=∃o,h.get? r=some o/\o.cls = .type "reversed" /\ o.data = .fields #[.ref a,z9 i]
section
variable{prog:wZ}{w:xx}{A:xB}{E:wF->wG->Prop}{s:wG}
theorem IsRv.typeIs{i:Int}(x:IsRv s.heap r a i):s.TypeIs (.ref r) "reversed" := let ⟨o,ho,hc,_⟩:=x;⟨o,ho,hc⟩
theorem IsRv.at{h':Heap}{i:Int}(x:IsRv h r a i)(e:∀o,h.get? r=some o->h'.get? r=some o):IsRv h' r a i:=let ⟨o,ho,z⟩:=x;⟨o,e _ ho,z⟩
theorem iZ(t:Addr)(xs:Array wF)(hz:(xs.size:Int)<2^63) :
 Meets (Builtin.«reversed.__new__» ⟨[.type "reversed", .ref t],[]⟩) (fun _ R s=>IsTup s.heap t xs/\∀tk,R (.ok (.ret (.ref s.heap.objs.size))) {s with heap:=s.heap.push (rObj t ((xs.size:Int)-1)),toks:=tk}) :=
 .of_wp fun prog w A R s h=>by
  obtain⟨ht,h⟩:=h;unfold Builtin.«reversed.__new__»;refine wE (zd (newClass_reversed _) ?_)
  try dsimp only
  refine wE (zd (a:=()) (by first|rfl|kernel_rfl) ?_);refine wE (zd (a:=()) (by first|rfl|kernel_rfl) ?_)
  try dsimp only
  refine wE (Ar ht.typeIs ir ?_)
  try dsimp only
  refine wE (wE (z7 ht.typeIs gQ ?_));refine wE (Ar ht.typeIs F.slot_tuple_getitem.lookup ?_)
  try dsimp only
  rw[if_pos (by decide +kernel)];refine wI ?_
  try dsimp only
  rw[if_neg (by decide)];refine wE (len_tuple ht hz ?_);refine wE (zd (a:=some (xs.size:Int)) rfl ?_)
  try dsimp only
  show xq _ _ (newObj (.type "reversed") (.fields #[.ref t,z9 ((xs.size:Int)-1)]) >>= _) _ _ _;refine wE (xX ?_ (by size_fits));exact wI ⟨_,rfl,h _⟩
theorem call_rev{t:Addr}{xs:Array wF}{Q:wF->wG->Prop}(ht:IsTup s.heap t xs)(hz:(xs.size:Int)<2^63)
 (h:∀tk,Q (.ref s.heap.objs.size) {s with heap:=s.heap.push (rObj t ((xs.size:Int)-1)),toks:=tk}):xq (xH prog w) A (call (.type "reversed") [.ref t]) Q E s :=
 callType_new pF (by decide) (F.typeCall_reversed_1 _) (F.newCall_reversed_1 _) (fun u=>F.args_object_init_2 u _) F.entry_reversed_new (iZ t xs hz) ⟨ht,fun tk=>⟨⟨_,wS _ rfl,rfl⟩,h tk⟩⟩
theorem next_item{t:Addr}{xs:Array wF}{x:wF}{Q:Option wF->wG->Prop}(hr:IsRv s.heap r t (i:Int))(ht:IsTup s.heap t xs)(hx:xs[i]?=some x)(hz:(xs.size:Int)<2^63)
 (hQ:∀h' tk,IsRv h' r t ((i:Int)-1)->yJ r s.heap h'->Q (some x) {s with heap:=h',toks:=tk}):xq (xH prog w) A (A6 (.ref r)) Q E s:=by
 obtain⟨o,ho,hc,hd⟩:=id hr;have hi:i<xs.size:=(Array.getElem?_eq_some_iff.mp hx).1;unfold A6
 refine wE (Ad (yO (name:=zW "__next__") hr.typeIs b7
  (yb b7 hr.typeIs dm ?_ (fB _))))
 unfold Builtin.«reversed.__next__»;refine wE (zd (a:=(Bd r,[])) rfl ?_)
 try dsimp only
 refine wE (A4 ho hd (x:=.ref t) rfl ?_);refine wE (A4 ho hd (x:=z9 (i:Int)) rfl ?_);show xq _ _ (if(i:Int)<0 then _ else _) _ _ s;rw[if_neg (by omega)];refine wE (Ar ht.typeIs F.slot_tuple_getitem.lookup ?_);rw[if_neg (by decide)];refine wE (wpAny_mkInt ?_);refine wE (Ad (getItem_tuple (s:={s with toks:=s.toks+1}) ht (by omega) (by omega) (BH (by omega) (by omega)) (x:=x) (by rw[xY];exact hx) ?_))
 try dsimp only
 refine wE (A4 (s:={s with toks:=s.toks+1}) ho hd (x:=z9 (i:Int)) rfl ?_);show xq _ _ (setField (.ref r) 1 (z9 ((i:Int)-1)) >>= _) _ _ _;refine wE (zo (s:={s with toks:=s.toks+1}) ho hd (by simp) ?_);refine wI ⟨x,rfl,wI (hQ _ _ ?_ (xW ..))⟩
 exact⟨_,yh _ ho (zf (ya hd _)),(AS ..).trans hc,by
  rw[ya hd];simp⟩
theorem next_end{t:Addr}{Q:Option wF->wG->Prop}(hh:A.handled=none)(hr:IsRv s.heap r t (-1))
 (hQ:∀h',Cj r s.heap h'->Q none {s with heap:=h' }):xq (xH prog w) A (A6 (.ref r)) Q E s:=by
 obtain⟨o,ho,hc,hd⟩:=id hr;unfold A6
 refine wE (Ad (yO (name:=zW "__next__") hr.typeIs b7
  (yb b7 hr.typeIs dm ?_ (fB _))))
 unfold Builtin.«reversed.__next__»;refine wE (zd (a:=(Bd r,[])) rfl ?_)
 try dsimp only
 refine wE (A4 ho hd (x:=.ref t) rfl ?_);refine wE (A4 ho hd (x:=z9 (-1)) rfl ?_);show xq _ _ (if(-1:Int)<0 then _ else _) _ _ s;rw[if_pos (by decide)];refine wE (wpAny_rule ?_);refine wE (wE (zo ho hd (by simp) ?_));have ho2:=yh (yP (·.setIfInBounds 1 (z9 (-1)))) ho (zf (ya hd _));refine zo (s:={s with heap:=s.heap.update r (yP (·.setIfInBounds 1 (z9 (-1))))}) ho2 (ya hd _) (by simp) ?_;have eb:Cj r s.heap ((s.heap.update r (yP (·.setIfInBounds 1 (z9 (-1))))).update r (yP (·.setIfInBounds 0 zv))):=fun b o hb e=>(xW ..).extBut b o hb ((xW ..).extBut b o hb e);generalize ((s.heap.update r (yP (·.setIfInBounds 1 (z9 (-1))))).update r (yP (·.setIfInBounds 0 zv)))=g at eb ⊢
 first
 | show xq _ _ (newExc (.type "StopIteration") [] >>= _) _ _ _
 | (refine wE ?_;show xq _ _ (newExc (.type "StopIteration") [] >>= _) _ _ _)
 refine wE ?_;simp only[newExc,newTuple];refine wE (xX ?_ (by size_fits));refine wE (m:=AJ _ _) (zd (a:=zv) (by first|rfl|(simp only[AJ];rfl)) ?_);refine xX ?_ (by size_fits);simp only[raiseNew];refine wE (wpAny_handled ?_)
 first|rw[show A.in1.handled=none from hh]|rw[hh]
 refine wE (wI (wpAny_throw ?_));refine wE (z7 (T := "StopIteration") (b:=true) ⟨_,wS _ rfl,rfl⟩ isSubtype_stop ?_);exact wI (hQ _ ((eb.push _).push _))
theorem iter_self{t:Addr}{i:Int}{Q:wF->wG->Prop}(hr:IsRv s.heap r t i)(h:Q (.ref r) s):xq (xH prog w) A (pyIter (.ref r)) Q E s:=by
 refine AR hr.typeIs eg (yb eg hr.typeIs hC ?_ (jF _));show xq _ _ (ret (.ref r)) _ _ s;exact wI ⟨_,rfl, "reversed", _,hr.typeIs,b7.lookup,h⟩
end
end L2.RT
namespace L2
noncomputable def wj(K:W.Frag)(a:Addr)(n:Nat):It :=
 ⟨fun i H=>i<n/\∃xs,vQ K H a xs/\xs.length=n,fun i H x H'=>H'=H/\∀xs,vQ K H a xs->xs[n-1-i]?=some x,fun i H=>n<=i⟩
theorem ip{P:wZ}{w:xx}{K:W.Frag}(a it:Addr)(n:Nat):Turn P w K tg (wj K a n) [it] it (fun i h=>RT.IsRv h it a ((n:Int)-1-(min i n:Nat))) where
 mem:=by simp
 obj:=fun i h st b hb=>by
  have e:b=it:=by simpa using hb
  subst e;obtain⟨o,e,c,d⟩:=st;exact⟨o,e,fun v z=>by rw[d]at z;cases z⟩
 keep:=fun i h h' st k=>st.at fun o e=>k it (by simp) o e
 item:=by
  intro X hP hw hK hc i pins s σ H E I hf st hg;subst hP hw hK;obtain⟨hi,xs,hq,hl⟩:=hg;obtain⟨its,rv,p,hz⟩:=I.tuple hq;have hx:xs[n-1-i]?=some xs[n-1-i]:=wX (by omega);obtain⟨u,hu,ru⟩:=rv.get hx;obtain⟨f0,f1,f2,f3,f4,f5⟩:=hf it (by simp);have e1:(n:Int)-1-(min i n:Nat)=((n-1-i:Nat):Int):=by omega
  rw[e1]at st;have hl2:=rv.length;have sz:=xw;refine RT.next_item st p (x:=u) (by simpa using hu) (by rw[wN];omega) fun h' tk st' sb=>?_;have I1:Inv X pins σ H {s with heap:=h',toks:=tk}:=I.turned (t':=tk) (fun b o hb e=>(sb.2 b hb).trans e) f0 f1 f3 f4 f5;have e2:((n-1-i:Nat):Int)-1=(n:Int)-1-(min (i+1) n:Nat):=by omega
  rw[e2]at st';obtain⟨o,e,c,d⟩:=id st';exact⟨u,rfl,kw (s:={s with heap:=h',toks:=tk}) e c d (by decide) ⟨_,H,I1,ru,⟨rfl,fun ys hy=>by rw[I.tuple_inj hy hq];exact hx⟩,st',fun b hb=>(hf b hb).1⟩⟩
 done:=by
  intro X hP hw hK hc i pins s σ H E I hf st hg;subst hP hw hK;have hg:n<=i:=hg;obtain⟨f0,f1,f2,f3,f4,f5⟩:=hf it (by simp);have e1:(n:Int)-1-(min i n:Nat) = -1:=by omega
  rw[e1]at st;exact RT.next_end (I.ok.hd hc) st fun h' eb=>⟨rfl,I.turned (t':=s.toks) (fun b o hb e=>eb b o hb e) f0 f1 f3 f4 f5⟩
 self:=fun _ _ _ _ _ st h=>RT.iter_self st h
section
variable{X:Cx}{tg e:Expr}{ta te:TE}{p p2 pos:Pos}
noncomputable def qJ(K:W.Frag)(t:TA):TI:=fun σ H R=>t σ H fun vs H1=>∃a xs,vs=[.ref a]/\vQ K H1 a xs/\R (wj K a xs.length) H1
theorem mf{a:Expr}{ta:TA}(hg:Gl X "reversed")(hm:X.mg "reversed" = none)(ha:PA X [a] ta)(hs:autoParam (wR [a] X.env=[(false,eval a X.env)]) æa._auto_1):PI X tg (.Call (.Name "reversed" p) [a] [] pos) (qJ X.K ta):=by
 intro pins s σ H R I h;refine Call_ (gv I hg hm (by rfl) (y7 (uC (ha pos pins s σ H _ I h) fun us s1 ⟨vs,H1,I1,r1,q1⟩=>?_) hs rfl) (by decide) (by decide));obtain⟨a,xs,e,hq,q⟩:=q1;subst e
 cases r1 with
 | cons r rr =>
   cases rr;cases r;obtain⟨its,rv,p,hz⟩:=I1.tuple hq;have hl:=rv.length;have sz:=xw;refine RT.call_rev p (by rw[wN];omega) fun tk=>?_;refine RT.iter_self (r:=s1.heap.objs.size) (t:=a) (i:=(xs.length:Int)-1) ⟨_,wS _ rfl,rfl,by simp[hl,RT.rObj]⟩ ?_;refine⟨s1.heap.objs.size,[s1.heap.objs.size],_,_,H1,rfl,I1.kept (t':=tk) fun b o e=>wH _ e,ip a _ xs.length,?_,fun b hb=>?_,q⟩
   · exact⟨_,wS _ rfl,rfl,by simp[hl,RT.rObj]⟩
   · have e:b=s1.heap.objs.size:=by simpa using hb
     subst e;exact I1.fpOk (wM _) (I1.hok.fresh (wM _))
end
end L2
namespace L2.VL
section
variable{X:Cx}{rl:Option Addr}{a b c e tg:Expr}{es:List Expr}{fa fb fc:TV}{fs:vK}{pos pos2 p p2 q:Pos}
noncomputable def sG(fs:vK):En->(List wD->Prop)->Prop:=fun ρ Q=>fs ρ fun ws=>∃xs,ws=[.d (.tuple xs)]/\Q xs.reverse
theorem d4(hm:X.mg "reversed" = none)(ha:vV X rl [a] fs)(hg:autoParam (Gl X "reversed") æa._auto_1)(hs:autoParam (wR [a] X.env=[(false,eval a X.env)]) æa._auto_1):vZ X rl tg (.Call (.Name "reversed" p) [a] [] pos) (sG fs):=by
 obtain⟨t,p1,k⟩:=ha;refine⟨_,mf hg hm p1 hs,fun R Qd Q q h=>k R _ _ q fun vs ws F1 H1 g1 r1 ⟨xs,ew,q1⟩=>?_⟩;subst ew;obtain⟨v,rfl,rv⟩:=jZ r1;have rv:Rep X.K F1 v (.tuple xs):=rv
 obtain⟨a,vs,rfl,sq0,rs⟩:∃a vs,v = .ref a/\(∀H,aS F1 H->vQ X.K H a vs)/\Reps X.K F1 vs xs:=by
  cases rv with
  | @tup a vs _ sq rs=>exact⟨a,vs,rfl,fun H s=>eI s sq,rs⟩
 have sqH:∀H,aS F1 H->vQ X.K H a vs:=fun H s=>sq0 H s;have hl:=rs.length;refine⟨a,vs,rfl,sqH H1 g1.sub,h _ xs.reverse F1 H1 g1 (.of (fun i H x e s=>⟨?_,vs,sqH H s,rfl⟩) (fun i H hl' s=>?_) (fun i H v H' x e s y=>?_)) q1⟩
 · have:=(wY.mp e).1;rw[zu]at this;omega
 · show vs.length<=i;rw[zu]at hl';omega
 · obtain⟨e',hy⟩:=y;obtain⟨v',ev,rv'⟩:=rs.rev.get e;have h1:=hy vs (sqH H s)
   have hi:i<vs.length:=by
    have:=(wY.mp ev).1;simpa using this
   rw[List.getElem?_reverse hi,h1]at ev;cases ev;exact⟨e',rv'⟩
noncomputable def oN:List W->Option (List wD)
 | [.d (.tuple xs)]=>some xs
 | _=>none
theorem mB{ws:List W}{xs:List wD}:oN ws=some xs↔ws=[.d (.tuple xs)]:=by
 constructor
 · intro h;unfold oN at h;split at h
   · cases h;rfl
   · cases h
 · rintro rfl;rfl
theorem la:sG fs ρ=vB (fs ρ) fun ws=>aj (oN ws) fun xs=>ret xs.reverse:=by
 show(vB (fs ρ) fun ws=>fun(Q:List wD->Prop)=>∃xs,ws=[.d (.tuple xs)]/\Q xs.reverse)=_;congr 1;funext ws;refine ab fun Q=>?_;simp only[ac,mB,ret]
end
section
variable{X:Cx}{rl:Option Addr}{a b c o e:Expr}{es:List Expr}{fa fb:TV}{fs:vK}{pos p apos cpos:Pos}{ρ:En}
end
end L2.VL
namespace L2
section
variable{prog:wZ}{w:xx}{A:xB}{E:wF->wG->Prop}{s:wG}
end
section
variable{X:Cx}
end
end L2
namespace L2.VL
section
variable{X:Cx}{rl:Option Addr}{e:Expr}{fa:TV}{pos:Pos}{ρ:En}
end
section
variable{X:Cx}{rl:Option Addr}{a b e:Expr}{fa fb:TV}{pos:Pos}{ρ:En}
end
end L2.VL
namespace L2
section
variable{X:Cx}
theorem dM{its:List wF}(r:bq (ns.map V.int) its){v:wF}(e:its[i]?=some v):∃t,v = .int (ns.getD i 0) t:=by
 have hl:=r.length;rw[wP]at hl;have hi:i<ns.length:=by have:=(wY.mp e).1;omega
 have hb:(ns.map V.int)[i]?=some (.int ns[i]):=by simp[hi]
 obtain⟨u,hu,ru⟩:=r.get hb;rw[e]at hu;cases hu;have:ns.getD i 0=ns[i]:=by simp[List.getD,hi]
 rw[this];exact ru
theorem preSum_eq(ns:List Int):preSum (fun i=>ns.getD i 0) ns.length=ns.sum:=by
 have key:∀k,k<=ns.length->preSum (fun i=>ns.getD i 0) k=(ns.take k).sum:=by
  intro k
  induction k with
  | zero=>intro _;rfl
  | succ k ih =>
    intro hk;have hk':k<ns.length:=by omega
    show preSum _ k+ns.getD k 0=_;rw[ih (by omega),zI hk',Au];simp[List.getD,hk']
 rw[key _ (wM _),yV (wM _)]
theorem jx(hc:X.calm=true):bX X (.builtin "sum") (fun xs H Q=>∃(p:Addr)(ns:List Int),xs=[.ref p]/\vR X.K H p (ns.map V.int)/\Q (.int ns.sum) H):=by
 intro pins s σ H xs us Q I r ⟨p,ns,ex,hq,q⟩;subst ex;obtain⟨u,rfl,ru⟩:=vals1 r;cases ru;obtain⟨its,rv,pl,hz⟩:=I.list hq;have hl:=rv.length;rw[wP]at hl;refine call_sum_walkG (AL pl.isList ?_);have ne:p≠s.heap.objs.size:=by obtain⟨o,ho,_⟩:=pl.isList;exact xA (wO ho)
 refine⟨s.heap.objs.size,_,_,_,_,_,fun i=>ns.getD i 0,rfl,Walks.list (A:=X.A.in1) (I.ok.hd hc) s.heap.objs.size p ne its.toArray,⟨⟨_,wS _ rfl,rfl,rfl⟩,pl.isList.push _⟩,?_,?_,?_⟩
 · intro b hb;have hb:b=s.heap.objs.size\/b=p:=by simpa using hb
   show b<(Heap.push _ _).objs.size;rw[yU];rcases hb with rfl|rfl
   · exact A8 _
   · obtain⟨o,ho,_⟩:=pl.isList;exact Nat.lt_succ_of_lt (wO ho)
 · intro i v hP;exact dM rv (by simpa using hP)
 · intro h' tk t' k;have e:preSum (fun i=>ns.getD i 0) its.toArray.size=ns.sum:=by rw[wN,<- hl];exact preSum_eq ns
   rw[e];exact⟨.int _,H,I.kept (t':=tk) fun b o eb=>k b o (by simp;exact xA (wO eb)) (wH _ eb),⟨t',rfl⟩,q⟩
end
end L2
namespace L2.VL
section
variable{X:Cx}{rl:Option Addr}{a:Expr}{fs:vK}{pos p:Pos}
noncomputable def qP:List W->(W->Prop)->Prop:=fun ws Q=>∃(w:W)(ns:List Int),ws=[w]/\w.dat=some (.list (ns.map .int))/\Q (.d (.int ns.sum))
theorem nk:cE X rl (fun xs H Q=>∃(p:Addr)(ns:List Int),xs=[.ref p]/\vR X.K H p (ns.map V.int)/\Q (.int ns.sum) H) qP:=fun{F H vs ws} Qd Q s ra r ⟨w,ns,ew,ed,q⟩ k=>by
 subst ew;obtain⟨v,rfl,r1⟩:=jZ r;obtain⟨a,us,rfl,sq,rs⟩:=r1.items s ed;have e:=cI rs;subst e;exact⟨a,ns,rfl,sq,k _ (.d _) _ _ (Grow.refl s ra) (.int _) trivial q⟩
theorem v_sum(hm:X.mg "sum" = none)(ha:vV X rl [a] fs)(hc:autoParam (X.calm=true) æa._auto_1)(hg:autoParam (Gl X "sum") æa._auto_1)(he:autoParam (wR [a] X.env=(false,eval a X.env)::wR [] X.env) æa._auto_1)(hpl:autoParam ((yR pos (wR [] X.env)).any (·.1)=false) æa._auto_1) :
 PV X rl (.Call (.Name "sum" p) [a] [] pos) (ci qP fs):=bQ (jx hc) nk hm (by rfl) ha hg (by decide) (by decide) he hpl
noncomputable def mO:wD->Option (List Int)
 | .list xs=>c8 xs
 | _=>none
theorem pS{d:wD}:mO d=some ns↔d = .list (ns.map .int):=by
 constructor
 · intro h
   cases d with
   | list xs=>rw[cL h]
   | _=>cases h
 · rintro rfl;exact aM _
theorem m_gSum(w:W):qP [w]=aj (w.dat.bind mO) fun ns=>ret (.d (.int ns.sum)):=by
 refine ab fun Q=>?_;rw[ac];constructor
 · rintro⟨w',ns,e,ed,q⟩;cases e;exact⟨ns,by rw[ed];exact aM ns,q⟩
 · rintro⟨ns,e,q⟩
   cases ed:w.dat with
   | none=>rw[ed]at e;cases e
   | some d =>
     rw[ed]at e;exact⟨w,ns,rfl,by rw[ed,pS.mp e],q⟩
theorem intsO_l(ns:List Int):mO (.list (ns.map .int))=some ns:=aM ns
noncomputable def wA:=wC @m_gSum (@intsO_l)
end
section
variable{X:Cx}{rl:Option Addr}{a b c:Expr}{fs:vK}{pos p:Pos}
theorem jB(hc:X.calm=true):bX X (.builtin "max") (fun xs H Q=>∃i j k,xs=[.int i,.int j,.int k]/\Q (.int (max (max i j) k)) H):=by
 intro pins s σ H xs us Q I r h;obtain⟨i,j,l,rfl,q⟩:=h
 cases r with
 | cons r1 r =>
   cases r with
   | cons r2 r =>
     cases r with
     | cons r3 r =>
       cases r;obtain⟨t,rfl⟩:=r1;obtain⟨t',rfl⟩:=r2;obtain⟨t2,rfl⟩:=r3;refine max_three_ints (I.ok.hd hc) fun h' tk k=>⟨_,H,I.kept k,?_,q⟩;by_cases h1:j>i
       · rw[if_pos h1];by_cases h2:l>j
         · rw[if_pos h2];exact⟨t2,by congr 1;omega⟩
         · rw[if_neg h2];exact⟨t',by congr 1;omega⟩
       · rw[if_neg h1];by_cases h2:l>i
         · rw[if_pos h2];exact⟨t2,by congr 1;omega⟩
         · rw[if_neg h2];exact⟨t,by congr 1;omega⟩
noncomputable def kC:List W->(W->Prop)->Prop:=fun ws Q=>∃i j k,ws=[.d (.int i),.d (.int j),.d (.int k)]/\Q (.d (.int (max (max i j) k)))
theorem lE:cE X rl (fun xs H Q=>∃i j k,xs=[.int i,.int j,.int k]/\Q (.int (max (max i j) k)) H) kC:=fun{F H vs ws} Qd Q s ra r ⟨i,j,l,ew,q⟩ k=>by
 subst ew
 cases r with
 | cons r1 r =>
   cases r with
   | cons r2 r =>
     cases r with
     | cons r3 r =>
       cases r;have e1:=ay r1;have e2:=ay r2;have e3:=ay r3;subst e1 e2 e3;exact⟨i,j,l,rfl,k _ (.d _) _ _ (Grow.refl s ra) (.int _) trivial q⟩
theorem nz(hm:X.mg "max" = none)(ha:vV X rl [a,b,c] fs)(hc:autoParam (X.calm=true) æa._auto_1)(hg:autoParam (Gl X "max") æa._auto_1)(he:autoParam (wR [a,b,c] X.env=(false,eval a X.env)::wR [b,c] X.env) æa._auto_1)(hpl:autoParam ((yR pos (wR [b,c] X.env)).any (·.1)=false) æa._auto_1) :
 PV X rl (.Call (.Name "max" p) [a,b,c] [] pos) (ci kC fs):=bQ (jB hc) lE hm (by rfl) ha hg (by decide) (by decide) he hpl
theorem i9(x y z:W):kC [x,y,z]=aj (asI x) fun i=>aj (asI y) fun j=>aj (asI z) fun k=>ret (.d (.int (max (max i j) k))):=by
 refine ab fun Q=>?_;simp only[ac,be,kC,ret,xa,and_true];constructor
 · rintro⟨i,j,k,⟨rfl,rfl,rfl⟩,q⟩;exact⟨i,rfl,j,rfl,k,rfl,q⟩
 · rintro⟨i,rfl,j,rfl,k,rfl,q⟩;exact⟨i,j,k,⟨rfl,rfl,rfl⟩,q⟩
end
end L2.VL
namespace K49
open PySem PySem.Spec PyProof.Rows L2 L2.VL
set_option bootstrap.genMatcherCode true in
local macro_rules | `(tactic| simp_arith only [$xs,*])=>`(tactic| simp (maxSteps:=2000000) (disch:=(first | assumption | omega | decide)) only [rq,rC,rG,rF,rE,re,rb,rj,rh,rg,rB,rA,rn,rm,rk,p6,uO,uN,cq,bO,hV,W.cap,u7,List.replicate,id,↓reduceIte,if_true,Nat.reduceAdd,Nat.reduceSub,Nat.reduceLeDiff,Int.cast_ofNat_Int,Int.reduceBEq,Int.reduceSub,Int.reduceAdd,Int.reduceLT,Int.reduceLE,Int.reduceMul,Int.reduceNeg,reduceCtorEq,eW,$xs,*])
set_option bootstrap.genMatcherCode true in
local macro_rules | `(tactic| simp_arith only [$xs,*] at $h:ident)=>`(tactic| simp only [List.cons.injEq,W.d.injEq,PyData.int.injEq,PyData.bool.injEq,PyData.str.injEq,PyData.list.injEq,PyData.tuple.injEq,gf,kf,jV,bU,and_true,true_and,reduceCtorEq,$xs,*] at $h:ident)
section
variable{P:wZ}{w:xx}{K:yp}{mg:Str->Option wF}{base:Heap}{rl:Option Addr}
noncomputable def pQ(ws:List W):Prop:=∃ns:List Int,ws=[.sc ns]/\ns.length<=63
theorem pQ.eq(h:ns.length<=63):pQ [.sc ns]=True:=propext ⟨fun _=>trivial,fun _=>⟨ns,rfl,h⟩⟩
theorem eG:FnScope ["_law_script"] ["_law_script"] (defScope (uA 19)):=⟨rfl,rfl,rfl,by decide +kernel,rfl,by decide +kernel,by decide +kernel⟩
theorem d__law_feed(Fn:FnIn K mg "_law_feed" (uA 19) ["_law_script"])(Z:Bz mg):DfnR P w K mg base "_law_feed" ["_law_script"] 1 pQ:=by
 obtain⟨f,fd,hm,Ff,hb⟩:=Fn.ex;refine⟨f,fd,hm,Ff.kp,hb,?_⟩;refine Ff.ok eG (fun vs H Q E h=>?_) (fun cdv A outer s H vs Q E hr h=>?_)
 · obtain⟨F,ws,_,r,_,⟨ns,rfl,_⟩,_⟩:=h;have:=Ac r;simpa using this
 · obtain⟨F,ws,sm,r,ao,⟨ns,rfl,hl⟩,k⟩:=h;obtain⟨v,rfl,⟨a,rfl,hS⟩⟩:=jZ r;refine⟨_,bR (gj (k6 (ba (cR ff rfl Z.list_ (by rfl) (ba (j_ lN (pv 0) l_ (l9 ai)) b9)) (ba ai (ba ai (ba ai b9)))))),?_⟩;refine⟨_,rfl,63,rfl,a,ns.map V.int,rfl,oi sm hS,fun q hq=>?_⟩;refine⟨q,_,rfl,.inl (.inl (.inl ak)),fun c hc=>?_⟩;refine⟨(by show 4<=sizeLine;decide),fun p hp=>?_⟩;rw[kI hl]at *;have hcq:c≠q:=fun z=>by rw[z,ak]at hc;cases hc
   have hpc:p≠c:=fun z=>by rw[z,ak]at hp;cases hp
   have hpq:p≠q:=fun z=>by rw[z,upd_ne hcq.symm,ak]at hp;cases hp
   have hp0:H p=none:=by
    have:=hp;rw[upd_ne hpc,upd_ne hpq]at this;exact this
   have hc0:H c=none:=by
    have:=hc;rw[upd_ne hcq]at this;exact this
   have fc:F c=none:=sm.free hc0;have fp:F p=none:=sm.free hp0;have fq:F q=none:=sm.free hq;have nF:∀b u,F b=some u->b≠c/\b≠p/\b≠q:=fun b u e=>⟨(fun z=>by subst z;rw[fc]at e;cases e),(fun z=>by subst z;rw[fp]at e;cases e),(fun z=>by subst z;rw[fq]at e;cases e)⟩;have nH:∀b u,H b=some u->b≠c/\b≠p/\b≠q:=fun b u e=>⟨ar e hc0,ar e hp0,ar e hq⟩;refine k p (upd F c (.lst (ns.map V.int))) _ hp0 ⟨fun b o e _=>?_,fun b o e=>?_,fun b o e=>?_,fun b o e=>?_,fun _ z=>by cases z⟩ (fun r e=>?_)
   · obtain⟨n1,n2,n3⟩:=nH b o e;rw[upd_ne n2,upd_ne n1,upd_ne n3];exact e
   · rw[upd_ne (nF b o e).1];exact e
   · by_cases hb:b=c
     · subst hb;rw[ak]at e;rw[upd_ne hpc.symm,ak];exact e
     · rw[upd_ne hb]at e;obtain⟨n1,n2,n3⟩:=nF b o e;rw[upd_ne n2,upd_ne n1,upd_ne n3];exact sm b o e
   · rw[upd_ne (nH b o e).1]
   · cases e;exact⟨by rw[upd_ne hpc];exact fp,⟨_,ak,c,ns,0,0,0,rfl,ak,hl,by decide,by decide,by decide⟩⟩
theorem dI.eq(m:Int)(hm:0<m)(hb:m<2^60):dI [.reel,.d (.int m)]=vB (anyM fun k:Int=>0<=k/\k<m) fun k=>VL.ret (.int k:wD):=by
 refine ab fun Q=>⟨?_,fun q_=>⟨m,rfl,hm,hb,fun k a b=>q_ k ⟨a,b⟩⟩⟩;rintro⟨m',e_,_,_,q_⟩;simp only[xa,W.d.injEq,zp,and_true,true_and]at e_;subst e_;exact fun k h=>q_ k h.1 h.2
theorem p__law_draw.eq(m:Int)(hm:0<m)(hb:m<2^60):dI [.reel,.d (.int m)]=vB (anyM fun k:Int=>0<=k/\k<m) fun k=>VL.ret (.int k:wD):=dI.eq m hm hb
theorem eH:FnScope ["_law_feed_here", "_law_many", "_law_found", "_law_cell", "_law_stirred"] ["_law_feed_here", "_law_many"] (defScope (uA 20)):=⟨rfl,rfl,rfl,by decide +kernel,rfl,by decide +kernel,by decide +kernel⟩
theorem d__law_draw(Fn:FnIn K mg "_law_draw" (uA 20) ["_law_feed_here", "_law_many"])(Z:Bz mg):Dfn P w K mg base rl "_law_draw" ["_law_feed_here", "_law_many"] 2 dI:=by
 have sc:=eH;refine Dfn.hand Fn sc dI.mono dI.len ?_;intro f cdv A outer s H E vs ws F Q Qv hr sm ra rw' hq fin;obtain⟨m,rfl,hm,hb,q⟩:=hq;have hm0:m≠0:=by omega
 have hmd:∀i:Int,bY i m:=fun i=>bY.of hm0 (by omega);obtain⟨v,u,rfl,⟨r,er,ev⟩,r2⟩:=qw rw';subst ev er;have eu:=ay r2;subst eu;obtain⟨fr,⟨o,ho,c,ns,a,l,t,rfl,hc,hl,ha,hl0,ht⟩⟩:=ra r rfl;have hcr:c≠r:=fun z=>by rw[z,fr]at hc;cases hc
 have hcH:H c=some (.lst (ns.map V.int)):=sm _ _ hc
 have out:∀(k a l t:Int),0<=k->k<m->0<=a->0<=l->0<=t->Qv (.int k) (upd H r (vz c a l t)):=fun k a l t h1 h2 h3 h4 h5 =>
  fin _ F _ (.int k) (Grow.turn sm ra ⟨c,ns,a,l,t,rfl,hc,hl,h3,h4,h5⟩) (.int k) (q k h1 h2)
 have g0:∀{a l t:Int},(upd H r (vz c a l t)) r=some (.lst [.ref c,.int a,.int l,.int t]):=ak;have gc:∀{a l t:Int},(upd H r (vz c a l t)) c=some (.lst (ns.map V.int)):=by intro a l t;rw[upd_ne hcr];exact hcH
 have i0:∀{x0 x1 x2 x3:V},L2.atI [x0,x1,x2,x3] 0=some x0:=rfl;have i1:∀{x0 x1 x2 x3:V},L2.atI [x0,x1,x2,x3] 1=some x1:=rfl;have i2:∀{x0 x1 x2 x3:V},L2.atI [x0,x1,x2,x3] 2=some x2:=rfl;have i3:∀{x0 x1 x2 x3:V},L2.atI [x0,x1,x2,x3] 3=some x3:=rfl;have fm:∀i:Int,0<=i.fmod m/\i.fmod m<m:=fun i=>⟨xU _ hm,yB _ hm⟩
 refine⟨_,(aN (eO (bv dg (br aL (pv 0) ai (fun _ _=>rfl)) ai) (gl (pv 0) ai cH))
  (aN (gi yt (oz (ck qF (br aL (pv 0) ai (fun _ _=>rfl)) ai (aV _)) (lY (ck fK (br aL (pv 0) ai (fun _ _=>rfl)) (bw bp (by rfl) Z.len_ (by rfl) (ba (br aL (pv 0) ai (fun _ _=>rfl)) b9)) (aV _)))).pt (aN (j8 (ck qE (bw dW (by rfl) Z.abs_ (by rfl) (ba (br aL (br aL (pv 0) ai (fun _ _=>rfl)) (br aL (pv 0) ai (fun _ _=>rfl)) (fun _ _=>rfl)) b9)) (bv k9 ai ai) (aV _)) (bR (eO (bw dW (by rfl) Z.abs_ (by rfl) (ba (br aL (br aL (pv 0) ai (fun _ _=>rfl)) (br aL (pv 0) ai (fun _ _=>rfl)) (fun _ _=>rfl)) b9)) (gl (pv 0) ai cH))) dH)
  (bR (eO (bv dg (br aL (pv 0) ai (fun _ _=>rfl)) ai) (gl (pv 0) ai cH)))))
  (aN (j8 (ck gY (br aL (pv 0) ai (fun _ _=>rfl)) ai (aV _)) (aN (b8 (i:=2) sc.nd rfl (zU rfl) (bv bH (br aL (pv 0) ai (fun _ _=>rfl)) (pv 1)))
  (aN (eO (bv gq (br aL (pv 0) ai (fun _ _=>rfl)) (pv 1)) (gl (pv 0) ai cH))
  (bR (gj (pv 2))))) dH)
  (aN (b8 (i:=3) sc.nd rfl (zU rfl) ai)
  (aN (j8 (ck gY (bw bp (by rfl) Z.len_ (by rfl) (ba (br aL (pv 0) ai (fun _ _=>rfl)) b9)) ai (aV _)) (bR (b8 (i:=3) sc.nd rfl (zU rfl) (br aL (br aL (pv 0) ai (fun _ _=>rfl)) (bv bH (br aL (pv 0) ai (fun _ _=>rfl)) (bw bp (by rfl) Z.len_ (by rfl) (ba (br aL (pv 0) ai (fun _ _=>rfl)) b9))) (fun _ _=>rfl)))) dH)
  (aN (b8 (i:=4) sc.nd rfl (zU rfl) (bv bH (bv dg (bv dg (bv cT (bv bH (pv 3) ai) ai) (bv cT ai (br aL (pv 0) ai (fun _ _=>rfl)))) ai) ai))
  (aN (b8 (i:=4) sc.nd rfl (zU rfl) (bv bH (bv cT (pv 4) (bv dg (pv 4) ai)) ai))
  (bR (gj (bv bH (bv bH (bv cT (pv 4) ai) ai) (pv 1))))))))))),?_⟩
 refine⟨_,rfl,bP ho i1 ⟨a,1,rfl,rfl,?_⟩⟩;refine⟨_,rfl,g9 ho rfl ?_⟩;show sw _ _ _ _ (upd H r (vz c (a+1) l t));refine⟨fun n σ' H'=>∃l t,σ'=[some (.ref r),some (.int m),none,none,none]/\H'=upd H r (vz c (a+1) l t)/\0<=l/\0<=t/\n=ns.length-t.toNat,⟨_,l,t,rfl,rfl,hl0,ht,rfl⟩,?_⟩;rintro n σ' H' ⟨l,t,rfl,rfl,hl0,ht,rfl⟩;refine⟨_,rfl,bP g0 i2 ⟨rfl,_,rfl,?_⟩⟩;by_cases hz:l=0
 · subst hz;refine u_ (by simp) ?_;refine⟨_,rfl,bP g0 i3 ⟨_,rfl,bP g0 i0 ⟨c,_,rfl,.inl (.inl (.inl gc)),⟨t,_,rfl,rfl,_,rfl,?_⟩⟩⟩⟩;by_cases hlt:t<((ns.map V.int).length:Int)
   · refine u_ (decide_eq_true hlt) ?_;have hlt':t.toNat<ns.length:=by rw[wP]at hlt;omega
     have at_:L2.atI (ns.map V.int) t=some (.int ns[t.toNat]):=dY ht hlt'
     refine⟨fun σ' H'=>∃l t',σ'=[some (.ref r),some (.int m),none,none,none]/\H'=upd H r (vz c (a+1) l t')/\0<=l/\0<=t'/\ns.length-t'.toNat<ns.length-t.toNat,fun σ' H' ⟨l,t',h1,h2,h3,h4,h5⟩=>⟨_,h5,l,t',h1,h2,h3,h4,rfl⟩,?_⟩;refine⟨_,rfl,bP g0 i0 ⟨_,rfl,bP g0 i3 (bP gc at_ ⟨_,rfl,10,18,rfl,rfl,⟨by decide,by decide,by decide⟩,⟨_,_,rfl,rfl,_,rfl,?_⟩⟩)⟩⟩;by_cases hbig:(10:Int)^Int.toNat 18<=(if ns[t.toNat]<0 then -ns[t.toNat]else ns[t.toNat])
     · refine u_ (decide_eq_true hbig) ?_;refine⟨_,rfl,bP g0 i0 ⟨_,rfl,bP g0 i3 (bP gc at_ ⟨_,rfl,?_⟩)⟩⟩;refine⟨_,rfl,g9 g0 rfl ?_⟩;rw[cP];refine⟨_,rfl,bP g0 i3 ⟨_,_,rfl,rfl,?_⟩⟩;refine⟨_,rfl,g9 g0 rfl ?_⟩;rw[cP];exact⟨_,_,rfl,rfl,by split<;>omega,by omega,by omega⟩
     · refine vb (decide_eq_false hbig) ?_;refine⟨_,rfl,bP g0 i3 ⟨_,_,rfl,rfl,?_⟩⟩;refine⟨_,rfl,g9 g0 rfl ?_⟩;rw[cP];exact⟨_,_,rfl,rfl,by omega,by omega,by omega⟩
   · refine vb (decide_eq_false hlt) ?_;refine⟨_,rfl,bP g0 i2 ⟨_,_,rfl,rfl,_,rfl,?_⟩⟩;by_cases hp:0<(0:Int)
     · refine u_ (decide_eq_true hp) ?_;refine⟨_,rfl,bP g0 i2 ⟨_,rfl,_,_,rfl,rfl,hm0,?_⟩⟩;refine⟨_,rfl,bP g0 i2 ⟨_,rfl,_,_,rfl,rfl,hmd _,?_⟩⟩;refine⟨_,rfl,g9 g0 rfl ?_⟩;rw[cP];refine⟨_,rfl,?_⟩;exact out _ _ _ _ (fm _).1 (fm _).2 (by omega) (Int.fdiv_nonneg (by omega) (by omega)) ht
     · refine vb (decide_eq_false hp) ?_;refine⟨_,rfl,bP g0 i0 ⟨c,_,rfl,.inl (.inl (.inl gc)),⟨_,_,rfl,rfl,_,rfl,?_⟩⟩⟩;by_cases hn:(0:Int)<((ns.map V.int).length:Int)
       · refine u_ (decide_eq_true hn) ?_;have hnn:(0:Int)<(ns.length:Int):=by rw[wP]at hn;exact hn
         have b1:=xU (a+1) hnn;have b2:=yB (a+1) hnn;have hk:((a+1).fmod (ns.length:Int)).toNat<ns.length:=by omega
         have at2:L2.atI (ns.map V.int) ((a+1).fmod ((ns.map V.int).length:Int))=some (.int ns[((a+1).fmod (ns.length:Int)).toNat]):=by simpa only[wP]using dY b1 hk
         refine⟨_,rfl,bP g0 i0 ⟨_,rfl,bP g0 i1 ⟨_,rfl,bP g0 i0 ⟨c,_,rfl,.inl (.inl (.inl gc)),_,_,rfl,rfl,by omega,bP gc at2 ?_⟩⟩⟩⟩;refine⟨_,rfl,_,_,rfl,rfl,(show(2147483647:Int)≠0 by decide),_,_,rfl,rfl,a_.rt (by decide),_,rfl,bP g0 i1 ⟨_,_,rfl,rfl,a_.lt (by decide),_,_,rfl,rfl,_,_,rfl,rfl,_,_,rfl,rfl,(show(2147483629:Int)≠0 by decide),?_⟩⟩;refine⟨_,rfl,_,rfl,_,_,rfl,rfl,_,_,rfl,rfl,a_.lt (bM (by decide) (by decide)),_,_,rfl,rfl,(show(2147483587:Int)≠0 by decide),?_⟩;refine⟨_,rfl,_,_,rfl,rfl,a_.rt (by decide),_,_,rfl,rfl,(show(2147483563:Int)≠0 by decide),_,rfl,_,_,rfl,rfl,hm0,?_⟩;exact out _ _ _ _ (fm _).1 (fm _).2 (by omega) (by omega) ht
       · refine vb (decide_eq_false hn) ?_;refine⟨_,rfl,_,_,rfl,rfl,(show(2147483647:Int)≠0 by decide),_,_,rfl,rfl,a_.rt (by decide),_,rfl,bP g0 i1 ⟨_,_,rfl,rfl,a_.lt (by decide),_,_,rfl,rfl,_,_,rfl,rfl,_,_,rfl,rfl,(show(2147483629:Int)≠0 by decide),?_⟩⟩;refine⟨_,rfl,_,rfl,_,_,rfl,rfl,_,_,rfl,rfl,a_.lt (bM (by decide) (by decide)),_,_,rfl,rfl,(show(2147483587:Int)≠0 by decide),?_⟩;refine⟨_,rfl,_,_,rfl,rfl,a_.rt (by decide),_,_,rfl,rfl,(show(2147483563:Int)≠0 by decide),_,rfl,_,_,rfl,rfl,hm0,?_⟩;exact out _ _ _ _ (fm _).1 (fm _).2 (by omega) (by omega) ht
 · refine vb (p_ hz) ?_;refine⟨_,rfl,bP g0 i2 ⟨_,_,rfl,rfl,_,rfl,?_⟩⟩;by_cases hp:0<l
   · refine u_ (decide_eq_true hp) ?_;refine⟨_,rfl,bP g0 i2 ⟨_,rfl,_,_,rfl,rfl,hm0,?_⟩⟩;refine⟨_,rfl,bP g0 i2 ⟨_,rfl,_,_,rfl,rfl,hmd _,?_⟩⟩;refine⟨_,rfl,g9 g0 rfl ?_⟩;rw[cP];refine⟨_,rfl,?_⟩;exact out _ _ _ _ (fm _).1 (fm _).2 (by omega) (Int.fdiv_nonneg (by omega) (by omega)) ht
   · refine vb (decide_eq_false hp) ?_;refine⟨_,rfl,bP g0 i0 ⟨c,_,rfl,.inl (.inl (.inl gc)),⟨_,_,rfl,rfl,_,rfl,?_⟩⟩⟩;by_cases hn:(0:Int)<((ns.map V.int).length:Int)
     · refine u_ (decide_eq_true hn) ?_;have hnn:(0:Int)<(ns.length:Int):=by rw[wP]at hn;exact hn
       have b1:=xU (a+1) hnn;have b2:=yB (a+1) hnn;have hk:((a+1).fmod (ns.length:Int)).toNat<ns.length:=by omega
       have at2:L2.atI (ns.map V.int) ((a+1).fmod ((ns.map V.int).length:Int))=some (.int ns[((a+1).fmod (ns.length:Int)).toNat]):=by simpa only[wP]using dY b1 hk
       refine⟨_,rfl,bP g0 i0 ⟨_,rfl,bP g0 i1 ⟨_,rfl,bP g0 i0 ⟨c,_,rfl,.inl (.inl (.inl gc)),_,_,rfl,rfl,by omega,bP gc at2 ?_⟩⟩⟩⟩;refine⟨_,rfl,_,_,rfl,rfl,(show(2147483647:Int)≠0 by decide),_,_,rfl,rfl,a_.rt (by decide),_,rfl,bP g0 i1 ⟨_,_,rfl,rfl,a_.lt (by decide),_,_,rfl,rfl,_,_,rfl,rfl,_,_,rfl,rfl,(show(2147483629:Int)≠0 by decide),?_⟩⟩;refine⟨_,rfl,_,rfl,_,_,rfl,rfl,_,_,rfl,rfl,a_.lt (bM (by decide) (by decide)),_,_,rfl,rfl,(show(2147483587:Int)≠0 by decide),?_⟩;refine⟨_,rfl,_,_,rfl,rfl,a_.rt (by decide),_,_,rfl,rfl,(show(2147483563:Int)≠0 by decide),_,rfl,_,_,rfl,rfl,hm0,?_⟩;exact out _ _ _ _ (fm _).1 (fm _).2 (by omega) (by omega) ht
     · refine vb (decide_eq_false hn) ?_;refine⟨_,rfl,_,_,rfl,rfl,(show(2147483647:Int)≠0 by decide),_,_,rfl,rfl,a_.rt (by decide),_,rfl,bP g0 i1 ⟨_,_,rfl,rfl,a_.lt (by decide),_,_,rfl,rfl,_,_,rfl,rfl,_,_,rfl,rfl,(show(2147483629:Int)≠0 by decide),?_⟩⟩;refine⟨_,rfl,_,rfl,_,_,rfl,rfl,_,_,rfl,rfl,a_.lt (bM (by decide) (by decide)),_,_,rfl,rfl,(show(2147483587:Int)≠0 by decide),?_⟩;refine⟨_,rfl,_,_,rfl,rfl,a_.rt (by decide),_,_,rfl,rfl,(show(2147483563:Int)≠0 by decide),_,rfl,_,_,rfl,rfl,hm0,?_⟩;exact out _ _ _ _ (fm _).1 (fm _).2 (by omega) (by omega) ht
theorem tK(h:uV 2000 q):(q.den:Int).natAbs<2^2000:=by rw[yl];exact h.2
noncomputable def aq:List W->(wD->Prop)->Prop:=fun ws Q=>∃(i j:Int),ws=[.d (.int i),.d (.int j)]/\(True)/\Q (.int (xu i j:Nat))
theorem aq.mono:∀ws (Q Q':wD->Prop),(∀d,Q d->Q' d)->aq ws Q->aq ws Q':=fun _ _ _ h_=>xo fun _=>xo fun _=>wV (wV (h_ _))
theorem aq.len:∀ws (Q:wD->Prop),aq ws Q->ws.length=2:=fun _ _ h_=>by obtain⟨_,_,e_,_⟩:=h_;subst e_;rfl
theorem aq.eq(i j:Int)  : aq [.d (.int i),.d (.int j)]=VL.ret (.int (xu i j:Nat):wD):=by
 refine ab fun Q=>⟨?_,fun q_=>⟨i,j,rfl,trivial,q_⟩⟩;rintro⟨i',j',e_,_,q_⟩;simp_arith only[and_true]at e_;obtain⟨rfl,rfl⟩:=e_;exact q_
theorem cj:FnScope ["one", "other"] ["one", "other"] (defScope (uA 5)):=⟨rfl,rfl,rfl,by decide +kernel,rfl,by decide +kernel,by decide +kernel⟩
theorem d_common_divisor(Fn:FnIn K mg "common_divisor" (uA 5) ["one", "other"])(Z:Bz mg)    : Dfn P w K mg base rl "common_divisor" ["one", "other"] 1 aq:=by
 have sc:=cj
 refine Dfn.of Fn sc (aq.mono) (aq.len) (fun cdv A outer s H E hr=>(ah (cO [] yt (bC (oJ hr.units) kS (aV _) (vn 1) ag) (av (dZ 0 1 rfl sc.nd (aa (vn 1) (aa (v_mod (vn 0) (vn 1)) ae)))))
  (av (aU (nD Z.abs_ (aa (vn 0) ae)))))) ?_
 rintro ws Q ⟨i,j,rfl,_,hQ⟩;refine aK ?_;simp_arith only[af];refine du (σ:=Int×Int) (fun s=>[some (.d (.int s.1)),some (.d (.int s.2))]) (fun s=>!(s.2==0)) (fun s=>(s.2,s.1.fmod s.2)) (fun s=>s.2.natAbs) (fun s=>xu s.1 s.2=xu i j) (i,j) rfl rfl ?_ ?_ ?_
 · intro s _;simp_arith only[af]
 · intro s e c;have hc:s.2≠0:=by simpa using c
   refine⟨by rw[cM];exact e,bW hc,_,?_,rfl⟩;simp_arith only[al,af]
 · intro s e c;have hc:s.2=0:=by simpa using c
   simp_arith only[af];rw[hc,AF]at e;refine bc ?_;have:(if s.1<0 then -s.1 else s.1)=((xu i j:Nat):Int):=by rw[<- e];split<;>omega
   rw[this];exact hQ
noncomputable def aJ:List W->(wD->Prop)->Prop:=fun ws Q=>∃(a b:Int),ws=[.d (.int a),.d (.int b)]/\((0<b)/\(b.natAbs<2^8000))/\Q (fr (qd a b))
theorem aJ.mono:∀ws (Q Q':wD->Prop),(∀d,Q d->Q' d)->aJ ws Q->aJ ws Q':=fun _ _ _ h_=>xo fun _=>xo fun _=>wV (wV (h_ _))
theorem aJ.len:∀ws (Q:wD->Prop),aJ ws Q->ws.length=2:=fun _ _ h_=>by obtain⟨_,_,e_,_⟩:=h_;subst e_;rfl
theorem aJ.eq(a b:Int)(hb:0<b)(hz:b.natAbs<2^8000):aJ [.d (.int a),.d (.int b)]=VL.ret (fr (qd a b):wD):=by
 refine ab fun Q=>⟨?_,fun q_=>⟨a,b,rfl,⟨hb,hz⟩,q_⟩⟩;rintro⟨a',b',e_,_,q_⟩;simp_arith only[and_true]at e_;obtain⟨rfl,rfl⟩:=e_;exact q_
theorem fH:FnScope ["top", "bottom", "divisor"] ["top", "bottom"] (defScope (uA 6)):=⟨rfl,rfl,rfl,by decide +kernel,rfl,by decide +kernel,by decide +kernel⟩
theorem d_fraction(Fn:FnIn K mg "fraction" (uA 6) ["top", "bottom"])(Z:Bz mg)(d_common_divisor:∀rl,Dfn P w K mg base rl "common_divisor" ["one", "other"] 1 aq)   : Dfn P w K mg base rl "fraction" ["top", "bottom"] 2 aJ:=by
 have sc:=fH
 refine Dfn.of Fn sc (aJ.mono) (aJ.len) (fun cdv A outer s H E hr=>(ah (h9 (bC (oK hr.units) kS (aV _) (vn 1) ag) (av jO) fZ)
  (ah (aw 2 sc.nd (aF (d_common_divisor _) (hr.mono (by decide)) (aa (vn 0) (aa (vn 1) ae))))
  (ah (h9 (bC fK jQ (aV _) (vn 1) ag) (av (aw 2 sc.nd (qc (vn 2)))) fZ)
  (av (aU (fF (aa (v_div (vn 0) (vn 2)) (aa (v_div (vn 1) (vn 2)) ae))))))))) ?_
 rintro ws Q ⟨a,b,rfl,⟨hb,hz⟩,hQ⟩;refine aK ?_;have c1:bY a (xu a b:Int):=dP hb hz _;have c2:bY b (xu a b:Int):=dP hb hz _;have h0:(b==0)=false:=by simp;omega
 have h1:decide (b<0)=false:=by simp;omega
 simp_arith only[al,af,aq.eq,h0,h1];rw[eU hb];exact bc hQ
noncomputable def cS:List W->(wD->Prop)->Prop:=fun ws Q=>∃(q r:Rat),ws=[.d (fr q),.d (fr r)]/\((uV 2000 q)/\(uV 2000 r))/\Q (fr (q+r))
theorem cS.mono:∀ws (Q Q':wD->Prop),(∀d,Q d->Q' d)->cS ws Q->cS ws Q':=fun _ _ _ h_=>xo fun _=>xo fun _=>wV (wV (h_ _))
theorem cS.len:∀ws (Q:wD->Prop),cS ws Q->ws.length=2:=fun _ _ h_=>by obtain⟨_,_,e_,_⟩:=h_;subst e_;rfl
theorem cS.eq(q r:Rat)(h1:uV 2000 q)(h2:uV 2000 r):cS [.d (fr q),.d (fr r)]=VL.ret (fr (q+r):wD):=by
 refine ab fun Q=>⟨?_,fun q_=>⟨q,r,rfl,⟨h1,h2⟩,q_⟩⟩;rintro⟨q',r',e_,_,q_⟩;simp_arith only[gC,cB,cC,bK,bG,cW]at e_;obtain⟨rfl,rfl⟩:=e_;exact q_
theorem lV:FnScope ["one", "other"] ["one", "other"] (defScope (uA 7)):=⟨rfl,rfl,rfl,by decide +kernel,rfl,by decide +kernel,by decide +kernel⟩
theorem d_plus(Fn:FnIn K mg "plus" (uA 7) ["one", "other"])(Z:Bz mg)(d_fraction:∀rl,Dfn P w K mg base rl "fraction" ["top", "bottom"] 2 aJ)   : Dfn P w K mg base rl "plus" ["one", "other"] 3 cS:=by
 have sc:=lV;refine Dfn.of Fn sc (cS.mono) (cS.len) (fun cdv A outer s H E hr=>(av (aU (aF (d_fraction _) (hr.mono (by decide)) (aa (v_add (v_mul (cg (vn 0) ag) (cg (vn 1) ag)) (v_mul (cg (vn 1) ag) (cg (vn 0) ag))) (aa (v_mul (cg (vn 0) ag) (cg (vn 1) ag)) ae)))))) ?_;rintro ws Q ⟨q,r,rfl,⟨h1,h2⟩,hQ⟩;refine aK ?_;have m1:a_ q.num r.den:=.bb h1.bn h2.bd;have m2:a_ r.num q.den:=.bb h2.bn h1.bd;have m3:a_ q.den r.den:=.bb h1.bd h2.bd;have m4:a_ q.num r.num:=.bb h1.bn h2.bn;have d1:=den_pos q r;have d2:=eZ h1 h2;simp_arith only[al,af,aJ.eq,wB,ox];exact bc hQ
noncomputable def bS:List W->(wD->Prop)->Prop:=fun ws Q=>∃(q r:Rat),ws=[.d (fr q),.d (fr r)]/\((uV 2000 q)/\(uV 2000 r))/\Q (fr (q*r))
theorem bS.mono:∀ws (Q Q':wD->Prop),(∀d,Q d->Q' d)->bS ws Q->bS ws Q':=fun _ _ _ h_=>xo fun _=>xo fun _=>wV (wV (h_ _))
theorem bS.len:∀ws (Q:wD->Prop),bS ws Q->ws.length=2:=fun _ _ h_=>by obtain⟨_,_,e_,_⟩:=h_;subst e_;rfl
theorem bS.eq(q r:Rat)(h1:uV 2000 q)(h2:uV 2000 r):bS [.d (fr q),.d (fr r)]=VL.ret (fr (q*r):wD):=by
 refine ab fun Q=>⟨?_,fun q_=>⟨q,r,rfl,⟨h1,h2⟩,q_⟩⟩;rintro⟨q',r',e_,_,q_⟩;simp_arith only[gC,cB,cC,bK,bG,cW]at e_;obtain⟨rfl,rfl⟩:=e_;exact q_
theorem jX:FnScope ["one", "other"] ["one", "other"] (defScope (uA 8)):=⟨rfl,rfl,rfl,by decide +kernel,rfl,by decide +kernel,by decide +kernel⟩
theorem d_times(Fn:FnIn K mg "times" (uA 8) ["one", "other"])(Z:Bz mg)(d_fraction:∀rl,Dfn P w K mg base rl "fraction" ["top", "bottom"] 2 aJ)   : Dfn P w K mg base rl "times" ["one", "other"] 3 bS:=by
 have sc:=jX;refine Dfn.of Fn sc (bS.mono) (bS.len) (fun cdv A outer s H E hr=>(av (aU (aF (d_fraction _) (hr.mono (by decide)) (aa (v_mul (cg (vn 0) ag) (cg (vn 1) ag)) (aa (v_mul (cg (vn 0) ag) (cg (vn 1) ag)) ae)))))) ?_;rintro ws Q ⟨q,r,rfl,⟨h1,h2⟩,hQ⟩;refine aK ?_;have m1:a_ q.num r.den:=.bb h1.bn h2.bd;have m2:a_ r.num q.den:=.bb h2.bn h1.bd;have m3:a_ q.den r.den:=.bb h1.bd h2.bd;have m4:a_ q.num r.num:=.bb h1.bn h2.bn;have d1:=den_pos q r;have d2:=eZ h1 h2;simp_arith only[al,af,aJ.eq,wB,ou];exact bc hQ
noncomputable def aY:List W->(wD->Prop)->Prop:=fun ws Q=>∃(q r:Rat),ws=[.d (fr q),.d (fr r)]/\((uV 2000 q)/\(uV 2000 r))/\Q (.bool (decide (q<r)))
theorem aY.mono:∀ws (Q Q':wD->Prop),(∀d,Q d->Q' d)->aY ws Q->aY ws Q':=fun _ _ _ h_=>xo fun _=>xo fun _=>wV (wV (h_ _))
theorem aY.len:∀ws (Q:wD->Prop),aY ws Q->ws.length=2:=fun _ _ h_=>by obtain⟨_,_,e_,_⟩:=h_;subst e_;rfl
theorem aY.eq(q r:Rat)(h1:uV 2000 q)(h2:uV 2000 r):aY [.d (fr q),.d (fr r)]=VL.ret (.bool (decide (q<r)):wD):=by
 refine ab fun Q=>⟨?_,fun q_=>⟨q,r,rfl,⟨h1,h2⟩,q_⟩⟩;rintro⟨q',r',e_,_,q_⟩;simp_arith only[gC,cB,cC,bK,bG,cW]at e_;obtain⟨rfl,rfl⟩:=e_;exact q_
theorem fG:FnScope ["one", "other"] ["one", "other"] (defScope (uA 9)):=⟨rfl,rfl,rfl,by decide +kernel,rfl,by decide +kernel,by decide +kernel⟩
theorem d_is_below(Fn:FnIn K mg "is_below" (uA 9) ["one", "other"])(Z:Bz mg)    : Dfn P w K mg base rl "is_below" ["one", "other"] 1 aY:=by
 have sc:=fG;refine Dfn.of Fn sc (aY.mono) (aY.len) (fun cdv A outer s H E hr=>(av (aU (qe fK jQ (aV _) (v_mul (cg (vn 0) ag) (cg (vn 1) ag)) (v_mul (cg (vn 1) ag) (cg (vn 0) ag)))))) ?_;rintro ws Q ⟨q,r,rfl,⟨h1,h2⟩,hQ⟩;refine aK ?_;have m1:a_ q.num r.den:=.bb h1.bn h2.bd;have m2:a_ r.num q.den:=.bb h2.bn h1.bd;simp_arith only[al,af,wB,qU];exact bc hQ
noncomputable def bx:List W->(wD->Prop)->Prop:=fun ws Q=>∃(q r:Rat),ws=[.d (fr q),.d (fr r)]/\((uV 2000 q)/\(uV 2000 r))/\Q (fr (mn q r))
theorem bx.mono:∀ws (Q Q':wD->Prop),(∀d,Q d->Q' d)->bx ws Q->bx ws Q':=fun _ _ _ h_=>xo fun _=>xo fun _=>wV (wV (h_ _))
theorem bx.len:∀ws (Q:wD->Prop),bx ws Q->ws.length=2:=fun _ _ h_=>by obtain⟨_,_,e_,_⟩:=h_;subst e_;rfl
theorem bx.eq(q r:Rat)(h1:uV 2000 q)(h2:uV 2000 r):bx [.d (fr q),.d (fr r)]=VL.ret (fr (mn q r):wD):=by
 refine ab fun Q=>⟨?_,fun q_=>⟨q,r,rfl,⟨h1,h2⟩,q_⟩⟩;rintro⟨q',r',e_,_,q_⟩;simp_arith only[gC,cB,cC,bK,bG,cW]at e_;obtain⟨rfl,rfl⟩:=e_;exact q_
theorem iF:FnScope ["one", "other"] ["one", "other"] (defScope (uA 10)):=⟨rfl,rfl,rfl,by decide +kernel,rfl,by decide +kernel,by decide +kernel⟩
theorem d_lesser(Fn:FnIn K mg "lesser" (uA 10) ["one", "other"])(Z:Bz mg)(d_is_below:∀rl,Dfn P w K mg base rl "is_below" ["one", "other"] 1 aY)   : Dfn P w K mg base rl "lesser" ["one", "other"] 2 bx:=by
 have sc:=iF;refine Dfn.of Fn sc (bx.mono) (bx.len) (fun cdv A outer s H E hr=>(av (aU (lF (nv (aF (d_is_below _) (hr.mono (by decide)) (aa (vn 0) (aa (vn 1) ae)))) (vn 0) (vn 1))))) ?_;rintro ws Q ⟨q,r,rfl,⟨h1,h2⟩,hQ⟩;refine aK ?_;simp_arith only[al,af,aY.eq,wB];unfold mn at hQ;refine bc ?_;by_cases h:q<r<;>simp[h]at hQ ⊢ <;> exact hQ
noncomputable def uj(q:Rat):Rat:=qd (q.num.fmod q.den) q.den
theorem qT(q:Rat):B3 [.int (q.num.fmod q.den),.int q.den]=fr (uj q):=by
 have hd:=kH q
 have g:xu (q.num.fmod q.den) q.den=1:=by
  rw[B2,cM];exact o7 q
 unfold uj;rw[<- eU hd,g];simp
noncomputable def bg:List W->(wD->Prop)->Prop:=fun ws Q=>∃(q:Rat),ws=[.d (fr q)]/\((uV 2000 q))/\Q (fr (uj q))
theorem bg.mono:∀ws (Q Q':wD->Prop),(∀d,Q d->Q' d)->bg ws Q->bg ws Q':=fun _ _ _ h_=>xo fun _=>wV (wV (h_ _))
theorem bg.len:∀ws (Q:wD->Prop),bg ws Q->ws.length=1:=fun _ _ h_=>by obtain⟨_,e_,_⟩:=h_;subst e_;rfl
theorem bg.eq(q:Rat)(h:uV 2000 q):bg [.d (fr q)]=VL.ret (fr (uj q):wD):=by
 refine ab fun Q=>⟨?_,fun q_=>⟨q,rfl,h,q_⟩⟩;rintro⟨q',e_,_,q_⟩;simp_arith only[gC,cB,cC,bK,bG,cW]at e_;obtain rfl:=e_;exact q_
theorem gU:FnScope ["one"] ["one"] (defScope (uA 11)):=⟨rfl,rfl,rfl,by decide +kernel,rfl,by decide +kernel,by decide +kernel⟩
theorem d_wrapped(Fn:FnIn K mg "wrapped" (uA 11) ["one"])(Z:Bz mg)    : Dfn P w K mg base rl "wrapped" ["one"] 1 bg:=by
 have sc:=gU;refine Dfn.of Fn sc (bg.mono) (bg.len) (fun cdv A outer s H E hr=>(av (aU (fF (aa (v_mod (cg (vn 0) ag) (cg (vn 0) ag)) (aa (cg (vn 0) ag) ae)))))) ?_;rintro ws Q ⟨q,rfl,h,hQ⟩;refine aK ?_;have cd:bY q.num q.den:=⟨by have:=kH q;omega,wK (tK h) (xj (by decide) (by decide))⟩;have dz:(q.den:Int)≠0:=by have:=kH q;omega
 simp_arith only[al,af,wB,qT];exact bc hQ
noncomputable def aZ:List W->(wD->Prop)->Prop:=fun ws Q=>∃(i j:Int),ws=[.d (.int i),.d (.int j)]/\((0<=i)/\(0<=j))/\Q (.int (xu i j:Nat))
theorem aZ.mono:∀ws (Q Q':wD->Prop),(∀d,Q d->Q' d)->aZ ws Q->aZ ws Q':=fun _ _ _ h_=>xo fun _=>xo fun _=>wV (wV (h_ _))
theorem aZ.len:∀ws (Q:wD->Prop),aZ ws Q->ws.length=2:=fun _ _ h_=>by obtain⟨_,_,e_,_⟩:=h_;subst e_;rfl
theorem aZ.eq(i j:Int)(hi:0<=i)(hj:0<=j):aZ [.d (.int i),.d (.int j)]=VL.ret (.int (xu i j:Nat):wD):=by
 refine ab fun Q=>⟨?_,fun q_=>⟨i,j,rfl,⟨hi,hj⟩,q_⟩⟩;rintro⟨i',j',e_,_,q_⟩;simp_arith only[and_true]at e_;obtain⟨rfl,rfl⟩:=e_;exact q_
theorem fI:FnScope ["_law_one", "_law_other"] ["_law_one", "_law_other"] (defScope (uA 21)):=⟨rfl,rfl,rfl,by decide +kernel,rfl,by decide +kernel,by decide +kernel⟩
theorem d__law_gcd(Fn:FnIn K mg "_law_gcd" (uA 21) ["_law_one", "_law_other"])(Z:Bz mg)    : Dfn P w K mg base rl "_law_gcd" ["_law_one", "_law_other"] 1 aZ:=by
 have sc:=fI
 refine Dfn.of Fn sc (aZ.mono) (aZ.len) (fun cdv A outer s H E hr=>(ah (cO [] yt (bC gY jR (aV _) (vn 1) ag) (av (dZ 0 1 rfl sc.nd (aa (vn 1) (aa (v_mod (vn 0) (vn 1)) ae)))))
  (av (aU (vn 0))))) ?_
 rintro ws Q ⟨i,j,rfl,⟨hi,hj⟩,hQ⟩;refine aK ?_;simp_arith only[af];refine du (σ:=Int×Int) (fun s=>[some (.d (.int s.1)),some (.d (.int s.2))]) (fun s=>decide (0<s.2)) (fun s=>(s.2,s.1.fmod s.2)) (fun s=>s.2.natAbs) (fun s=>0<=s.1/\0<=s.2/\xu s.1 s.2=xu i j) (i,j) rfl ⟨hi,hj,rfl⟩ ?_ ?_ ?_
 · intro s _;simp_arith only[af]
 · rintro⟨x,y⟩ ⟨x0,y0,e⟩ c;have c1:0<y:=by simpa using c
   have hc:y≠0:=by omega
   refine⟨⟨y0,xU _ c1,by rw[cM];exact e⟩,bW hc,_,by(simp_arith only[al,af])<;>rfl,rfl⟩
 · rintro⟨x,y⟩ ⟨x0,y0,e⟩ c
   have c1 : y = 0 := by have:¬0<y:=by simpa using c
                         have:0<=y:=y0;omega
   subst c1;have x0:0<=x:=x0;have e:xu x 0=xu i j:=e;simp_arith only[af];rw[AF]at e;have:x=((xu i j:Nat):Int):=by omega
   rw[this];exact bc hQ
noncomputable def aP:List W->(wD->Prop)->Prop:=fun ws Q=>∃(a b:Int),ws=[.d (.int a),.d (.int b)]/\((0<b)/\(b.natAbs<2^8000))/\Q (fr (qd a b))
theorem aP.mono:∀ws (Q Q':wD->Prop),(∀d,Q d->Q' d)->aP ws Q->aP ws Q':=fun _ _ _ h_=>xo fun _=>xo fun _=>wV (wV (h_ _))
theorem aP.len:∀ws (Q:wD->Prop),aP ws Q->ws.length=2:=fun _ _ h_=>by obtain⟨_,_,e_,_⟩:=h_;subst e_;rfl
theorem aP.eq(a b:Int)(hb:0<b)(hz:b.natAbs<2^8000):aP [.d (.int a),.d (.int b)]=VL.ret (fr (qd a b):wD):=by
 refine ab fun Q=>⟨?_,fun q_=>⟨a,b,rfl,⟨hb,hz⟩,q_⟩⟩;rintro⟨a',b',e_,_,q_⟩;simp_arith only[and_true]at e_;obtain⟨rfl,rfl⟩:=e_;exact q_
theorem eE:FnScope ["_law_top", "_law_bottom", "_law_common"] ["_law_top", "_law_bottom"] (defScope (uA 22)):=⟨rfl,rfl,rfl,by decide +kernel,rfl,by decide +kernel,by decide +kernel⟩
theorem d__law_frac(Fn:FnIn K mg "_law_frac" (uA 22) ["_law_top", "_law_bottom"])(Z:Bz mg)(d__law_gcd:∀rl,Dfn P w K mg base rl "_law_gcd" ["_law_one", "_law_other"] 1 aZ)   : Dfn P w K mg base rl "_law_frac" ["_law_top", "_law_bottom"] 2 aP:=by
 have sc:=eE
 refine Dfn.of Fn sc (aP.mono) (aP.len) (fun cdv A outer s H E hr=>(ah (aw 2 sc.nd (aF (d__law_gcd _) (hr.mono (by decide)) (aa (nD Z.abs_ (aa (vn 0) ae)) (aa (vn 1) ae))))
  (av (aU (fF (aa (v_div (vn 0) (vn 2)) (aa (v_div (vn 1) (vn 2)) ae))))))) ?_
 rintro ws Q ⟨a,b,rfl,⟨hb,hz⟩,hQ⟩;refine aK ?_;have e:xu (if a<0 then -a else a) b=xu a b:=by split<;>simp[xu]
 have c1:bY a (xu a b:Int):=dP hb hz _;have c2:bY b (xu a b:Int):=dP hb hz _;have a0:0<=(if a<0 then -a else a):=by split<;>omega
 simp_arith only[al,af,aZ.eq,e];rw[eU hb];exact bc hQ
theorem iO{n d k:Int}(h:d≠0):qd (n-d*k) d=qd n d-k:=by
 have hd:(d:Rat)≠0:=by intro z;exact h (by exact_mod_cast z)
 unfold qd;rw[Rat.intCast_sub,zG];generalize (d:Rat)=D at *;generalize (n:Rat)=N;generalize (k:Rat)=K
 grind
theorem p8(q:Rat):(∃n:Int,uj q=q-n)/\0<=uj q/\uj q<1:=by
 have hd:=kH q;have e1:=Int.mul_fdiv_add_fmod q.num q.den;refine⟨⟨q.num.fdiv q.den,?_⟩,lX hd (xU _ hd),iN hd (yB _ hd)⟩;have e2:q.num.fmod q.den=q.num-q.den*q.num.fdiv q.den:=by omega
 show qd (q.num.fmod q.den) q.den=_;rw[e2,iO (by omega),iM]
theorem tN{n:Int}(h1:(-1:Rat)<n)(h2:(n:Rat)<1):n=0:=by
 have a:(0:Int)<n+1:=by
  have:((0:Int):Rat)<((n+1:Int):Rat):=by rw[Bl];have:((0:Int):Rat)=0:=rfl;have:((1:Int):Rat)=1:=rfl;grind
  exact_mod_cast this
 have b:n<1:=by exact_mod_cast h2
 omega
theorem p7{y:Rat}(n:Int)(e:y=q+n)(h0:0<=y)(h1:y<1):uj q=y:=by
 obtain⟨⟨m,em⟩,a0,a1⟩:=p8 q;have k:((m+n:Int):Rat)=y-uj q:=by rw[Bl,em,e];grind
 have z:=tN (n:=m+n) (by rw[k];grind) (by rw[k];grind);rw[z]at k;have:((0:Int):Rat)=0:=rfl
 grind
theorem o4{n:Int}(h:n.natAbs<2^k)(hk:0<k):uV k (n:Rat):=⟨by rw[Rat.num_intCast];exact h,by rw[Rat.den_intCast];exact Nat.one_lt_two_pow (by omega)⟩
theorem bI{q h:Int}(hq:1<=q)(h0:0<=h):h<=q*h:=by
 have:=xn hq h0
 rwa [Int.one_mul]at this
noncomputable def dn(f h r d:Int):List Int:=if hr:0<r then(d / r*h+f)::dn h (d / r*h+f) (d%r) r else []
termination_by r.toNat
decreasing_by
 have:=xE d hr;have:=xK d (show r≠0 by omega);omega
theorem eY{f h r d:Int}(hr:0<r):dn f h r d=(d / r*h+f)::dn h (d / r*h+f) (d%r) r:=by rw[dn,dif_pos hr]
theorem dq{f h r d:Int}(hr:¬0<r):dn f h r d=[]:=by rw[dn,dif_neg hr]
structure DI (D f h r d:Int):Prop where
 inv:h*d+f*r=D
 f0:0<=f
 h1:1<=h
 r0:0<=r
 rd:r<d
 gcd:xu d r=1
theorem DI.le{D f h r d:Int}(i:DI D f h r d):h<=D/\d<=D:=by
 have a:=bI (q:=h) (h:=d) i.h1 (by have:=i.r0;have:=i.rd;omega);have b:=bI (q:=d) (h:=h) (by have:=i.r0;have:=i.rd;omega) (by have:=i.h1;omega);rw[zg]at b;have c:=x8 i.f0 i.r0;have e:=i.inv;omega
theorem DI.step{D f h r d:Int}(i:DI D f h r d)(hr:0<r):DI D h (d / r*h+f) (d%r) r/\h<=d / r*h+f/\1<=d / r:=by
 have q1:1<=d / r:=zX hr (by have:=i.rd;omega);have m1:=xK d (show r≠0 by omega);have m2:=xE d hr;have e:=xO d r;have l:=bI (q:=d / r) (h:=h) q1 (by have:=i.h1;omega);have f0:=i.f0;have h1:=i.h1;refine⟨⟨?_,by omega,by omega,m1,m2,?_⟩,by omega,q1⟩
 · have iv:=i.inv;generalize d / r=q at *;generalize d%r=m at *;rw[<- iv,<- e]
   grind
 · have g:=cM d r;rw[yx _ (by omega)]at g;exact g.trans i.gcd
theorem mU{D:Int}:∀(n:Nat){f h r d:Int},r.toNat<=n->DI D f h r d->(∀x∈dn f h r d,h<=x/\x<=D)/\D∈h::dn f h r d
 | n,f,h,r,d,hn,i=>by
   by_cases hr:0<r
   · obtain⟨i2,l,_⟩:=i.step hr;have m2:=xE d hr;have m1:=xK d (show r≠0 by omega)
     cases n with
     | zero=>omega
     | succ n =>
       obtain⟨a,b⟩:=mU n (show(d%r).toNat<=n by omega) i2;rw[eY hr];refine⟨fun x mx=>?_,wL _ b⟩;rcases xC.mp mx with rfl|mx
       · exact⟨l,i2.le.1⟩
       · obtain⟨u,v⟩:=a x mx;exact⟨by omega,v⟩
   · rw[dq hr];refine⟨fun x mx=>(by cases mx),?_⟩;have r0:r=0:=by have:=i.r0;omega
     have g:=i.gcd;have iv:=i.inv;have d0:=i.rd;subst r0;rw[AF]at g;have d1:d=1:=by omega
     subst d1;rw[AX,zY,B5]at iv;rw[iv];exact wQ
theorem jq:∀(n:Nat){f h r d:Int},0<=r->r<d->r<2^n->(dn f h r d).length<=2*n
 | 0,f,h,r,d,h0,h1,h2=>by rw[dq (by have:(2:Int)^0=1:=rfl;omega)];exact zr _
 | n+1,f,h,r,d,h0,h1,h2=>by
   by_cases hr:0<r
   · rw[eY hr,xf];have a1:=xK d (show r≠0 by omega);have a2:=xE d hr;generalize d%r=m at *;by_cases hm:0<m
     · rw[eY hm,xf];have b1:=xK r (show m≠0 by omega);have b2:=xE r hm;have b3:=xO r m;have b4:1<=r / m:=zX hm (by omega);have b5:=bI (q:=r / m) (h:=m) b4 (by omega);rw[zg]at b5;have e2:(2:Int)^(n+1)=2*2^n:=by rw[Int.pow_succ,zg]
       have:=jq n (f:=d / r*h+f) (h:=r / m*(d / r*h+f)+h) (r:=r%m) (d:=m) b1 b2 (by omega);omega
     · rw[dq hm];exact(show 0+1<=2*(n+1) by omega)
   · rw[dq hr];exact zr _
noncomputable def cv:Int->Int->List Int->List Int
 | _,_,[]=>[]
 | f,h,q::qs=>(q*h+f)::cv h (q*h+f) qs
structure DnS (s:Rat) (ns:List Int):Prop where
 up:ns.Pairwise (· < ·)
 mem:∀x,x∈ns↔x∈1::dn 0 1 s.num s.den
noncomputable def vP(s:Rat)(B:Int):Prop:=0<=s.num/\s.num<(s.den:Int)/\(s.den:Int)<=B
theorem qO(s:Rat):xu (s.den:Int) s.num=1:=by
 have:=s.reduced;rw[B2];exact this
theorem vP.di{B:Int}(h:vP s B):DI s.den 0 1 s.num s.den:=⟨by rw[Int.one_mul,Int.zero_mul,B5],yQ _,yQ _,h.1,h.2.1,qO s⟩
theorem DnS.bd{B:Int}(d:DnS s ns)(h:vP s B):∀x∈ns,1<=x/\x<=s.den:=fun x mx=>by
 have:=(d.mem x).mp mx;have b:=mU _ (wM _) h.di;rcases xC.mp this with rfl|m
 · exact⟨yQ _,h.di.le.1⟩
 · exact b.1 x m
theorem DnS.len(d:DnS s ns)(h:vP s (10^9)):ns.length<=61:=by
 have nd:ns.Nodup:=d.up.imp fun{a b}(l:a<b)=>by omega
 have a:=yi nd fun x mx=>(d.mem x).mp mx;rw[xf]at a;have b:=jq 30 (f:=0) (h:=1) h.1 h.2.1 (by have:=h.2.1;have:=h.2.2;omega);omega
theorem DnS.ends{B:Int}(d:DnS s ns)(h:vP s B):(∃ini,ns=ini++[(s.den:Int)])/\∃r,ns=1::r:=by
 have b:=mU _ (wM _) h.di;have bd:=d.bd h;have mD:=(d.mem s.den).mpr b.2;have m1:=(d.mem 1).mpr wQ;constructor
 · obtain⟨u,v,e⟩:=List.append_of_mem mD
   cases v with
   | nil=>exact⟨u,e⟩
   | cons z v =>
     have up:=d.up;rw[e]at up;have l:=(AD.mp (Bu.mp up).2.1).1 z wQ;have:=(bd z (by rw[e];simp)).2;omega
 · cases ns with
   | nil=>cases m1
   | cons x r =>
     rcases xC.mp m1 with rfl|m
     · exact⟨r,rfl⟩
     · have:=(AD.mp d.up).1 1 m;have:=(bd x wQ).1;omega
noncomputable def blF(z:List (Int×Int)×Int)(x:Int):List (Int×Int)×Int:=(if 0<z.2 / x then z.1++[(x,z.2 / x)]else z.1,z.2%x)
noncomputable def blk(xs:List Int)(N:Int):List (Int×Int)×Int:=xs.foldl blF ([],N)
structure BlI (N:Int) (k:Nat) (z:List (Int×Int)×Int):Prop where
 l0:0<=z.2
 pos:∀p∈z.1,1<=p.1/\1<=p.2/\p.1<=N/\p.2<=N
 sum:(z.1.map fun p=>p.1*p.2).sum+z.2=N
 few:(z.1.map (·.2)).sum+z.2<=N
 len:z.1.length<=k
theorem BlI.begin{N:Int}(h:0<=N):BlI N 0 ([],N):=⟨h,fun p m=>(by cases m),by simp,by simp,wM _⟩
theorem BlI.step{N:Int}{z:List (Int×Int)×Int}(i:BlI N k z){x:Int}(hx:1<=x):BlI N (k+1) (blF z x):=by
 obtain⟨l0,pos,sum,few,len⟩:=i;obtain⟨ts,l⟩:=z;have l0:0<=l:=l0;have m1:=xK l (show x≠0 by omega);have q0:=Int.ediv_nonneg l0 (show 0<=x by omega);have e:=xO l x;have g:=bI (q:=x) (h:=l / x) hx q0;have sum:(ts.map fun p=>p.1*p.2).sum+l=N:=sum;have few:(ts.map (·.2)).sum+l<=N:=few
 have s0:0<=(ts.map (·.2)).sum:=by
  have key:∀us:List (Int×Int),(∀p∈us,1<=p.2)->0<=(us.map (·.2)).sum:=by
   intro us
   induction us with
   | nil=>intro _;exact yQ _
   | cons u us ih =>
     intro h;have a:=h u wQ;have b:=ih fun p m=>h p (wL _ m);rw[x9,yo];omega
  exact key ts fun p m=>(pos p m).2.1
 by_cases c:0<l / x
 · have eb:blF (ts,l) x=(ts++[(x,l / x)],l%x):=by unfold blF;rw[if_pos c]
   have g2:=bI (q:=l / x) (h:=x) (by omega) (by omega);rw[zg]at g2;rw[eb];refine⟨m1,fun p m=>?_,?_,?_,?_⟩
   · rcases yr.mp m with m|m
     · exact pos p m
     · cases yZ.mp m;exact⟨hx,c,by show x<=N;omega,by show l / x<=N;omega⟩
   · show((ts++[(x,l / x)]).map fun p=>p.1*p.2).sum+l%x=N;rw[zF,Au,x9,AB,yo,List.sum_nil];show _+(x*(l / x)+0)+l%x=N;omega
   · show((ts++[(x,l / x)]).map (·.2)).sum+l%x<=N;rw[zF,Au,x9,AB,yo,List.sum_nil];show _+(l / x+0)+l%x<=N;have few:(ts.map (·.2)).sum+l<=N:=few;omega
   · rw[xg,zT];have len:ts.length<=k:=len;omega
 · have eb:blF (ts,l) x=(ts,l%x):=by unfold blF;rw[if_neg c]
   have z0:l / x=0:=by omega
   rw[z0,zY,Bm]at e;rw[eb,e];exact⟨l0,pos,sum,few,Nat.le_succ_of_le len⟩
theorem BlI.fold{N:Int}:∀{xs:List Int}{k:Nat}{z:List (Int×Int)×Int},BlI N k z->(∀x∈xs,1<=x)->BlI N (k+xs.length) (xs.foldl blF z)
 | [],k,z,i,_=>i
 | x::xs,k,z,i,h=>by
   have:=BlI.fold (i.step (h x wQ)) fun y m=>h y (wL _ m);rw[xf,show k+(xs.length+1)=k+1+xs.length by omega];exact this
theorem DnS.goes{B:Int}(d:DnS s ns)(h:vP s B){N:Int}(hN:0<=N):BlI N ns.length (blk ns.reverse N)/\(blk ns.reverse N).2=0:=by
 have bd:=d.bd h;have i:=BlI.fold (xs:=ns.reverse) (BlI.begin hN) fun x m=>(bd x (z8.mp m)).1;rw[zu,zV]at i;refine⟨i,?_⟩;obtain⟨_,r,e⟩:=d.ends h;rw[e,AN];unfold blk;rw[List.foldl_append,List.foldl_cons,List.foldl_nil];show _%1=0;exact Int.emod_one _
noncomputable def ax:List W->(wD->Prop)->Prop:=fun ws Q=>∃(s:Rat),ws=[.d (fr s)]/\((vP s (10^9)))/\∀ns:List Int,(DnS s ns)->Q (.tuple (ns.map .int))
theorem ax.mono:∀ws (Q Q':wD->Prop),(∀d,Q d->Q' d)->ax ws Q->ax ws Q':=fun _ _ _ h_=>xo fun _=>wV (wV fun q_ o_ ho_=>h_ _ (q_ o_ ho_))
theorem ax.len:∀ws (Q:wD->Prop),ax ws Q->ws.length=1:=fun _ _ h_=>by obtain⟨_,e_,_⟩:=h_;subst e_;rfl
theorem ax.eq(s:Rat)(hs:vP s (10^9)):ax [.d (fr s)]=vB (anyM fun ns:List Int=>DnS s ns) fun ns=>VL.ret (.tuple (ns.map .int):wD):=by
 refine ab fun Q=>⟨?_,fun q_=>⟨s,rfl,hs,q_⟩⟩;rintro⟨s',e_,_,q_⟩;simp_arith only[gC,cB,cC,bK,bG,cW]at e_;obtain rfl:=e_;exact q_
theorem cQ:FnScope ["step", "rest", "divisor", "former", "here", "told"] ["step"] (defScope (uA 15)):=⟨rfl,rfl,rfl,by decide +kernel,rfl,by decide +kernel,by decide +kernel⟩
theorem d_denominators(Fn:FnIn K mg "denominators" (uA 15) ["step"])(Z:Bz mg)    : Dfn P w K mg base rl "denominators" ["step"] 1 ax:=by
 have sc:=cQ
 refine Dfn.of Fn sc (ax.mono) (ax.len) (fun cdv A outer s H E hr=>(ah (ia (vn 0) (ga (n:=2) rfl (bm (aE 1 sc.nd) (bm (aE 2 sc.nd) dA))))
  (ah (ia (fF (aa ag (aa ag ae))) (ga (n:=2) rfl (bm (aE 3 sc.nd) (bm (aE 4 sc.nd) dA))))
  (ah (kQ 5 sc.nd (ii (aa (vn 4) ae)))
  (ah (cO [] yt (bC gY jR (aV _) (vn 1) ag) (ah (dZ 3 4 rfl sc.nd (aa (vn 4) (aa (v_add (v_mul (v_div (vn 2) (vn 1)) (vn 4)) (vn 3)) ae)))
  (ah (dZ 2 1 rfl sc.nd (aa (vn 1) (aa (v_mod (vn 2) (vn 1)) ae)))
  (av (kR 5 (aa (vn 4) ae))))))
  (av (aU (fE Z.tuple_ (aa (d8 rfl Z.sorted_ Z.set_ (aa (vn 5) ae)) ae))))))))) ?_
 rintro ws Q ⟨s,rfl,hs,hQ⟩;refine aK ?_;have sz:=xw;have di:=hs.di;have dl:=jq 30 (f:=0) (h:=1) hs.1 hs.2.1 (by have:=hs.2.1;have:=hs.2.2;omega);have D9:=hs.2.2;simp_arith only[al,af,wB,lI]
 refine du (σ:=(Int×Int)×(Int×Int)×List Int) (fun z=>[some (.d (fr s)),some (.d (.int z.1.1)),some (.d (.int z.1.2)),some (.d (.int z.2.1.1)),some (.d (.int z.2.1.2)),some (.ml (z.2.2.map .int))]) (fun z=>decide (0<z.1.1))
  (fun z=>((z.1.2%z.1.1,z.1.1),(z.2.1.2,z.1.2 / z.1.1*z.2.1.2+z.2.1.1),z.2.2++[z.1.2 / z.1.1*z.2.1.2+z.2.1.1])) (fun z=>z.1.1.toNat) (fun z=>DI s.den z.2.1.1 z.2.1.2 z.1.1 z.1.2/\z.2.2++dn z.2.1.1 z.2.1.2 z.1.1 z.1.2=1::dn 0 1 s.num s.den) ((s.num,s.den),(0,1),[1]) rfl ⟨di,rfl⟩ ?_ ?_ ?_
 · rintro⟨⟨r,d⟩,⟨f,h⟩,t⟩ _;simp_arith only[al,af,wB]
 · rintro⟨⟨r,d⟩,⟨f,h⟩,t⟩ ⟨i,e⟩ c;have i:DI s.den f h r d:=i;have e:t++dn f h r d=1::dn 0 1 s.num s.den:=e;have hr:0<r:=by simpa using c
   obtain⟨i2,l,q1⟩:=i.step hr
   have lt:t.length<sizeLine:=by
    have:=congrArg List.length e;rw[xg,xf]at this;omega
   obtain⟨b1,b2⟩:=i.le;obtain⟨c1,c2⟩:=i2.le;have h1:=i.h1;have r0:=i.rd;have e1:d.fdiv r=d / r:=xh _ (by omega);have e2:d.fmod r=d%r:=yx _ (by omega);have qb:d / r<=d:=Int.ediv_le_self r (by omega);have m1:bY d r:=.of (by omega) (by omega);have rz:r≠0:=by omega
   have m2:a_ (d / r) h:=.rt (by omega);have m3:=xE d hr;have m4:=xK d rz;refine⟨⟨i2,?_⟩,(show(d%r).toNat<r.toNat by omega),_,by(simp_arith only[al,af,wB,e1,e2,rz,m1,m2,lt])<;>rfl,?_⟩
   · show(t++[d / r*h+f])++dn h (d / r*h+f) (d%r) r=_;rw[<- e,eY hr,zL];rfl
   · simp_arith only[af,zF]
 · rintro⟨⟨r,d⟩,⟨f,h⟩,t⟩ ⟨i,e⟩ c;have i:DI s.den f h r d:=i;have e:t++dn f h r d=1::dn 0 1 s.num s.den:=e;have hr:¬0<r:=by simpa using c
   rw[dq hr,yF]at e;have tl:t.length<64:=by rw[e,xf];omega
   simp_arith only[al,af,wB,i8,pH,tl]
   (with_reducible (first|refine aG fun ns hns=>?_|refine aR fun ns hns=>?_))
   exact bc (hQ ns ⟨hns.1,fun x=>by rw[hns.2,e]⟩)
noncomputable def bA:List W->(wD->Prop)->Prop:=fun ws Q=>∃(s:Rat)(N:Int),ws=[.d (fr s),.d (.int N)]/\((vP s (10^9))/\(0<=N)/\(N<=10^9))/\∀ns:List Int,(DnS s ns)->Q (.tuple ((blk ns.reverse N).1.map vd))
theorem bA.mono:∀ws (Q Q':wD->Prop),(∀d,Q d->Q' d)->bA ws Q->bA ws Q':=fun _ _ _ h_=>xo fun _=>xo fun _=>wV (wV fun q_ o_ ho_=>h_ _ (q_ o_ ho_))
theorem bA.len:∀ws (Q:wD->Prop),bA ws Q->ws.length=2:=fun _ _ h_=>by obtain⟨_,_,e_,_⟩:=h_;subst e_;rfl
theorem bA.eq(s:Rat)(N:Int)(hs:vP s (10^9))(n0:0<=N)(n9:N<=10^9):bA [.d (fr s),.d (.int N)]=vB (anyM fun ns:List Int=>DnS s ns) fun ns=>VL.ret (.tuple ((blk ns.reverse N).1.map vd):wD):=by
 refine ab fun Q=>⟨?_,fun q_=>⟨s,N,rfl,⟨hs,n0,n9⟩,q_⟩⟩;rintro⟨s',N',e_,_,q_⟩;simp_arith only[gC,cB,cC,bK,bG,cW]at e_;obtain⟨rfl,rfl⟩:=e_;exact q_
theorem iG:FnScope ["step", "many", "told", "left", "denominator", "often"] ["step", "many"] (defScope (uA 16)):=⟨rfl,rfl,rfl,by decide +kernel,rfl,by decide +kernel,by decide +kernel⟩
theorem d_blocks(Fn:FnIn K mg "blocks" (uA 16) ["step", "many"])(Z:Bz mg)(d_denominators:∀rl,Dfn P w K mg base rl "denominators" ["step"] 1 ax)   : Dfn P w K mg base rl "blocks" ["step", "many"] 2 bA:=by
 have sc:=iG
 refine Dfn.of Fn sc (bA.mono) (bA.len) (fun cdv A outer s H E hr=>(ah (kQ 2 sc.nd (ii ae))
  (ah (aw 3 sc.nd (vn 1))
  (ah (dv [4,5] yt rfl (d4 Z.reversed_ (aa (aF (d_denominators _) (hr.mono (by decide)) (aa (vn 0) ae)) ae)) (aE 4 sc.nd) (ah (ia (jS Z.divmod_ (aa (vn 3) (aa (vn 4) ae))) (ga (n:=2) rfl (bm (aE 5 sc.nd) (bm (aE 3 sc.nd) dA))))
  (av (h9 (bC gY jR (aV _) (vn 5) ag) (av (kR 2 (aa (fF (aa (vn 4) (aa (vn 5) ae))) ae))) fZ))))
  (av (aU (fE Z.tuple_ (aa (vn 2) ae)))))))) ?_
 rintro ws Q ⟨s,N,rfl,⟨hs,n0,n9⟩,hQ⟩;refine aK ?_;have sz:=xw;simp_arith only[al,af,ax.eq,la,oN]
 (with_reducible (first|refine aG fun ns hns=>?_|refine aR fun ns hns=>?_))
 have hl:=hns.len hs;have bd:=hns.bd hs;have D9:=hs.2.2;have er:(ns.map xv).reverse=ns.reverse.map xv:=List.map_reverse.symm;simp_arith only[al,af,ax.eq,la,oN,er];refine ji (xs:=ns.reverse) (enc:=xv) (fun i ρ=>∃z:List (Int×Int)×Int,z=(ns.reverse.take i).foldl blF ([],N)/\ρ=[some (.d (fr s)),some (.d (.int N)),some (.ml (z.1.map vd)),some (.d (.int z.2)),none,none]) rfl ⟨_,rfl,rfl⟩ ?_ ?_
 · rintro i hi ρ ⟨z,ez,rfl⟩ K hK;have bi:=BlI.fold (xs:=ns.reverse.take i) (BlI.begin n0) fun x m=>(bd x (z8.mp (List.mem_of_mem_take m))).1;rw[<- ez,zV,zZ]at bi;obtain⟨b1,b2⟩:=bd ns.reverse[i] (z8.mp (yy hi));have e2:=g_ (f:=blF) (a:=(([],N):List (Int×Int)×Int)) hi;rw[<- ez]at e2;generalize ns.reverse[i]=x at *;obtain⟨ts,l⟩:=z
   have tl:ts.length<sizeLine:=by
    have:ts.length<=min i ns.reverse.length:=bi.len;have:i<ns.reverse.length:=hi;rw[zu]at this;omega
   have l0:0<=l:=bi.l0;have xz:x≠0:=by omega
   have e3:l.fdiv x=l / x:=xh _ (by omega);have e4:l.fmod x=l%x:=yx _ (by omega);have cd:bY l x:=.of xz (by omega);rw[show blF (ts,l) x=(if 0<l / x then ts++[(x,l / x)]else ts,l%x)from rfl]at e2;by_cases c:0<l / x
   · rw[if_pos c]at e2;simp_arith only[al,af,wB,e3,e4,cd,xz,c,tl,vd];refine hK _ (dj ⟨_,e2.symm,?_⟩);simp_arith only[af,zF,vd]
   · rw[if_neg c]at e2;simp_arith only[al,af,wB,e3,e4,cd,xz,c,tl,vd];exact hK _ (dj ⟨_,e2.symm,rfl⟩)
 · rintro ρ ⟨z,ez,rfl⟩;rw[yV (wM _)]at ez;simp_arith only[al,af,wB];rw[ez];exact bc (hQ ns hns)
theorem mV(q:Rat):((q.den:Int):Rat)≠0:=fun z=>by
 have z2:(q.den:Int)=0:=by exact_mod_cast z
 have:=q.den_pos;omega
theorem oP(q:Rat):((q.num:Int):Rat)=q*((q.den:Int):Rat):=by
 have e:qd q.num q.den=q:=iM q;unfold qd at e;have h:=mV q;generalize ((q.num:Int):Rat)=A at *;generalize ((q.den:Int):Rat)=B at *;rw[<- e];exact(Rat.div_mul_cancel h).symm
theorem nc(a s:Rat)(n:Int):uj (a+(n:Rat)*s)=qd ((a.num*s.den+n*s.num*a.den)%((a.den:Int)*s.den)) ((a.den:Int)*s.den):=by
 have h1:=a.den_pos;have h2:=s.den_pos;have hb:0<(a.den:Int)*s.den:=A1 (by omega) (by omega);have m1:=xK (a.num*s.den+n*s.num*a.den) (show(a.den:Int)*s.den≠0 by omega);have m2:=xE (a.num*s.den+n*s.num*a.den) hb;refine p7 (-((a.num*s.den+n*s.num*a.den) / ((a.den:Int)*s.den))) ?_ (lX hb m1) (iN hb m2);have e:=xO (a.num*s.den+n*s.num*a.den) ((a.den:Int)*s.den);have e1:(a.num*s.den+n*s.num*a.den)%((a.den:Int)*s.den)=(a.num*s.den+n*s.num*a.den)-((a.den:Int)*s.den)*((a.num*s.den+n*s.num*a.den) / ((a.den:Int)*s.den)):=by omega
 rw[e1,iO (by omega),Rat.intCast_neg]
 have e2:qd (a.num*s.den+n*s.num*a.den) ((a.den:Int)*s.den)=a+(n:Rat)*s:=by
  unfold qd;have p1:=mV a;have p2:=mV s;rw[Bl,zG,zG,zG,zG,oP a,oP s];generalize ((a.den:Int):Rat)=B at *;generalize ((s.den:Int):Rat)=D at *;generalize (n:Rat)=N at *;have hz:B*D≠0:=fun z=>by rcases Rat.mul_eq_zero.mp z with z|z<;>contradiction
  have:a*B*D+N*(s*D)*B=(a+N*s)*(B*D):=by grind
  rw[this,Cf,Rat.mul_assoc,Rat.mul_inv_cancel _ hz,Rat.mul_one]
 rw[e2]
 grind
theorem ot{N:Int}(h:0<N):qd N N=1:=by
 unfold qd
 have hz:(N:Rat)≠0:=fun z=>by
  have z2:N=0:=by exact_mod_cast z
  omega
 rw[Cf];exact Rat.mul_inv_cancel _ hz
theorem oR{N:Int}(hN:0<N):mn (qd b N) 1=qd (min N b) N:=by
 unfold mn;by_cases c:b<N
 · rw[if_pos (iN hN c),show min N b=b by omega]
 · rw[show min N b=N by omega,ot hN,if_neg];intro l;have h0:=lX (a:=b-N) hN (by omega);have e:=iO (n:=b) (d:=N) (k:=1) (by omega);rw[AX]at e;rw[e]at h0;have:((1:Int):Rat)=1:=rfl;rw[this]at h0
   grind
theorem oq{a m:Int}(h1:0<=a)(h2:a<b)(h3:b<=m):vP (qd a b) m:=by
 have hb:0<b:=by omega
 have e:=eU hb (a:=a)
 have hg:0<(xu a b:Int):=by
  have:=yY a (show b≠0 by omega);omega
 unfold mI at e;unfold fr at e;simp only[xS,xa,zp,and_true]at e;obtain⟨e1,e2⟩:=e;rw[xh _ (by omega)]at e1 e2;have da:(xu a b:Int)∣a:=Int.gcd_dvd_left ..;have db:(xu a b:Int)∣b:=Int.gcd_dvd_right ..;generalize (xu a b:Int)=g at *;obtain⟨x,rfl⟩:=da;obtain⟨y,rfl⟩:=db;rw[zA _ (by omega)]at e1 e2;have y0:0<y:=AT hb hg;have xy:x<y:=Int.lt_of_mul_lt_mul_left h2 (by omega);have x0:0<=x:=Int.le_of_mul_le_mul_left (by rw[zY];exact h1) hg;refine⟨by omega,by omega,?_⟩;have:1*y<=g*y:=xn (by omega) (by omega);omega
theorem vP.sm(h:vP s (10^9)):uV 30 s:=by
 obtain⟨h1,h2,h3⟩:=h;exact⟨by omega,by omega⟩
noncomputable def aH:List W->(wD->Prop)->Prop:=fun ws Q=>∃(s:Rat)(N:Int),ws=[.d (fr s),.d (.int N)]/\((vP s (10^9))/\(1<=N)/\(N<=10^9))/\∀ns:List Int,(DnS s ns)->Q (fr (qd (min N (2*((blk ns.reverse N).1.map (·.2)).sum)) N))
theorem aH.mono:∀ws (Q Q':wD->Prop),(∀d,Q d->Q' d)->aH ws Q->aH ws Q':=fun _ _ _ h_=>xo fun _=>xo fun _=>wV (wV fun q_ o_ ho_=>h_ _ (q_ o_ ho_))
theorem aH.len:∀ws (Q:wD->Prop),aH ws Q->ws.length=2:=fun _ _ h_=>by obtain⟨_,_,e_,_⟩:=h_;subst e_;rfl
theorem aH.eq(s:Rat)(N:Int)(hs:vP s (10^9))(n0:1<=N)(n9:N<=10^9):aH [.d (fr s),.d (.int N)]=vB (anyM fun ns:List Int=>DnS s ns) fun ns=>VL.ret (fr (qd (min N (2*((blk ns.reverse N).1.map (·.2)).sum)) N):wD):=by
 refine ab fun Q=>⟨?_,fun q_=>⟨s,N,rfl,⟨hs,n0,n9⟩,q_⟩⟩;rintro⟨s',N',e_,_,q_⟩;simp_arith only[gC,cB,cC,bK,bG,cW]at e_;obtain⟨rfl,rfl⟩:=e_;exact q_
theorem dD:FnScope ["step", "many", "blocks_in_all"] ["step", "many"] (defScope (uA 17)):=⟨rfl,rfl,rfl,by decide +kernel,rfl,by decide +kernel,by decide +kernel⟩
theorem d_step_bound(Fn:FnIn K mg "step_bound" (uA 17) ["step", "many"])(Z:Bz mg)(d_lesser:∀rl,Dfn P w K mg base rl "lesser" ["one", "other"] 2 bx)(d_fraction:∀rl,Dfn P w K mg base rl "fraction" ["top", "bottom"] 2 aJ)(d_blocks:∀rl,Dfn P w K mg base rl "blocks" ["step", "many"] 2 bA)(gl_ONE:GlD K mg "ONE" (pr 1 1))  : Dfn P w K mg base rl "step_bound" ["step", "many"] 3 aH:=by
 have sc:=dD
 refine Dfn.of Fn sc (aH.mono) (aH.len) (fun cdv A outer s H E hr=>(ah (aw 2 sc.nd (v_sum Z.sum_ (aa (bL ["denominator", "often"] [none,none] rfl (kU (aF (d_blocks _) (hr.mono (by decide)) (aa (vn 0) (aa (vn 1) ae)))) (fun _=>(ga (n:=2) rfl (bm (aE 0 (show zO (["denominator", "often"]:List Str) by decide +kernel)) (bm (aE 1 (show zO (["denominator", "often"]:List Str) by decide +kernel)) dA)))) (fun _=>h8) (fun _=>(vn 1))) ae)))
  (av (aU (aF (d_lesser _) (hr.mono (by decide)) (aa (aF (d_fraction _) (hr.mono (by decide)) (aa (v_mul ag (vn 2)) (aa (vn 1) ae))) (aa (nA gl_ONE) ae))))))) ?_
 rintro ws Q ⟨s,N,rfl,⟨hs,n0,n9⟩,hQ⟩;refine aK ?_;have sz:=xw;have n0':0<=N:=by omega
 simp_arith only[al,af,bA.eq]
 (with_reducible (first|refine aG fun ns hns=>?_|refine aR fun ns hns=>?_))
 obtain⟨bi,_⟩:=hns.goes hs n0';have hl:=hns.len hs;have ll:=bi.len;have hQ:=hQ ns hns;generalize blk ns.reverse N=z at bi ll hQ ⊢;refine uL (jw (xs:=z.1) (enc:=vd) (fun p=>.int p.2) rfl ?_ (by omega) ?_)
 · intro p mp;simp_arith only[al,af,va,vd]
 · have em:z.1.map (fun p=>xv p.2)=(z.1.map (·.2)).map xv:=by rw[List.map_map];rfl
   rw[em]
   have s0:0<=(z.1.map (·.2)).sum:=by
    have key:∀us:List (Int×Int),(∀p∈us,1<=p.2)->0<=(us.map (·.2)).sum:=by
     intro us
     induction us with
     | nil=>intro _;exact yQ _
     | cons u us ih =>
       intro h;have a:=h u wQ;have b:=ih fun p m=>h p (wL _ m);rw[x9,yo];omega
    exact key z.1 fun p m=>(bi.pos p m).2.1
   have few:=bi.few;have l0:=bi.l0;have cm:a_ 2 (z.1.map (·.2)).sum:=.rt (by omega);have hb:0<N:=by omega
   have bz:N.natAbs<2^8000:=wK (show N.natAbs<2^40 by omega) (xj (by decide) (by decide));have q1:uV 2000 (qd (2*(z.1.map (·.2)).sum) N):=(qz (k:=40) hb (by omega) (by omega)).mono (by decide);have q2:uV 2000 1:=tU.up;simp_arith only[al,af,wA,bx.eq,aJ.eq,bA.eq,wB];rw[<- oR hb]at hQ;exact bc hQ
noncomputable def az:List W->(wD->Prop)->Prop:=fun ws Q=>∃(a s:Rat)(n:Int),ws=[.d (fr a),.d (fr s),.d (.int n)]/\((vP a (10^9))/\(vP s (10^9))/\(0<=n)/\(n<=10^9))/\Q (fr (uj (a+(n:Rat)*s)))
theorem az.mono:∀ws (Q Q':wD->Prop),(∀d,Q d->Q' d)->az ws Q->az ws Q':=fun _ _ _ h_=>xo fun _=>xo fun _=>xo fun _=>wV (wV (h_ _))
theorem az.len:∀ws (Q:wD->Prop),az ws Q->ws.length=3:=fun _ _ h_=>by obtain⟨_,_,_,e_,_⟩:=h_;subst e_;rfl
theorem az.eq(a s:Rat)(n:Int)(ha:vP a (10^9))(hs:vP s (10^9))(n0:0<=n)(n9:n<=10^9):az [.d (fr a),.d (fr s),.d (.int n)]=VL.ret (fr (uj (a+(n:Rat)*s)):wD):=by
 refine ab fun Q=>⟨?_,fun q_=>⟨a,s,n,rfl,⟨ha,hs,n0,n9⟩,q_⟩⟩;rintro⟨a',s',n',e_,_,q_⟩;simp_arith only[gC,cB,cC,bK,bG,cW]at e_;obtain⟨rfl,rfl,rfl⟩:=e_;exact q_
theorem c7:FnScope ["start", "step", "n"] ["start", "step", "n"] (defScope (uA 13)):=⟨rfl,rfl,rfl,by decide +kernel,rfl,by decide +kernel,by decide +kernel⟩
theorem d_step_number(Fn:FnIn K mg "step_number" (uA 13) ["start", "step", "n"])(Z:Bz mg)(d_wrapped:∀rl,Dfn P w K mg base rl "wrapped" ["one"] 1 bg)(d_plus:∀rl,Dfn P w K mg base rl "plus" ["one", "other"] 3 cS)(d_times:∀rl,Dfn P w K mg base rl "times" ["one", "other"] 3 bS)   : Dfn P w K mg base rl "step_number" ["start", "step", "n"] 4 az:=by
 have sc:=c7;refine Dfn.of Fn sc (az.mono) (az.len) (fun cdv A outer s H E hr=>(av (aU (aF (d_wrapped _) (hr.mono (by decide)) (aa (aF (d_plus _) (hr.mono (by decide)) (aa (vn 0) (aa (aF (d_times _) (hr.mono (by decide)) (aa (fF (aa (vn 2) (aa ag ae))) (aa (vn 1) ae))) ae))) ae))))) ?_;rintro ws Q ⟨a,s,n,rfl,⟨ha,hs,n0,n9⟩,hQ⟩;refine aK ?_;have iu:uV 30 (n:Rat):=o4 (by omega) (by decide);have eu:B3 [.int n,.int 1]=fr (n:Rat):=rfl;have m1:=oQ iu hs.sm;have m2:=pI ha.sm m1;have s1:uV 2000 (n:Rat):=iu.mono (by decide);have s2:uV 2000 s:=hs.sm.mono (by decide);have s3:uV 2000 a:=ha.sm.mono (by decide);have s4:uV 2000 ((n:Rat)*s):=m1.mono (by decide);have s5:uV 2000 (a+(n:Rat)*s):=m2.mono (by decide);simp_arith only[al,af,bg.eq,cS.eq,bS.eq,wB,eu];exact bc hQ
noncomputable def bh:List W->(wD->Prop)->Prop:=fun ws Q=>∃(a s:Rat)(N:Int),ws=[.d (fr a),.d (fr s),.d (.int N)]/\((vP a (10^9))/\(vP s (10^9))/\(0<=N)/\(N<=1000))/\Q (.tuple ((w_ N.toNat).map fun j:Nat=>.tuple [fr (uj (a+((j:Int):Rat)*s))]))
theorem bh.mono:∀ws (Q Q':wD->Prop),(∀d,Q d->Q' d)->bh ws Q->bh ws Q':=fun _ _ _ h_=>xo fun _=>xo fun _=>xo fun _=>wV (wV (h_ _))
theorem bh.len:∀ws (Q:wD->Prop),bh ws Q->ws.length=3:=fun _ _ h_=>by obtain⟨_,_,_,e_,_⟩:=h_;subst e_;rfl
theorem bh.eq(a s:Rat)(N:Int)(ha:vP a (10^9))(hs:vP s (10^9))(n0:0<=N)(n9:N<=1000):bh [.d (fr a),.d (fr s),.d (.int N)]=VL.ret (.tuple ((w_ N.toNat).map fun j:Nat=>.tuple [fr (uj (a+((j:Int):Rat)*s))]):wD):=by
 refine ab fun Q=>⟨?_,fun q_=>⟨a,s,N,rfl,⟨ha,hs,n0,n9⟩,q_⟩⟩;rintro⟨a',s',N',e_,_,q_⟩;simp_arith only[gC,cB,cC,bK,bG,cW]at e_;obtain⟨rfl,rfl,rfl⟩:=e_;exact q_
theorem gW:FnScope ["start", "step", "many"] ["start", "step", "many"] (defScope (uA 14)):=⟨rfl,rfl,rfl,by decide +kernel,rfl,by decide +kernel,by decide +kernel⟩
theorem d_stepped(Fn:FnIn K mg "stepped" (uA 14) ["start", "step", "many"])(Z:Bz mg)(d_step_number:∀rl,Dfn P w K mg base rl "step_number" ["start", "step", "n"] 4 az)   : Dfn P w K mg base rl "stepped" ["start", "step", "many"] 5 bh:=by
 have sc:=gW;refine Dfn.of Fn sc (bh.mono) (bh.len) (fun cdv A outer s H E hr=>(av (aU (fE Z.tuple_ (aa (bL ["n", "start", "step"] [none,some 0,some 1] rfl (d6 Z.range_ (aa (vn 2) ae)) (fun _=>(aE 0 (show zO (["n", "start", "step"]:List Str) by decide +kernel))) (fun _=>h8) (fun _=>(fF (aa (aF (d_step_number _) (hr.mono (by decide)) (aa (vn 1) (aa (vn 2) (aa (vn 0) ae)))) ae)))) ae))))) ?_;rintro ws Q ⟨a,s,N,rfl,⟨ha,hs,n0,n9⟩,hQ⟩;refine aK ?_;have sz:=xw;have g1 : -(2^62)<=N/\N<2^62:=by omega
 simp_arith only[al,af,wB];refine kJ (fun j:Nat=>.tuple [fr (uj (a+((j:Int):Rat)*s))]) ?_ (by omega) ?_
 · intro j hj;simp_arith only[al,af,va,az.eq,wB,Bm]
 · have e0:(N-0).toNat=N.toNat:=by rw[Int.sub_zero]
   try rw[e0]
   exact bc hQ
noncomputable def aO:List W->(wD->Prop)->Prop:=fun ws Q=>ws=[.reel]/\(True)/\∀s:Rat,(vP s (10^9))->Q (fr s)
theorem aO.mono:∀ws (Q Q':wD->Prop),(∀d,Q d->Q' d)->aO ws Q->aO ws Q':=fun _ _ _ h_=>wV (wV fun q_ o_ ho_=>h_ _ (q_ o_ ho_))
theorem aO.len:∀ws (Q:wD->Prop),aO ws Q->ws.length=1:=fun _ _ h_=>by obtain⟨e_,_⟩:=h_;subst e_;rfl
theorem aO.eq   : aO [.reel]=vB (anyM fun s:Rat=>vP s (10^9)) fun s=>VL.ret (fr s:wD):=by
 refine ab fun Q=>⟨?_,fun q_=>⟨rfl,trivial,q_⟩⟩;rintro⟨e_,_,q_⟩;simp_arith only[and_true]at e_;exact q_
theorem eC:FnScope ["_law_feed_here", "_law_bottom", "_law_near"] ["_law_feed_here"] (defScope (uA 23)):=⟨rfl,rfl,rfl,by decide +kernel,rfl,by decide +kernel,by decide +kernel⟩
theorem d__law_step(Fn:FnIn K mg "_law_step" (uA 23) ["_law_feed_here"])(Z:Bz mg)(d__law_frac:∀rl,Dfn P w K mg base rl "_law_frac" ["_law_top", "_law_bottom"] 2 aP)(d__law_draw:∀rl,Dfn P w K mg base rl "_law_draw" ["_law_feed_here", "_law_many"] 2 dI)   : Dfn P w K mg base rl "_law_step" ["_law_feed_here"] 3 aO:=by
 have sc:=eC
 refine Dfn.of Fn sc (aO.mono) (aO.len) (fun cdv A outer s H E hr=>(ah (aw 1 sc.nd (v_add ag (aF (d__law_draw _) (hr.mono (by decide)) (aa (vn 0) (aa (cg (ii (aa ag (aa ag (aa ag (aa (v_pow ag ag) ae))))) (aF (d__law_draw _) (hr.mono (by decide)) (aa (vn 0) (aa ag ae)))) ae)))))
  (ah (aw 2 sc.nd (cg (ii (aa (aF (d__law_draw _) (hr.mono (by decide)) (aa (vn 0) (aa (vn 1) ae))) (aa (v_div (v_mul (vn 1) ag) ag) (aa (v_div (vn 1) ag) (aa (v_sub (vn 1) ag) ae))))) (aF (d__law_draw _) (hr.mono (by decide)) (aa (vn 0) (aa ag ae)))))
  (av (aU (aF (d__law_frac _) (hr.mono (by decide)) (aa (ny Z.min_ (aa (vn 2) (aa (v_sub (vn 1) ag) ae))) (aa (vn 1) ae)))))))) ?_
 rintro ws Q ⟨rfl,_,hQ⟩;refine aK ?_;have cp9:rf 10 9:=⟨by decide,by decide,by decide⟩;have e9:(10:Int)^Int.toNat 9=1000000000:=by decide
 simp_arith only[al,af,p__law_draw.eq,cp9,e9]
 (with_reducible (first|refine aG fun a ha=>?_|refine aR fun a ha=>?_))
 refine uK (dh (xs:=[5,60,1000,1000000000]) (enc:=xv) (fun m:Int=>1<=m/\m<=10^9) rfl ha.1 ha.2 (by decide) ?_);rintro mo ⟨mo1,mo9⟩;simp_arith only[al,af,p__law_draw.eq]
 (with_reducible (first|refine aG fun b hb=>?_|refine aR fun b hb=>?_))
 have cm:a_ (1+b) 377:=.rt (by omega);have cd:bY ((1+b)*377) 610:=bY.of (by decide) (by decide);have cd3:bY (1+b) 3:=bY.of (by decide) (by decide)
 try simp_arith only[al,af,p__law_draw.eq]
 (with_reducible (first|refine aG fun c hc=>?_|refine aR fun c hc=>?_))
 try simp_arith only[al,af,p__law_draw.eq]
 (with_reducible (first|refine aG fun k hk=>?_|refine aR fun k hk=>?_))
 refine uK (dh (xs:=[c,((1+b)*377).fdiv 610,(1+b).fdiv 3,1+b-1]) (enc:=xv) (fun z:Int=>0<=z) rfl hk.1 (by simpa using hk.2) ?_ fun z hz=>?_)
 · intro z mz;have e1:((1+b)*377).fdiv 610=((1+b)*377) / 610:=xh _ (by decide);have e2:(1+b).fdiv 3=(1+b) / 3:=xh _ (by decide);simp only[xC,z6,or_false]at mz;omega
 have hz0:0<=min z (1+b-1):=by omega
 have hz1:min z (1+b-1)<1+b:=by omega
 have hb1:(1+b).natAbs<2^8000:=wK (show(1+b).natAbs<2^31 by omega) (xj (by decide) (by decide));simp_arith only[al,af,aP.eq];exact bc (hQ _ (oq hz0 hz1 (by omega)))
noncomputable def wt(p D x:Int):Prop:=∃W r s u w:Int,(s=1\/s = -1)/\x*p=W*D+s*r/\0<=r/\x*r<D/\(W*u-w*x=1\/W*u-w*x = -1)
theorem jl{p D:Int}:∀(n:Nat){f h r d wf wh s:Int},r.toNat<=n->DI D f h r d->(s=1\/s = -1)->h*p-wh*D=s*r->f*p-wf*D = -(s*d)->(wh*f-wf*h=1\/wh*f-wf*h = -1)->∀x∈h::dn f h r d,wt p D x
 | n,f,h,r,d,wf,wh,s,hn,i,hs,e1,e2,e3,x,mx=>by
   rcases xC.mp mx with rfl|mx
   · refine⟨wh,r,s,f,wf,hs,by omega,i.r0,?_,e3⟩;have a:=ym (show r+1<=d by have:=i.rd;omega) (show 0<=x by have:=i.h1;omega);have b:=x8 i.f0 i.r0;have c:=i.inv;have e:x*(r+1)=x*r+x:=by rw[BN,AX]
     have:=i.h1;omega
   · by_cases hr:0<r
     · obtain⟨i2,l,q1⟩:=i.step hr;have m2:=xE d hr;have m1:=xK d (show r≠0 by omega);rw[eY hr]at mx
       cases n with
       | zero=>omega
       | succ n =>
         have ed:=xO d r;generalize d / r=q at *;generalize d%r=m at *;refine jl n (f:=h) (h:=q*h+f) (r:=m) (d:=r) (wf:=wh) (wh:=q*wh+wf) (s:=-s) (by omega) i2 (by omega) ?_ ?_ ?_ x mx
         · have:(q*h+f)*p-(q*wh+wf)*D=q*(h*p-wh*D)+(f*p-wf*D):=by grind
           rw[this,e1,e2,<- ed]
           grind
         · rw[e1];grind
         · have:(q*wh+wf)*h-wh*(q*h+f) = -(wh*f-wf*h):=by grind
           rw[this];omega
     · rw[dq hr]at mx;cases mx
theorem DnS.gd{B:Int}(d:DnS s ns)(h:vP s B):∀x∈ns,wt s.num s.den x:=fun x mx =>
 jl (wf:=1) (wh:=0) (s:=1) _ (wM _) h.di (.inl rfl) (by omega) (by omega) (.inr (by omega)) x ((d.mem x).mp mx)
theorem jW{ks:List Int}{lo hi:Int}(nd:ks.Nodup)(h:∀k∈ks,lo<=k/\k<=hi)(hl:lo<=hi+1):(ks.length:Int)<=hi-lo+1:=by
 have:=yi (l₂:=(w_ (hi-lo+1).toNat).map fun j:Nat=>lo+(j:Int)) nd fun k m=>by
  obtain⟨a,b⟩:=h k m;exact zb.mpr ⟨(k-lo).toNat,xL.mpr (by omega),by omega⟩
 rw[wP,yq]at this;omega
theorem ke{D X M:Int}(hD:0<D)(hM:0<=M){ks:List Int}(nd:ks.Nodup)(h:∀k∈ks,X<k*D/\k*D<=X+M):(ks.length:Int)*D<=M+D:=by
 have e1:=xO X D;have a1:=xK X (show D≠0 by omega);have a2:=xE X hD;have e2:=xO (X+M) D;have b1:=xK (X+M) (show D≠0 by omega);have b2:=xE (X+M) hD;have lh:X / D<=(X+M) / D:=Int.ediv_le_ediv hD (by omega)
 have c:=jW (lo:=X / D+1) (hi:=(X+M) / D) nd (fun k m=>by
  obtain⟨x,y⟩:=h k m;constructor
  · exact Int.ediv_lt_of_lt_mul hD x
  · exact zX hD y) (by omega)
 have:=xn c (show 0<=D by omega)
 have e:((X+M) / D-(X / D+1)+1)*D=D*((X+M) / D)-D*(X / D):=by
  generalize (X+M) / D=y;generalize X / D=x
  grind
 rw[e]at this;omega
noncomputable def vf(a b t:Int):Bool:=if a<=b then decide (a<=t)&&decide (t<=b)else decide (a<=t)||decide (t<=b)
noncomputable def cp(D a b:Int):Int:=if a<=b then b-a else D-a+b
theorem fO{D a:Int}(a0:0<=a)(aD:a<=D)(b0:0<=b)(bD:b<=D):0<=cp D a b/\cp D a b<=D:=by
 unfold cp;split<;>omega
theorem kM{p D x P T B a:Int}{c:Int}(hx:1<=x)(hD:0<D)(hc:0<c)(g:wt p D x)(eP:P=p*c)(eT:T=D*c)(a0:0<=a)(aD:a<=T)(b0:0<=b)(bD:b<=T) :
 (((w_ x.toNat).filter fun j:Nat=>vf a b ((B+(j:Int)*P)%T)).length:Int)*T<=x*cp T a b+2*T:=by
 obtain⟨W,r,s,u,w,hs,e1,r0,r1,e2⟩:=g;have hT:0<T:=by rw[eT];exact A1 hD hc
 obtain⟨l0,lT⟩:=fO (D:=T) a0 aD b0 bD
 let mv:Int->Int:=fun t=>if a<=t then 0 else 1
 let kap:Nat->Int:=fun j=>(j:Int)*W+x*(mv ((B+(j:Int)*P)%T)-(B+(j:Int)*P) / T)
 have inj:∀i j:Nat,i<x.toNat->j<x.toNat->kap i=kap j->i=j:=fun i j hi hj e=>by
  have e:(i:Int)*W+x*(mv ((B+(i:Int)*P)%T)-(B+(i:Int)*P) / T)=(j:Int)*W+x*(mv ((B+(j:Int)*P)%T)-(B+(j:Int)*P) / T):=e;generalize mv ((B+(i:Int)*P)%T)-(B+(i:Int)*P) / T=m1 at e;generalize mv ((B+(j:Int)*P)%T)-(B+(j:Int)*P) / T=m2 at e;have e5:((i:Int)-j)*W=x*(m2-m1):=by grind
  have e6:x∣((i:Int)-j):=by
   rcases e2 with e2|e2
   · refine⟨(m2-m1)*u-w*((i:Int)-j),?_⟩;have:((i:Int)-j)=((i:Int)-j)*(W*u-w*x):=by rw[e2,AX]
     generalize (i:Int)-j=y at *;rw[this];have:y*(W*u-w*x)=(y*W)*u-w*x*y:=by grind
     rw[this,e5]
     grind
   · refine⟨-((m2-m1)*u-w*((i:Int)-j)),?_⟩;have:((i:Int)-j) = -(((i:Int)-j)*(W*u-w*x)):=by rw[e2];omega
     generalize (i:Int)-j=y at *;rw[this];have:y*(W*u-w*x)=(y*W)*u-w*x*y:=by grind
     rw[this,e5]
     grind
  obtain⟨z,ez⟩:=e6
  have hz:z=0:=by
   rcases Int.lt_trichotomy z 0 with q|q|q
   · have:=bI (q:=-z) (h:=x) (by omega) (by omega);rw[Int.neg_mul,zg]at this;omega
   · exact q
   · have:=bI (q:=z) (h:=x) (by omega) (by omega);rw[zg]at this;omega
  rw[hz,zY]at ez;omega
 have nd:(((w_ x.toNat).filter fun j:Nat=>vf a b ((B+(j:Int)*P)%T)).map kap).Nodup:=by
  refine AQ.mpr (AZ.imp_of_mem (R:=(· ≠ ·)) (fun{i j} mi mj ne e=>ne (inj i j (xL.mp (zB.mp mi).1) (xL.mp (zB.mp mj).1) e)) (A_.filter _))
 have key:∀k∈(((w_ x.toNat).filter fun j:Nat=>vf a b ((B+(j:Int)*P)%T)).map kap),∃y,0<=y/\y<T/\x*a<=x*B+k*T+s*y/\x*B+k*T+s*y<=x*(a+cp T a b):=fun k mk=>by
  obtain⟨j,mj,rfl⟩:=zb.mp mk;obtain⟨hj,hin⟩:=zB.mp mj;have hj:=xL.mp hj;have et:=xO (B+(j:Int)*P) T;have t0:=xK (B+(j:Int)*P) (show T≠0 by omega);have t1:=xE (B+(j:Int)*P) hT
  have e9:x*B+kap j*T+s*((j:Int)*(r*c))=x*((B+(j:Int)*P)%T+mv ((B+(j:Int)*P)%T)*T):=by
   show x*B+((j:Int)*W+x*(mv ((B+(j:Int)*P)%T)-(B+(j:Int)*P) / T))*T+s*((j:Int)*(r*c))=_;have ePx:x*P=W*T+s*(r*c):=by rw[eP,eT,<- A5,e1];grind
   generalize mv ((B+(j:Int)*P)%T)=m;generalize (B+(j:Int)*P) / T=d at *;generalize (B+(j:Int)*P)%T=t at *
   have:x*t=x*B+(j:Int)*(x*P)-x*(T*d):=by
    have:t=B+(j:Int)*P-T*d:=by omega
    rw[this];grind
   rw[BN,this,ePx]
   grind
  refine⟨(j:Int)*(r*c),x8 (by omega) (x8 r0 (by omega)),?_,?_,?_⟩
  · have h1:(j:Int)*(r*c)<=x*(r*c):=xn (by omega) (x8 r0 (by omega))
    have h2:x*(r*c)<T:=by
     rw[eT,<- A5];exact Av r1 hc
    omega
  · rw[e9];refine ym ?_ (by omega);show a<=_+(if a<=_ then 0 else 1)*T;split<;>omega
  · rw[e9];refine ym ?_ (by omega);show _+(if a<=_ then 0 else 1)*T<=_;unfold vf at hin;unfold cp;generalize (B+(j:Int)*P)%T=t at *;by_cases c1:a<=b
    · rw[if_pos c1,Bool.and_eq_true,decide_eq_true_iff,decide_eq_true_iff]at hin;rw[if_pos c1,if_pos hin.1];omega
    · rw[if_neg c1,Bool.or_eq_true,decide_eq_true_iff,decide_eq_true_iff]at hin;rw[if_neg c1];by_cases c2:a<=t
      · rw[if_pos c2];omega
      · rw[if_neg c2];have:=hin.resolve_left c2;omega
 have xl:0<=x*cp T a b:=x8 (by omega) l0;have exl:x*(a+cp T a b)=x*a+x*cp T a b:=BN ..;have fin:=fun(X:Int) hX=>ke (D:=T) (X:=X) (M:=x*cp T a b+T) hT (by omega) nd hX;rw[wP]at fin;rcases hs with rfl|rfl
 · have:=fin (x*a-x*B-T) fun k mk=>by
     obtain⟨y,y0,y1,h1,h2⟩:=key k mk;omega
   omega
 · have:=fin (x*a-x*B-1) fun k mk=>by
     obtain⟨y,y0,y1,h1,h2⟩:=key k mk;omega
   omega
noncomputable def bZ(q:Int->Bool)(n0:Int)(k:Nat):Int:=(((w_ k).filter fun j:Nat=>q (n0+(j:Int))).length:Int)
theorem mZ(q:Int->Bool)(n0:Int)(k k':Nat):bZ q n0 (k+k')=bZ q n0 k+bZ q (n0+(k:Int)) k':=by
 unfold bZ
 induction k' with
 | zero=>rw[Nat.add_zero];simp
 | succ k' ih =>
   rw[<- BV,An,An,zH,zH,xg,xg];have e:q (n0+((k+k':Nat):Int))=q (n0+(k:Int)+(k':Int)):=by congr 1;omega
   have e2:([k+k'].filter fun j:Nat=>q (n0+(j:Int))).length=([k'].filter fun j:Nat=>q (n0+(k:Int)+(j:Int))).length:=by
    simp only[Ba,List.filter_nil,e];split<;>rfl
   rw[e2];omega
theorem fg{T L:Int}{q:Int->Bool}:∀(ls:List Int)(n0:Int),(∀x∈ls,1<=x/\∀n,bZ q n x.toNat*T<=x*L+2*T)->bZ q n0 ls.sum.toNat*T<=ls.sum*L+2*(ls.length:Int)*T
 | [],n0,_=>by simp[bZ]
 | x::ls,n0,h=>by
   have ih:=fg ls (n0+x) fun y m=>h y (wL _ m);obtain⟨h1,h2⟩:=h x wQ
   have s0:0<=ls.sum:=by
    have key:∀us:List Int,(∀y∈us,1<=y)->0<=us.sum:=by
     intro us
     induction us with
     | nil=>intro _;exact yQ _
     | cons z us ih =>
       intro h;have a:=h z wQ;have b:=ih fun y m=>h y (wL _ m);rw[yo];omega
    exact key ls fun y m=>(h y (wL _ m)).1
   have h2:=h2 n0;rw[yo,show(x+ls.sum).toNat=x.toNat+ls.sum.toNat by omega,mZ,show n0+(x.toNat:Int)=n0+x by omega,xf,BO,BO];have e:2*((ls.length+1:Nat):Int)*T=2*(ls.length:Int)*T+2*T:=by rw[Int.natCast_add];grind
   rw[e];omega
noncomputable def each(zs:List (Int×Int)):List Int:=zs.flatMap fun z=>x6 z.2.toNat z.1
theorem gE:∀zs:List (Int×Int),(∀z∈zs,1<=z.2)->(each zs).sum=(zs.map fun z=>z.1*z.2).sum/\((each zs).length:Int)=(zs.map (·.2)).sum/\∀x∈each zs,∃z∈zs,x=z.1
 | [],_=>⟨rfl,rfl,fun x m=>by cases m⟩
 | z::zs,h=>by
   obtain⟨a,b,c⟩:=gE zs fun y m=>h y (wL _ m);have hz:=h z wQ;have e:each (z::zs)=x6 z.2.toNat z.1++each zs:=List.flatMap_cons ..;rw[e];refine⟨?_,?_,fun x m=>?_⟩
   · rw[Au,a,x9,yo]
     have rs:∀n:Nat,(x6 n z.1).sum=z.1*(n:Int):=fun n=>by
      induction n with
      | zero=>simp
      | succ n ih=>rw[BM,yo,ih,Int.natCast_add,BN];omega
     rw[rs,show((z.2.toNat:Nat):Int)=z.2 by omega]
   · rw[xg,Bg,x9,yo];omega
   · rcases yr.mp m with m|m
     · exact⟨z,wQ,(List.mem_replicate.mp m).2⟩
     · obtain⟨y,my,e⟩:=c x m;exact⟨y,wL _ my,e⟩
noncomputable def ve(a b t:Int):Bool:=if a<=b then decide (a<t)&&decide (t<b)else decide (a<t)||decide (t<b)
theorem gG(q:Int->Bool)(n0:Int)(k:Nat):bZ q n0 k+bZ (fun n=>!q n) n0 k=k:=by
 unfold bZ
 induction k with
 | zero=>rfl
 | succ k ih =>
   rw[An,zH,zH,xg,xg]
   have e:([k].filter fun j:Nat=>q (n0+(j:Int))).length+([k].filter fun j:Nat=>!q (n0+(j:Int))).length=1:=by
    simp only[Ba,List.filter_nil];cases q (n0+(k:Int))<;>rfl
   dsimp only at ih ⊢;omega
theorem jv{q q':Int->Bool}{n0:Int}(h:∀n,q n=true->q' n=true):bZ q n0 k<=bZ q' n0 k:=by
 unfold bZ;have:=List.countP_mono_left (l:=w_ k) (p:=fun j:Nat=>q (n0+(j:Int))) (q:=fun j:Nat=>q' (n0+(j:Int))) fun j _ h'=>h _ h';rw[Ae,Ae]at this;omega
theorem jG{c0:Rat}(d:DnS s ns)(hs:vP s (10^9)){N:Int}(hN:0<=N){A:Int}{a:Int}(a0:0<=a)(aT:a<=(c0.den:Int)*s.den)(b0:0<=b)(bT:b<=(c0.den:Int)*s.den) :
 bZ (fun n=>vf a b ((A+n*(s.num*c0.den))%((c0.den:Int)*s.den))) 0 N.toNat*((c0.den:Int)*s.den)<=N*cp ((c0.den:Int)*s.den) a b+2*((blk ns.reverse N).1.map (·.2)).sum*((c0.den:Int)*s.den):=by
 obtain⟨bi,bz⟩:=d.goes hs hN;have bd:=d.bd hs;have gd:=d.gd hs;have h1:=c0.den_pos;have h2:=s.den_pos
 have pos:∀z∈(blk ns.reverse N).1,1<=z.2/\z.1∈ns:=by
  have key:∀(xs:List Int)(z:List (Int×Int)×Int),(∀x∈xs,x∈ns)->(∀p∈z.1,p.1∈ns)->∀p∈(xs.foldl blF z).1,p.1∈ns:=by
   intro xs
   induction xs with
   | nil=>intro z _ h;exact h
   | cons x xs ih =>
     intro z hx h;refine ih _ (fun y m=>hx y (wL _ m)) fun p mp=>?_;unfold blF at mp;dsimp only at mp;split at mp
     · rcases yr.mp mp with m|m
       · exact h p m
       · cases yZ.mp m;exact hx x wQ
     · exact h p mp
  exact fun z mz=>⟨(bi.pos z mz).2.1,key ns.reverse ([],N) (fun x m=>z8.mp m) (fun p m=>(by cases m)) z mz⟩
 have sm:=bi.sum;rw[bz,B5]at sm;obtain⟨e1,e2,e3⟩:=gE (blk ns.reverse N).1 fun z mz=>(pos z mz).1
 have key:=fg (T:=(c0.den:Int)*s.den) (L:=cp ((c0.den:Int)*s.den) a b) (q:=fun n=>vf a b ((A+n*(s.num*c0.den))%((c0.den:Int)*s.den))) (each (blk ns.reverse N).1) 0 fun x mx=>by
  obtain⟨z,mz,rfl⟩:=e3 x mx;have mn:=(pos z mz).2;refine⟨(bd z.1 mn).1,fun n=>?_⟩;have:=kM (p:=s.num) (D:=s.den) (x:=z.1) (P:=s.num*c0.den) (T:=(c0.den:Int)*s.den) (B:=A+n*(s.num*c0.den)) (c:=c0.den) (bd z.1 mn).1 (by omega) (by omega) (gd z.1 mn) rfl (zg _ _) a0 aT b0 bT
  have ef:(fun j:Nat=>vf a b ((A+n*(s.num*c0.den)+(j:Int)*(s.num*c0.den))%((c0.den:Int)*s.den)))=fun j:Nat=>vf a b ((A+(n+(j:Int))*(s.num*c0.den))%((c0.den:Int)*s.den)):=by
   funext j;rw[BO,Int.add_assoc]
  rw[ef]at this;exact this
 rw[e1,sm,e2]at key;exact key
theorem kN{c0:Rat}(d:DnS s ns)(hs:vP s (10^9)){N:Int}(hN:1<=N){A:Int}{a:Int}(a0:0<=a)(aT:a<=(c0.den:Int)*s.den)(b0:0<=b)(bT:b<=(c0.den:Int)*s.den) :
 bZ (fun n=>vf a b ((A+n*(s.num*c0.den))%((c0.den:Int)*s.den))) 0 N.toNat*((c0.den:Int)*s.den)-N*cp ((c0.den:Int)*s.den) a b<=min N (2*((blk ns.reverse N).1.map (·.2)).sum)*((c0.den:Int)*s.den) /\
 N*cp ((c0.den:Int)*s.den) a b-bZ (fun n=>ve a b ((A+n*(s.num*c0.den))%((c0.den:Int)*s.den))) 0 N.toNat*((c0.den:Int)*s.den)<=min N (2*((blk ns.reverse N).1.map (·.2)).sum)*((c0.den:Int)*s.den):=by
 have h1:=c0.den_pos;have h2:=s.den_pos;have hT:0<(c0.den:Int)*s.den:=A1 (by omega) (by omega);have k1:=jG (c0:=c0) d hs (N:=N) (by omega) (A:=A) a0 aT b0 bT;have k2:=jG (c0:=c0) d hs (N:=N) (by omega) (A:=A) b0 bT a0 aT;have c1:=gG (fun n=>vf a b ((A+n*(s.num*c0.den))%((c0.den:Int)*s.den))) 0 N.toNat;have c2:=gG (fun n=>ve a b ((A+n*(s.num*c0.den))%((c0.den:Int)*s.den))) 0 N.toNat;obtain⟨l0,l1⟩:=fO (D:=(c0.den:Int)*s.den) a0 aT b0 bT;generalize hS:((blk ns.reverse N).1.map (·.2)).sum=S at *;have nn:∀q:Int->Bool,0<=bZ q 0 N.toNat:=fun q=>by unfold bZ;omega
 have n1:=nn (fun n=>vf a b ((A+n*(s.num*c0.den))%((c0.den:Int)*s.den)));have n2:=nn (fun n=>!vf a b ((A+n*(s.num*c0.den))%((c0.den:Int)*s.den)));have n3:=nn (fun n=>ve a b ((A+n*(s.num*c0.den))%((c0.den:Int)*s.den)))
 have mono:a≠b->bZ (fun n=>!ve a b ((A+n*(s.num*c0.den))%((c0.den:Int)*s.den))) 0 N.toNat<=bZ (fun n=>vf b a ((A+n*(s.num*c0.den))%((c0.den:Int)*s.den))) 0 N.toNat:=fun ne=>by
  refine jv fun n h=>?_;generalize (A+n*(s.num*c0.den))%((c0.den:Int)*s.den)=t at h ⊢;unfold ve at h;unfold vf;by_cases c:a<=b
  · rw[if_pos c]at h;rw[if_neg (by omega)];simp only[Bool.not_eq_true',Bool.and_eq_false_iff,decide_eq_false_iff_not,Bool.or_eq_true,decide_eq_true_iff]at h ⊢;omega
  · rw[if_neg c]at h;rw[if_pos (by omega)];simp only[Bool.not_eq_true',Bool.or_eq_false_iff,decide_eq_false_iff_not,Bool.and_eq_true,decide_eq_true_iff]at h ⊢;omega
 have ll:a≠b->cp ((c0.den:Int)*s.den) b a=(c0.den:Int)*s.den-cp ((c0.den:Int)*s.den) a b:=fun ne=>by
  unfold cp;by_cases c:a<=b
  · rw[if_pos c,if_neg (by omega)];omega
  · rw[if_neg c,if_pos (by omega)];omega
 have lz:a=b->cp ((c0.den:Int)*s.den) a b=0:=fun e=>by unfold cp;rw[if_pos (by omega)];omega
 generalize bZ (fun n=>vf a b ((A+n*(s.num*c0.den))%((c0.den:Int)*s.den))) 0 N.toNat=C1 at *;generalize bZ (fun n=>!vf a b ((A+n*(s.num*c0.den))%((c0.den:Int)*s.den))) 0 N.toNat=C2 at *;generalize bZ (fun n=>ve a b ((A+n*(s.num*c0.den))%((c0.den:Int)*s.den))) 0 N.toNat=C3 at *;generalize bZ (fun n=>!ve a b ((A+n*(s.num*c0.den))%((c0.den:Int)*s.den))) 0 N.toNat=C4 at *;generalize bZ (fun n=>vf b a ((A+n*(s.num*c0.den))%((c0.den:Int)*s.den))) 0 N.toNat=C5 at *;generalize cp ((c0.den:Int)*s.den) b a=L2 at *;generalize cp ((c0.den:Int)*s.den) a b=L1 at *;generalize (c0.den:Int)*s.den=T at *
 have S0:0<=S:=by
  rw[<- hS];obtain⟨bi,_⟩:=d.goes hs (show 0<=N by omega)
  have key:∀us:List (Int×Int),(∀p∈us,1<=p.2)->0<=(us.map (·.2)).sum:=by
   intro us
   induction us with
   | nil=>intro _;exact yQ _
   | cons u us ih =>
     intro h;have a:=h u wQ;have b:=ih fun p m=>h p (wL _ m);rw[x9,yo];omega
  exact key _ fun p m=>(bi.pos p m).2.1
 have e0:0<=N*L1:=x8 (by omega) l0;have e1:N*L1<=N*T:=ym l1 (by omega);have e2:C1*T<=N*T:=xn (by omega) (by omega);have e3:0<=C3*T:=x8 n3 (by omega);have e4:0<=S*T:=x8 S0 (by omega)
 have mn:∀X,X<=N*T->X<=2*S*T->X<=min N (2*S)*T:=fun X h1 h2=>by
  rcases Int.le_total N (2*S)with c|c
  · rw[Int.min_eq_left c];exact h1
  · rw[Int.min_eq_right c];exact h2
 refine⟨mn _ (by omega) (by omega),mn _ (by omega) ?_⟩;by_cases ne:a=b
 · rw[lz ne,zY];have:2*S*T=2*(S*T):=A5 ..;omega
 · have m1:=mono ne;rw[ll ne]at k2;have e5:C4*T<=C5*T:=xn m1 (by omega);have e6:N*(T-L1)=N*T-N*L1:=Int.mul_sub ..
   have e7:C3*T+C4*T=N*T:=by
    rw[<- BO];congr 1;omega
   omega
noncomputable def uP(ts:List Int)(a b:Int):Int:=((ts.filter (vf a b)).length:Int)
noncomputable def vy(ts:List Int)(a b:Int):Int:=((ts.filter (ve a b)).length:Int)
noncomputable def c4(ts:List Int)(T K:Int):Prop:=0<=K/\∀a b,0<=a->a<=T->0<=b->b<=T->uP ts a b*T-(ts.length:Int)*cp T a b<=K/\(ts.length:Int)*cp T a b-vy ts a b*T<=K
theorem bJ{p:Int->Bool}:∀ts:List Int,ts.filterMap (fun t=>if p t=true then some (xv t)else none)=(ts.filter p).map xv
 | []=>rfl
 | t::ts=>by
   rw[yK,Ba,bJ ts];cases p t<;>rfl
theorem gm{ts us:List Int}(h:us.Perm ts)(a b:Int):uP us a b=uP ts a b/\vy us a b=vy ts a b/\(us.length:Int)=ts.length:=by
 unfold uP vy;rw[(h.filter _).length_eq,(h.filter _).length_eq,h.length_eq];exact⟨rfl,rfl,rfl⟩
noncomputable def aI:List W->(wD->Prop)->Prop:=fun ws Q=>∃(ts:List Int)(T:Int),ws=[.d (.list (ts.map .int)),.d (.int T)]/\((1<=ts.length)/\(ts.length<=30)/\(0<T)/\(T<2^62)/\(∀t∈ts,0<=t/\t<T))/\∀w:Int,(0<=w/\∀K,c4 ts T K->w<=K)->Q (.int w)
theorem aI.mono:∀ws (Q Q':wD->Prop),(∀d,Q d->Q' d)->aI ws Q->aI ws Q':=fun _ _ _ h_=>xo fun _=>xo fun _=>wV (wV fun q_ o_ ho_=>h_ _ (q_ o_ ho_))
theorem aI.len:∀ws (Q:wD->Prop),aI ws Q->ws.length=2:=fun _ _ h_=>by obtain⟨_,_,e_,_⟩:=h_;subst e_;rfl
theorem aI.eq(ts:List Int)(T:Int)(hl:1<=ts.length)(h30:ts.length<=30)(T0:0<T)(TB:T<2^62)(ht:∀t∈ts,0<=t/\t<T):aI [.d (.list (ts.map .int)),.d (.int T)]=vB (anyM fun w:Int=>0<=w/\∀K,c4 ts T K->w<=K) fun w=>VL.ret (.int w:wD):=by
 refine ab fun Q=>⟨?_,fun q_=>⟨ts,T,rfl,⟨hl,h30,T0,TB,ht⟩,q_⟩⟩;rintro⟨ts',T',e_,_,q_⟩;simp_arith only[gC,cB,cC,bK,bG,cW]at e_;obtain⟨rfl,rfl⟩:=e_;exact q_
theorem dE:FnScope ["_law_tops", "_law_bottom", "_law_many", "_law_some", "_law_marks", "_law_found", "_law_a", "_law_b", "_law_shut", "_law_free", "_law_long"] ["_law_tops", "_law_bottom"] (defScope (uA 24)):=⟨rfl,rfl,rfl,by decide +kernel,rfl,by decide +kernel,by decide +kernel⟩
theorem d__law_worst(Fn:FnIn K mg "_law_worst" (uA 24) ["_law_tops", "_law_bottom"])(Z:Bz mg)    : Dfn P w K mg base rl "_law_worst" ["_law_tops", "_law_bottom"] 1 aI:=by
 have sc:=dE
 refine Dfn.of Fn sc (aI.mono) (aI.len) (fun cdv A outer s H E hr=>(ah (aw 2 sc.nd (ij Z.len_ (aa (vn 0) ae)))
  (ah (aw 3 sc.nd (ig Z.sorted_ (aa (vn 0) ae)))
  (ah (aw 4 sc.nd (d8 rfl Z.sorted_ Z.set_ (aa (nB (ii (aa ag (aa (vn 1) ae))) (vn 3)) ae)))
  (ah (aw 5 sc.nd ag)
  (ah (dv [6,7,8,9,10] yt rfl (cf (vn 4)) (aE 6 sc.nd) (av (dv [7,8,9,10] yt rfl (cf (vn 4)) (aE 7 sc.nd) (ah (h9 (bC iW lA (aV _) (vn 6) (vn 7)) (ah (aw 8 sc.nd (ij Z.len_ (aa (bL ["_law_top", "_law_a", "_law_b"] [none,some 6,some 7] rfl (cf (vn 3)) (fun _=>(aE 0 (show zO (["_law_top", "_law_a", "_law_b"]:List Str) by decide +kernel))) (fun _=>fY (gb iW iW (vn 1) (vn 0) (vn 2))) (fun _=>(vn 0))) ae)))
  (ah (aw 9 sc.nd (ij Z.len_ (aa (bL ["_law_top", "_law_a", "_law_b"] [none,some 6,some 7] rfl (cf (vn 3)) (fun _=>(aE 0 (show zO (["_law_top", "_law_a", "_law_b"]:List Str) by decide +kernel))) (fun _=>fY (gb fK fK (vn 1) (vn 0) (vn 2))) (fun _=>(vn 0))) ae)))
  (av (aw 10 sc.nd (v_sub (vn 7) (vn 6)))))) (ah (aw 8 sc.nd (ij Z.len_ (aa (bL ["_law_top", "_law_a", "_law_b"] [none,some 6,some 7] rfl (cf (vn 3)) (fun _=>(aE 0 (show zO (["_law_top", "_law_a", "_law_b"]:List Str) by decide +kernel))) (fun _=>fY (v8.pb (nw (bC iW lA (aV _) (vn 1) (vn 0)) (kW (bC iW lA (aV _) (vn 0) (vn 2)))))) (fun _=>(vn 0))) ae)))
  (ah (aw 9 sc.nd (ij Z.len_ (aa (bL ["_law_top", "_law_a", "_law_b"] [none,some 6,some 7] rfl (cf (vn 3)) (fun _=>(aE 0 (show zO (["_law_top", "_law_a", "_law_b"]:List Str) by decide +kernel))) (fun _=>fY (v8.pb (nw (bC fK jQ (aV _) (vn 1) (vn 0)) (kW (bC fK jQ (aV _) (vn 0) (vn 2)))))) (fun _=>(vn 0))) ae)))
  (av (aw 10 sc.nd (v_add (v_sub (vn 1) (vn 6)) (vn 7)))))))
  (av (aw 5 sc.nd (nz Z.max_ (aa (vn 5) (aa (v_sub (v_mul (vn 8) (vn 1)) (v_mul (vn 2) (vn 10))) (aa (v_sub (v_mul (vn 2) (vn 10)) (v_mul (vn 9) (vn 1))) ae))))))))))
  (av (aU (vn 5))))))))) ?_
 rintro ws Q ⟨ts,T,rfl,⟨hl,h30,T0,TB,ht⟩,hQ⟩;refine aK ?_;have sz:=xw;simp_arith only[al,af,mG,lr]
 (with_reducible (first|refine aG fun us hus=>?_|refine aR fun us hus=>?_))
 obtain⟨pu,_⟩:=hus;have lu:us.length<=30:=by rw[pu.length_eq];exact h30
 have eM:m5 (W.d (.list (xv 0::xv T::us.map xv)))=some (0::T::us):=lr (0::T::us);have lM:(0::T::us).length<64:=by rw[xf,xf];omega
 simp_arith only[al,af,i8,eM,lM]
 (with_reducible (first|refine aG fun ms hms=>?_|refine aR fun ms hms=>?_))
 have mb:∀x∈ms,0<=x/\x<=T:=fun x mx=>by
  rcases xC.mp ((hms.2 x).mp mx)with rfl|m
  · omega
  · rcases xC.mp m with rfl|m
    · omega
    · have:=ht x (pu.mem_iff.mp m);omega
 simp_arith only[al,af];refine ji (xs:=ms) (enc:=xv) (fun i ρ=>∃f:Int,(0<=f/\∀K,c4 ts T K->f<=K)/\ρ=[some (.d (.list (ts.map .int))),some (.d (.int T)),some (.d (.int (ts.length:Int))),some (.d (.list (us.map .int))),some (.d (.list (ms.map .int))),some (.d (.int f)),none,none,none,none,none]) rfl ⟨0,⟨yQ _,fun K h=>h.1⟩,rfl⟩ ?_ ?_
 · rintro i hi ρ ⟨f,hf,rfl⟩ K hK;obtain⟨a0,aT⟩:=mb ms[i] (yy hi);generalize ms[i]=a at *;simp_arith only[al,af];refine tS (ji (xs:=ms) (enc:=xv) (fun i ρ=>∃f:Int,(0<=f/\∀K,c4 ts T K->f<=K)/\ρ=[some (.d (.list (ts.map .int))),some (.d (.int T)),some (.d (.int (ts.length:Int))),some (.d (.list (us.map .int))),some (.d (.list (ms.map .int))),some (.d (.int f)),some (.d (.int a)),none,none,none,none]) rfl ⟨f,hf,rfl⟩ ?_ ?_)
   · rintro j hj ρ ⟨f,hf,rfl⟩ K2 hK2;obtain⟨b0,bT⟩:=mb ms[j] (yy hj);generalize ms[j]=b at *;obtain⟨l0,l1⟩:=fO (D:=T) a0 aT b0 bT;have ez:T.natAbs<2^64:=by omega
     have m1:a_ (((us.filter (vf a b)).length:Nat):Int) T:=.rt ez;have m3:a_ (((us.filter (ve a b)).length:Nat):Int) T:=.rt ez;have m2:a_ (ts.length:Int) (cp T a b):=.rt (by omega);by_cases c:a<=b
     · have eA:∀t,vf a b t=(decide (a<=t)&&decide (t<=b)):=fun t=>if_pos c;have eF:∀t,ve a b t=(decide (a<t)&&decide (t<b)):=fun t=>if_pos c;have eL:cp T a b=b-a:=if_pos c;rw[eL]at m2;simp_arith only[al,af,wB,c];refine uL (gH (xs:=us) (enc:=xv) (fun t=>if vf a b t=true then some (.int t)else none) rfl ?_ (by omega) ?_)
       · intro t mt;have e:=eA t;simp_arith only[al,af,va,e];by_cases p1:a<=t<;>by_cases p2:t<=b<;>simp[e,p1,p2]
       · rw[bJ];simp_arith only[al,af,wB,c];refine uL (gH (xs:=us) (enc:=xv) (fun t=>if ve a b t=true then some (.int t)else none) rfl ?_ (by omega) ?_)
         · intro t mt;have e:=eF t;simp_arith only[al,af,va,e];by_cases p1:a<t<;>by_cases p2:t<b<;>simp[e,p1,p2]
         · rw[bJ];simp_arith only[al,af,wB,c,m1,m2,m3,i9];refine hK2 _ (dj ⟨_,⟨by have:=hf.1;omega,fun K h=>?_⟩,rfl⟩);have q:=h.2 a b a0 aT b0 bT;rw[eL,<- (gm pu a b).1,<- (gm pu a b).2.1]at q;unfold uP vy at q;have:=hf.2 K h;omega
     · have eA:∀t,vf a b t=(decide (a<=t)||decide (t<=b)):=fun t=>if_neg c;have eF:∀t,ve a b t=(decide (a<t)||decide (t<b)):=fun t=>if_neg c;have eL:cp T a b=T-a+b:=if_neg c;rw[eL]at m2;simp_arith only[al,af,wB,c];refine uL (gH (xs:=us) (enc:=xv) (fun t=>if vf a b t=true then some (.int t)else none) rfl ?_ (by omega) ?_)
       · intro t mt;have e:=eA t;simp_arith only[al,af,va,e];by_cases p1:a<=t<;>by_cases p2:t<=b<;>simp[e,p1,p2]
       · rw[bJ];simp_arith only[al,af,wB,c];refine uL (gH (xs:=us) (enc:=xv) (fun t=>if ve a b t=true then some (.int t)else none) rfl ?_ (by omega) ?_)
         · intro t mt;have e:=eF t;simp_arith only[al,af,va,e];by_cases p1:a<t<;>by_cases p2:t<b<;>simp[e,p1,p2]
         · rw[bJ];simp_arith only[al,af,wB,c,m1,m2,m3,i9];refine hK2 _ (dj ⟨_,⟨by have:=hf.1;omega,fun K h=>?_⟩,rfl⟩);have q:=h.2 a b a0 aT b0 bT;rw[eL,<- (gm pu a b).1,<- (gm pu a b).2.1]at q;unfold uP vy at q;have:=hf.2 K h;omega
   · rintro ρ ⟨f,hf,rfl⟩;exact hK _ (dj ⟨f,hf,rfl⟩)
 · rintro ρ ⟨f,hf,rfl⟩;simp_arith only[al,af];exact bc (hQ f hf)
theorem lU(f:Int->Int)(N:Nat)(a b:Int):uP ((w_ N).map fun j:Nat=>f (j:Int)) a b=bZ (fun n=>vf a b (f n)) 0 N/\vy ((w_ N).map fun j:Nat=>f (j:Int)) a b=bZ (fun n=>ve a b (f n)) 0 N:=by
 unfold uP vy bZ;rw[List.filter_map,List.filter_map,wP,wP];constructor
 · congr 2;refine List.filter_congr fun j _=>?_;show vf a b (f (j:Int))=vf a b (f (0+(j:Int)));rw[Bm]
 · congr 2;refine List.filter_congr fun j _=>?_;show ve a b (f (j:Int))=ve a b (f (0+(j:Int)));rw[Bm]
theorem k5{D d:Int}(hD:0<D):(qd d D).num*(D / ((qd d D).den:Int))=d/\d*((qd d D).den:Int)=(qd d D).num*D/\((qd d D).den:Int)<=D:=by
 have e:=eU hD (a:=d)
 have hg:0<(xu d D:Int):=by
  have:=yY d (show D≠0 by omega);omega
 unfold mI at e;unfold fr at e;simp only[xS,xa,zp,and_true]at e;obtain⟨e1,e2⟩:=e;rw[xh _ (by omega)]at e1 e2;have da:(xu d D:Int)∣d:=Int.gcd_dvd_left ..;have db:(xu d D:Int)∣D:=Int.gcd_dvd_right ..;rw[<- e1,<- e2];generalize (xu d D:Int)=g at *;obtain⟨x,rfl⟩:=da;obtain⟨y,rfl⟩:=db;have y0:0<y:=AT hD hg;rw[zA _ (by omega),zA _ (by omega),Int.mul_ediv_cancel _ (by omega)];refine⟨zg _ _,by grind,?_⟩;have:1*y<=g*y:=xn (by omega) (by omega);omega
theorem oh:FnScope ["_law_script", "_law_feed_here", "_law_turn", "_law_start", "_law_step_here", "_law_many", "_law_points", "_law_bottom", "_law_tops", "_law_bound"] ["_law_script"] (defScope (uA 25)):=⟨rfl,rfl,rfl,by decide +kernel,rfl,by decide +kernel,by decide +kernel⟩
theorem km(Z:Bz mg)(d__law_feed:DfnR P w K mg base "_law_feed" ["_law_script"] 1 pQ)(d_stepped:∀rl,Dfn P w K mg base rl "stepped" ["start", "step", "many"] 5 bh)(d_step_bound:∀rl,Dfn P w K mg base rl "step_bound" ["step", "many"] 3 aH)(d__law_step:∀rl,Dfn P w K mg base rl "_law_step" ["_law_feed_here"] 3 aO)(d__law_draw:∀rl,Dfn P w K mg base rl "_law_draw" ["_law_feed_here", "_law_many"] 2 dI)(d__law_worst:∀rl,Dfn P w K mg base rl "_law_worst" ["_law_tops", "_law_bottom"] 1 aI){fd:yM}(F:Fun K "law" "law" (uA 25) f fd):FnOk P w K mg base ww 7 f fd ["_law_script"] (dd K):=by
 have sc:=oh
 refine mC F sc (fun cdv A outer s H E hr=>(ly 1 d__law_feed (hr.mono (by decide)) sc.nd (aa (vn 0) ae) (fun r=>(ah (dv [2,3,4,5,6,7,8,9] yt rfl (d6 Z.range_ (aa ag ae)) (aE 2 sc.nd) (ah (dZ 3 4 rfl sc.nd (aa (aF (d__law_step _) (hr.mono (by decide)) (aa (vn 1) ae)) (aa (aF (d__law_step _) (hr.mono (by decide)) (aa (vn 1) ae)) ae)))
  (ah (aw 5 sc.nd (v_add ag (aF (d__law_draw _) (hr.mono (by decide)) (aa (vn 1) (aa ag ae)))))
  (ah (aw 6 sc.nd (aF (d_stepped _) (hr.mono (by decide)) (aa (vn 3) (aa (vn 4) (aa (vn 5) ae)))))
  (ah (aw 7 sc.nd (v_mul (cg (vn 3) ag) (cg (vn 4) ag)))
  (ah (fD 8 sc.nd ["_law_point", "_law_bottom"] [none,some 7] rfl (kU (vn 6)) (fun _=>(aE 0 (show zO (["_law_point", "_law_bottom"]:List Str) by decide +kernel))) (fun _=>h8) (fun _=>(v_mul (cg (cg (vn 0) ag) ag) (v_div (vn 1) (cg (cg (vn 0) ag) ag)))))
  (ah (aw 9 sc.nd (aF (d_step_bound _) (hr.mono (by decide)) (aa (vn 4) (aa (vn 5) ae))))
  (av (h9 (bC gY jR (aV _) (v_mul (aF (d__law_worst _) (hr.mono (by decide)) (aa (vn 8) (aa (vn 7) ae))) (cg (vn 9) ag)) (v_mul (v_mul (cg (vn 9) ag) (vn 5)) (vn 7))) (av (aU oA)) fZ)))))))))
  (av (aU oA)))))) ?_
 intro ns hn;have ps:=pQ.eq hn;have sz:=xw;simp_arith only[al,af,ps];refine kG ?_ ?_
 · intro i hi K hK;simp_arith only[al,af,p__law_draw.eq,aO.eq]
   (with_reducible (first|refine aG fun a ha=>?_|refine aR fun a ha=>?_))
   try simp_arith only[al,af,p__law_draw.eq,aO.eq]
   (with_reducible (first|refine aG fun s hs=>?_|refine aR fun s hs=>?_))
   try simp_arith only[al,af,p__law_draw.eq,aO.eq]
   (with_reducible (first|refine aG fun b hb=>?_|refine aR fun b hb=>?_))
   have n0:1<=1+b:=by omega
   have n9:1+b<=30:=by omega
   generalize 1+b=N at n0 n9 ⊢;obtain⟨a1,a2,a3⟩:=id ha;obtain⟨s1,s2,s3⟩:=id hs;have m1:a_ (a.den:Int) s.den:=.rt (by omega);have hT:0<(a.den:Int)*s.den:=A1 (by omega) (by omega);have TB:(a.den:Int)*s.den<=10^9*10^9:=Int.mul_le_mul a3 s3 (by omega) (by decide);have TB:(a.den:Int)*s.den<2^62:=Int.lt_of_le_of_lt TB (by decide);simp_arith only[al,af,bh.eq,m1,wB];refine uL (jw (xs:=w_ N.toNat) (enc:=fun j:Nat=>.tuple [fr (uj (a+((j:Int):Rat)*s))]) (fun j:Nat=>.int ((a.num*s.den+(j:Int)*(s.num*a.den))%((a.den:Int)*s.den))) rfl ?_ (by rw[yq];omega) ?_)
   · intro j mj;have e0:=nc a s (j:Int);rw[A5 (j:Int)]at e0;obtain⟨e1,_,e3⟩:=k5 (d:=(a.num*s.den+(j:Int)*(s.num*a.den))%((a.den:Int)*s.den)) hT;rw[<- e0]at e1 e3;have dp:=(uj (a+((j:Int):Rat)*s)).den_pos;generalize (a.num*s.den+(j:Int)*(s.num*a.den))%((a.den:Int)*s.den)=t at *;generalize uj (a+((j:Int):Rat)*s)=q at *;have q1:=Int.ediv_le_self (q.den:Int) (show 0<=(a.den:Int)*s.den by omega);have q2:=Int.ediv_nonneg (show 0<=(a.den:Int)*s.den by omega) (show 0<=(q.den:Int) by omega);have c1:bY ((a.den:Int)*s.den) (q.den:Int):=.of (by omega) (by omega);have c2:a_ q.num (((a.den:Int)*s.den) / (q.den:Int)):=.rt (by omega);have c3:((a.den:Int)*s.den).fdiv (q.den:Int)=((a.den:Int)*s.den) / (q.den:Int):=xh _ (by omega);simp_arith only[al,af,va,wB,c1,c2,c3,e1]
   · have em:(w_ N.toNat).map (fun j:Nat=>xv ((a.num*s.den+(j:Int)*(s.num*a.den))%((a.den:Int)*s.den)))=((w_ N.toNat).map fun j:Nat=>(fun n:Int=>(a.num*s.den+n*(s.num*a.den))%((a.den:Int)*s.den)) (j:Int)).map xv:=by rw[List.map_map];rfl
     rw[em];have cc:=fun x y=>lU (fun n:Int=>(a.num*s.den+n*(s.num*a.den))%((a.den:Int)*s.den)) N.toNat x y;have tl:((w_ N.toNat).map fun j:Nat=>(fun n:Int=>(a.num*s.den+n*(s.num*a.den))%((a.den:Int)*s.den)) (j:Int)).length=N.toNat:=by rw[wP,yq]
     have tb:∀t∈((w_ N.toNat).map fun j:Nat=>(fun n:Int=>(a.num*s.den+n*(s.num*a.den))%((a.den:Int)*s.den)) (j:Int)),0<=t/\t<(a.den:Int)*s.den:=fun t mt=>by
      obtain⟨j,_,rfl⟩:=zb.mp mt;exact⟨xK _ (by omega),xE _ hT⟩
     generalize ets:((w_ N.toNat).map fun j:Nat=>(fun n:Int=>(a.num*s.den+n*(s.num*a.den))%((a.den:Int)*s.den)) (j:Int))=ts at *;simp_arith only[al,af,aH.eq,wB]
     (with_reducible (first|refine aG fun ms hms=>?_|refine aR fun ms hms=>?_))
     have am:=fun x y (x0:0<=x) xT (y0:0<=y) yT=>kN (c0:=a) hms hs n0 (A:=a.num*s.den) (a:=x) (b:=y) x0 xT y0 yT;generalize hm:min N (2*((blk ms.reverse N).1.map (·.2)).sum)=m at am
     have m0:0<=m:=by
      have:=am 0 0 (yQ _) (by omega) (yQ _) (by omega);have l0:cp ((a.den:Int)*s.den) 0 0=0:=rfl;rw[l0,zY]at this;have c0:0<=bZ (fun n=>vf 0 0 ((a.num*s.den+n*(s.num*a.den))%((a.den:Int)*s.den))) 0 N.toNat*((a.den:Int)*s.den):=x8 (by unfold bZ;omega) (by omega);rcases Int.lt_or_le m 0 with q|q
      · have:=Av q hT;omega
      · exact q
     have wl:c4 ts ((a.den:Int)*s.den) (m*((a.den:Int)*s.den)):=by
      refine⟨x8 m0 (by omega),fun x y x0 xT y0 yT=>?_⟩;obtain⟨k1,k2⟩:=am x y x0 xT y0 yT;rw[(cc x y).1,(cc x y).2,tl,show((N.toNat:Nat):Int)=N by omega];exact⟨k1,k2⟩
     obtain⟨_,d2,d3⟩:=k5 (D:=N) (d:=m) (by omega);have dp:=(qd m N).den_pos;have hN30:ts.length<=30:=by omega
     have hN1:1<=ts.length:=by omega
     have c2:a_ (qd m N).num N:=.rt (by omega);have c3:a_ ((qd m N).num*N) ((a.den:Int)*s.den):=.rt (by omega);simp_arith only[al,af,aI.eq,wB,hm]
     (with_reducible (first|refine aG fun w hw=>?_|refine aR fun w hw=>?_))
     have wk:=hw.2 _ wl;have c1:a_ w ((qd m N).den:Int):=.rt (by omega)
     have fin:¬(qd m N).num*N*((a.den:Int)*s.den)<w*((qd m N).den:Int):=by
      have e:(qd m N).num*N*((a.den:Int)*s.den)=m*((a.den:Int)*s.den)*((qd m N).den:Int):=by rw[<- d2];grind
      rw[e];have:=xn wk (show 0<=((qd m N).den:Int) by omega);omega
     simp_arith only[al,af,wB,c1,c2,c3,fin];exact hK _ (dj rfl)
 · simp_arith only[al,af];exact mL
structure Txt (K:yp) (mg:Str->Option wF):Prop where
 bz:Bz mg
 f__law_feed:FnIn K mg "_law_feed" (uA 19) ["_law_script"]
 f__law_draw:FnIn K mg "_law_draw" (uA 20) ["_law_feed_here", "_law_many"]
 f_common_divisor:FnIn K mg "common_divisor" (uA 5) ["one", "other"]
 f_fraction:FnIn K mg "fraction" (uA 6) ["top", "bottom"]
 f_plus:FnIn K mg "plus" (uA 7) ["one", "other"]
 f_times:FnIn K mg "times" (uA 8) ["one", "other"]
 f_is_below:FnIn K mg "is_below" (uA 9) ["one", "other"]
 f_lesser:FnIn K mg "lesser" (uA 10) ["one", "other"]
 f_wrapped:FnIn K mg "wrapped" (uA 11) ["one"]
 f__law_gcd:FnIn K mg "_law_gcd" (uA 21) ["_law_one", "_law_other"]
 f__law_frac:FnIn K mg "_law_frac" (uA 22) ["_law_top", "_law_bottom"]
 f_denominators:FnIn K mg "denominators" (uA 15) ["step"]
 f_blocks:FnIn K mg "blocks" (uA 16) ["step", "many"]
 f_step_bound:FnIn K mg "step_bound" (uA 17) ["step", "many"]
 f_step_number:FnIn K mg "step_number" (uA 13) ["start", "step", "n"]
 f_stepped:FnIn K mg "stepped" (uA 14) ["start", "step", "many"]
 f__law_step:FnIn K mg "_law_step" (uA 23) ["_law_feed_here"]
 f__law_worst:FnIn K mg "_law_worst" (uA 24) ["_law_tops", "_law_bottom"]
 g_ONE:GlD K mg "ONE" (pr 1 1)
theorem oO{fd:yM}(F:Fun K "law" "law" (uA 25) f fd)(T:Txt K mg)  : FnOk P w K mg base ww 7 f fd ["_law_script"] (dd K):=by
 have d__law_feed:DfnR P w K mg base "_law_feed" ["_law_script"] 1 pQ:=K49.d__law_feed T.f__law_feed T.bz   ;have d__law_draw:∀rl,Dfn P w K mg base rl "_law_draw" ["_law_feed_here", "_law_many"] 2 dI:=fun rl=>K49.d__law_draw T.f__law_draw T.bz   ;have d_common_divisor:∀rl,Dfn P w K mg base rl "common_divisor" ["one", "other"] 1 aq:=fun rl=>K49.d_common_divisor T.f_common_divisor T.bz   ;have d_fraction:∀rl,Dfn P w K mg base rl "fraction" ["top", "bottom"] 2 aJ:=fun rl=>K49.d_fraction T.f_fraction T.bz d_common_divisor  ;have d_plus:∀rl,Dfn P w K mg base rl "plus" ["one", "other"] 3 cS:=fun rl=>K49.d_plus T.f_plus T.bz d_fraction  ;have d_times:∀rl,Dfn P w K mg base rl "times" ["one", "other"] 3 bS:=fun rl=>K49.d_times T.f_times T.bz d_fraction  ;have d_is_below:∀rl,Dfn P w K mg base rl "is_below" ["one", "other"] 1 aY:=fun rl=>K49.d_is_below T.f_is_below T.bz   ;have d_lesser:∀rl,Dfn P w K mg base rl "lesser" ["one", "other"] 2 bx:=fun rl=>K49.d_lesser T.f_lesser T.bz d_is_below  ;have d_wrapped:∀rl,Dfn P w K mg base rl "wrapped" ["one"] 1 bg:=fun rl=>K49.d_wrapped T.f_wrapped T.bz   ;have d__law_gcd:∀rl,Dfn P w K mg base rl "_law_gcd" ["_law_one", "_law_other"] 1 aZ:=fun rl=>K49.d__law_gcd T.f__law_gcd T.bz   ;have d__law_frac:∀rl,Dfn P w K mg base rl "_law_frac" ["_law_top", "_law_bottom"] 2 aP:=fun rl=>K49.d__law_frac T.f__law_frac T.bz d__law_gcd  ;have d_denominators:∀rl,Dfn P w K mg base rl "denominators" ["step"] 1 ax:=fun rl=>K49.d_denominators T.f_denominators T.bz   ;have d_blocks:∀rl,Dfn P w K mg base rl "blocks" ["step", "many"] 2 bA:=fun rl=>K49.d_blocks T.f_blocks T.bz d_denominators  ;have d_step_bound:∀rl,Dfn P w K mg base rl "step_bound" ["step", "many"] 3 aH:=fun rl=>K49.d_step_bound T.f_step_bound T.bz d_lesser d_fraction d_blocks T.g_ONE ;have d_step_number:∀rl,Dfn P w K mg base rl "step_number" ["start", "step", "n"] 4 az:=fun rl=>K49.d_step_number T.f_step_number T.bz d_wrapped d_plus d_times  ;have d_stepped:∀rl,Dfn P w K mg base rl "stepped" ["start", "step", "many"] 5 bh:=fun rl=>K49.d_stepped T.f_stepped T.bz d_step_number  ;have d__law_step:∀rl,Dfn P w K mg base rl "_law_step" ["_law_feed_here"] 3 aO:=fun rl=>K49.d__law_step T.f__law_step T.bz d__law_frac d__law_draw  ;have d__law_worst:∀rl,Dfn P w K mg base rl "_law_worst" ["_law_tops", "_law_bottom"] 1 aI:=fun rl=>K49.d__law_worst T.f__law_worst T.bz   ;exact km T.bz d__law_feed d_stepped d_step_bound d__law_step d__law_draw d__law_worst   F
end
theorem us_0{us:List wF}(hl:us.length=0):us=[]:=List.eq_nil_of_length_eq_zero hl
theorem sr{us:List wF}(hl:us.length=1):∃a0,us=[a0]:=by
 cases us with
 | nil=>cases hl
 | cons a0 t=>cases us_0 (B6 hl);exact⟨a0,rfl⟩
theorem so{us:List wF}(hl:us.length=2):∃a0 a1,us=[a0,a1]:=by
 cases us with
 | nil=>cases hl
 | cons a0 t=>obtain⟨a1,rfl⟩:=sr (B6 hl);exact⟨a0,a1,rfl⟩
theorem tq{us:List wF}(hl:us.length=3):∃a0 a1 a2,us=[a0,a1,a2]:=by
 cases us with
 | nil=>cases hl
 | cons a0 t=>obtain⟨a1,a2,rfl⟩:=so (B6 hl);exact⟨a0,a1,a2,rfl⟩
noncomputable def FF(K:yp)(x:Str)(st:Stmt):Prop:=∃(f:Addr)(oc kV dc pm cd ct:wF)(od an:Option Addr)(sl:Array (Option wF)),Bn K xt x=some (some (.ref f))/\K.lookup f=some ⟨oc,od,.func (Bo x x (defArgs st) (defBody st) (defScope st) .none kV dc pm an cd ct),sl⟩/\BA K cd x=true/\BB K (.ref f)=true
theorem ff_mk{K:yp}{st:Stmt}{oc kV dc pm cd ct:wF}{od an:Option Addr}{sl:Array (Option wF)}(a:Bn K xt x=some (some (.ref f)))(l:K.lookup f=some ⟨oc,od,.func (Bo x x (defArgs st) (defBody st) (defScope st) .none kV dc pm an cd ct),sl⟩)(c:BA K cd x=true)(k:BB K (.ref f)=true):FF K x st:=⟨f,oc,kV,dc,pm,cd,ct,od,an,sl,a,l,c,k⟩
theorem aW{K:yp}{mg:Str->Option wF}(X:K.In h)(G:h.Ns xt mg){st:Stmt}(q:FF K x st)(hb:∀(kV doc pm:wF)(an:Option Addr)(cdv ct:wF)(us:List wF),us.length=ps.length->bindArgs (Bo x x (defArgs st) (defBody st) (defScope st) .none kV doc pm an cdv ct) ⟨us,[]⟩=pure (ps.zip us):=by intro _ _ _ _ _ _ us hl;first|(cases us_0 hl;exact rfl)|(obtain⟨_,rfl⟩:=sr hl;exact rfl)|(obtain⟨_,_,rfl⟩:=so hl;exact rfl)|(obtain⟨_,_,_,rfl⟩:=tq hl;exact rfl)):FnIn K mg x st ps:=by
 obtain⟨f,_,_,_,_,_,_,_,_,_,a,l,c,k⟩:=q;exact⟨⟨f,_,PySem.W.mg_of X G a,jn l c k,(jn l c k).binds hb⟩⟩
abbrev NI(K:yp)(x:Str)(f:Addr):Prop:=Bn K xt x=some (some (.ref f))
abbrev NZ(K:yp)(x:Str):Prop:=Bn K xt x=some none
abbrev LK(K:yp)(x:Str)(st:Stmt)(f:Addr)(oc:wF)(od:Option Addr)(kV dc pm:wF)(an:Option Addr)(cd ct:wF)(sl:Array (Option wF)):Prop:=K.lookup f=some ⟨oc,od,.func (Bo x x (defArgs st) (defBody st) (defScope st) .none kV dc pm an cd ct),sl⟩
theorem all_mk{l:Bp}{w:xx}{K:yp}{mg:Str->Option wF}{fa:Addr}(X:K.In h)(G:h.Ns xt mg)(hfa:mg "law" = some (.ref fa))
 {f19:Addr}{od19 an19:Option Addr}{sl19:Array (Option wF)}{oc19 kV19 dc19 pm19 cd19 ct19:wF}
 (f1:FF K "_law_feed" (uA 19))(f2:FF K "_law_draw" (uA 20))(f3:FF K "common_divisor" (uA 5))(f4:FF K "fraction" (uA 6))(f5:FF K "plus" (uA 7))(f6:FF K "times" (uA 8))(f7:FF K "is_below" (uA 9))(f8:FF K "lesser" (uA 10))(f9:FF K "wrapped" (uA 11))(f10:FF K "_law_gcd" (uA 21))(f11:FF K "_law_frac" (uA 22))(f12:FF K "denominators" (uA 15))(f13:FF K "blocks" (uA 16))(f14:FF K "step_bound" (uA 17))(f15:FF K "step_number" (uA 13))(f16:FF K "stepped" (uA 14))(f17:FF K "_law_step" (uA 23))(f18:FF K "_law_worst" (uA 24))(a19:NI K "law" f19)(l19:LK K "law" (uA 25) f19 oc19 od19 kV19 dc19 pm19 an19 cd19 ct19 sl19)(c19:BA K cd19 "law" = true)(k19:BB K (.ref f19)=true)
 (z_int:NZ K "int")(z_bool:NZ K "bool")(z_str:NZ K "str")(z_list:NZ K "list")(z_tuple:NZ K "tuple")(z_dict:NZ K "dict")(z_isinstance:NZ K "isinstance")(z_len:NZ K "len")(z_abs:NZ K "abs")(z_repr:NZ K "repr")(z_range:NZ K "range")(z_all:NZ K "all")(z_any:NZ K "any")(z_sum:NZ K "sum")(z_min:NZ K "min")(z_max:NZ K "max")(z_sorted:NZ K "sorted")(z_zip:NZ K "zip")(z_enumerate:NZ K "enumerate")(z_reversed:NZ K "reversed")(z_divmod:NZ K "divmod")(z_set:NZ K "set")(g_ONE:GlK K "ONE" (pr 1 1))  :
 ∃fd:yM,(∀(s:wG)(v:wF),Cc s fd ⟨[v],[]⟩ [("_law_script", v)])/\∀base:Heap,K.In base->base.Ns xt mg->FnOk l.prog w K mg base ww 7 fa fd ["_law_script"] (dd K):=by
 have e:=hfa.symm.trans (PySem.W.mg_of X G a19);cases e;have B:Bz mg:=⟨wT X G z_int,wT X G z_bool,wT X G z_str,wT X G z_list,wT X G z_tuple,wT X G z_dict,wT X G z_isinstance,wT X G z_len,wT X G z_abs,wT X G z_repr,wT X G z_range,wT X G z_all,wT X G z_any,wT X G z_sum,wT X G z_min,wT X G z_max,wT X G z_sorted,wT X G z_zip,wT X G z_enumerate,wT X G z_reversed,wT X G z_divmod,wT X G z_set⟩;have T:Txt K mg:=⟨B,(aW X G f1),(aW X G f2),(aW X G f3),(aW X G f4),(aW X G f5),(aW X G f6),(aW X G f7),(aW X G f8),(aW X G f9),(aW X G f10),(aW X G f11),(aW X G f12),(aW X G f13),(aW X G f14),(aW X G f15),(aW X G f16),(aW X G f17),(aW X G f18),g_ONE.of X G⟩;have FL:=jn (st:=uA 25) l19 c19 k19;exact⟨_,fun s v=>.of_eq rfl,fun base _ _=>oO FL T ⟩
theorem walk{l:Bp}{q:wZ}{XP:(Str->Option wF)->Heap->Prop}{YP:xx->Heap->Prop}{d:DefRec}{K:Ck->yp}(hn:l.most=some 63)(hdf:d.params.defaults=[])
 (hY:∀(w:xx)(h:Heap),YP w h->(K w.params).In h)
 (F:∀(w:xx)(mg:Str->Option wF)(fa:Addr)(h:Heap),(K w.params).In h->h.Ns xt mg->mg d.name=some (.ref fa) ->
  ∃fd:yM,(∀(s:wG)(u:wF),Cc s fd ⟨[u],[]⟩ [("_law_script", u)])/\∀base:Heap,(K w.params).In base->base.Ns xt mg->FnOk l.prog w (K w.params) mg base ww 7 fa fd ["_law_script"] (dd (K w.params))) :
 PySem.W.WalkO q loose XP YP l.row.toRowW d [] (fun f vs=>PySem.call f vs) :=
 L2.walk_of (n:=63) (k:=7) (x := "_law_script") (CX:=fun _=>ww) (sp:=fun w=>dd (K w.params)) hn (by decide) hdf ⟨rfl,by decide,by decide,rfl⟩ hY F (fun _ _ a ns hl _ hS=>⟨a,ns,rfl,hS,hl,fun _=>rfl⟩) fun _ _ _ _ _ z=>z
end K49
noncomputable def PySem.W.Fast.tw4533600964951423307:PySem.Params->yp:=K49.heapK
theorem PySem.W.Fast.te4533600964951423307:K49.heapK=PySem.W.Fast.tw4533600964951423307:=rfl
open PySem PySem.W PyProof.Rows
set_option maxRecDepth 100000 in
set_option maxHeartbeats 0 in
theorem PySem.Challenge.cw_evenpoints_k49_whole_steps_keep_their_bo_holds : PySem.Challenge.rw_evenpoints_k49_whole_steps_keep_their_bo.Holds := by
 refine(congrArg Bp.Holds K49.rw_eq).mpr ?_
 w_on;o_law
 refine holds_open (loose:=[]) (XP:=XL K49.zview []) (YP:=Hook.says (kHook K49.heapK K49.heapA K49.heapE)) K49.zleft
  (Hook.of _) (Hook.keeps _) (fun s e=>xl_of s (wU.mp e).1)
  XL.keeps (by rfl) (by rfl) (by rfl) (fun s e=>recFacts_of (wU.mp e).2) (by rfl)
  (by first|assumption|decide +kernel) (by decide +kernel) ⟨rfl,rfl,rfl,rfl,rfl,by decide +kernel⟩ ?hw ?hc
 (case hw=>w_witness2)
 k_fill
 refine K49.walk (l:=K49.rwN) rfl rfl (fun w h Y=>PySem.W.kIn_of (as:=K49.heapA) (e:=K49.heapE) Y) ?F
 case F =>
  intro w mg fa h KX G hmg
  refine' K49.all_mk KX G hmg ?f1 ?f2 ?f3 ?f4 ?f5 ?f6 ?f7 ?f8 ?f9 ?f10 ?f11 ?f12 ?f13 ?f14 ?f15 ?f16 ?f17 ?f18 ?a19 ?l19 ?c19 ?k19 ?zint ?zbool ?zstr ?zlist ?ztuple ?zdict ?zisinstance ?zlen ?zabs ?zrepr ?zrange ?zall ?zany ?zsum ?zmin ?zmax ?zsorted ?zzip ?zenumerate ?zreversed ?zdivmod ?zset ?gONE 
  all_goals (try (refine' K49.ff_mk ?a ?l ?c ?k;(case a=>k_is);(case l=>k_is);(case c=>k_is);(case k=>k_is)))
  all_goals (try change _=_)
  (case a19=>k_is);(case l19=>k_is);(case c19=>k_is);(case k19=>k_is)
  (case zint=>k_is)
  (case zbool=>k_is)
  (case zstr=>k_is)
  (case zlist=>k_is)
  (case ztuple=>k_is)
  (case zdict=>k_is)
  (case zisinstance=>k_is)
  (case zlen=>k_is)
  (case zabs=>k_is)
  (case zrepr=>k_is)
  (case zrange=>k_is)
  (case zall=>k_is)
  (case zany=>k_is)
  (case zsum=>k_is)
  (case zmin=>k_is)
  (case zmax=>k_is)
  (case zsorted=>k_is)
  (case zzip=>k_is)
  (case zenumerate=>k_is)
  (case zreversed=>k_is)
  (case zdivmod=>k_is)
  (case zset=>k_is)
  (case gONE=>refine' L2.VL.GlK.pair ?h1 ?h2;(case h1=>k_is);(case h2=>k_is))
