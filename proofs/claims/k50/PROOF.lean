import PyProof.Rows.All
import Wide.All
import OpenK.AllK
import Wide.FinOn
import Lean
import PyProof.EqAt
import PyProof.EqKinds
import PyProof.TupleCall
import KE.KDictSum
import KE.KMinKey
import PyProof.Rows.CallKwBuiltin
import PySem.Challenge.RW_evenpoints_k50_neighbours_let_by_or_not
set_option compiler.extract_closed false
set_option bootstrap.genMatcherCode false
set_option Elab.async false
set_option linter.all false
set_option maxRecDepth 100000
set_option maxHeartbeats 4000000
open And renaming intro->yE, imp_right->yP
open Array renaming getD_eq_getD_getElem?->zZ, getElem?_eq_some_iff->z8, length_toList->An, getElem?_eq_getElem->AO, all_eq_true_iff_forall_mem->A6, mk->Da
open Bool renaming and_eq_true_iff->y_, false_ne_true->zy, or_eq_true_iff->Ap, false_eq_true->Az, and_eq_true->AU, eq_iff_iff->AZ, or_true->C8
open Classical renaming choose_spec->zT, choose->B7
open Exists renaming imp->y9
open False renaming elim->zl
open ForInStep renaming yield->AE
open Iff renaming rfl->CP
open Int renaming mul_le_mul_of_nonneg_right->zb, gcd->zk, fmod_nonneg_of_pos->zI, le_of_lt->zU, natAbs_natCast->zV, dvd_of_emod_eq_zero->zX, fdiv_eq_ediv_of_nonneg->z6, fmod_lt_of_pos->z_, lt_of_mul_lt_mul_left->Ad, eq_ofNat_of_zero_le->Aq, add_mul->At, mul_nonneg->AQ, natAbs_mul->Bb, lt_or_le->Bd, mul_le_mul_of_nonneg_left->Bh, gcd_pos_of_ne_zero_right->Bk, mul_pos->Bs, lt_trichotomy->BP, pos_of_mul_pos_right->BQ, sub_mul->B2, mul_assoc->B3, fmod_add_mul_fdiv->Cj, natCast_mul->Cp, emod_add_mul_ediv->Cr, mul_comm->Ct, natAbs_dvd_natAbs->Cu, mul_sub->CV
open List renaming size_toArray->yL, getElem?_set_ne->yO, mem_cons_of_mem->yR, getElem?_eq_some_iff->yU, length_map->yV, mem_cons_self->yY, getElem?_set_self->yZ, lookup_cons->zf, mem_append_right->zi, getElem?_set->zm, mem_cons->zo, replicate->zt, range->zw, getElem?_eq_getElem->zA, getElem?_map->zB, getElem?_replicate->zN, getD_eq_getElem?_getD->z7, not_mem_nil->z9, append_nil->Ag, filterMap_cons->Am, mem_range->Au, length_append->Ay, getElem?_append_left->AM, cons_append->AR, length_cons->AS, mem_append->AX, mem_singleton->A5, length_range->Ba, toArray->Bc, all_eq_true->Bf, mem_append_left->Bi, nodup_cons->Bo, lookup->Bu, getElem?_append_right->Bx, mem_filterMap->BB, contains_cons->BF, drop_eq_getElem_cons->BJ, map_cons->BW, getElem_mem->B5, ext_getElem->B6, of_mem_zip->Cf, forIn_cons->Cg, mem_map->Ck, nil_append->Cm, mem_of_getElem?->CC, Nodup->C3
open List.cons renaming injEq->yS
open Nat renaming lt_of_lt_of_le->yK, le_refl->y7, pow_le_pow_right->za, ne_of_lt->zn, le_trans->zx, lt_irrefl->zM, zero_le->zQ, le_of_succ_le->AI, lt_of_le_of_lt->BE, le_of_lt->Ca, ne_of_gt->Cc, mul_ne_zero->Co, le_succ->Dk
open Nat.succ renaming inj->C9
open Ne renaming symm->AC
open Option renaming isSome_iff_exists->Ah, map_eq_some_iff->A7, bind_some->B8
open Option.some renaming inj->zg
open Or renaming inr->AJ, inl->AN
open PyProof.Rows renaming seqObj->Ai, signs_ofString->Ax, callWith_type1->AD, get?_update_seq->AG, envOfC->Bp, assignInOrder_cons->BA, AllBare->BR, listUpdate_at->BZ, subscriptTail_builtinR->B9, comma_cnt_shown_tuple->Cq, IntsAre->CN, seqEpoch_at->CQ
open PySem renaming PyData->yF, Value->yG, Shared->yH, wpAny_bind->yJ, starEach->yM, Program->yT, mainGlobals->yW, wpAny_pure->yX, wpAny->zc, Around->zd, model->zh, World->zp, mem_of_lookup->zv, sizeLine_eq->zD, Paired->zE, wpAny_mono->zG, compareOp->zK, cellsFrom->zO, wpAny_truthy_bool->zP, FuncData->z5, backTo->Ae, wpAny_passesOwn->Af, wpAny_loadPart_at->Aj, wpAny_holding->Ao, assignEach->Av, bootBuiltins->AB, swapsWith->AL, wpAny_execs_nil->AY, behindInMarks->A0, attributeBase->A1, wpAny_Call_Name_kw->A2, NameKind->A3, foldedSetIterable->A8, sliceBounds->A9, plainObj_wpAny_Assign_Attribute->A_, wpAny_eqBool_int->Be, wpAny_standAt->Bj, letOwnedTupleGo->Bn, wpAny_isSubtype_exc->Bt, binaryOp->BC, codeAny_mono->BD, newFunctionEnv->BH, wpAny_newObj_type->BN, swapsWithSole->BS, swappedStores->BU, codeAny->BV, wpAny_newList->B1, importedModules->B_, Keyword->Ce, noteFrame->Ch, codeAny_call_builtin->CD, intBits_le_iff->CF, wpAny_setField->CH, wpAny_loadPart->CI, sizeLine_eq->CL, keywordEach->CM, wpAny_field->CT, assignInOrder->CZ, rawInt->C0, callerA->C1, isInstance->C2, Within->C4, seqIndex_neg->C6, bindName->Db, PassesOwn->Dc, lastMarks->Dd, BindsTo->Df, seqIndex_of->Dg, pushCells->Dh, Model->Dl, CmpOp->Dm, Params->Dn, assign->Do, holding->Dq
open PySem.Around renaming under->Cd
open PySem.Builtin.List renaming listTooLong->AV
open PySem.Calls renaming Name_function_global->Bw, call_function_entry->BK
open PySem.Code renaming isFrame->C5
open PySem.EntryCells renaming newEntry->CS
open PySem.F renaming excBase_ValueError->By, store_ValueError->BO
open PySem.Heap renaming get?_push_of_some->yI, lt_size->yN, get?_update_other->ze, get?_push_size->zj, get?_update_self->zR, SameBut->Cb, get?_none_of_le->CB, size_push->CG, get?_update_ne->CU
open PySem.NameKind renaming free->zr, cell->zW
open PySem.Obj renaming mapFields->Ar, mapSeq->Aw, data_mapFields->AA, isFreed_of_fields->AH
open PySem.Paired renaming length->AW
open PySem.PassesOwn renaming never->Ak
open PySem.PyData renaming tuple->y8, int->zC, eqv->zH, canLayAll0->zL, depthAll->zS, canLay0->Ac, depth->AF, leavesShort->A4, shown_int->Bg, showable->Bq, bool->Br, bulkAll->BI, list->BX, leavesShortAll->Ci, bulk->CO, strOk->C7
open PySem.PyData.int renaming injEq->AT
open PySem.PyData.tuple renaming injEq->zz
open PySem.SeqAt renaming shaped->zF
open PySem.Str renaming ofString->Aa
open PySem.Value renaming none->zq, ref->zu, int->AK, builtin->Bl, bool->Bm, type->Cz, str->CY
open PySem.W renaming mg_none_of->yQ, boot_heap->zJ, Frag->zY, nsIn->Ab, fnOf->BG, codeIn->BL, keepIn->BM, mg_of->B4, OpenLaw->Cw, boot_drawn->Cy, boot_toks->CW, kas_rev->Dj, OpenLaw->Dp
open Rat renaming intCast_mul->Bv, normalize->BY, intCast_add->Cv, div_def->Di
open Sum renaming inl->CJ, inr->CK
open True renaming intro->CA
open PySem PySem.Spec PyProof.Rows
variable{loose N ps:List Str}{α:Type}{a C f r:Addr}{o:Obj}{b U:Int}{h base:Heap}{i j k n:Nat}{x qual:Str}{e tg:Expr}{pos:Pos}{pins:List (Addr×Obj)}{fp:List Addr}{op:Dm}{scope:Scope}{rl:Option Addr}{q s:Rat}{p:Array Nat}{zs:List (Int×Int)}
theorem æa(h:True:=by rfl):True:=trivial
theorem æb(h:True:=by decide):True:=trivial
theorem æc(h:True:=by intro _;rfl):True:=trivial
theorem æd(h:True:=by first|exact AN rfl|exact AJ (AN rfl)|exact AJ (AJ rfl)):True:=trivial
theorem æe(h:True:=by first|exact AN rfl|exact AJ rfl):True:=trivial
theorem æf(h:True:=by first|exact .inl rfl|exact .inr rfl):True:=trivial
theorem æg(h:True:=by first|exact .inl rfl|exact .inr rfl|assumption):True:=trivial
theorem æh(h:True:=by with_unfolding_all rfl):True:=trivial
noncomputable section
namespace L2
open PySem
noncomputable def inClass(s:Stmt)(j:Nat):Stmt:=match s with
 | .ClassDef _ _ _ body _ _ _ _ _ _ _=>body.getD j (.Pass ⟨0,0,0,0⟩)
 | _=>.Pass ⟨0,0,0,0⟩
noncomputable def defArgs(s:Stmt):Arguments:=match s with
 | .FunctionDef _ a _ _ _ _ _ _ _ _=>a
 | _=>{posonlyargs:=[],args:=[],vararg:=none,kwonlyargs:=[],kw_defaults:=[],kwarg:=none,defaults:=[]}
noncomputable def defBody(s:Stmt):List Stmt:=match s with
 | .FunctionDef _ _ b _ _ _ _ _ _ _=>b
 | _=>[]
noncomputable def defScope(s:Stmt):Scope:=match s with
 | .FunctionDef _ _ _ _ _ _ sc _ _ _=>sc
 | _=>{kind:=.function,names:=[],isGenerator:=false,isCoroutine:=false}
end L2
namespace L2.TT
open PySem PySem.W
noncomputable def xB(tb:String->Option Builtin)(p:yT)(w:zp)(m:Nat)(ann:Option yG):Nat->SharedT->Thread->Option SharedT
 | 0,_,_=>none
 | n+1,s,t=>match through t with
   | true=>some s
   | false=>match stepOk m ann t with
     | false=>none
     | true=>match stepT (denote tb) p w s t with
       | some r=>xB tb p w m ann n r.1 r.2
       | none=>none
theorem l6{tb:String->Option Builtin}{p:yT}{w:zp}{m:Nat}{ann:Option yG}:∀{n:Nat}{s s':SharedT}{t:Thread},xB tb p w m ann n s t=some s'->topRun tb p w m ann n s.abs t=some s'.abs
 | 0,_,_,_,h=>by cases h
 | n+1,s,s',t,h=>by
   unfold xB at h;unfold topRun
   cases he:through t with
   | true=>rw[he]at h;cases h;rfl
   | false =>
     rw[he]at h
     cases hk:stepOk m ann t with
     | false=>rw[hk]at h;cases h
     | true =>
       rw[hk]at h
       cases hs:stepT (denote tb) p w s t with
       | none=>rw[hs]at h;cases h
       | some r=>rw[hs]at h;rw[stepT_spec hs];exact l6 h
noncomputable def bt(os:List Obj):Nat->Nat->Nat->BT
 | 0,_,_=>.nil
 | f+1,a,b=>match os[b]? with
   | some o=>.node o (bt os f (2*a) (a+b)) (bt os f (2*a) (2*a+b))
   | none=>.nil
theorem boot_abs(P:Dn):absHeap (bt (zJ P).objs.toList 12 1 0) (zJ P).objs.size (zJ P).life=zJ P:=by kernel_rfl
abbrev qC(p q:yT)(loose:List Str)(Xt:yH->Bool){α:Type}(Yf:yH->α)(h₀:Heap)(s:yH) :=
 (staticsOk (B_ p.main.body) h₀ s.heap&&namesBound p s.heap&&gensDone s&&laidKept h₀ s.heap,openSeen q loose (B_ p.main.body) Xt true s,Yf s)
theorem left_of{p q:yT}{Xt:yH->Bool}{Yf:yH->α}{Ya:zp->α}{N m M:Nat}{ann:Option yG}
 (e:opening p=plainProg p.main.scope.names)(hN:Nat.ble 600 N=true)(f:∀s,fenceModules? p s=some s)(le:Nat.ble M N=true)
 (size:∀w:zp,((zJ w.params).isNs yW,(zJ w.params).objs.size,(zJ w.params).nsMap yW "__annotations__")=(true,m,ann))
 (run:∀(w:zp)(os:OsState),(xB treeTable p w m ann M ⟨bt (zJ w.params).objs.toList 12 1 0,(zJ w.params).objs.size,(zJ w.params).life,Da [],Cy,CW,os⟩ (topStub p)).map (fun s=>qC p q loose Xt Yf (zJ w.params) s.abs)=some (true,openGood q loose,Ya w)) :
 LeftO p q loose Xt Yf Ya N:=fun w=>by
 obtain⟨⟨h,gs,d,k,os⟩,eo,e'⟩:=A7.mp (boot_open e hN f w);obtain⟨rfl,rfl,rfl,rfl⟩:h=zJ w.params/\gs=Da []/\d=Cy/\k=CW:=by simpa using e'
 obtain⟨z1,z2,z3⟩:_/\_/\_:=by simpa only[Prod.mk.injEq]using size w
 obtain⟨s',r,l⟩:=A7.mp (run w os);obtain⟨l1,l2,l3⟩:_/\_/\_:=by simpa only[qC,Prod.mk.injEq]using l
 have r:=l6 r
 have hb:SharedT.abs ⟨bt (zJ w.params).objs.toList 12 1 0,(zJ w.params).objs.size,(zJ w.params).life,Da [],Cy,CW,os⟩=⟨zJ w.params,Da [],Cy,CW,os⟩:=by
  show yH.mk (absHeap _ _ _) _ _ _ _=_;rw[boot_abs]
 rw[hb]at r;have r:=topRun_mono (N-M) _ _ _ _ r;rw[show M+(N-M)=N by have:=Nat.le_of_ble_eq_true le;omega]at r
 have t:topFrom treeTable p w N ⟨zJ w.params,Da [],Cy,CW,os⟩=some s'.abs:=by
  unfold topFrom;dsimp only;rw[z1,z2,z3,r];show(match staticsOk (B_ p.main.body) (zJ w.params) s'.abs.heap&&namesBound p s'.abs.heap&&gensDone s'.abs&&laidKept (zJ w.params) s'.abs.heap with|true=>_|false=>_)=_;rw[l1]
 unfold openEnds;rw[eo];show(topFrom treeTable p w N _).map _=_;rw[t];exact congrArg some (Prod.ext l2 l3)
end L2.TT
namespace K50
open PySem
def top(i:Nat):Stmt:=PySem.Challenge.pw_evenpoints_k50_neighbours_let_by_or_not.main.body.getD i (.Pass ⟨0,0,0,0⟩)
end K50
noncomputable def PySem.W.Fast.tw7407205202716787852:PySem.Program:=PySem.Challenge.pw_evenpoints_k50_neighbours_let_by_or_not
theorem PySem.W.Fast.te7407205202716787852:PySem.Challenge.pw_evenpoints_k50_neighbours_let_by_or_not=PySem.W.Fast.tw7407205202716787852:=rfl
namespace K50
open PySem PySem.W L2
def v7:Stmt:=top 0
def v6:Stmt:=top 1
def v4:Stmt:=top 2
def vZ:Stmt:=top 3
def vY:Stmt:=top 4
def vX:Stmt:=top 5
def vW:Stmt:=top 6
def vV:Stmt:=top 7
def vU:Stmt:=top 8
def vT:Stmt:=top 9
def ur:Stmt:=top 10
def uq:Stmt:=top 11
def uo:Stmt:=top 12
def um:Stmt:=top 13
def ul:Stmt:=top 14
def u_:Stmt:=top 15
def uk:Stmt:=top 16
def u9:Stmt:=top 17
def uj:Stmt:=top 18
def ui:Stmt:=top 19
def uh:Stmt:=top 20
def ug:Stmt:=top 21
def u8:Stmt:=top 22
def uf:Stmt:=top 23
def ue:Stmt:=top 24
def ud:Stmt:=top 25
def uc:Stmt:=top 26
def ub:Stmt:=top 27
def ua:Stmt:=top 28
def t_:Stmt:=top 29
def t9:Stmt:=top 30
def t8:Stmt:=top 31
def w_:yT:={PySem.Challenge.pw_evenpoints_k50_neighbours_let_by_or_not with main:={PySem.Challenge.pw_evenpoints_k50_neighbours_let_by_or_not.main with body:=[v7,v6,v4,vZ,vY,vX,vW,vV,vU,vT,ur,uq,uo,um,ul,u_,uk,u9,uj,ui,uh,ug,u8,uf,ue,ud,uc,ub,ua,t_,t9,t8]}}
def rwN:Dp:={PySem.Challenge.rw_evenpoints_k50_neighbours_let_by_or_not with prog:=w_}
noncomputable def zview:yT:={PySem.Challenge.pw_evenpoints_k50_neighbours_let_by_or_not with main:={PySem.Challenge.pw_evenpoints_k50_neighbours_let_by_or_not.main with body:=[v6,v4,vZ,vX,vW,vV,vU,vT,ur,uq,uo,um,ul,uk,uj,ui,uh,ug,uf,ue,ud,uc,ub,ua,t_,t9,t8]}}
theorem rw_eq:PySem.Challenge.rw_evenpoints_k50_neighbours_let_by_or_not=rwN:=rfl
noncomputable def we(P:Dn)(x:Str)(t:Nat)(v:yG):DictEntry:=⟨yF.keyHash P x,.str x t,v⟩
noncomputable def wd(n q:Str)(s:Stmt)(pm cd:yG):Obj:=⟨.type "function", none,.func (fnOf n q (defArgs s) (defBody s) (defScope s) .none .none .none pm none cd .none),#[]⟩
noncomputable def wg(n q:Str)(a b c:Nat)(l x y:Int)(r:Nat)(z:Int)(r2:Nat)(v1 v2 v3:yG)(r3:Nat)(u:Int)(c2:Nat):Obj:=⟨.type "code", none,.fields #[.str n a,.str q b,.str "/claim/cut.py" c,.int l 0,.int x 0,.int 0 0,.int 0 0,.int y 0,.ref r,.bool true,.int z 0,.ref r2,v1,v2,v3,.ref r3,.int u 0,.int l 0,.str "/claim/cut.py" c2],#[]⟩
noncomputable def wb:yG:=.str "evenpoints.errors" 187
noncomputable def wa:yG:=.str "evenpoints.fractions" 259
noncomputable def v_:yG:=.str "evenpoints.steps" 330
noncomputable def v9:yG:=.str "evenpoints.gapchecker" 341
noncomputable def v8:yG:=.str "law_evenpoints_k50_neighbours_let_by_or_not" 376
abbrev wc(n:Str):=wd n n
abbrev wf(n:Str):=wg n n
noncomputable def heapK(P:Dn):Frag :=
 (nat_lit 2,(.mk .none none (.dict #[] 0) #[])) ::
 (nat_lit 3,(.mk (.type "dict") none (.dict #[we P "__name__" 165 (.str "law_evenpoints_k50_neighbours_let_by_or_not" 376),we P "__doc__" 166 .none,we P "__package__" 167 .none,we P "__loader__" 168 (.builtin "__main__.__loader__#opaque"),we P "__spec__" 169 .none,we P "__annotations__" 170 (.ref 6),we P "__builtins__" 171 (.ref 4),we P "__file__" 173 (.str "/claim/cut.py" 172),we P "__cached__" 174 .none,we P "EvenError" 206 (.ref 24),we P "Nought" 231 (.ref 44),we P "NoPaper" 258 (.ref 63),we P "ZERO" 263 (.ref 66),we P "ONE" 266 (.ref 67),we P "is_whole" 273 (.ref 74),we P "is_place" 281 (.ref 81),we P "common_divisor" 289 (.ref 88),we P "fraction" 298 (.ref 95),we P "plus" 306 (.ref 102),we P "less" 314 (.ref 109),we P "times" 322 (.ref 116),we P "wrapped" 329 (.ref 123),we P "step_number" 340 (.ref 130),we P "is_pair" 348 (.ref 135),we P "gap_above" 356 (.ref 142),we P "gap_below" 364 (.ref 149),we P "lets_neighbours" 375 (.ref 156),we P "_law_feed" 384 (.ref 163),we P "_law_draw" 395 (.ref 170),we P "_law_gcd" 403 (.ref 177),we P "_law_frac" 412 (.ref 184),we P "_law_step_of" 422 (.ref 191),we P "_law_fault" 428 (.ref 196),we P "_law_told" 439 (.ref 203),we P "_law_neighbours" 445 (.ref 208),we P "law" 451 (.ref 213)] 36) #[])) ::
 (nat_lit 6,(.mk (.type "dict") none (.dict #[] 0) #[])) ::
 (nat_lit 15,(.mk (.type "tuple") none (.seq #[(.type "ValueError")] 0) #[])) ::
 (nat_lit 22,(.mk (.type "tuple") none (.seq #[] 0) #[])) ::
 (nat_lit 23,(.mk (.type "dict") none (.dict #[we P "__module__" 196 (.str "evenpoints.errors" 187),we P "__firstlineno__" 200 (.int 2 199),we P "__static_attributes__" 201 (.ref 22),we P "__weakref__" 203 (.ref 25),we P "__doc__" 204 .none] 3) #[])) ::
 (nat_lit 24,(.mk (.type "type") none (.cls (.mk "EvenError" [(.type "ValueError")] [(.ref 24),(.type "ValueError"),(.type "Exception"),(.type "BaseException"),(.type "object")] 23 "EvenError" true [] [(.ref 44),(.ref 63)] false none false)) #[(some (.ref 15)),none,(some (.str "EvenError" 189)),(some (.str "EvenError" 197)),(some (.builtin "ValueError.__new__")),(some (.bool true))])) ::
 (nat_lit 25,(.mk (.type "getset_descriptor") none (.fields #[(.str "__weakref__" 202),(.ref 24),(.builtin "ExceptionGroup.__weakref__"),.none]) #[])) ::
 (nat_lit 28,(.mk (.type "tuple") none (.seq #[(.ref 24)] 0) #[])) ::
 (nat_lit 40,wg "__init__" "Nought.__init__" 219 220 221 6 2 3 35 181 36 .none (.ref 37) (.ref 38) 39 224 225) ::
 (nat_lit 41,wd "__init__" "Nought.__init__" (inClass (top 2) 0) wb (.ref 40)) ::
 (nat_lit 42,(.mk (.type "tuple") none (.seq #[(.str "word" 227)] 0) #[])) ::
 (nat_lit 43,(.mk (.type "dict") none (.dict #[we P "__module__" 214 (.str "evenpoints.errors" 187),we P "__firstlineno__" 218 (.int 4 217),we P "__init__" 226 (.ref 41),we P "__static_attributes__" 228 (.ref 42),we P "__doc__" 229 .none] 2) #[])) ::
 (nat_lit 44,(.mk (.type "type") none (.cls (.mk "Nought" [(.ref 24)] [(.ref 44),(.ref 24),(.type "ValueError"),(.type "Exception"),(.type "BaseException"),(.type "object")] 43 "Nought" true [] [] false none false)) #[(some (.ref 28)),none,(some (.str "Nought" 207)),(some (.str "Nought" 215)),(some (.builtin "ValueError.__new__")),(some (.bool true))])) ::
 (nat_lit 47,(.mk (.type "tuple") none (.seq #[(.ref 24)] 0) #[])) ::
 (nat_lit 59,wg "__init__" "NoPaper.__init__" 244 245 246 10 3 3 54 181 55 .none (.ref 56) (.ref 57) 58 250 251) ::
 (nat_lit 60,wd "__init__" "NoPaper.__init__" (inClass (top 3) 0) wb (.ref 59)) ::
 (nat_lit 61,(.mk (.type "tuple") none (.seq #[(.str "path" 253),(.str "word" 254)] 0) #[])) ::
 (nat_lit 62,(.mk (.type "dict") none (.dict #[we P "__module__" 239 (.str "evenpoints.errors" 187),we P "__firstlineno__" 243 (.int 8 242),we P "__init__" 252 (.ref 60),we P "__static_attributes__" 255 (.ref 61),we P "__doc__" 256 .none] 2) #[])) ::
 (nat_lit 63,(.mk (.type "type") none (.cls (.mk "NoPaper" [(.ref 24)] [(.ref 63),(.ref 24),(.type "ValueError"),(.type "Exception"),(.type "BaseException"),(.type "object")] 62 "NoPaper" true [] [] false none false)) #[(some (.ref 47)),none,(some (.str "NoPaper" 232)),(some (.str "NoPaper" 240)),(some (.builtin "ValueError.__new__")),(some (.bool true))])) ::
 (nat_lit 66,(.mk (.type "tuple") none (.seq #[(.int 0 261),(.int 1 262)] 0) #[])) ::
 (nat_lit 67,(.mk (.type "tuple") none (.seq #[(.int 1 264),(.int 1 265)] 0) #[])) ::
 (nat_lit 73,wf "is_whole" 267 268 269 16 1 3 68 181 69 .none (.ref 70) (.ref 71) 72 271 272) ::
 (nat_lit 74,wc "is_whole" (top 7) wa (.ref 73)) ::
 (nat_lit 80,wf "is_place" 274 275 276 18 2 3 75 181 76 .none (.ref 77) (.ref 78) 79 279 280) ::
 (nat_lit 81,wc "is_place" (top 8) wa (.ref 80)) ::
 (nat_lit 87,wf "common_divisor" 282 283 284 20 2 3 82 181 83 .none (.ref 84) (.ref 85) 86 287 288) ::
 (nat_lit 88,wc "common_divisor" (top 9) wa (.ref 87)) ::
 (nat_lit 94,wf "fraction" 290 291 292 24 2 3 89 181 90 .none (.ref 91) (.ref 92) 93 296 297) ::
 (nat_lit 95,wc "fraction" (top 10) wa (.ref 94)) ::
 (nat_lit 101,wf "plus" 299 300 301 31 2 3 96 181 97 .none (.ref 98) (.ref 99) 100 304 305) ::
 (nat_lit 102,wc "plus" (top 11) wa (.ref 101)) ::
 (nat_lit 108,wf "less" 307 308 309 33 2 3 103 181 104 .none (.ref 105) (.ref 106) 107 312 313) ::
 (nat_lit 109,wc "less" (top 12) wa (.ref 108)) ::
 (nat_lit 115,wf "times" 315 316 317 35 2 3 110 181 111 .none (.ref 112) (.ref 113) 114 320 321) ::
 (nat_lit 116,wc "times" (top 13) wa (.ref 115)) ::
 (nat_lit 122,wf "wrapped" 323 324 325 37 1 3 117 181 118 .none (.ref 119) (.ref 120) 121 327 328) ::
 (nat_lit 123,wc "wrapped" (top 14) wa (.ref 122)) ::
 (nat_lit 129,wf "step_number" 332 333 334 40 3 3 124 181 125 .none (.ref 126) (.ref 127) 128 338 339) ::
 (nat_lit 130,wc "step_number" (top 16) v_ (.ref 129)) ::
 (nat_lit 134,wf "is_pair" 343 344 345 43 2 3 131 181 132 .none .none .none 133 346 347) ::
 (nat_lit 135,wc "is_pair" (top 18) v9 (.ref 134)) ::
 (nat_lit 141,wf "gap_above" 349 350 351 47 2 3 136 181 137 .none (.ref 138) (.ref 139) 140 354 355) ::
 (nat_lit 142,wc "gap_above" (top 19) v9 (.ref 141)) ::
 (nat_lit 148,wf "gap_below" 357 358 359 49 2 3 143 181 144 .none (.ref 145) (.ref 146) 147 362 363) ::
 (nat_lit 149,wc "gap_below" (top 20) v9 (.ref 148)) ::
 (nat_lit 155,wf "lets_neighbours" 365 366 367 51 3 3 150 181 151 .none (.ref 152) (.ref 153) 154 373 374) ::
 (nat_lit 156,wc "lets_neighbours" (top 21) v9 (.ref 155)) ::
 (nat_lit 162,wf "_law_feed" 378 379 380 61 1 3 157 181 158 .none (.ref 159) (.ref 160) 161 382 383) ::
 (nat_lit 163,wc "_law_feed" (top 23) v8 (.ref 162)) ::
 (nat_lit 169,wf "_law_draw" 385 386 387 63 2 3 164 181 165 .none (.ref 166) (.ref 167) 168 393 394) ::
 (nat_lit 170,wc "_law_draw" (top 24) v8 (.ref 169)) ::
 (nat_lit 176,wf "_law_gcd" 396 397 398 79 2 3 171 181 172 .none (.ref 173) (.ref 174) 175 401 402) ::
 (nat_lit 177,wc "_law_gcd" (top 25) v8 (.ref 176)) ::
 (nat_lit 183,wf "_law_frac" 404 405 406 83 2 3 178 181 179 .none (.ref 180) (.ref 181) 182 410 411) ::
 (nat_lit 184,wc "_law_frac" (top 26) v8 (.ref 183)) ::
 (nat_lit 190,wf "_law_step_of" 413 414 415 86 2 3 185 181 186 .none (.ref 187) (.ref 188) 189 420 421) ::
 (nat_lit 191,wc "_law_step_of" (top 27) v8 (.ref 190)) ::
 (nat_lit 195,wf "_law_fault" 423 424 425 90 3 3 192 181 193 .none .none .none 194 426 427) ::
 (nat_lit 196,wc "_law_fault" (top 28) v8 (.ref 195)) ::
 (nat_lit 202,wf "_law_told" 429 430 431 102 3 3 197 181 198 .none (.ref 199) (.ref 200) 201 437 438) ::
 (nat_lit 203,wc "_law_told" (top 29) v8 (.ref 202)) ::
 (nat_lit 207,wf "_law_neighbours" 440 441 442 109 2 3 204 181 205 .none .none .none 206 443 444) ::
 (nat_lit 208,wc "_law_neighbours" (top 30) v8 (.ref 207)) ::
 (nat_lit 212,wf "law" 446 447 448 112 1 3 209 181 210 .none .none .none 211 449 450) ::
 (nat_lit 213,wc "law" (top 31) v8 (.ref 212))::[]
noncomputable def heapA:List Addr:=nat_lit 2::nat_lit 3::nat_lit 6::nat_lit 15::nat_lit 22::nat_lit 23::nat_lit 24::nat_lit 25::nat_lit 28::nat_lit 40::nat_lit 41::nat_lit 42::nat_lit 43::nat_lit 44::nat_lit 47::nat_lit 59::nat_lit 60::nat_lit 61::nat_lit 62::nat_lit 63::nat_lit 66::nat_lit 67::nat_lit 73::nat_lit 74::nat_lit 80::nat_lit 81::nat_lit 87::nat_lit 88::nat_lit 94::nat_lit 95::nat_lit 101::nat_lit 102::nat_lit 108::nat_lit 109::nat_lit 115::nat_lit 116::nat_lit 122::nat_lit 123::nat_lit 129::nat_lit 130::nat_lit 134::nat_lit 135::nat_lit 141::nat_lit 142::nat_lit 148::nat_lit 149::nat_lit 155::nat_lit 156::nat_lit 162::nat_lit 163::nat_lit 169::nat_lit 170::nat_lit 176::nat_lit 177::nat_lit 183::nat_lit 184::nat_lit 190::nat_lit 191::nat_lit 195::nat_lit 196::nat_lit 202::nat_lit 203::nat_lit 207::nat_lit 208::nat_lit 212::nat_lit 213::[]
theorem heapE:∀P,heapA=(heapK P).map (·.1):=fun _=>rfl
theorem rX:∀w:zp,((zJ w.params).isNs yW,(zJ w.params).objs.size,(zJ w.params).nsMap yW "__annotations__")=(true,11,some (.ref 6)):=fun w=>by kernel_rfl
set_option maxHeartbeats 0 in
theorem zleft:LeftO w_ zview [] (fun s=>xlAt zview [] s&&recOk (RowW.records rwN.row.toRowW) s) (Hook.obs (kHook heapK heapA heapE)) (Hook.val (kHook heapK heapA heapE)) 3530 :=
 L2.TT.left_of (M:=3530) (by kernel_rfl) rfl (fun s=>by kernel_rfl) rfl rX fun w os=>by kernel_rfl
end K50
namespace L2
abbrev yo:=Sum Int Str
noncomputable def qI:yo->yG->Bool
 | .inl k,v=>yG.isInt k v
 | .inr x,v=>yG.isStrOf x v
noncomputable def vJ(w:zp):yo->Int
 | .inl k=>hashInt k
 | .inr x=>hashStr w x
theorem aG:∀{k:yo}{v:yG},qI k v=true->(∃i t,k=CJ i/\v=AK i t)\/(∃x t,k=CK x/\v=CY x t)
 | .inl i,v,h=>by
   obtain⟨t,e⟩:=yG.isInt_shape (k:=i) (v:=v) h
   exact .inl ⟨i,t,rfl,e⟩
 | .inr x,v,h=>by
   obtain⟨t,e⟩:=yG.isStrOf_shape (x:=x) (v:=v) h;exact .inr ⟨x,t,rfl,e⟩
theorem qH(a b:Int):decide ((CJ a:yo)=CJ b)=(a==b):=by
 by_cases e:a=b
 · subst e;simp
 · have h:¬(CJ a:yo)=CJ b:=fun q=>e (CJ.inj q);rw[decide_eq_false h];exact(beq_eq_false_iff_ne.mpr e).symm
theorem qE(a b:Str):decide ((CK a:yo)=CK b)=decide (a=b):=by
 by_cases e:a=b
 · subst e;simp
 · have h:¬(CK a:yo)=CK b:=fun q=>e (CK.inj q);rw[decide_eq_false h,decide_eq_false e]
theorem qG(a:Int)(b:Str):decide ((CJ a:yo)=CK b)=false:=decide_eq_false (fun q=>nomatch q)
theorem qF(a:Str)(b:Int):decide ((CK a:yo)=CJ b)=false:=decide_eq_false (fun q=>nomatch q)
noncomputable def jO(prog:yT)(w:zp):PySem.KeyKind prog w yo where
 is:=qI
 hash:=vJ w
 inj:=fun v a b ha hb=>by
  rcases aG ha with⟨i,t,rfl,rfl⟩|⟨x,t,rfl,rfl⟩
  · rcases aG hb with⟨j,u,rfl,e⟩|⟨y,u,rfl,e⟩
    · injection e with e1 _;rw[e1]
    · exact nomatch e
  · rcases aG hb with⟨j,u,rfl,e⟩|⟨y,u,rfl,e⟩
    · exact nomatch e
    · injection e with e1 _;rw[e1]
 byValue:=fun k v h=>by
   rcases aG h with⟨i,t,rfl,rfl⟩|⟨x,t,rfl,rfl⟩<;>rfl
 pyHash:=fun hv h=>by
  rcases aG hv with⟨i,t,rfl,rfl⟩|⟨x,t,rfl,rfl⟩
  · exact wpAny_pyHash_int h
  · exact wpAny_pyHash_str h
 eqBool:=fun hu hv h=>by
  rcases aG hu with⟨i,t,rfl,rfl⟩|⟨x,t,rfl,rfl⟩
  · rcases aG hv with⟨j,u,rfl,rfl⟩|⟨y,u,rfl,rfl⟩
    · rw[qH]at h;exact Be h
    · rw[qG]at h;exact SeqAt.EqAt.int_str i t y u _ _ _ _ h
  · rcases aG hv with⟨j,u,rfl,rfl⟩|⟨y,u,rfl,rfl⟩
    · rw[qF]at h;exact SeqAt.EqAt.str_int x t j u _ _ _ _ h
    · rw[qE]at h;exact wpAny_eqBool_str h
 «strs»:=fun k x t v h=>by
  rcases aG h with⟨i,u,rfl,e⟩|⟨y,u,rfl,e⟩
  · exact nomatch e
  · injection e with e1 _
    subst e1;cases v<;>rfl
inductive V where
 | non|bl (b:Bool)|int (i:Int)|str (x:Str)|byt (b:Array UInt8)|flt (b:UInt64)|ref (a:Addr)|ty (n:String)
 deriving DecidableEq
noncomputable def RelV:V->yG->Prop
 | .non,u=>u=zq
 | .bl b,u=>u=Bm b
 | .int i,u=>∃t,u=AK i t
 | .str x,u=>∃t,u=CY x t
 | .byt b,u=>∃t,u=yG.bytes b t
 | .flt b,u=>∃t,u=yG.float b t
 | .ref a,u=>u=zu a
 | .ty n,u=>u=Cz n
abbrev br:List V->List yG->Prop:=zE RelV
theorem br.length{xs:List V}{us:List yG}(r:br xs us):xs.length=us.length:=AW r
theorem br.get:∀{xs:List V}{us:List yG}{i:Nat}{x:V},br xs us->xs[i]?=some x->∃u,us[i]?=some u/\RelV x u
 | _,_,_,_,.nil,e=>by simp at e
 | _,_,0,_,.cons r _,e=>by simp at e;subst e;exact⟨_,rfl,r⟩
 | _,_,i+1,x,.cons _ t,e=>by
   obtain⟨u,h1,h2⟩:=br.get (i:=i) (x:=x) t (by simpa using e);exact⟨u,by simpa using h1,h2⟩
theorem br.set{x:V}{u:yG}(r:RelV x u):∀{xs:List V}{us:List yG}(i:Nat),br xs us->br (xs.set i x) (us.set i u)
 | _,_,_,.nil=>.nil
 | _,_,0,.cons _ t=>.cons r t
 | _,_,i+1,.cons q t=>.cons q (br.set r i t)
theorem br.append:∀{xs ys:List V}{us ws:List yG},br xs us->br ys ws->br (xs++ys) (us++ws)
 | _,_,_,_,.nil,s=>s
 | _,_,_,_,.cons r t,s=>.cons r (br.append t s)
theorem br.take:∀{xs:List V}{us:List yG}(n:Nat),br xs us->br (xs.take n) (us.take n)
 | _,_,0,_=>.nil
 | _,_,_+1,.nil=>.nil
 | _,_,n+1,.cons r t=>.cons r (br.take n t)
theorem br.drop:∀{xs:List V}{us:List yG}(n:Nat),br xs us->br (xs.drop n) (us.drop n)
 | _,_,0,r=>r
 | _,_,_+1,.nil=>.nil
 | _,_,n+1,.cons _ t=>br.drop n t
noncomputable def tJ:Option V->Option yG->Prop
 | some v,some u=>RelV v u
 | none,none=>True
 | _,_=>False
noncomputable def KV{κ:Type}:List (κ×V)->List (κ×yG)->Prop:=zE fun(p:κ×V)(q:κ×yG)=>p.1=q.1/\RelV p.2 q.2
noncomputable def kV:yo->V
 | .inl i=>.int i
 | .inr x=>.str x
inductive HO where
 | lst (xs:List V)
 | tup (xs:List V)
 | dK (kvs:List (yo×V))|dT (kvs:List (List yo×V))
 | set (S:Int->Bool) (n:Nat)
 | ins (C dx:Addr) (fs:List (Str×V))
 | own (x:Addr)
 | xd (fs:List (Str×V))
 | met (f x:Addr)
 | rng (lo hi:Int)
 | frz (o:Obj) (u:HO)
 | tbl (ps:Array yG)
 | ext (φ:Heap->Prop)
abbrev Hp:=Addr->Option HO
noncomputable def upd(H:Hp)(a:Addr)(o:HO):Hp:=fun b=>if b=a then some o else H b
theorem ai{H:Hp}{o:HO}:upd H a o a=some o:=by unfold upd;rw[if_pos rfl]
theorem upd_ne{H:Hp}{b:Addr}{o:HO}(h:b≠a):upd H a o b=H b:=by unfold upd;rw[if_neg h]
theorem ck{H:Hp}{o u:HO}:upd (upd H a o) a u=upd H a u:=by
 funext b;unfold upd;split<;>rfl
theorem bL{H:Hp}{b:Addr}{o u:HO}(h:H a=some o)(h':H b=some u)(d:o≠u):a≠b:=by
 intro e;subst e;rw[h]at h';exact d (zg h')
theorem aj{H:Hp}{b:Addr}{o:HO}(h:H a=some o)(h':H b=none):a≠b:=by
 intro e;subst e;rw[h]at h';cases h'
section
variable(P:yT)(w:zp)
noncomputable def kB(h:Heap)(a:Addr)(items:Array yG):Prop:=∃o,h.get? a=some o/\o.cls = .type "tuple" /\ (∃n,o.data = .seq items n)/\o.dict=none
theorem kB.tup{h:Heap}{a:Addr}{items:Array yG}(x:kB h a items):IsTup h a items:=let ⟨o,e1,e2,e3,_⟩:=x;⟨o,e1,e2,e3⟩
theorem kB.new(h:Heap)(items:Array yG):kB (h.push {cls:=.type "tuple", data:=.seq items}) h.objs.size items:=⟨_,zj _ rfl,rfl,⟨_,rfl⟩,rfl⟩
noncomputable def bC(H:Hp)(h:Heap)(a:Addr):HO->Prop
 | .lst xs=>xs.length<=sizeLine/\∃(its:List yG)(n:Nat),br xs its/\h.get? a=some {cls:=.type "list", data:=.seq its.toArray n}
 | .tup xs=>xs.length<=sizeLine/\∃its:List yG,br xs its/\kB h a its.toArray
 | .dK kvs=>kvs.length<=sizeLine/\(a==sysModules)=false/\∃vs,KV kvs vs/\h.DictOf (jO P w) a vs
 | .dT kvs=>kvs.length<=sizeLine/\(a==sysModules)=false/\∃xs:List (List yo×Addr×yG),
     zE (fun(p:List yo×V)(q:List yo×Addr×yG)=>p.1=q.1/\H q.2.1=some (.tup (p.1.map kV))/\RelV p.2 q.2.2) kvs xs /\
     ∃o es ep,h.get? a=some o/\o.ExactDict/\o.data = .dict es ep/\es.toList=xs.map (entryOfKey (tupleKind (jO P w)))/\(xs.map (·.1)).Nodup
 | .set S n=>h.SetOf (intKind P w) a S n
 | .ins C dx fs=>H dx=some (.own a)/\fs.length<=1000/\dx≠a/\h.get? a=some (W.instObj C dx) /\
     ∃mA,h.Ns1 dx mA/\(∀f,tJ (fs.lookup f) (mA f))/\C4 mA (fs.map (·.1))
 | .own _=>∃o,h.get? a=some o
 | .xd fs=>∃mA,h.Ns1 a mA/\∀f,tJ (fs.lookup f) (mA f)
 | .rng lo hi=>∃t u v,h.get? a=some {cls:=.type "range", data:=.fields #[.int lo t,.int hi u,.int 1 v]}
 | .frz o u=>h.get? a=some o/\bC H h a u
 | .tbl ps=>h.get? a=some {cls:=.none,data:=.fields ps}
 | .met f x=>h.get? a=some (W.methodObj (.ref f) (.ref x))
 | .ext φ=>φ h/\(∃o,h.get? a=some o)/\∀h1 h2:Heap,φ h1->(∀o,h1.get? a=some o->h2.get? a=some o)->φ h2
noncomputable def yx(H:Hp)(h:Heap):Prop:=∀a o,H a=some o->bC P w H h a o
end
section
variable{P:yT}{w:zp}{H H':Hp}{h h':Heap}{a:Addr}{o:HO}
theorem bC.lt(x:bC P w H h a o):a<h.objs.size:=by
 cases o with
 | lst xs=>obtain⟨_,_,_,_,e⟩:=x;exact yN e
 | tup xs=>obtain⟨_,_,_,p⟩:=x;exact p.tup.lt
 | dK kvs=>obtain⟨_,_,_,_,o,_,_,e,_⟩:=x;exact yN e
 | dT kvs=>obtain⟨_,_,_,_,o,_,_,e,_⟩:=x;exact yN e
 | set S n=>obtain⟨o,_,_,_,e,_⟩:=x;exact yN e
 | ins C dx fs=>obtain⟨_,_,_,e,_⟩:=x;exact yN e
 | own y=>obtain⟨_,e⟩:=x;exact yN e
 | xd fs=>obtain⟨_,⟨_,_,_,e,_⟩,_⟩:=x;exact yN e
 | rng lo hi=>obtain⟨_,_,_,e⟩:=x;exact yN e
 | frz ob u=>obtain⟨e,_⟩:=x;exact yN e
 | tbl ps=>exact yN (show h.get? a=some _ from x)
 | met f y=>exact yN (show h.get? a=some _ from x)
 | ext φ=>obtain⟨_,⟨_,e⟩,_⟩:=x;exact yN e
theorem zE.mapP{α β:Type}{F G:α->β->Prop}:∀{l₁:List α}{l₂:List β},zE F l₁ l₂->(∀a b,F a b->G a b)->zE G l₁ l₂
 | _,_,.nil,_=>.nil
 | _,_,.cons r t,f=>.cons (f _ _ r) (zE.mapP t f)
theorem bC.stay(x:bC P w H h a o)(k:∀b u,(b=a\/H b=some (.own a))->h.get? b=some u->h'.get? b=some u)
 (ho:∀b,H b=some (.own a)->H' b=some (.own a))(ht:∀b xs,H b=some (.tup xs)->H' b=some (.tup xs)):bC P w H' h' a o:=by
 induction o with
 | lst xs=>obtain⟨z,its,n,r,e⟩:=x;exact⟨z,its,n,r,k _ _ (.inl rfl) e⟩
 | tup xs=>obtain⟨z,its,r,ob,e,c⟩:=x;exact⟨z,its,r,ob,k _ _ (.inl rfl) e,c⟩
 | dK kvs=>obtain⟨z,y,vs,r,ob,es,ep,e,c⟩:=x;exact⟨z,y,vs,r,ob,es,ep,k _ _ (.inl rfl) e,c⟩
 | dT kvs =>
   obtain⟨z,y,xs,r,ob,es,ep,e,c⟩:=x
   exact⟨z,y,xs,zE.mapP r fun p q z=>⟨z.1,ht _ _ z.2.1,z.2.2⟩,ob,es,ep,k _ _ (.inl rfl) e,c⟩
 | set S n=>obtain⟨ob,es,ep,t,e,c⟩:=x;exact⟨ob,es,ep,t,k _ _ (.inl rfl) e,c⟩
 | ins C dx fs =>
   obtain⟨d,z,ne,e,mA,⟨od,es,ep,e2,c⟩,r⟩:=x
   exact⟨ho _ d,z,ne,k _ _ (.inl rfl) e,mA,⟨od,es,ep,k _ _ (.inr d) e2,c⟩,r⟩
 | own y=>obtain⟨ob,e⟩:=x;exact⟨ob,k _ _ (.inl rfl) e⟩
 | xd fs=>obtain⟨mA,⟨od,es,ep,e,c⟩,r⟩:=x;exact⟨mA,⟨od,es,ep,k _ _ (.inl rfl) e,c⟩,r⟩
 | rng lo hi=>obtain⟨t,u,v,e⟩:=x;exact⟨t,u,v,k _ _ (.inl rfl) e⟩
 | frz ob u ih=>obtain⟨e,q⟩:=x;exact⟨k _ _ (.inl rfl) e,ih q⟩
 | tbl ps =>
   have e:h.get? a=some {cls:=.none,data:=.fields ps}:=x;show h'.get? a=some {cls:=.none,data:=.fields ps}
   exact k a _ (.inl rfl) e
 | met f y =>
   have e:h.get? a=some (W.methodObj (.ref f) (.ref y)):=x;show h'.get? a=some (W.methodObj (.ref f) (.ref y))
   exact k a _ (.inl rfl) e
 | ext φ=>obtain⟨p,⟨o,e⟩,st⟩:=x;exact⟨st _ _ p fun o q=>k _ _ (.inl rfl) q,⟨o,k _ _ (.inl rfl) e⟩,st⟩
theorem yx.lt(x:yx P w H h)(e:H a=some o):a<h.objs.size:=(x a o e).lt
theorem yx.fresh(x:yx P w H h)(e:h.objs.size<=a):H a=none:=by
 cases q:H a with
 | none=>rfl
 | some u=>exact absurd (yK (x.lt q) e) (zM _)
theorem yx.kept(x:yx P w H h)(k:∀b u,h.get? b=some u->h'.get? b=some u):yx P w H h':=fun a o e =>
 (x a o e).stay (fun b u _ q=>k b u q) (fun _ q=>q) fun _ _ q=>q
theorem yx.laid(x:yx P w H h)(k:∀b u,h.get? b=some u->h'.get? b=some u)(hp:h.objs.size<=a)(new:bC P w (upd H a o) h' a o):yx P w (upd H a o) h':=fun b u e=>by
 have hn:=x.fresh hp;by_cases hb:b=a
 · subst hb;rw[ai]at e;cases e;exact new
 · rw[upd_ne hb]at e;exact(x b u e).stay (fun c v _ q=>k c v q) (fun c q=>by rw[upd_ne (aj q hn)];exact q) fun c xs q=>by rw[upd_ne (aj q hn)];exact q
end
noncomputable def Rd(H:Hp)(a:Addr)(u:HO):Prop:=H a=some u\/∃o,H a=some (.frz o u)
theorem Rd.ok{P:yT}{w:zp}{H:Hp}{u:HO}(r:Rd H a u)(x:yx P w H h):bC P w H h a u:=by
 rcases r with r|⟨o,r⟩
 · exact x a u r
 · obtain⟨_,q⟩:=x a _ r;exact q
noncomputable def yl:Option HO->Prop
 | some (.lst _)=>True
 | some (.dK _)=>True
 | some (.dT _)=>True
 | some (.set _ _)=>True
 | some (.ins _ _ _)=>True
 | some (.ext _)=>True
 | _=>False
section
variable{P:yT}{w:zp}{H:Hp}{h h':Heap}{x e:Addr}{o':HO}
theorem yx.write(ok:yx P w H h)(mu:yl (H x))(he:e=x\/H e=some (.own x))(k:∀b u,b≠e->h.get? b=some u->h'.get? b=some u)(heo:∃u,h'.get? e=some u)
 (new:bC P w (upd H x o') h' x o'):yx P w (upd H x o') h':=fun b u q=>by
 have nown:∀c y,H c=some (.own y)->c≠x:=fun c y r z=>by subst z;rw[r]at mu;exact mu
 have ntup:∀c xs,H c=some (.tup xs)->c≠x:=fun c xs r z=>by subst z;rw[r]at mu;exact mu
 by_cases hb:b=x
 · subst hb;rw[ai]at q;cases q;exact new
 · rw[upd_ne hb]at q;by_cases hbe:b=e
   · have q':H b=some (.own x):=by
       rcases he with z|z
       · exact absurd (hbe.trans z) hb
       · rw[hbe];exact z
     rw[q]at q';cases q';obtain⟨v,hv⟩:=heo;exact⟨v,by rw[hbe];exact hv⟩
   · refine(ok b u q).stay (fun c v hc r=>k c v ?_ r) (fun c r=>by rw[upd_ne (nown c b r)];exact r) fun c xs r=>by rw[upd_ne (ntup c xs r)];exact r
     rcases hc with rfl|hc
     · exact hbe
     · rintro rfl;rcases he with z|z
       · exact nown c b hc z
       · rw[hc]at z;cases z;exact hb rfl
end
structure Un (fs ex:List Addr) (H H':Hp) (h h':Heap):Prop where
 keep:∀b o,h.get? b=some o->H b=none->b∉fs->b∉ex->h'.get? b=some o
 slot:∀b o,h.get? b=some o->H b=none->b∈fs->b∉ex->∃sl,h'.get? b=some {o with slots:=sl}
 free:∀b o,h.get? b=some o->H b=none->b∉ex->H' b=none
 there:∀b o,h.get? b=some o->b∉ex->∃o',h'.get? b=some o'
 tups:∀b xs,H b=some (.tup xs)->H' b=some (.tup xs)
 frzs:∀b o u,H b=some (.frz o u)->H' b=some (.frz o u)
 tbls:∀b ps,H b=some (.tbl ps)->∃more,H' b=some (.tbl (ps++more))
section
variable{fs fs' ex ex':List Addr}{H H1 H2:Hp}{h h1 h2 h':Heap}{a x e:Addr}{o:HO}
theorem Un.any(u:Un fs ex H H1 h h1){b:Addr}{ob:Obj}(q:h.get? b=some ob)(n:H b=none)(hx:b∉ex):∃sl,h1.get? b=some {ob with slots:=sl}:=by
 by_cases hb:b∈fs
 · exact u.slot b ob q n hb hx
 · exact⟨ob.slots,u.keep b ob q n hb hx⟩
theorem Un.kept(k:∀b u,h.get? b=some u->h'.get? b=some u):Un fs ex H H h h' :=
 ⟨fun b ob q _ _ _=>k b ob q,fun b ob q _ _ _=>⟨ob.slots,k b ob q⟩,fun _ _ _ n _=>n,fun b ob q _=>⟨ob,k b ob q⟩,fun _ _ q=>q,fun _ _ _ q=>q,fun _ ps q=>⟨#[],by rw[q];simp⟩⟩
theorem Un.refl:Un fs ex H H h h:=Un.kept fun _ _ q=>q
theorem Un.laid(k:∀b u,h.get? b=some u->h'.get? b=some u)(hp:h.objs.size<=a)(hn:H a=none):Un fs ex H (upd H a o) h h' where
 keep:=fun b u q _ _ _=>k b u q
 slot:=fun b u q _ _ _=>⟨u.slots,k b u q⟩
 free:=fun b u q n _=>by rw[upd_ne (zn (yK (yN q) hp))];exact n
 there:=fun b u q _=>⟨u,k b u q⟩
 tups:=fun b xs q=>by rw[upd_ne (aj q hn)];exact q
 frzs:=fun b u xs q=>by rw[upd_ne (aj q hn)];exact q
 tbls:=fun b ps q=>⟨#[],by rw[upd_ne (aj q hn),q];simp⟩
theorem Un.write(mu:yl (H x))(he:e=x\/H e=some (.own x))(k:∀b u,b≠e->h.get? b=some u->h'.get? b=some u)(heo:∃u,h'.get? e=some u):Un fs ex H (upd H x o) h h':=by
 have hx:∀b,H b=none->b≠x:=fun b n z=>by subst z;rw[n]at mu;exact mu
 have hb:∀b,H b=none->b≠e:=fun b n z=>by
  subst z;rcases he with r|r
  · exact hx b n r
  · rw[n]at r;cases r
 have hm:∀b u,H b=some u->¬yl (some u)->b≠x:=fun b u q nm z=>by subst z;rw[q]at mu;exact nm mu
 refine⟨fun b u q n _ _=>k b u (hb b n) q,fun b u q n _ _=>⟨u.slots,k b u (hb b n) q⟩,fun b u q n _=>by rw[upd_ne (hx b n)];exact n,fun b u q _=>?_,
  fun b xs q=>by rw[upd_ne (hm b _ q fun z=>z)];exact q,fun b u xs q=>by rw[upd_ne (hm b _ q fun z=>z)];exact q,fun b ps q=>⟨#[],by rw[upd_ne (hm b _ q fun z=>z),q];simp⟩⟩
 by_cases hbe:b=e
 · subst hbe;exact heo
 · exact⟨u,k b u hbe q⟩
end
noncomputable def wC(h:Heap)(H:Hp):List Addr:=(zw h.objs.size).filter fun a=>(H a).isSome
noncomputable def lj(h:Heap)(H:Hp):Heap:=W.hideAll h (wC h H)
theorem j6(h:Heap)(H:Hp):(lj h H).objs.size=h.objs.size:=W.hideAll_size _ _
theorem li{H:Hp}{b:Addr}(e:h.get? b=some o)(n:H b=none):(lj h H).get? b=some o :=
 W.hideAll_get _ e fun hm=>by
  have q:(H b).isSome=true:=(List.mem_filter.mp hm).2;rw[n]at q;simp at q
theorem nM{H:Hp}{b:Addr}(e:(lj h H).get? b=some o):h.get? b=some o/\H b=none:=by
 have e':h.get? b=some o:=W.of_hideAll (wC h H) e;refine⟨e',?_⟩
 cases q:H b with
 | none=>rfl
 | some x =>
   have hm:b∈wC h H:=List.mem_filter.mpr ⟨Au.mpr (yN e'),by simp[q]⟩;have z:(lj h H).get? b=none:=W.hideAll_none (wC h H) hm;rw[z]at e;cases e
noncomputable def oC(g h:Heap)(L:Addr):List (Addr×Obj):=(zw h.objs.size).filterMap fun a=>if a=L\/(g.get? a).isSome=true then none else(h.get? a).map fun o=>(a,o)
noncomputable def rest(g h:Heap)(L d:Addr):List (Addr×Obj):=(oC g h L).filter fun p=>decide (p.1≠d)
structure Mod (K:W.Frag) (mg:Str->Option yG) (base:Heap):Prop where
 kin:K.In base
 glob:base.Ns yW mg
 blt:∃mb,base.Ns builtinsNs mb/\∀x:Str,x ≠ "__name__" -> mb x=AB x
 nolimit:base.NoLimit
structure Cx where
 prog:yT
 w:zp
 K:W.Frag
 mg:Str->Option yG
 base:Heap
 A:zd
 N:List Str
 s₀:yH
 H₀:Hp
 env:Env
 outer:List Env
 stack:List Env
 ex:List Addr
 fn:Str->Bool
 calm:Bool
 pn:List (Addr×Obj)
 xe:yG->yH->Prop
noncomputable def frs(l:List Env):List Addr:=l.filterMap (·.frame)
abbrev Cx.fs(X:Cx):List Addr:=frs X.outer
noncomputable def xO(sc:Scope)(x:Str):Prop:=sc.names.lookup x=some .local\/sc.names.lookup x=some .cell\/sc.names.lookup x=some .free
noncomputable def Loc(sc:Scope)(x:Str):Prop:=sc.names.lookup x=some .local\/sc.names.lookup x=some .cell
noncomputable def Look(env:Env)(h:Heap)(m:Str->Option yG)(x:Str)(u:yG):Prop :=
 (env.kindOf x=some .local/\m x=some u)\/((env.kindOf x=some .cell\/env.kindOf x=some .free)/\∃c,env.cells.lookup x=some c/\h.IsCell c (some u))
structure Cx.Ok (X:Cx):Prop where
 mod:Mod X.K X.mg X.base
 kind:X.env.scope.kind = .function
 glob:X.env.globals=yW
 blt:X.env.builtins=builtinsNs
 above:X.s₀.heap.objs.size<=X.env.locals
 inj:∀x y c,X.env.cells.lookup x=some c->X.env.cells.lookup y=some c->x=y
 has:∀x,(X.env.kindOf x=some .cell\/X.env.kindOf x=some .free)->∃c,X.env.cells.lookup x=some c
 cab:∀x c,X.fn x=true->X.env.cells.lookup x=some c->X.s₀.heap.objs.size<=c
 hd:X.calm=true->X.A.handled=none
 frames:X.A.frames=some X.stack
 stk:X.stack=X.outer\/(X.stack=X.env::X.outer/\X.env.frame=some X.env.locals)
 exf:∀b∈X.ex,b≠X.env.locals/\∀x c,X.env.cells.lookup x=some c->c≠b
 bs:∀b o,X.base.get? b=some o->X.s₀.heap.get? b=some o/\X.H₀ b=none
 bsz:X.base.objs.size<=X.s₀.heap.objs.size
 noex:∀b o,X.base.get? b=some o->b∉X.ex
 exfs:∀b∈X.ex,b∉X.fs
 funs:X.s₀.heap.FunFrames X.base X.outer
 frf:∀b∈X.fs,X.H₀ b=none
structure Inv (X:Cx) (pins:List (Addr×Obj)) (σ:List (Option V)) (H:Hp) (s:yH):Prop where
 ok:X.Ok
 os:s.os=X.s₀.os
 bare:BR s.gens
 base:Un X.fs X.ex X.H₀ H X.s₀.heap s.heap
 loc:∃m,s.heap.Ns X.env.locals m/\∀(i:Nat)(x:Str)(v:V),X.N[i]?=some x->σ[i]?=some (some v)->xO X.env.scope x->∃u,RelV v u/\Look X.env s.heap m x u
 cell:∀x c,X.env.cells.lookup x=some c->∃v,s.heap.IsCell c v
 free:H X.env.locals=none
 freeC:∀x c,X.env.cells.lookup x=some c->H c=none
 pin:∀p∈X.pn++pins,s.heap.get? p.1=some p.2/\H p.1=none/\p.1≠X.env.locals/\p.1∉X.fs/\∀v,p.2.data ≠ .cell v
 hok:yx X.prog X.w H s.heap
 len:σ.length=X.N.length
section
variable{X:Cx}{pins:List (Addr×Obj)}{σ:List (Option V)}{H H':Hp}{s:yH}{h':Heap}
theorem Cx.Ok.nofr(ok:X.Ok){b:Addr}(e:X.base.get? b=some o):b∉X.fs:=fun hb=>by
 have:=(ok.funs.mem hb).1;rw[e]at this;cases this
theorem Inv.bs(I:Inv X pins σ H s):∀b o,X.base.get? b=some o->s.heap.get? b=some o/\H b=none:=fun b o e =>
 ⟨I.base.keep b o (I.ok.bs b o e).1 (I.ok.bs b o e).2 (I.ok.nofr e) (I.ok.noex b o e),I.base.free b o (I.ok.bs b o e).1 (I.ok.bs b o e).2 (I.ok.noex b o e)⟩
theorem Inv.bk(I:Inv X pins σ H s):∀b o,X.base.get? b=some o->s.heap.get? b=some o:=fun b o e=>(I.bs b o e).1
theorem Inv.mod(I:Inv X pins σ H s):Mod X.K X.mg X.base:=I.ok.mod
theorem Inv.kIn(I:Inv X pins σ H s):X.K.In s.heap:=I.ok.mod.kin.keeps I.bk
theorem Inv.fr(I:Inv X pins σ H s):∃m,Fr X.base X.env.locals s.heap m :=
 let ⟨m,hn,_⟩:=I.loc
 ⟨m,hn,I.bk,zx I.ok.bsz I.ok.above⟩
theorem Inv.lt(I:Inv X pins σ H s):X.env.locals<s.heap.objs.size:=let ⟨_,hn,_⟩:=I.loc;hn.lt
theorem Inv.sz(I:Inv X pins σ H s):X.s₀.heap.objs.size<=s.heap.objs.size:=zx I.ok.above (Ca I.lt)
theorem Inv.nofs(I:Inv X pins σ H s)(h:s.heap.objs.size<=a):a∉X.fs:=fun hb=>by
 obtain⟨_,o,ho,_⟩:=I.ok.funs.mem hb;exact absurd (yK (yN ho) (zx I.sz h)) (zM _)
theorem Inv.cne(I:Inv X pins σ H s):∀x c,X.env.cells.lookup x=some c->c≠X.env.locals:=fun x c e z=>by
 obtain⟨v,o,ho,hd⟩:=I.cell x c e;obtain⟨m,⟨o',es,ep,ho',hd',_⟩,_⟩:=I.loc;rw[z,ho']at ho;cases ho;rw[hd']at hd;cases hd
theorem Inv.funs(I:Inv X pins σ H s):s.heap.FunFrames X.base X.outer:=by
 have all:∀(l:List Env),(∀b∈frs l,b∈X.fs)->X.s₀.heap.FunFrames X.base l->s.heap.FunFrames X.base l:=by
  intro l
  induction l with
  | nil=>intro _ _;trivial
  | cons env r ih =>
    intro hs hl;obtain⟨hk,⟨L,o,hf,hn,ho,hd⟩,hr⟩:=hl;have hL:L∈X.fs:=hs L (by unfold frs;rw[Am,hf];exact yY);obtain⟨sl,e⟩:=I.base.slot L o ho (I.ok.frf L hL) hL fun z=>I.ok.exfs L z hL;exact⟨hk,⟨L,_,hf,hn,e,hd⟩,ih (fun b hb=>hs b (by unfold frs;rw[Am,hf];exact yR _ hb)) hr⟩
 exact all X.outer (fun _ hb=>hb) I.ok.funs
theorem Inv.stack(I:Inv X pins σ H s):s.heap.FunFrames X.base X.stack:=by
 rcases I.ok.stk with e|⟨e,hf⟩
 · rw[e];exact I.funs
 · rw[e];obtain⟨m,hn,_⟩:=I.loc;refine .cons (by rw[I.ok.kind];decide) hf hn ?_ I.funs;exact CB (zx I.ok.bsz I.ok.above)
theorem Inv.stkSub(I:Inv X pins σ H s):∀b∈frs X.stack,b∈X.env.locals::X.fs:=fun b hb=>by
 rcases I.ok.stk with e|⟨e,hf⟩
 · rw[e]at hb;exact yR _ hb
 · rw[e]at hb;unfold frs at hb;rw[Am,hf]at hb;exact hb
theorem Inv.stkFree(I:Inv X pins σ H s):∀b∈frs X.stack,H b=none:=fun b hb=>by
 rcases zo.mp (I.stkSub b hb)with e|hb
 · rw[e];exact I.free
 · obtain⟨_,o,ho,_⟩:=I.ok.funs.mem hb;exact I.base.free b o ho (I.ok.frf b hb) fun z=>I.ok.exfs b z hb
theorem Inv.step{g':Array GenState}{t':Nat}{d':Drawn}{ch:List Addr}(I:Inv X pins σ H s)
 (hch:∀b∈ch,(b∈X.ex\/X.s₀.heap.objs.size<=b)/\b≠X.env.locals/\(∀x c,X.env.cells.lookup x=some c->c≠b)/\∀p∈X.pn++pins,p.1≠b)
 (keep:∀b o,b≠X.env.locals->b∉X.fs->b∉ch->s.heap.get? b=some o->H b=none->h'.get? b=some o)
 (slot:∀b o,b≠X.env.locals->b∈X.fs->b∉ch->s.heap.get? b=some o->H b=none->∃sl,h'.get? b=some {o with slots:=sl})(free:∀b o,b∉ch->s.heap.get? b=some o->H b=none->H' b=none)
 (there:∀b o,b∉ch->s.heap.get? b=some o->∃o',h'.get? b=some o')
 (tups:∀b xs,H b=some (.tup xs)->H' b=some (.tup xs))(frzs:∀b o u,H b=some (.frz o u)->H' b=some (.frz o u))(tbls:∀b ps,H b=some (.tbl ps)->∃more,H' b=some (.tbl (ps++more)))
 (ns:∀m,s.heap.Ns X.env.locals m->h'.Ns X.env.locals m)(hok:yx X.prog X.w H' h')(hg:BR g') :
 Inv X pins σ H' {s with heap:=h',gens:=g',drawn:=d',toks:=t' }:=by
 have neL:∀b o,X.s₀.heap.get? b=some o->b≠X.env.locals:=fun b o e=>zn (yK (yN e) I.ok.above)
 have neC:∀b o,X.s₀.heap.get? b=some o->b∉X.ex->b∉ch:=fun b o e hx hb=>by
  rcases(hch b hb).1 with z|z
  · exact hx z
  · exact absurd (yK (yN e) z) (zM _)
 have cellK:∀x c,X.env.cells.lookup x=some c->∀v,s.heap.IsCell c v->h'.IsCell c v:=fun x c e v ⟨o,ho,hd⟩=>by
  have nch:c∉ch:=fun z=>(hch c z).2.2.1 x c e rfl;by_cases hc:c∈X.fs
  · obtain⟨sl,q⟩:=slot c o (I.cne x c e) hc nch ho (I.freeC x c e);exact⟨_,q,hd⟩
  · exact⟨o,keep c o (I.cne x c e) hc nch ho (I.freeC x c e),hd⟩
 refine⟨I.ok,I.os,hg,⟨fun b o e n hb hx=>?_,fun b o e n hb hx=>?_,fun b o e n hx=>?_,fun b o e hx=>?_,fun b xs e=>tups b xs (I.base.tups b xs e),fun b o xs e=>frzs b o xs (I.base.frzs b o xs e),fun b ps e=>?_⟩,?_,fun x c e=>?_,?_,fun x c e=>?_,fun p hp=>?_,hok,I.len⟩
 · exact keep b o (neL b o e) hb (neC b o e hx) (I.base.keep b o e n hb hx) (I.base.free b o e n hx)
 · obtain⟨sl,e1⟩:=I.base.slot b o e n hb hx;obtain⟨sl',e2⟩:=slot b _ (neL b o e) hb (neC b o e hx) e1 (I.base.free b o e n hx);exact⟨sl',e2⟩
 · obtain⟨o',e1⟩:=I.base.there b o e hx;exact free b o' (neC b o e hx) e1 (I.base.free b o e n hx)
 · obtain⟨o',e1⟩:=I.base.there b o e hx;exact there b o' (neC b o e hx) e1
 · obtain⟨m1,e1⟩:=I.base.tbls b ps e;obtain⟨m2,e2⟩:=tbls b _ e1;exact⟨m1++m2,by rw[e2,Array.append_assoc]⟩
 · obtain⟨m,hn,hl⟩:=I.loc;refine⟨m,ns m hn,fun i x v e1 e2 e3=>?_⟩;obtain⟨u,r,l⟩:=hl i x v e1 e2 e3;refine⟨u,r,?_⟩;rcases l with l|⟨k,c,e,z⟩
   · exact .inl l
   · exact .inr ⟨k,c,e,cellK x c e _ z⟩
 · obtain⟨v,z⟩:=I.cell x c e;exact⟨v,cellK x c e v z⟩
 · obtain⟨m,⟨o,_,_,ho,_⟩,_⟩:=I.loc;exact free _ o (fun z=>(hch _ z).2.1 rfl) ho I.free
 · obtain⟨v,o,ho,hd⟩:=I.cell x c e;exact free c o (fun z=>(hch c z).2.2.1 x c e rfl) ho (I.freeC x c e)
 · obtain⟨e,n,ne,nf,d⟩:=I.pin p hp;have nch:p.1∉ch:=fun z=>(hch p.1 z).2.2.2 p hp rfl;exact⟨keep p.1 p.2 ne nf nch e n,free p.1 p.2 nch e n,ne,nf,d⟩
theorem Inv.un{t':Nat}(I:Inv X pins σ H s)(u:Un X.fs [] H H' s.heap h')(hok:yx X.prog X.w H' h'):Inv X pins σ H' {s with heap:=h',toks:=t' }:=by
 obtain⟨m,⟨o,es,ep,ho,r⟩,_⟩:=id I.loc;obtain⟨sl,hL⟩:=u.any ho I.free (by simp)
 exact I.step (g':=s.gens) (d':=s.drawn) (ch:=[]) (fun _ z=>nomatch z) (fun b o _ hb _ e n=>u.keep b o e n hb (by simp)) (fun b o _ hb _ e n=>u.slot b o e n hb (by simp)) (fun b o _ e n=>u.free b o e n (by simp)) (fun b o _ e=>u.there b o e (by simp)) u.tups u.frzs u.tbls (fun m' hm=>by
  obtain⟨o',es',ep',ho',r'⟩:=hm;rw[ho]at ho';cases ho'
  exact⟨_,es',ep',hL,r'⟩) hok I.bare
theorem Inv.call{g':Array GenState}{t':Nat}{d':Drawn}{ch:List Addr}(I:Inv X pins σ H s)(u:Un (frs X.stack) ch H H' s.heap h')(hok:yx X.prog X.w H' h')(hg:BR g')
 (hch:∀b∈ch,(b∈X.ex\/X.s₀.heap.objs.size<=b)/\b≠X.env.locals/\(∀x c,X.env.cells.lookup x=some c->c≠b)/\∀p∈X.pn++pins,p.1≠b) :
 Inv X pins σ H' {s with heap:=h',gens:=g',drawn:=d',toks:=t' }:=by
 obtain⟨m,⟨o,es,ep,ho,r⟩,_⟩:=id I.loc;obtain⟨sl,hL⟩:=u.any ho I.free fun z=>(hch _ z).2.1 rfl
 exact I.step (ch:=ch) hch (fun b o hL hb hc e n=>u.keep b o e n (fun z=>(zo.mp (I.stkSub b z)).elim hL hb) hc) (fun b o _ _ hc e n=>u.any e n hc) (fun b o hc e n=>u.free b o e n hc) (fun b o hc e=>u.there b o e hc) u.tups u.frzs u.tbls (fun m' hm=>by
  obtain⟨o',es',ep',ho',r'⟩:=hm;rw[ho]at ho';cases ho'
  exact⟨_,es',ep',hL,r'⟩) hok hg
theorem Inv.turned{t':Nat}{it:Addr}(I:Inv X pins σ H s)(k:∀b o,b≠it->s.heap.get? b=some o->h'.get? b=some o)(hn:H it=none)(hL:it≠X.env.locals)
 (h1:it∈X.ex\/X.s₀.heap.objs.size<=it)(h2:∀x c,X.env.cells.lookup x=some c->c≠it)(h3:∀p∈X.pn++pins,p.1≠it):Inv X pins σ H {s with heap:=h',toks:=t' }:=by
 have nit:∀b u,H b=some u->b≠it:=fun b u e z=>by rw[z,hn]at e;cases e
 refine I.step (g':=s.gens) (d':=s.drawn) (ch:=[it]) (fun b hb=>?_) (fun b o _ _ hc e _=>k b o (fun z=>hc (by simp[z])) e) (fun b o _ _ hc e _=>⟨o.slots,k b o (fun z=>hc (by simp[z])) e⟩) (fun _ _ _ _ n=>n)
  (fun b o hc e=>⟨o,k b o (fun z=>hc (by simp[z])) e⟩) (fun _ _ e=>e) (fun _ _ _ e=>e) (fun b ps e=>⟨#[],by rw[e];simp⟩) (fun m hm=>?_) (fun b u e=>?_) I.bare
 · have e:b=it:=by simpa using hb
   subst e;exact⟨h1,hL,h2,h3⟩
 · obtain⟨o,es,ep,ho,r⟩:=hm;exact⟨o,es,ep,k _ o (AC hL) ho,r⟩
 · refine(I.hok b u e).stay (fun c v hc q=>k c v ?_ q) (fun _ q=>q) fun _ _ q=>q;rcases hc with z|z
   · rw[z];exact nit b u e
   · exact nit c _ z
theorem Inv.tok(I:Inv X pins σ H s)(t:Nat):Inv X pins σ H {s with toks:=t}:=I.un (h':=s.heap) (t':=t) Un.refl I.hok
theorem Inv.kept{t':Nat}(I:Inv X pins σ H s)(k:∀b u,s.heap.get? b=some u->h'.get? b=some u):Inv X pins σ H {s with heap:=h',toks:=t' }:=I.un (Un.kept k) (I.hok.kept k)
theorem Inv.laid{a:Addr}{o:HO}{t':Nat}(I:Inv X pins σ H s)(k:∀b u,s.heap.get? b=some u->h'.get? b=some u)(hp:s.heap.objs.size<=a)(new:bC X.prog X.w (upd H a o) h' a o) :
 Inv X pins σ (upd H a o) {s with heap:=h',toks:=t' }:=I.un (Un.laid k hp (I.hok.fresh hp)) (I.hok.laid k hp new)
theorem Inv.write{x e:Addr}{o:HO}{t':Nat}(I:Inv X pins σ H s)(mu:yl (H x))(he:e=x\/H e=some (.own x))(k:∀b u,b≠e->s.heap.get? b=some u->h'.get? b=some u)(heo:∃u,h'.get? e=some u)
 (new:bC X.prog X.w (upd H x o) h' x o):Inv X pins σ (upd H x o) {s with heap:=h',toks:=t' }:=I.un (Un.write mu he k heo) (I.hok.write mu he k heo new)
theorem Inv.weak{σ':List (Option V)}(I:Inv X pins σ H s)(hl:σ'.length=σ.length)(w:∀(i:Nat) v,σ'[i]?=some (some v)->σ[i]?=some (some v)):Inv X pins σ' H s :=
 ⟨I.ok,I.os,I.bare,I.base,let ⟨m,hn,hl'⟩:=I.loc;⟨m,hn,fun i x v e1 e2 e3=>hl' i x v e1 (w i v e2) e3⟩,I.cell,I.free,I.freeC,I.pin,I.hok,hl.trans I.len⟩
theorem Inv.pins_of{pins':List (Addr×Obj)}(I:Inv X pins σ H s)(h:∀p∈pins',s.heap.get? p.1=some p.2/\H p.1=none/\p.1≠X.env.locals/\p.1∉X.fs/\∀v,p.2.data ≠ .cell v):Inv X pins' σ H s :=
 ⟨I.ok,I.os,I.bare,I.base,I.loc,I.cell,I.free,I.freeC,fun p hp=>(AX.mp hp).elim (fun z=>I.pin p (Bi _ z)) (h p),I.hok,I.len⟩
theorem eB(hN:N.Nodup)(a:N[i]?=some x)(b:N[j]?=some x):i=j:=by
 obtain⟨h1,e1⟩:=yU.mp a;obtain⟨h2,e2⟩:=yU.mp b;exact(List.getElem_inj hN).mp (e1.trans e2.symm)
theorem jp{M:Dl}{A:zd}{E:yG->yH->Prop}{v:V}{u:yG}{Q:Unit->yH->Prop}(I:Inv X pins σ H s)(hN:X.N.Nodup)(hi:X.N[i]?=some x)(hx:Loc X.env.scope x)(r:RelV v u)
 (h:∀s',Inv X pins (σ.set i (some v)) H s'->(∃a,Cb a s.heap s'.heap/\(a=X.env.locals\/X.env.cells.lookup x=some a))->Q () s')(hf:autoParam (X.fn x=true\/X.env.scope.names.lookup x=some .local) æg._auto_1):zc M A (storeName X.env x u) Q E s:=by
 obtain⟨m,hn,hl⟩:=id I.loc;have hcls:(X.env.scope.kind == .class||(X.env.scope.kind == .module&&X.env.locals != X.env.globals))=false:=by rw[I.ok.kind];rfl
 have hiσ:i<σ.length:=by rw[I.len];exact(yU.mp hi).1
 have cne:=I.cne
 have tracked:∀{a:Addr}{h':Heap},(∃o,s.heap.get? a=some o/\H a=none)->Cb a s.heap h'->yx X.prog X.w H h':=fun{a h'} ha hs b ob e=>by
  obtain⟨_,_,hfree⟩:=ha;refine(I.hok b ob e).stay (fun c w' hc q=>(hs.2 c ?_).trans q) (fun _ q=>q) fun _ _ q=>q;rintro rfl;rcases hc with rfl|hc
  · rw[hfree]at e;cases e
  · rw[hfree]at hc;cases hc
 rcases hx with hk|hk
 · refine wpAny_storeName_local hk hn (fun h' hn' hs=>?_) hcls;obtain⟨oL,_,_,hoL,_⟩:=id hn;refine h _ ⟨I.ok,I.os,I.bare,⟨fun b o e n hb hx=>?_,fun b o e n hb hx=>?_,I.base.free,fun b o e hx=>?_,I.base.tups,I.base.frzs,I.base.tbls⟩,⟨_,hn',fun j y v' e1 e2 e3=>?_⟩,fun y c e=>?_,I.free,I.freeC,fun p hp=>?_,tracked ⟨oL,hoL,I.free⟩ hs,by simpa using I.len⟩ ⟨_,hs,.inl rfl⟩
   · exact(hs.2 b (zn (yK (yN e) I.ok.above))).trans (I.base.keep b o e n hb hx)
   · obtain⟨sl,e1⟩:=I.base.slot b o e n hb hx;exact⟨sl,(hs.2 b (zn (yK (yN e) I.ok.above))).trans e1⟩
   · obtain⟨o',e1⟩:=I.base.there b o e hx;exact⟨o',(hs.2 b (zn (yK (yN e) I.ok.above))).trans e1⟩
   · by_cases hj:j=i
     · subst hj;rw[hi]at e1;cases e1;rw[yZ hiσ]at e2;cases e2;exact⟨u,r,.inl ⟨hk,by simp⟩⟩
     · rw[yO (AC hj)]at e2;obtain⟨u',r',q⟩:=hl j y v' e1 e2 e3;refine⟨u',r',?_⟩;rcases q with⟨k,e⟩|⟨k,c,e,z⟩
       · refine .inl ⟨k,?_⟩;have:y≠x:=fun e=>hj (eB hN e1 (e▸hi));simp[this,e]
       · exact .inr ⟨k,c,e,z.sameBut hs (cne y c e)⟩
   · obtain⟨w',z⟩:=I.cell y c e;exact⟨w',z.sameBut hs (cne y c e)⟩
   · obtain⟨e,n,ne,nf,d⟩:=I.pin p hp;exact⟨(hs.2 p.1 ne).trans e,n,ne,nf,d⟩
 · have hfn:X.fn x=true:=by
     rcases hf with z|z
     · exact z
     · rw[z]at hk;cases hk
   obtain⟨c,hc⟩:=I.ok.has x (.inl hk);obtain⟨w',z⟩:=I.cell x c hc;refine wpAny_storeName_cell I.ok.kind hk hc z (fun h' hc' hs=>?_);obtain⟨oc,hoc,hocd⟩:=id z;refine h {s with heap:=h' } ⟨I.ok,I.os,I.bare,⟨fun b o e n hb hx=>?_,fun b o e n hb hx=>?_,I.base.free,fun b o e hx=>?_,I.base.tups,I.base.frzs,I.base.tbls⟩,⟨m,hn.sameBut hs (AC (cne x c hc)),fun j y v' e1 e2 e3=>?_⟩,fun y c' e=>?_,I.free,I.freeC,fun p hp=>?_,tracked ⟨oc,hoc,I.freeC x c hc⟩ hs,by simpa using I.len⟩ ⟨c,hs,.inr hc⟩
   · exact(hs.2 b (zn (yK (yN e) (I.ok.cab x c hfn hc)))).trans (I.base.keep b o e n hb hx)
   · obtain⟨sl,e1⟩:=I.base.slot b o e n hb hx;exact⟨sl,(hs.2 b (zn (yK (yN e) (I.ok.cab x c hfn hc)))).trans e1⟩
   · obtain⟨o',e1⟩:=I.base.there b o e hx;exact⟨o',(hs.2 b (zn (yK (yN e) (I.ok.cab x c hfn hc)))).trans e1⟩
   · by_cases hj:j=i
     · subst hj;rw[hi]at e1;cases e1;rw[yZ hiσ]at e2;cases e2;exact⟨u,r,.inr ⟨.inl hk,c,hc,hc'⟩⟩
     · rw[yO (AC hj)]at e2;obtain⟨u',r',q⟩:=hl j y v' e1 e2 e3;refine⟨u',r',?_⟩;rcases q with q|⟨k,c',e,z'⟩
       · exact .inl q
       · refine .inr ⟨k,c',e,z'.sameBut hs ?_⟩;rintro rfl;exact hj (eB hN e1 (I.ok.inj _ _ _ e hc▸hi))
   · by_cases hcc:c'=c
     · subst hcc;exact⟨_,hc'⟩
     · obtain⟨w2,z2⟩:=I.cell y c' e;exact⟨w2,z2.sameBut hs hcc⟩
   · obtain⟨e,n,ne,nf,d⟩:=I.pin p hp;refine⟨(hs.2 p.1 ?_).trans e,n,ne,nf,d⟩;intro q;rw[q,hoc]at e;have q':oc=p.2:=zg e;exact d w' (by rw[<- q'];exact hocd)
theorem cw{M:Dl}{A:zd}{E:yG->yH->Prop}{v:V}{u:yG}{Q:Unit->yH->Prop}(I:Inv X pins σ H s)(hN:X.N.Nodup)(hi:X.N[i]?=some x)(hx:Loc X.env.scope x)(r:RelV v u)
 (h:∀s',Inv X pins (σ.set i (some v)) H s'->Q () s')(hf:autoParam (X.fn x=true\/X.env.scope.names.lookup x=some .local) æg._auto_1):zc M A (storeName X.env x u) Q E s :=
 jp I hN hi hx r (fun s' I' _=>h s' I') hf
theorem Inv.call'{s':yH}{ch:List Addr}(I:Inv X pins σ H s)(ho:s'.os=s.os)(u:Un (frs X.stack) ch H H' s.heap s'.heap)(hok:yx X.prog X.w H' s'.heap)(hg:BR s'.gens)
 (hch:∀b∈ch,(b∈X.ex\/X.s₀.heap.objs.size<=b)/\b≠X.env.locals/\(∀x c,X.env.cells.lookup x=some c->c≠b)/\∀p∈X.pn++pins,p.1≠b):Inv X pins σ H' s':=by
 obtain⟨h',g',d',t',o'⟩:=s';have e:o'=s.os:=ho;subst e;exact I.call (g':=g') (t':=t') (d':=d') u hok hg hch
end
abbrev XK:=yG->Option Addr->Hp->Prop
abbrev St:=List (Option V)
abbrev VK:=V->Hp->Prop
abbrev TE:=St->Hp->VK->Prop
abbrev TT:=St->Hp->(Bool->Hp->Prop)->Prop
abbrev TA:=St->Hp->(List V->Hp->Prop)->Prop
structure Ends where
 nx:St->Hp->Prop
 rt:VK
 bk:St->Hp->Prop:=fun _ _=>False
 ct:St->Hp->Prop:=fun _ _=>False
abbrev TS:=Ends->St->Hp->Prop
noncomputable def EP(X:Cx)(pins:List (Addr×Obj))(σ:St)(Q:VK)(u:yG)(s':yH):Prop:=∃v H',Inv X pins σ H' s'/\RelV v u/\Q v H'
noncomputable def TP(X:Cx)(pins:List (Addr×Obj))(σ:St)(Q:Bool->Hp->Prop)(b:Bool)(s':yH):Prop:=∃H',Inv X pins σ H' s'/\Q b H'
noncomputable def AP(X:Cx)(pins:List (Addr×Obj))(σ:St)(Q:List V->Hp->Prop)(us:List yG)(s':yH):Prop:=∃vs H',Inv X pins σ H' s'/\br vs us/\Q vs H'
noncomputable def SP(X:Cx)(pins:List (Addr×Obj))(D:Ends)(f:Flow)(s':yH):Prop :=
 match f with
 | .next=>∃σ' H',Inv X pins σ' H' s'/\D.nx σ' H'
 | .brk=>∃σ' H',Inv X pins σ' H' s'/\D.bk σ' H'
 | .cont=>∃σ' H',Inv X pins σ' H' s'/\D.ct σ' H'
 | .ret u=>∃v σ' H',Inv X pins σ' H' s'/\RelV v u/\D.rt v H'
noncomputable def PE(X:Cx)(e:Expr)(t:TE):Prop :=
 ∀(pins:List (Addr×Obj))(s:yH)(σ:St)(H:Hp)(Q:VK),Inv X pins σ H s->t σ H Q->zc (zh X.prog X.w) X.A (eval e X.env) (EP X pins σ Q) X.xe s
noncomputable def PT(X:Cx)(e:Expr)(t:TT):Prop :=
 ∀(pins:List (Addr×Obj))(s:yH)(σ:St)(H:Hp)(Q:Bool->Hp->Prop),Inv X pins σ H s->t σ H Q->zc (zh X.prog X.w) X.A (isTrue e X.env (eval e X.env)) (TP X pins σ Q) X.xe s
noncomputable def PW(X:Cx)(e:Expr)(t:TT):Prop :=
 ∀(whole:Sem yG)(pins:List (Addr×Obj))(s:yH)(σ:St)(H:Hp)(Q:Bool->Hp->Prop),Inv X pins σ H s->t σ H Q->zc (zh X.prog X.w) X.A (isTrue e X.env whole) (TP X pins σ Q) X.xe s
theorem PW.pt{X:Cx}{t:TT}(h:PW X e t):PT X e t:=h _
noncomputable def PA(X:Cx)(es:List Expr)(t:TA):Prop :=
 ∀(pos:Pos)(pins:List (Addr×Obj))(s:yH)(σ:St)(H:Hp)(Q:List V->Hp->Prop),Inv X pins σ H s->t σ H Q->zc (zh X.prog X.w) X.A (spliced (Ae pos (yM es X.env))) (AP X pins σ Q) X.xe s
noncomputable def PS(X:Cx)(st:Stmt)(t:TS):Prop :=
 ∀(pins:List (Addr×Obj))(s:yH)(σ:St)(H:Hp)(D:Ends),Inv X pins σ H s->t D σ H->zc (zh X.prog X.w) X.A (exec st X.env) (SP X pins D) X.xe s
noncomputable def yd(X:Cx)(st:List Stmt)(t:TS):Prop :=
 ∀(pins:List (Addr×Obj))(s:yH)(σ:St)(H:Hp)(D:Ends),Inv X pins σ H s->t D σ H->zc (zh X.prog X.w) X.A (execs st X.env) (SP X pins D) X.xe s
theorem wE{t:Sem α}{Q Q':α->yH->Prop}{M:Dl}{A:zd}{E:yG->yH->Prop}{s:yH}(h:zc M A t Q E s)(hQ:∀a s,Q a s->Q' a s):zc M A t Q' E s:=zG h hQ fun _ _ x=>x
section
variable{X:Cx}
noncomputable def uI(i:Nat):TE:=fun σ H Q=>∃v,σ[i]?=some (some v)/\Q v H
noncomputable def tC(v:V):TE:=fun _ H Q=>Q v H
theorem cK(hN:X.N[i]?=some x)(hv:xO X.env.scope x)(hd:autoParam ((x==("__debug__" : Str))=false) æb._auto_1)(hcd:autoParam ((x==("__classdict__" : Str))=false) æb._auto_1):PE X (.Name x pos) (uI i):=by
 intro pins s σ H Q I h;obtain⟨v,e,h⟩:=h;obtain⟨m,hn,hl⟩:=I.loc;obtain⟨u,r,l⟩:=hl i x v hN e hv;have fin:EP X pins σ Q u s:=⟨v,H,I,r,h⟩;rcases l with⟨hk,hm⟩|⟨hk,c,hc,hcell⟩
 · exact wpAny_Name (wpAny_loadName_local I.ok.kind hk hn hm fin) hd
 · rcases hk with hk|hk
   · exact wpAny_Name (wpAny_loadName_cell I.ok.kind hk hc hcell fin) hd
   · exact wpAny_Name (wpAny_loadName_free I.ok.kind hk hc hcell fin hcd) hd
theorem aq{i j pos}:PE X (.Constant (.int i) j pos) (tC (.int i)):=fun _ _ _ H _ I h=>wpAny_Constant_int ⟨.int i,H,I.tok _,⟨_,rfl⟩,h⟩
theorem qo{b j pos}:PE X (.Constant (.bool b) j pos) (tC (.bl b)):=fun _ _ _ H _ I h=>Constant_bool ⟨.bl b,H,I,rfl,h⟩
theorem lZ{j pos}:PE X (.Constant .none j pos) (tC .non):=fun _ _ _ H _ I h=>Constant_none ⟨.non,H,I,rfl,h⟩
theorem lY{x j pos}:PE X (.Constant (.str x) j pos) (tC (.str x)):=fun _ _ _ H _ I h=>Calls.Constant_str ⟨.str x,H,I.tok _,⟨_,rfl⟩,h⟩
noncomputable def Gl(X:Cx)(x:Str):Prop:=X.env.kindOf x=some .globalImplicit
theorem eF{E:yG->yH->Prop}{s:yH}{σ:St}{H:Hp}{u:yG}{Q:yG->yH->Prop}(I:Inv X pins σ H s)(hg:Gl X x)(hm:X.mg x=some u)(h:Q u s)
 (hd:autoParam ((x==("__debug__" : Str))=false) æb._auto_1):zc (zh X.prog X.w) X.A (eval (.Name x pos) X.env) Q E s :=
 Bw I.ok.kind hg (Calls.loadGlobal_global (by rw[I.ok.glob];exact I.mod.glob.keeps I.bk) hm h) hd
theorem fR{E:yG->yH->Prop}{s:yH}{σ:St}{H:Hp}{u:yG}{Q:yG->yH->Prop}(I:Inv X pins σ H s)(hg:Gl X x)(hm:X.mg x=none)(hv:AB x=some u)(h:Q u s)
 (hn:autoParam (x ≠ "__name__") æb._auto_1)(hd:autoParam ((x==("__debug__" : Str))=false) æb._auto_1):zc (zh X.prog X.w) X.A (eval (.Name x pos) X.env) Q E s:=by
 obtain⟨mb,h1,h2⟩:=I.mod.blt;exact Bw I.ok.kind hg (Calls.loadGlobal_builtin (by rw[I.ok.glob];exact I.mod.glob.keeps I.bk) hm (by rw[I.ok.blt];exact h1.keeps I.bk) ((h2 x hn).trans hv) h) hd
theorem nI{v:V}{u:yG}(hg:Gl X x)(hm:X.mg x=some u)(r:RelV v u)(hd:autoParam ((x==("__debug__" : Str))=false) æb._auto_1):PE X (.Name x pos) (tC v) :=
 fun _ _ _ H _ I h=>eF I hg hm ⟨v,H,I,r,h⟩ hd
theorem nK{v:V}{u:yG}(hg:Gl X x)(hm:X.mg x=none)(hv:AB x=some u)(r:RelV v u)(hn:autoParam (x ≠ "__name__") æb._auto_1)(hd:autoParam ((x==("__debug__" : Str))=false) æb._auto_1):PE X (.Name x pos) (tC v) :=
 fun _ _ _ H _ I h=>fR I hg hm hv ⟨v,H,I,r,h⟩ hn hd
variable{a b:Expr}{ta tb:TE}{pos:Pos}
noncomputable def tB(t:TE):TT:=fun σ H Q=>t σ H fun x H1=>∃c,x = .bl c/\Q c H1
theorem qc{t:TE}(h:PE X e t)(he:autoParam (∀whole,isTrue e X.env whole=(do let v <- whole;standAt e.pos;Dq [v] (truthy v))) æc._auto_1):PT X e (tB t):=by
 intro pins s σ H Q I hw;refine isTrue_plain (wE (h pins s σ H _ I hw) fun v s1 ⟨x,H1,I1,r1,q1⟩=>?_) (he _);obtain⟨d,rfl,q⟩:=q1;cases r1;exact zP ⟨H1,I1,q⟩
variable{tA tB':TT}{rest:List Expr}
noncomputable def vA(t u:TT):TT:=fun σ H Q=>t σ H fun c H1=>if c=true then u σ H1 Q else Q false H1
noncomputable def wH(t u:TT):TT:=fun σ H Q=>t σ H fun c H1=>if c=true then Q true H1 else u σ H1 Q
noncomputable def vq(t:TT):TT:=fun σ H Q=>t σ H fun c H1=>Q (!c) H1
theorem nj(ha:PT X a tA):PW X (.BoolOp .And [a] pos) tA:=by
 intro wh pins s σ H Q I h;refine isTrue_and (wE (ha pins s σ H Q I h) fun c s1 e=>?_)
 cases c with
 | true=>exact isTrue_and_nil e
 | false=>exact e
theorem p8(ha:PT X a tA):PW X (.BoolOp .Or [a] pos) tA:=by
 intro wh pins s σ H Q I h;refine isTrue_or (wE (ha pins s σ H Q I h) fun c s1 e=>?_)
 cases c with
 | false=>exact isTrue_or_nil e
 | true=>exact e
theorem p9(ha:PT X a tA)(hb:PW X (.BoolOp .And (b::rest) pos) tB'):PW X (.BoolOp .And (a::b::rest) pos) (vA tA tB'):=by
 intro wh pins s σ H Q I h;refine isTrue_and (wE (ha pins s σ H _ I h) fun c s1 ⟨H1,I1,q1⟩=>?_)
 cases c with
 | true=>exact hb wh pins s1 σ H1 Q I1 q1
 | false=>exact⟨H1,I1,q1⟩
theorem sP(ha:PT X a tA)(hb:PW X (.BoolOp .Or (b::rest) pos) tB'):PW X (.BoolOp .Or (a::b::rest) pos) (wH tA tB'):=by
 intro wh pins s σ H Q I h;refine isTrue_or (wE (ha pins s σ H _ I h) fun c s1 ⟨H1,I1,q1⟩=>?_)
 cases c with
 | true=>exact⟨H1,I1,q1⟩
 | false=>exact hb wh pins s1 σ H1 Q I1 q1
theorem qf(ha:PT X a tA):PT X (.UnaryOp .Not a pos) (vq tA):=by
 intro pins s σ H Q I h;exact isTrue_not (ha pins s σ H (fun c H1=>Q (!c) H1) I h)
noncomputable def sK(ta tb:TE):TE:=fun σ H Q=>ta σ H fun x H1=>∃c,x = .bl c/\if c=true then tb σ H1 Q else Q (.bl false) H1
noncomputable def sE(ta:TE):TE:=fun σ H Q=>ta σ H fun x H1=>∃c,x = .bl c/\Q (.bl (!c)) H1
theorem ql{op}{t:TE}(h:PE X a t):PE X (.BoolOp op [a] pos) t:=fun pins s σ H Q I hw=>BoolOp_one (h pins s σ H Q I hw)
theorem qp(ha:PE X a ta)(hb:PE X (.BoolOp .And (b::rest) pos) tb):PE X (.BoolOp .And (a::b::rest) pos) (sK ta tb):=by
 intro pins s σ H Q I h;refine BoolOp_and (wE (ha pins s σ H _ I h) fun v s1 ⟨x,H1,I1,r1,q1⟩=>?_);obtain⟨c,rfl,q1⟩:=q1;cases r1;refine zP ?_
 cases c with
 | true=>exact hb pins s1 σ H1 Q I1 q1
 | false=>exact⟨.bl false,H1,I1,rfl,q1⟩
theorem qm(ha:PE X a ta):PE X (.UnaryOp .Not a pos) (sE ta):=by
 intro pins s σ H Q I h;refine UnaryOp_ (wE (ha pins s σ H _ I h) fun v s1 ⟨x,H1,I1,r1,q1⟩=>?_);obtain⟨c,rfl,q1⟩:=q1;cases r1;exact not_of (zP ⟨.bl (!c),H1,I1,rfl,q1⟩)
noncomputable def wJ(t:TT)(ta tb:TE):TE:=fun σ H Q=>t σ H fun c H1=>if c=true then ta σ H1 Q else tb σ H1 Q
theorem hG{c:Expr}(hc:PT X c tA)(ha:PE X a ta)(hb:PE X b tb):PE X (.IfExp c a b pos) (wJ tA ta tb):=by
 intro pins s σ H Q I h;refine wpAny_IfExp (wE (hc pins s σ H _ I h) fun d s1 ⟨H1,I1,q1⟩=>?_)
 cases d with
 | true=>exact ha pins s1 σ H1 Q I1 q1
 | false=>exact hb pins s1 σ H1 Q I1 q1
end
noncomputable def xX(K:W.Frag)(H:Hp)(a:Addr)(xs:List V):Prop :=
 Rd H a (.lst xs) \/
  ∃(o:Obj)(its:Array yG)(n:Nat),K.lookup a=some o/\o.cls = .type "list" /\ o.dict=none/\o.data = .seq its n/\its.size<=sizeLine/\br xs its.toList
noncomputable def xW(K:W.Frag)(H:Hp)(a:Addr)(xs:List V):Prop :=
 Rd H a (.tup xs) \/
  ∃(o:Obj)(its:Array yG)(n:Nat),K.lookup a=some o/\o.cls = .type "tuple" /\ o.data = .seq its n/\its.size<=sizeLine/\br xs its.toList/\o.dict=none
noncomputable def vR:yG->Option V
 | .none=>some .non
 | .bool b=>some (.bl b)
 | .int i _=>some (.int i)
 | .str x _=>some (.str x)
 | .bytes b _=>some (.byt b)
 | .float b _=>some (.flt b)
 | .ref a=>some (.ref a)
 | .type n=>some (.ty n)
 | _=>none
theorem RelV.abs{x:V}{u:yG}(r:RelV x u):vR u=some x:=by
 cases x with
 | non=>cases r;rfl
 | bl _=>cases r;rfl
 | int _=>obtain⟨t,rfl⟩:=r;rfl
 | str _=>obtain⟨t,rfl⟩:=r;rfl
 | byt _=>obtain⟨t,rfl⟩:=r;rfl
 | flt _=>obtain⟨t,rfl⟩:=r;rfl
 | ref _=>cases r;rfl
 | ty _=>cases r;rfl
theorem RelV.inj{x y:V}{u:yG}(r:RelV x u)(q:RelV y u):x=y:=zg (r.abs.symm.trans q.abs)
theorem br.inj:∀{xs ys:List V}{us:List yG},br xs us->br ys us->xs=ys
 | _,_,_,.nil,.nil=>rfl
 | _,_,_,.cons r t,.cons r' t'=>by rw[r.inj r',br.inj t t']
section
variable{X:Cx}{pins:List (Addr×Obj)}{σ:St}{H:Hp}{s:yH}{a:Addr}{xs ys:List V}
theorem Inv.list(I:Inv X pins σ H s)(h:xX X.K H a xs):∃its:List yG,br xs its/\PlainL s.heap a its.toArray/\xs.length<=sizeLine:=by
 rcases h with h|⟨o,its,n,hk,hc,hd,hs,hz,r⟩
 · obtain⟨z,its,n,r,e⟩:=h.ok I.hok;exact⟨its,r,⟨_,n,e,rfl,rfl,rfl⟩,z⟩
 · refine⟨its.toList,r,⟨o,n,I.kIn a o hk,hc,hd,by simpa using hs⟩,?_⟩;have e:=r.length;simp only[An]at e;omega
theorem Inv.tuple(I:Inv X pins σ H s)(h:xW X.K H a xs):∃its:List yG,br xs its/\IsTup s.heap a its.toArray/\xs.length<=sizeLine:=by
 rcases h with h|⟨o,its,n,hk,hc,hs,hz,r,hd⟩
 · obtain⟨z,its,r,p⟩:=h.ok I.hok;exact⟨its,r,p.tup,z⟩
 · refine⟨its.toList,r,⟨o,I.kIn a o hk,hc,n,by simpa using hs⟩,?_⟩;have e:=r.length;simp only[An]at e;omega
theorem Inv.list_inj(I:Inv X pins σ H s)(h:xX X.K H a xs)(h':xX X.K H a ys):xs=ys:=by
 obtain⟨its,r,⟨o,n,e,_,_,d⟩,_⟩:=I.list h;obtain⟨its',r',⟨o',n',e',_,_,d'⟩,_⟩:=I.list h';rw[e]at e';cases e';rw[d]at d'
 injection d' with d1 _
 have:its=its':=by simpa using congrArg Array.toList d1
 subst this;exact r.inj r'
theorem Inv.tupleD(I:Inv X pins σ H s)(h:xW X.K H a xs):∃ob,s.heap.get? a=some ob/\ob.cls = .type "tuple" /\ ob.dict=none:=by
 rcases h with h|⟨o,its,n,hk,hc,hs,hz,r,hd⟩
 · obtain⟨z,its,r,⟨o,e1,e2,_,e3⟩⟩:=h.ok I.hok;exact⟨o,e1,e2,e3⟩
 · exact⟨o,I.kIn a o hk,hc,hd⟩
theorem Inv.tuple_inj(I:Inv X pins σ H s)(h:xW X.K H a xs)(h':xW X.K H a ys):xs=ys:=by
 obtain⟨its,r,⟨o,e,_,n,d⟩,_⟩:=I.tuple h;obtain⟨its',r',⟨o',e',_,n',d'⟩,_⟩:=I.tuple h';rw[e]at e';cases e';rw[d]at d'
 injection d' with d1 _
 have:its=its':=by simpa using congrArg Array.toList d1
 subst this;exact r.inj r'
end
abbrev Cx.wish(X:Cx)(E:yG->yH->Prop):Cx:={X with xe:=E}
abbrev Cx.nox(X:Cx):Cx:=X.wish fun _ _=>False
theorem Cx.Ok.wish{X:Cx}(ok:X.Ok)(E:yG->yH->Prop):(X.wish E).Ok :=
 ⟨ok.mod,ok.kind,ok.glob,ok.blt,ok.above,ok.inj,ok.has,ok.cab,ok.hd,ok.frames,ok.stk,ok.exf,ok.bs,ok.bsz,ok.noex,ok.exfs,ok.funs,ok.frf⟩
theorem Cx.Ok.unwish{X:Cx}{E:yG->yH->Prop}(ok:(X.wish E).Ok):X.Ok :=
 ⟨ok.mod,ok.kind,ok.glob,ok.blt,ok.above,ok.inj,ok.has,ok.cab,ok.hd,ok.frames,ok.stk,ok.exf,ok.bs,ok.bsz,ok.noex,ok.exfs,ok.funs,ok.frf⟩
section
variable{X:Cx}{pins:List (Addr×Obj)}{σ:St}{H:Hp}{s:yH}{E:yG->yH->Prop}
theorem Inv.wish(I:Inv X pins σ H s)(E:yG->yH->Prop):Inv (X.wish E) pins σ H s:=⟨I.ok.wish E,I.os,I.bare,I.base,I.loc,I.cell,I.free,I.freeC,I.pin,I.hok,I.len⟩
theorem Inv.unwish(I:Inv (X.wish E) pins σ H s):Inv X pins σ H s:=⟨I.ok.unwish,I.os,I.bare,I.base,I.loc,I.cell,I.free,I.freeC,I.pin,I.hok,I.len⟩
theorem SP.unwish{D:Ends}{f:Flow}{s':yH}(h:SP (X.wish E) pins D f s'):SP X pins D f s':=by
 cases f with
 | next=>obtain⟨σ',H',I,q⟩:=h;exact⟨σ',H',I.unwish,q⟩
 | brk=>obtain⟨σ',H',I,q⟩:=h;exact⟨σ',H',I.unwish,q⟩
 | cont=>obtain⟨σ',H',I,q⟩:=h;exact⟨σ',H',I.unwish,q⟩
 | ret u=>obtain⟨v,σ',H',I,r,q⟩:=h;exact⟨v,σ',H',I.unwish,r,q⟩
theorem PT.nox{t:TT}(h:PT X.nox e t):PT X e t:=fun pins s σ H Q I hw =>
 zG (h pins s σ H Q (I.wish _) hw) (fun _ _ ⟨H',I',q⟩=>⟨H',I'.unwish,q⟩) fun _ _ z=>zl z
theorem yd.nox{st:List Stmt}{t:TS}(h:yd X.nox st t):yd X st t:=fun pins s σ H D I hw =>
 zG (h pins s σ H D (I.wish _) hw) (fun _ _ q=>q.unwish) fun _ _ z=>zl z
end
section
variable{X:Cx}{st:Stmt}{rest:List Stmt}{t u:TS}{e:Expr}{te:TE}{pos:Pos}
noncomputable def sF:TS:=fun D σ H=>D.nx σ H
noncomputable def uJ(t u:TS):TS:=fun D σ H=>t {D with nx:=u D} σ H
theorem c9:yd X [] sF:=fun _ _ σ H _ I h=>AY ⟨σ,H,I,h⟩
theorem aF(h1:PS X st t)(h2:yd X rest u):yd X (st::rest) (uJ t u):=by
 intro pins s σ H D I h;refine wpAny_execs_cons (wE (h1 pins s σ H {D with nx:=u D} I h) fun f s1 q=>?_)
 cases f with
 | next =>
   obtain⟨σ',H',I',q⟩:=q
   exact h2 pins s1 σ' H' D I' q
 | ret v=>exact q
 | brk=>exact q
 | cont=>exact q
theorem bF(h1:PS X st t):yd X [st] t:=by
 intro pins s σ H D I h;refine wpAny_execs_cons (wE (h1 pins s σ H D I h) fun f s1 q=>?_)
 cases f with
 | next=>exact AY q
 | ret v=>exact q
 | brk=>exact q
 | cont=>exact q
theorem Inv.quiet{σ:St}{H:Hp}{s:yH}(I:Inv X pins σ H s):interactive X.env=false:=by simp[interactive,I.ok.kind]
noncomputable def sG(te:TE):TS:=fun D σ H=>te σ H fun _ H1=>D.nx σ H1
theorem ny(he:PE X e te)(hs:autoParam (AL e none pos.line X.env=pure false) æa._auto_1):PS X (.Expr e pos) (sG te):=by
 intro pins s σ H D I h;exact wpAny_Expr_any (wE (he pins s σ H _ I h) fun v s1 ⟨x,H1,I1,r1,q1⟩=>⟨σ,H1,I1,q1⟩) I.quiet hs
noncomputable def vk(te:TE):TS:=fun D σ H=>te σ H D.rt
theorem g9(he:PE X e te):PS X (.Return (some e) pos) (vk te):=by
 intro pins s σ H D I h;exact wpAny_Return_some (wE (he pins s σ H _ I h) fun v s1 ⟨x,H1,I1,r1,q1⟩=>⟨x,σ,H1,I1,r1,q1⟩)
noncomputable def vy(c:TT)(t u:TS):TS:=fun D σ H=>c σ H fun b H1=>if b=true then t D σ H1 else u D σ H1
theorem jE{c:Expr}{a b:List Stmt}{tc:TT}(hc:PT X c tc)(ha:yd X a t)(hb:yd X b u):PS X (.If c a b pos) (vy tc t u):=by
 intro pins s σ H D I h;refine wpAny_If (wE (hc pins s σ H _ I h) fun d s1 ⟨H1,I1,q1⟩=>?_)
 cases d with
 | true=>exact ha pins s1 σ H1 D I1 q1
 | false=>exact hb pins s1 σ H1 D I1 q1
noncomputable def pJ:TS:=fun _ _ _=>False
theorem kR:PS X st pJ:=fun _ _ _ _ _ _ h=>h.elim
end
abbrev TG:=V->St->Hp->(St->Hp->Prop)->Prop
abbrev xV:=List V->St->Hp->(St->Hp->Prop)->Prop
noncomputable def PG(X:Cx)(target:Expr)(t:TG):Prop :=
 ∀ (pins:List (Addr×Obj))(s:yH)(σ:St)(H:Hp)(v:V)(u:yG)(Q:St->Hp->Prop),Inv X pins σ H s->RelV v u->t v σ H Q ->
   zc (zh X.prog X.w) X.A (Do target X.env u) (fun _ s'=>∃σ' H',Inv X pins σ' H' s'/\Q σ' H') X.xe s
noncomputable def yh(X:Cx)(ts:List Expr)(t:xV):Prop :=
 ∀ (pins:List (Addr×Obj))(s:yH)(σ:St)(H:Hp)(vs:List V)(us:List yG)(Q:St->Hp->Prop),Inv X pins σ H s->br vs us->t vs σ H Q ->
   zc (zh X.prog X.w) X.A (CZ ((Av ts X.env).map (·.2)) us) (fun _ s'=>∃σ' H',Inv X pins σ' H' s'/\Q σ' H') X.xe s
abbrev tI:=V->V->V->Hp->(Hp->Prop)->Prop
noncomputable def u6(X:Cx)(t:tI):Prop :=
 ∀ (pins:List (Addr×Obj))(s:yH)(σ:St)(H:Hp)(o i v:V)(ov iv u:yG)(Q:Hp->Prop),Inv X pins σ H s->RelV o ov->RelV i iv->RelV v u->t o i v H Q ->
   zc (zh X.prog X.w) X.A (setItem ov iv u) (fun _ s'=>∃H',Inv X pins σ H' s'/\Q H') X.xe s
section
variable{X:Cx}{pos:Pos}
noncomputable def qT(i:Nat):TG:=fun v σ H Q=>Q (σ.set i (some v)) H
theorem nG(hN:X.N.Nodup)(hi:X.N[i]?=some x)(hx:Loc X.env.scope x)(hf:autoParam (X.fn x=true\/X.env.scope.names.lookup x=some .local) æg._auto_1):PG X (.Name x pos) (qT i):=by
 intro pins s σ H v u Q I r h;exact wpAny_assign_Name (cw I hN hi hx r (fun s' I'=>⟨_,H,I',h⟩) hf)
noncomputable def vP:xV:=fun vs σ H Q=>vs=[]/\Q σ H
noncomputable def tz(t:TG)(u:xV):xV:=fun vs σ H Q=>∃v r,vs=v::r/\t v σ H fun σ' H'=>u r σ' H' Q
theorem nE:yh X [] vP:=by
 intro pins s σ H vs us Q I r h;obtain⟨e,h⟩:=h;subst e;cases r;exact assignInOrder_nil ⟨σ,H,I,h⟩
theorem kS{es:List Expr}{t:TG}{u:xV}(h1:PG X e t)(h2:yh X es u)
 (hs:autoParam ((Av (e::es) X.env).map (·.2)=Do e X.env::(Av es X.env).map (·.2)) æa._auto_1):yh X (e::es) (tz t u):=by
 intro pins s σ H vs us Q I r h;obtain⟨v,vr,e1,h⟩:=h;subst e1
 cases r with
 | cons r rr =>
   rw[hs];refine BA (wE (h1 pins s σ H _ _ _ I r h) fun _ s1 ⟨σ1,H1,I1,q1⟩=>?_);exact h2 pins s1 σ1 H1 _ _ Q I1 rr q1
noncomputable def vM(K:W.Frag)(n:Nat)(t:xV):TG:=fun v σ H Q=>∃a xs,v = .ref a/\xW K H a xs/\xs.length=n/\t xs σ H Q
theorem qj{es:List Expr}{t:xV}(hc:X.calm=true)(h:yh X es t)
 (hn:autoParam ((Av es X.env).length=n) æa._auto_1)(hst:autoParam ((Av es X.env).findIdx? (·.1)=none) æa._auto_1):PG X (.Tuple es k pos) (vM X.K n t):=by
 intro pins s σ H v u Q I r hw;obtain⟨a,xs,e1,hq,hl,hw⟩:=hw;subst e1;cases r;obtain⟨its,rv,ht,hz⟩:=I.tuple hq;refine assign_Tuple_tuple (I.ok.hd hc) ht (by simp[hn,<- hl,rv.length]) hst fun h' hx=>?_;have I1:Inv X pins σ H {s with heap:=h' }:=I.kept (t':=s.toks) fun b o e=>hx b o (zn (yN e)) e;exact h pins _ σ H xs _ Q I1 (by simpa using rv) hw
noncomputable def vO(to ti:TE)(t:tI):TG:=fun v σ H Q=>to σ H fun o H1=>ti σ H1 fun i H2=>t o i v H2 fun H3=>Q σ H3
theorem hE{o i:Expr}{to ti:TE}{t:tI}(ho:PE X o to)(hi:PE X i ti)(hs:u6 X t)
 (ha:autoParam (∀v,Do (.Subscript o i pos) X.env v=(do
  let ov <- Dq [v] (eval o X.env)
  let iv <- Dq [v,ov] (eval i X.env)
  standAt pos
  Dq [v,ov,iv] (setItem ov iv v)
  release [v,ov,iv] [])) æc._auto_1):PG X (.Subscript o i pos) (vO to ti t):=by
 intro pins s σ H v u Q I r h;rw[ha];refine yJ (Ao (wE (ho pins s σ H _ I h) fun ov s1 ⟨x,H1,I1,r1,q1⟩=>?_));refine yJ (Ao (wE (hi pins s1 σ H1 _ I1 q1) fun iv s2 ⟨y,H2,I2,r2,q2⟩=>?_));refine yJ (Bj (yJ (Ao (wE (hs pins s2 σ H2 x y v ov iv u _ I2 r1 r2 r q2) fun _ s3 ⟨H3,I3,q3⟩=>?_))));exact wpAny_release ⟨σ,H3,I3,q3⟩
noncomputable def uK(te:TE)(g:TG):TS:=fun D σ H=>te σ H fun x H1=>g x σ H1 D.nx
theorem fL{te:TE}{g:TG}(he:PE X e te)(hg:PG X tg g)(hs:autoParam (BS [tg] e pos.line X.env=pure false) æa._auto_1)(hw:autoParam (BU [tg] e X.env=pure none) æa._auto_1)
 (h1:autoParam ((Av [tg] X.env).map (·.2)=[Do tg X.env]) æa._auto_1):PS X (.Assign [tg] e pos) (uK te g):=by
 intro pins s σ H D I h;refine wpAny_Assign_stores (wE (he pins s σ H _ I h) fun v s1 ⟨x,H1,I1,r1,q1⟩=>?_) hs hw;rw[h1];exact wE (hg pins s1 σ H1 x v _ I1 r1 q1) fun _ s2 q=>q
theorem cz{te:TE}{pos':Pos}(hN:X.N.Nodup)(hi:X.N[i]?=some x)(hx:Loc X.env.scope x)(he:PE X e te)(hs:autoParam (AL e (some (.Name x pos')) pos.line X.env=pure false) æa._auto_1)(hf:autoParam (X.fn x=true\/X.env.scope.names.lookup x=some .local) æg._auto_1) :
 PS X (.Assign [.Name x pos'] e pos) (uK te (qT i)):=by
 intro pins s σ H D I h;refine wpAny_Assign_Name (wE (he pins s σ H _ I h) fun v s1 ⟨y,H1,I1,r1,q1⟩=>?_) hs;exact cw I1 hN hi hx r1 (fun s2 I2=>⟨_,H1,I2,q1⟩) hf
noncomputable def vp(i j:Nat)(ta:TA):TS:=fun D σ H=>ta σ H fun vs H1=>∃v w,vs=[v,w]/\D.nx ((σ.set i (some v)).set j (some w)) H1
theorem qg{y:Str}{a b:Expr}{ta:TA}{px py pt:Pos}{kt k2 pt2}(hc:X.calm=true)(hN:X.N.Nodup)(hi:X.N[i]?=some x)(hj:X.N[j]?=some y)(hij:i≠j)
 (hx:X.env.scope.names.lookup x=some .local)(hy:X.env.scope.names.lookup y=some .local)(ha:PA X [a,b] ta)
 (hw:BU [.Tuple [.Name x px,.Name y py] kt pt] (.Tuple [a,b] k2 pt2) X.env=pure (some [x,y]))
 (hs:autoParam (BS [.Tuple [.Name x px,.Name y py] kt pt] (.Tuple [a,b] k2 pt2) pos.line X.env=pure false) æa._auto_1) :
 PS X (.Assign [.Tuple [.Name x px,.Name y py] kt pt] (.Tuple [a,b] k2 pt2) pos) (vp i j ta):=by
 intro pins s σ H D I h;rw[exec_Assign_arm];refine yJ (Bj ?_);rw[hs];refine yJ (yX ?_);rw[if_neg (by decide)];refine yJ (Tuple_ (wE (ha _ pins s σ H _ I h) fun us s1 ⟨vs,H1,I1,r1,q1⟩=>?_));obtain⟨v,w,e1,q1⟩:=q1;subst e1
 obtain⟨u1,u2,rfl,rv,rw'⟩:∃u1 u2,us=[u1,u2]/\RelV v u1/\RelV w u2:=by
  cases r1 with
  | cons p q =>
    cases q with
    | cons p' q' =>
      cases q';exact⟨_,_,rfl,p,p'⟩
 refine BN ?_ (by show 2<=sizeLine;decide);have I2:Inv X pins σ H1 {s1 with heap:=s1.heap.push {cls:=.type "tuple", data:=.seq [u1,u2].toArray}}:=I1.kept (t':=s1.toks) fun b o e=>yI _ e;rw[hw];refine yJ (yX ?_);show zc (zh X.prog X.w) X.A (do rule "assign.swapped-stores"; let items <- unpackItems (.ref s1.heap.objs.size) 2 none;CZ [fun v=>Db X.env y v,fun v=>Db X.env x v] items.reverse;pure Flow.next) _ _ _;refine yJ (wpAny_rule (yJ (unpackItems_tuple (items:=#[u1,u2]) (I.ok.hd hc) (IsTup.new s1.heap _) fun h' hx'=>?_)));have I3:=I2.kept (h':=h') (t':=s1.toks) fun b o e=>hx' b o (zn (yN e)) e;show zc _ _ (CZ [fun v=>Db X.env y v,fun v=>Db X.env x v] [u2,u1] >>= fun _=>pure Flow.next) _ _ _;refine yJ (BA (wpAny_bindName (cw I3 hN hj (.inl hy) rw' (fun s2 I4=>?_) (.inr hy))));refine BA (wpAny_bindName (cw I4 hN hi (.inl hx) rv (fun s3 I5=>assignInOrder_nil (yX ?_)) (.inr hx)));rw[List.set_comm _ _ (AC hij)]at I5;exact⟨_,H1,I5,q1⟩
end
section
variable{X:Cx}{pos:Pos}
noncomputable def pH(c:TT)(tb:TS):TS:=fun D σ H=>∃W:Nat->St->Hp->Prop,(∃m,W m σ H)/\∀m σ H,W m σ H ->
 c σ H fun b H1=>if b=true then ∃N:St->Hp->Prop,(∀σ' H',N σ' H'->∃m',m'<m/\W m' σ' H')/\tb {D with nx:=N,ct:=N,bk:=D.nx} σ H1 else D.nx σ H1
theorem g8{c:Expr}{body:List Stmt}{tc:TT}{tb:TS}(hp:Dc (zh X.prog X.w) X.A X.env X.xe)(hc:PT X c tc)(hb:yd X body tb):PS X (.While c body [] pos) (pH tc tb):=by
 intro pins s σ H D I h;obtain⟨W,⟨m0,w0⟩,turn⟩:=h;refine wpAny_While (codeAny_whileLoop (fun n s'=>∃σ' H',Inv X pins σ' H' s'/\W n σ' H') ?_ m0 ⟨σ,H,I,w0⟩);rintro n s1 ⟨σ1,H1,I1,w1⟩;refine Af hp (wE (hc pins s1 σ1 H1 _ I1 (turn n σ1 H1 w1)) fun b s2 ⟨H2,I2,q2⟩=>?_)
 cases b with
 | true =>
   obtain⟨N,hN,q2⟩:=q2;rw[if_pos rfl];refine Af hp (wE (hb pins s2 σ1 H2 _ I2 q2) fun f s3 q3=>?_)
   cases f with
   | next =>
     obtain⟨σ3,H3,I3,n3⟩:=q3;obtain⟨m',hm,w3⟩:=hN σ3 H3 n3
     exact⟨m',hm,σ3,H3,I3,w3⟩
   | cont =>
     obtain⟨σ3,H3,I3,n3⟩:=q3;obtain⟨m',hm,w3⟩:=hN σ3 H3 n3
     exact⟨m',hm,σ3,H3,I3,w3⟩
   | brk=>exact q3
   | ret v=>exact q3
 | false =>
   rw[if_neg zy];exact AY ⟨σ1,H2,I2,q2⟩
end
structure It where
 go:Nat->Hp->Prop
 yld:Nat->Hp->V->Hp->Prop
 stop:Nat->Hp->Prop
noncomputable def kC(X:Cx)(pins:List (Addr×Obj))(H:Hp)(b:Addr):Prop :=
 H b=none/\b≠X.env.locals/\b∉X.fs/\(b∈X.ex\/X.s₀.heap.objs.size<=b)/\(∀x c,X.env.cells.lookup x=some c->c≠b)/\∀p∈X.pn++pins,p.1≠b
theorem Inv.fpOk{X:Cx}{σ:St}{H H':Hp}{s:yH}{b:Addr}(I:Inv X pins σ H s)(hb:s.heap.objs.size<=b)(hn:H' b=none):kC X pins H' b:=by
 refine⟨hn,Cc (yK I.lt hb),I.nofs hb,.inr (zx I.sz hb),fun x c e z=>?_,fun p hp z=>?_⟩
 · obtain⟨v,q⟩:=I.cell x c e;exact absurd (yK q.lt (by rw[z];exact hb)) (zM _)
 · exact absurd (yK (yN (I.pin p hp).1) (by rw[z];exact hb)) (zM _)
structure Turn (P:yT) (w:zp) (K:W.Frag) (tg:Expr) (J:It) (fp:List Addr) (it:Addr) (tn:Nat->Heap->Prop):Prop where
 mem:it∈fp
 obj:∀i h,tn i h->∀b∈fp,∃o,h.get? b=some o/\∀v,o.data ≠ .cell v
 keep:∀i h h',tn i h->(∀b∈fp,∀o,h.get? b=some o->h'.get? b=some o)->tn i h'
 item:∀(X:Cx),X.prog=P->X.w=w->X.K=K->X.calm=true->∀(i:Nat)(pins:List (Addr×Obj))(s:yH)(σ:St)(H:Hp)(E:yG->yH->Prop),Inv X pins σ H s->(∀b∈fp,kC X pins H b)->tn i s.heap->J.go i H ->
  zc (zh P w) X.A (pyNext (.ref it)) (fun r s1=>∃u,r=some u /\
   zc (zh P w) X.A (Bn tg (.ref it) u) (fun _ s2=>∃x H',Inv X pins σ H' s2/\RelV x u/\J.yld i H x H'/\tn (i+1) s2.heap/\∀b∈fp,H' b=none) E s1) E s
 done:∀(X:Cx),X.prog=P->X.w=w->X.K=K->X.calm=true->∀(i:Nat)(pins:List (Addr×Obj))(s:yH)(σ:St)(H:Hp)(E:yG->yH->Prop),Inv X pins σ H s->(∀b∈fp,kC X pins H b)->tn i s.heap->J.stop i H ->
  zc (zh P w) X.A (pyNext (.ref it)) (fun r s1=>r=none/\Inv X pins σ H s1) E s
 self:∀(A:zd)(i:Nat)(s:yH)(Q:yG->yH->Prop)(E:yG->yH->Prop),tn i s.heap->Q (.ref it) s->zc (zh P w) A (pyIter (.ref it)) Q E s
abbrev TI:=St->Hp->(It->Hp->Prop)->Prop
noncomputable def yg(X:Cx)(pins:List (Addr×Obj))(σ:St)(tg:Expr)(R:It->Hp->Prop)(itv:yG)(s2:yH):Prop :=
 ∃(it:Addr)(fp:List Addr)(tn:Nat->Heap->Prop)(J:It)(H':Hp),itv = .ref it/\Inv X pins σ H' s2/\Turn X.prog X.w X.K tg J fp it tn/\tn 0 s2.heap/\(∀b∈fp,kC X pins H' b)/\R J H'
noncomputable def PI(X:Cx)(tg iter:Expr)(wi:TI):Prop :=
 ∀ (pins:List (Addr×Obj))(s:yH)(σ:St)(H:Hp)(R:It->Hp->Prop),Inv X pins σ H s->wi σ H R ->
   zc (zh X.prog X.w) X.A (eval iter X.env) (fun v s1=>zc (zh X.prog X.w) X.A (pyIter v) (yg X pins σ tg R) X.xe s1) X.xe s
theorem oa{M:Dl}{A:zd}{E:yG->yH->Prop}{s:yH}{it:Addr}{u:yG}{n:String}{vs:Array yG}{Q:Unit->yH->Prop}(ho:s.heap.get? it=some o)(hc:o.cls = .type n)(hd:o.data = .fields vs)
 (hn:["enumerate", "zip", "dict_itemiterator", "dict_reverseitemiterator", "odict_iterator", "itertools.zip_longest", "itertools.pairwise"].contains n=false)(hQ:Q () s):zc M A (Bn tg (.ref it) u) Q E s:=by
 unfold Bn
 cases tg<;>first
  | exact yX hQ
  | (cases u<;>first
      | exact yX hQ
      | (refine yJ (wpAny_load ho ?_)
         rw[hc,hd];show zc M A (if(["enumerate", "zip", "dict_itemiterator", "dict_reverseitemiterator", "odict_iterator", "itertools.zip_longest", "itertools.pairwise"].contains n&&vs[0]?==some (C0 _))=true then _ else _) Q E s;rw[if_neg (by intro h;rw[hn,Bool.false_and]at h;cases h)]
         exact yX hQ))
noncomputable def yw(K:W.Frag)(a:Addr):It :=
 ⟨fun i H=>∃xs x,xX K H a xs/\xs[i]?=some x,fun i H x H'=>H'=H/\∀xs,xX K H a xs->xs[i]?=some x,fun i H=>∃xs,xX K H a xs/\xs.length<=i⟩
noncomputable def yt(K:W.Frag)(a:Addr):It :=
 ⟨fun i H=>∃xs x,xW K H a xs/\xs[i]?=some x,fun i H x H'=>H'=H/\∀xs,xW K H a xs->xs[i]?=some x,fun i H=>∃xs,xW K H a xs/\xs.length<=i⟩
noncomputable def yu(lo:Int)(n:Nat):It:=⟨fun i _=>i<n,fun i H x H'=>H'=H/\x = .int (lo+i),fun i _=>n<=i⟩
theorem jm{P:yT}{w:zp}{K:W.Frag}(a it:Addr):Turn P w K tg (yw K a) [it] it (fun i h=>h.IsListIter it a i) where
 mem:=by simp
 obj:=fun i h st b hb=>by
  have e:b=it:=by simpa using hb
  subst e;obtain⟨o,e,c,d⟩:=st;exact⟨o,e,fun v z=>by rw[d]at z;cases z⟩
 keep:=fun i h h' st k=>st.at fun o e=>k it (by simp) o e
 item:=by
  intro X hP hw hK hc i pins s σ H E I hf st hg;subst hP hw hK;obtain⟨xs,x,hq,hx⟩:=hg;obtain⟨its,rv,p,hz⟩:=I.list hq;obtain⟨u,hu,ru⟩:=rv.get hx;obtain⟨f0,f1,f2,f3,f4,f5⟩:=hf it (by simp);refine wpAny_pyNext_list_item st p.isList (x:=u) (by simpa using hu) fun h' st' sb=>?_;have I1:Inv X pins σ H {s with heap:=h' }:=I.turned (t':=s.toks) (fun b o hb e=>(sb.2 b hb).trans e) f0 f1 f3 f4 f5;obtain⟨o,e,c,d⟩:=id st';exact⟨u,rfl,oa (s:={s with heap:=h' }) e c d (by decide) ⟨x,H,I1,ru,⟨rfl,fun ys hy=>by rw[I.list_inj hy hq];exact hx⟩,st',fun b hb=>(hf b hb).1⟩⟩
 done:=by
  intro X hP hw hK hc i pins s σ H E I hf st hg;subst hP hw hK;obtain⟨xs,hq,hx⟩:=hg;obtain⟨its,rv,p,hz⟩:=I.list hq;obtain⟨f0,f1,f2,f3,f4,f5⟩:=hf it (by simp);have hl:=rv.length;exact wpAny_pyNext_list_end (I.ok.hd hc) st p.isList (by simp;omega) fun h' eb=>⟨rfl,I.turned (t':=s.toks) (fun b o hb e=>eb b o hb e) f0 f1 f3 f4 f5⟩
 self:=fun _ _ _ _ _ st h=>wpAny_pyIter_listiter st h
theorem iA{P:yT}{w:zp}{K:W.Frag}(a it:Addr):Turn P w K tg (yt K a) [it] it (fun i h=>h.IsTupleIter it a i) where
 mem:=by simp
 obj:=fun i h st b hb=>by
  have e:b=it:=by simpa using hb
  subst e;obtain⟨o,e,c,d⟩:=st;exact⟨o,e,fun v z=>by rw[d]at z;cases z⟩
 keep:=fun i h h' st k=>st.at fun o e=>k it (by simp) o e
 item:=by
  intro X hP hw hK hc i pins s σ H E I hf st hg;subst hP hw hK;obtain⟨xs,x,hq,hx⟩:=hg;obtain⟨its,rv,p,hz⟩:=I.tuple hq;obtain⟨u,hu,ru⟩:=rv.get hx;obtain⟨f0,f1,f2,f3,f4,f5⟩:=hf it (by simp);refine wpAny_pyNext_tuple_item st (show s.heap.IsTuple a its.toArray from p) (x:=u) (by simpa using hu) fun h' st' sb=>?_;have I1:Inv X pins σ H {s with heap:=h' }:=I.turned (t':=s.toks) (fun b o hb e=>(sb.2 b hb).trans e) f0 f1 f3 f4 f5;obtain⟨o,e,c,d⟩:=id st';exact⟨u,rfl,oa (s:={s with heap:=h' }) e c d (by decide) ⟨x,H,I1,ru,⟨rfl,fun ys hy=>by rw[I.tuple_inj hy hq];exact hx⟩,st',fun b hb=>(hf b hb).1⟩⟩
 done:=by
  intro X hP hw hK hc i pins s σ H E I hf st hg;subst hP hw hK;obtain⟨xs,hq,hx⟩:=hg;obtain⟨its,rv,p,hz⟩:=I.tuple hq;obtain⟨f0,f1,f2,f3,f4,f5⟩:=hf it (by simp);have hl:=rv.length;exact wpAny_pyNext_tuple_end (I.ok.hd hc) st (show s.heap.IsTuple a its.toArray from p) (by simp;omega) fun h' eb=>⟨rfl,I.turned (t':=s.toks) (fun b o hb e=>eb b o hb e) f0 f1 f3 f4 f5⟩
 self:=fun _ _ _ _ _ st h=>wpAny_pyIter_tupleiter st h
theorem iB{P:yT}{w:zp}{K:W.Frag}(it:Addr)(lo:Int)(n:Nat):Turn P w K tg (yu lo n) [it] it (fun i h=>IsRangeIter h it (lo+(i:Nat)*1) ((n:Int)-(i:Nat)) 1) where
 mem:=by simp
 obj:=fun i h st b hb=>by
  have e:b=it:=by simpa using hb
  subst e
  exact⟨_,st,fun v z=>by
   have z':Data.fields _=Data.cell v:=z
   cases z'⟩
 keep:=fun i h h' st k=>k it (by simp) _ st
 item:=by
  intro X hP hw hK hc i pins s σ H E I hf st hg;subst hP hw hK;obtain⟨f0,f1,f2,f3,f4,f5⟩:=hf it (by simp);have W:=Walks.range (prog:=X.prog) (w:=X.w) (I.ok.hd hc) it lo 1 n;refine W.item i s _ _ hg st fun v h' tk hv st' kk=>?_;obtain⟨t,rfl⟩:=hv;have I1:Inv X pins σ H {s with heap:=h',toks:=tk}:=I.turned (fun b o hb e=>kk b o (by simpa using hb) e) f0 f1 f3 f4 f5;refine⟨_,rfl,oa (s:={s with heap:=h',toks:=tk}) (n := "range_iterator") st' rfl rfl (by decide) ⟨.int (lo+i),H,I1,⟨t,?_⟩,⟨rfl,rfl⟩,st',fun b hb=>(hf b hb).1⟩⟩;rw[Int.mul_one]
 done:=by
  intro X hP hw hK hc i pins s σ H E I hf st hg;subst hP hw hK;obtain⟨f0,f1,f2,f3,f4,f5⟩:=hf it (by simp);exact wpAny_pyNext_range_end (I.ok.hd hc) st (by have:n<=i:=hg;omega) fun h' eb=>⟨rfl,I.turned (t':=s.toks) (fun b o hb e=>eb b o hb e) f0 f1 f3 f4 f5⟩
 self:=fun _ _ _ _ _ st h=>wpAny_pyIter_rangeiter st h
section
variable{X:Cx}{tg:Expr}
noncomputable def s_(K:W.Frag)(tl:TE):TI:=fun σ H R=>tl σ H fun x H1=>∃a,x = .ref a/\(∃xs,xX K H1 a xs)/\R (yw K a) H1
noncomputable def vL(K:W.Frag)(tl:TE):TI:=fun σ H R=>tl σ H fun x H1=>∃a,x = .ref a/\(∃xs,xW K H1 a xs)/\R (yt K a) H1
theorem nD{l:Expr}{tl:TE}(hl:PE X l tl):PI X tg l (s_ X.K tl):=by
 intro pins s σ H R I h;refine wE (hl pins s σ H _ I h) fun v s1 ⟨x,H1,I1,r1,q1⟩=>?_;obtain⟨a,e,⟨xs,hq⟩,q⟩:=q1;subst e;cases r1;obtain⟨its,rv,p,hz⟩:=I1.list hq;refine wpAny_pyIter_list p.isList ?_;refine⟨s1.heap.objs.size,[s1.heap.objs.size],_,_,H1,rfl,I1.kept (t':=s1.toks) fun b o e=>yI _ e,jm a _,⟨_,zj _ rfl,rfl,rfl⟩,fun b hb=>?_,q⟩;have e:b=s1.heap.objs.size:=by simpa using hb
 subst e;exact I1.fpOk (y7 _) (I1.hok.fresh (y7 _))
theorem qi{l:Expr}{tl:TE}(hl:PE X l tl):PI X tg l (vL X.K tl):=by
 intro pins s σ H R I h;refine wE (hl pins s σ H _ I h) fun v s1 ⟨x,H1,I1,r1,q1⟩=>?_;obtain⟨a,e,⟨xs,hq⟩,q⟩:=q1;subst e;cases r1;obtain⟨its,rv,p,hz⟩:=I1.tuple hq;refine wpAny_pyIter_tuple (show s1.heap.IsTuple a its.toArray from p) ?_;refine⟨s1.heap.objs.size,[s1.heap.objs.size],_,_,H1,rfl,I1.kept (t':=s1.toks) fun b o e=>yI _ e,iA a _,⟨_,zj _ rfl,rfl,rfl⟩,fun b hb=>?_,q⟩;have e:b=s1.heap.objs.size:=by simpa using hb
 subst e;exact I1.fpOk (y7 _) (I1.hok.fresh (y7 _))
theorem g7{σ:St}{H:Hp}{s:yH}{R:It->Hp->Prop}{E:yG->yH->Prop}{lo hi:Int}{t u v:Tok}{tk:Nat}(I:Inv X pins σ H s)(h1 : -(2^62)<=lo)(h2:lo<2^62)(h3 : -(2^62)<=hi)(h4:hi<2^62)
 (q:R (yu lo (hi-lo).toNat) H):zc (zh X.prog X.w) X.A (pyIter (.ref s.heap.objs.size)) (yg X pins σ tg R) E {s with heap:=s.heap.push {cls:=.type "range", data:=.fields #[.int lo t,.int hi u,.int 1 v]},toks:=tk}:=by
 refine wpAny_pyIter_range (IsRange.new ..) (small_one h1 h2 h3 h4) ?_;have I1:Inv X pins σ H {s with heap:=s.heap.push {cls:=.type "range", data:=.fields #[.int lo t,.int hi u,.int 1 v]},toks:=tk}:=I.kept fun b o e=>yI _ e
 refine⟨(s.heap.push {cls:=.type "range", data:=.fields #[.int lo t,.int hi u,.int 1 v]}).objs.size,[(s.heap.push {cls:=.type "range", data:=.fields #[.int lo t,.int hi u,.int 1 v]}).objs.size],_,_,H,rfl,
  I1.kept (t':=tk) fun b o e=>yI _ e,iB _ lo (hi-lo).toNat,?_,fun b hb=>?_,q⟩
 · have e1:lo+((0:Nat):Int)*1=lo:=by simp
   have e2:(((hi-lo).toNat:Nat):Int)-((0:Nat):Int)=Builtin.Range.rangeSize lo hi 1:=by rw[rangeSize_one];split<;>omega
   show IsRangeIter _ _ (lo+((0:Nat):Int)*1) ((((hi-lo).toNat:Nat):Int)-((0:Nat):Int)) 1;rw[e1,e2];exact zj _ rfl
 · have e:b=(s.heap.push {cls:=.type "range", data:=.fields #[.int lo t,.int hi u,.int 1 v]}).objs.size:=by simpa using hb
   subst e;exact I1.fpOk (y7 _) (I1.hok.fresh (y7 _))
noncomputable def s0(ta:TA):TI:=fun σ H R=>ta σ H fun vs H1=>∃j:Int,vs=[.int j] /\ -(2^62)<=j/\j<2^62/\R (yu 0 j.toNat) H1
noncomputable def sZ(ta:TA):TI:=fun σ H R=>ta σ H fun vs H1=>∃i j:Int,vs=[.int i,.int j]/\(-(2^62)<=i/\i<2^62 /\ -(2^62)<=j/\j<2^62)/\R (yu i (j-i).toNat) H1
theorem jI{a:Expr}{ta:TA}{p:Pos}(hg:Gl X "range")(hm:X.mg "range" = none)(ha:PA X [a] ta)(hs:autoParam (yM [a] X.env=[(false,eval a X.env)]) æa._auto_1):PI X tg (.Call (.Name "range" p) [a] [] pos) (s0 ta):=by
 intro pins s σ H R I h;refine Call_ (fR I hg hm boot_range (AD (wE (ha pos pins s σ H _ I h) fun us s1 ⟨vs,H1,I1,r1,q1⟩=>?_) hs rfl));obtain⟨j,e,q1,q2,q⟩:=q1;subst e
 cases r1 with
 | cons r rr =>
   cases rr;obtain⟨t,rfl⟩:=r;exact call_range_1 (g7 I1 (by omega) (by omega) q1 q2 (by simpa using q))
theorem jH{a b:Expr}{ta:TA}{p:Pos}(hg:Gl X "range")(hm:X.mg "range" = none)(ha:PA X [a,b] ta)(hs:autoParam (yM [a,b] X.env=[(false,eval a X.env),(false,eval b X.env)]) æa._auto_1)(hs2:autoParam (yM [b] X.env=[(false,eval b X.env)]) æa._auto_1) :
 PI X tg (.Call (.Name "range" p) [a,b] [] pos) (sZ ta):=by
 intro pins s σ H R I h;refine Call_ (fR I hg hm boot_range (AD (wE (ha pos pins s σ H _ I h) fun us s1 ⟨vs,H1,I1,r1,q1⟩=>?_) (by rw[hs,hs2]) (by rw[hs2];rfl)));obtain⟨i,j,e,⟨q1,q2,q3,q4⟩,q⟩:=q1;subst e
 cases r1 with
 | cons r rr =>
   cases rr with
   | cons r' rr =>
     cases rr;obtain⟨t,rfl⟩:=r;obtain⟨t',rfl⟩:=r';exact call_range_2 (g7 I1 q1 q2 q3 q4 q)
noncomputable def vz(wi:TI)(g:TG)(tb:TS):TS:=fun D σ H=>wi σ H fun J H1=>∃W:Nat->Nat->St->Hp->Prop,(∃m,W 0 m σ H1)/\∀i m σ H,W i m σ H ->
 (J.stop i H/\D.nx σ H)\/(J.go i H/\∃N:St->Hp->Prop,(∀σ' H',N σ' H'->∃m',m'<m/\W (i+1) m' σ' H')/\∀x H',J.yld i H x H'->g x σ H' fun σ2 H2=>tb {D with nx:=N,ct:=N,bk:=D.nx} σ2 H2)
noncomputable def fM(fp:List Addr)(h:Heap):List (Addr×Obj):=fp.filterMap fun b=>(h.get? b).map fun o=>(b,o)
theorem b4{b:Addr}(hb:b∈fp)(e:h.get? b=some o):(b,o)∈fM fp h:=BB.mpr ⟨b,hb,by rw[e];rfl⟩
theorem jM{p:Addr×Obj}(hp:p∈fM fp h):p.1∈fp/\h.get? p.1=some p.2:=by
 obtain⟨b,hb,e⟩:=BB.mp hp
 cases q:h.get? b with
 | none=>rw[q]at e;cases e
 | some o =>
   rw[q]at e;have e':(b,o)=p:=zg e;subst e';exact⟨hb,q⟩
theorem Inv.pinned{σ:St}{H:Hp}{s:yH}(I:Inv X pins σ H s)(hf:∀b∈fp,kC X pins H b)(ho:∀b∈fp,∃o,s.heap.get? b=some o/\∀v,o.data ≠ .cell v):Inv X (pins++fM fp s.heap) σ H s :=
 I.pins_of fun p hp=>(AX.mp hp).elim (fun z=>I.pin p (zi _ z)) fun z=>by
  obtain⟨hb,e⟩:=jM z;obtain⟨f0,f1,f2,_⟩:=hf p.1 hb;obtain⟨o,e',d⟩:=ho p.1 hb;rw[e]at e';cases e';exact⟨e,f0,f1,f2,d⟩
theorem Inv.unpinned{pl:List (Addr×Obj)}{σ:St}{H:Hp}{s:yH}(I:Inv X (pins++pl) σ H s):Inv X pins σ H s:=I.pins_of fun p hp=>I.pin p (zi _ (Bi _ hp))
theorem qh{iter:Expr}{body:List Stmt}{wi:TI}{g:TG}{tb:TS}(hp:Dc (zh X.prog X.w) X.A X.env X.xe)(hc:X.calm=true)(hi:PI X tg iter wi)(hg:PG X tg g)(hb:yd X body tb)
 (hs:autoParam (∀x,A8 iter X.env x=pure x) æc._auto_1):PS X (.For tg iter body [] pos) (vz wi g tb):=by
 intro pins s σ H D I h;refine wpAny_For (wE (hi pins s σ H _ I h) fun v s1 h1=>wE h1 fun itv s2 h2=>?_) hs;obtain⟨it,fp,tn,J,H2,e,I2,T,st2,f2,W,⟨m0,w0⟩,turn⟩:=h2;subst e;have stat:∀{H':Hp},(∀b∈fp,H' b=none)->∀b∈fp,kC X pins H' b:=fun hn b hb=>⟨hn b hb,(f2 b hb).2⟩;refine codeAny_forLoop_any (fun n s'=>∃i σ' H',Inv X pins σ' H' s'/\tn i s'.heap/\(∀b∈fp,H' b=none)/\W i n σ' H') ?_ m0 ⟨0,σ,H2,I2,st2,fun b hb=>(f2 b hb).1,w0⟩;rintro n s3 ⟨i,σ3,H3,I3,st3,fr3,w3⟩;rcases turn i n σ3 H3 w3 with⟨stop,qn⟩|⟨go,N,hN,step⟩
 · refine Af hp (wE (T.done X rfl rfl rfl hc i pins s3 σ3 H3 X.xe I3 (stat fr3) st3 stop) fun r s4 ⟨hr,I4⟩=>?_);subst hr;exact AY ⟨σ3,H3,I4,qn⟩
 · refine Af hp (wE (T.item X rfl rfl rfl hc i pins s3 σ3 H3 X.xe I3 (stat fr3) st3 go) fun r s4 ⟨u,hr,h4⟩=>?_);subst hr;refine Af hp (wE h4 fun _ s5 ⟨x,H5,I5,r5,y5,st5,fr5⟩=>?_);have I5':=I5.pinned (stat fr5) (T.obj _ _ st5);refine Af hp (wE (hg _ s5 σ3 H5 x u _ I5' r5 (step x H5 y5)) fun _ s6 ⟨σ6,H6,I6,q6⟩=>?_);refine Af hp (wE (hb _ s6 σ6 H6 _ I6 q6) fun f s7 q7=>?_)
   have again:∀{σ7:St}{H7:Hp},Inv X (pins++fM fp s5.heap) σ7 H7 s7->N σ7 H7->∃m,m<n/\∃i σ' H',Inv X pins σ' H' s7/\tn i s7.heap/\(∀b∈fp,H' b=none)/\W i m σ' H':=fun{σ7 H7} I7 n7=>by
    obtain⟨m',hm,w7⟩:=hN σ7 H7 n7;refine⟨m',hm,i+1,σ7,H7,I7.unpinned,T.keep _ _ _ st5 fun b hb o e=>(I7.pin (b,o) (zi _ (zi _ (b4 hb e)))).1,fun b hb=>?_,w7⟩;obtain⟨o,e,d⟩:=T.obj _ _ st5 b hb;exact(I7.pin (b,o) (zi _ (zi _ (b4 hb e)))).2.1
   cases f with
   | next=>obtain⟨σ7,H7,I7,n7⟩:=q7;exact again I7 n7
   | cont=>obtain⟨σ7,H7,I7,n7⟩:=q7;exact again I7 n7
   | brk=>obtain⟨σ7,H7,I7,q7⟩:=q7;exact⟨σ7,H7,I7.unpinned,q7⟩
   | ret v=>obtain⟨x7,σ7,H7,I7,r7,q7⟩:=q7;exact⟨x7,σ7,H7,I7.unpinned,r7,q7⟩
end
abbrev R2:=V->V->Hp->VK->Prop
noncomputable def yk(X:Cx)(f:yG->yG->Sem yG)(r:R2):Prop :=
 ∀ (pins:List (Addr×Obj))(s:yH)(σ:St)(H:Hp)(x y:V)(v u:yG)(Q:VK),Inv X pins σ H s->RelV x v->RelV y u->r x y H Q ->
   zc (zh X.prog X.w) X.A (f v u) (EP X pins σ Q) X.xe s
noncomputable def xQ(X:Cx)(f:yG->Sem yG)(r:V->Hp->VK->Prop):Prop :=
 ∀ (pins:List (Addr×Obj))(s:yH)(σ:St)(H:Hp)(x:V)(v:yG)(Q:VK),Inv X pins σ H s->RelV x v->r x H Q ->
   zc (zh X.prog X.w) X.A (f v) (EP X pins σ Q) X.xe s
noncomputable def cS(X:Cx)(f:yG)(r:List V->Hp->VK->Prop):Prop :=
 ∀ (pins:List (Addr×Obj))(s:yH)(σ:St)(H:Hp)(xs:List V)(us:List yG)(Q:VK),Inv X pins σ H s->br xs us->r xs H Q ->
   zc (zh X.prog X.w) X.A (call f us) (EP X pins σ Q) X.xe s
noncomputable def wI(r:R2)(ta tb:TE):TE:=fun σ H Q=>ta σ H fun x H1=>tb σ H1 fun y H2=>r x y H2 Q
noncomputable def wF(r:V->Hp->VK->Prop)(ta:TE):TE:=fun σ H Q=>ta σ H fun x H1=>r x H1 Q
noncomputable def rI(C:Int->Int->Prop)(g:Int->Int->V):R2:=fun x y H Q=>∃i j,x = .int i/\y = .int j/\C i j/\Q (g i j) H
noncomputable def wX(g:Int->Int->V):R2:=fun x y H Q=>∃i j,x = .int i/\y = .int j/\Q (g i j) H
noncomputable def rU(g:Int->V):V->Hp->VK->Prop:=fun x H Q=>∃i,x = .int i/\Q (g i) H
section
variable{X:Cx}{a b c:Expr}{ta tb tc:TE}{pos:Pos}
theorem tF(ha:PE X a ta)(hb:PE X b tb){s:yH}{σ:St}{H:Hp}{R:V->V->Hp->Prop}(I:Inv X pins σ H s)
 (h:ta σ H fun x H1=>tb σ H1 fun y H2=>R x y H2){Q:yG->yH->Prop}{f:yG->yG->Sem yG}
 (hf:∀v u s2 x y H2,Inv X pins σ H2 s2->RelV x v->RelV y u->R x y H2->zc (zh X.prog X.w) X.A (f v u) Q X.xe s2) :
 zc (zh X.prog X.w) X.A (eval a X.env) (fun v s₁=>zc (zh X.prog X.w) X.A (eval b X.env) (fun u s₂=>zc (zh X.prog X.w) X.A (f v u) Q X.xe s₂) X.xe s₁) X.xe s:=by
 refine wE (ha pins s σ H _ I h) fun v s1 ⟨x,H1,I1,r1,q1⟩=>?_;refine wE (hb pins s1 σ H1 _ I1 q1) fun u s2 ⟨y,H2,I2,r2,q2⟩=>?_;exact hf v u s2 x y H2 I2 r1 r2 q2
theorem bK{op:Operator}{r:R2}(ho:yk X (BC op) r)(ha:PE X a ta)(hb:PE X b tb):PE X (.BinOp a op b pos) (wI r ta tb):=by
 intro pins s σ H Q I h;exact wpAny_BinOp (tF ha hb I h fun v u s2 x y H2 I2 rx ry q=>ho pins s2 σ H2 x y v u Q I2 rx ry q)
theorem sT{op:UnaryOp}{r:V->Hp->VK->Prop}(ho:xQ X (unaryOp op) r)(ha:PE X a ta):PE X (.UnaryOp op a pos) (wF r ta):=by
 intro pins s σ H Q I h;exact UnaryOp_ (wE (ha pins s σ H _ I h) fun v s1 ⟨x,H1,I1,r1,q1⟩=>ho pins s1 σ H1 x v Q I1 r1 q1)
theorem xg{f:yG->yG->Sem yG}{C:Int->Int->Prop}{g:Int->Int->Int}
 (rule:∀(i j:Int)(t u:Tok)(s:yH)(Q:yG->yH->Prop)(E:yG->yH->Prop),C i j->Q (.int (g i j) s.toks) {s with toks:=s.toks+1}->zc (zh X.prog X.w) X.A (f (.int i t) (.int j u)) Q E s) :
 yk X f (rI C fun i j=>.int (g i j)):=by
 intro pins s σ H x y v u Q I rx ry h;obtain⟨i,j,rfl,rfl,hc,q⟩:=h;obtain⟨t,rfl⟩:=rx;obtain⟨t',rfl⟩:=ry;exact rule i j t t' s _ _ hc ⟨.int (g i j),H,I.tok _,⟨_,rfl⟩,q⟩
theorem uS{f:yG->yG->Sem yG}{g:Int->Int->Int}
 (rule:∀(i j:Int)(t u:Tok)(s:yH)(Q:yG->yH->Prop)(E:yG->yH->Prop),Q (.int (g i j) s.toks) {s with toks:=s.toks+1}->zc (zh X.prog X.w) X.A (f (.int i t) (.int j u)) Q E s) :
 yk X f (wX fun i j=>.int (g i j)):=by
 intro pins s σ H x y v u Q I rx ry h;obtain⟨i,j,rfl,rfl,q⟩:=h;obtain⟨t,rfl⟩:=rx;obtain⟨t',rfl⟩:=ry;exact rule i j t t' s _ _ ⟨.int (g i j),H,I.tok _,⟨_,rfl⟩,q⟩
theorem rJ{f:yG->yG->Sem yG}{g:Int->Int->Bool}
 (rule:∀(i j:Int)(t u:Tok)(s:yH)(Q:yG->yH->Prop)(E:yG->yH->Prop),Q (.bool (g i j)) s->zc (zh X.prog X.w) X.A (f (.int i t) (.int j u)) Q E s) :
 yk X f (wX fun i j=>.bl (g i j)):=by
 intro pins s σ H x y v u Q I rx ry h;obtain⟨i,j,rfl,rfl,q⟩:=h;obtain⟨t,rfl⟩:=rx;obtain⟨t',rfl⟩:=ry;exact rule i j t t' s _ _ ⟨.bl (g i j),H,I,rfl,q⟩
noncomputable def tN(i j:Int):Prop:=0<=j/\j<=1000000/\i.natAbs<2^64
theorem dQ:yk X (BC .Add) (wX fun i j=>.int (i+j)):=uS fun _ _ _ _ _ _ _ q=>add_int q
theorem qr:yk X (BC .Sub) (wX fun i j=>.int (i-j)):=uS fun _ _ _ _ _ _ _ q=>sub_int q
theorem bU:yk X (BC .Mod) (rI (fun _ j=>j≠0) fun i j=>.int (i.fmod j)):=xg fun _ _ _ _ _ _ _ hc q=>mod_int' hc q
theorem l4:yk X (BC .Pow) (rI tN fun i j=>.int (i^j.toNat)):=xg fun _ _ _ _ _ _ _ hc q=>pow_int_small hc.1 hc.2.1 hc.2.2 q
theorem wz{f:yG->Sem yG}{g:Int->Int}
 (rule:∀(i:Int)(t:Tok)(s:yH)(Q:yG->yH->Prop)(E:yG->yH->Prop),Q (.int (g i) s.toks) {s with toks:=s.toks+1}->zc (zh X.prog X.w) X.A (f (.int i t)) Q E s) :
 xQ X f (rU fun i=>.int (g i)):=by
 intro pins s σ H x v Q I rx h;obtain⟨i,rfl,q⟩:=h;obtain⟨t,rfl⟩:=rx;exact rule i t s _ _ ⟨.int (g i),H,I.tok _,⟨_,rfl⟩,q⟩
theorem pC:xQ X (unaryOp .USub) (rU fun i=>.int (-i)):=wz fun _ _ _ _ _ q=>neg_int q
end
noncomputable def vB:V->V->Bool
 | .non,.non=>true | .non,.int _=>true | .int _,.non=>true | .non,.bl _=>true | .bl _,.non=>true | .non,.str _=>true | .str _,.non=>true
 | .int _,.int _=>true | .bl _,.bl _=>true | .str _,.str _=>true | .byt _,.byt _=>true
 | .int _,.str _=>true | .str _,.int _=>true | .bl _,.str _=>true | .str _,.bl _=>true
 | _,_=>false
noncomputable def wY:R2:=fun x y H Q=>vB x y=true/\Q (.bl (decide (x=y))) H
theorem oo{i j:Int}:decide (V.int i=V.int j)=(i==j):=by
 rw[AZ];simp
theorem rj{i j:Bool}:decide (V.bl i=V.bl j)=(i==j):=by
 rw[AZ];simp
theorem om{i j:Str}:decide (V.str i=V.str j)=(i==j):=by
 rw[AZ];simp
theorem oq{i j:Array UInt8}:decide (V.byt i=V.byt j)=(i.toList==j.toList):=by
 rw[AZ];cases i;cases j;simp
section
variable{X:Cx}{a b c:Expr}{ta tb tc:TE}{pos:Pos}
theorem bo{σ:St}{H:Hp}{s:yH}{Q:VK}{k k':Bool}(I:Inv X pins σ H s)(q:Q (.bl k) H)(e:k=k'):EP X pins σ Q (.bool k') s:=by
 subst e;exact⟨.bl k,H,I,rfl,q⟩
theorem qv:yk X (zK .Eq) wY:=by
 intro pins s σ H x y v u Q I rx ry h;obtain⟨hs,q⟩:=h
 cases x with
 | non =>
   cases rx
   cases y with
   | non=>cases ry;exact PySem.EqNone.eq_none_none (bo I q (by simp))
   | bl j=>cases ry;exact PySem.EqNone.eq_none_bool (bo I q (by simp))
   | int j=>obtain⟨t',rfl⟩:=ry;exact PySem.EqNone.eq_none_int (bo I q (by simp))
   | str j=>obtain⟨t',rfl⟩:=ry;exact PySem.EqNone.eq_none_str (bo I q (by simp))
   | _=>exact absurd (show false=true from hs) zy
 | bl i =>
   cases rx
   cases y with
   | non=>cases ry;exact PySem.EqNone.eq_bool_none (bo I q (by simp))
   | bl j=>cases ry;exact eq_bool (bo I q rj)
   | str j=>obtain⟨t',rfl⟩:=ry;exact PySem.EqMixed.eq_bool_str (bo I q (by simp))
   | _=>exact absurd (show false=true from hs) zy
 | int i =>
   obtain⟨t,rfl⟩:=rx
   cases y with
   | non=>cases ry;exact PySem.EqNone.eq_int_none (bo I q (by simp))
   | int j=>obtain⟨t',rfl⟩:=ry;exact eq_int (bo I q oo)
   | str j=>obtain⟨t',rfl⟩:=ry;exact PySem.EqMixed.eq_int_str (bo I q (by simp))
   | _=>exact absurd (show false=true from hs) zy
 | str i =>
   obtain⟨t,rfl⟩:=rx
   cases y with
   | non=>cases ry;exact PySem.EqNone.eq_str_none (bo I q (by simp))
   | bl j=>cases ry;exact PySem.EqMixed.eq_str_bool (bo I q (by simp))
   | int j=>obtain⟨t',rfl⟩:=ry;exact PySem.EqMixed.eq_str_int (bo I q (by simp))
   | str j=>obtain⟨t',rfl⟩:=ry;exact eq_str (bo I q om)
   | _=>exact absurd (show false=true from hs) zy
 | byt i =>
   obtain⟨t,rfl⟩:=rx
   cases y with
   | byt j=>obtain⟨t',rfl⟩:=ry;exact W.eq_bytes (bo I q oq)
   | _=>exact absurd (show false=true from hs) zy
 | _=>cases y<;>exact absurd (show false=true from hs) zy
theorem fO:yk X (zK .Lt) (wX fun i j=>.bl (decide (i<j))):=rJ fun _ _ _ _ _ _ _ q=>lt_int q
theorem sV:yk X (zK .LtE) (wX fun i j=>.bl (decide (i<=j))):=rJ fun _ _ _ _ _ _ _ q=>le_int q
theorem kZ:yk X (zK .Gt) (wX fun i j=>.bl (decide (j<i))):=rJ fun _ _ _ _ _ _ _ q=>gt_int q
theorem sW:yk X (zK .GtE) (wX fun i j=>.bl (decide (j<=i))):=rJ fun _ _ _ _ _ _ _ q=>ge_int q
theorem qt:yk X (zK .Is) (fun x y H Q=>y = .non/\Q (.bl (decide (x = .non))) H):=by
 intro pins s σ H x y v u Q I rx ry h;obtain⟨rfl,q⟩:=h;cases ry;refine is_none_gen (bo I q ?_)
 cases x<;>first
  | (cases rx;rfl)
  | (obtain⟨t,rfl⟩:=rx;rfl)
theorem aL(b:Expr)(h:autoParam (op ≠ .In) æb._auto_1)(h2:autoParam (op ≠ .NotIn) æb._auto_1):A0 op b=false:=by
 have e1:(op==Dm.In)=false:=by cases op<;>first|rfl|exact absurd rfl h
 have e2:(op==Dm.NotIn)=false:=by cases op<;>first|rfl|exact absurd rfl h2
 cases b<;>simp[A0,e1,e2]
theorem nJ{r:R2}(ho:yk X (zK op) r)(ha:PE X a ta)(hb:PE X b tb)(hm:A0 op b=false):PE X (.Compare a [op] [b] pos) (wI r ta tb):=by
 intro pins s σ H Q I h;exact wpAny_Compare1 (tF ha hb I h fun v u s2 x y H2 I2 rx ry q=>ho pins s2 σ H2 x y v u Q I2 rx ry q) hm
noncomputable def pI(t:TE):TT:=fun σ H Q=>t σ H fun x H'=>∃k,x = .bl k/\Q k H'
theorem cp{r:R2}(ho:yk X (zK op) r)(ha:PE X a ta)(hb:PE X b tb)(hm:A0 op b=false):PT X (.Compare a [op] [b] pos) (pI (wI r ta tb)):=by
 intro pins s σ H Q I h
 refine wpAny_isTrue_Compare1 (wE (ha pins s σ H _ I h) fun v s1 ⟨x,H1,I1,r1,q1⟩=>wE (hb pins s1 σ H1 _ I1 q1) fun u s2 ⟨y,H2,I2,r2,q2⟩ =>
  wE (ho pins s2 σ H2 x y v u _ I2 r1 r2 q2) fun c s3 ⟨z,H3,I3,r3,k,e,q3⟩=>?_) hm
 subst e;cases r3;exact zP ⟨H3,I3,q3⟩
noncomputable def lS(r r':R2)(ta tb tc:TE):TE:=fun σ H Q=>ta σ H fun x H1=>tb σ H1 fun y H2=>r x y H2 fun z H3=>∃k,z = .bl k /\
 (if k=true then tc σ H3 fun w' H4=>r' y w' H4 Q else Q (.bl false) H3)
theorem kX{op':Dm}{r r':R2}(ho:yk X (zK op) r)(ho':yk X (zK op') r')(ha:PE X a ta)(hb:PE X b tb)(hc:PE X c tc)
 (hm:autoParam (Dd [op,op'] [b,c]=false) æh._auto_1):PE X (.Compare a [op,op'] [b,c] pos) (lS r r' ta tb tc):=by
 intro pins s σ H Q I h
 refine Compare_chain (wE (ha pins s σ H _ I h) fun v s1 ⟨x,H1,I1,r1,q1⟩=>chain_link (wE (hb pins s1 σ H1 _ I1 q1) fun u s2 ⟨y,H2,I2,r2,q2⟩ =>
  wE (ho pins s2 σ H2 x y v u _ I2 r1 r2 q2) fun d s3 ⟨z,H3,I3,r3,k,e,q3⟩=>?_)) hm
 subst e;cases r3;refine zP ?_
 cases k with
 | false=>exact ite_ff ⟨.bl false,H3,I3,rfl,q3⟩
 | true=>exact ite_tt (chain_last (wE (hc pins s3 σ H3 _ I3 q3) fun w' s4 ⟨z',H4,I4,r4,q4⟩=>ho' pins s4 σ H4 y z' u w' Q I4 r2 r4 q4))
theorem kQ{op':Dm}{r r':R2}(ho:yk X (zK op) r)(ho':yk X (zK op') r')(ha:PE X a ta)(hb:PE X b tb)(hc:PE X c tc)
 (hm:autoParam (Dd [op,op'] [b,c]=false) æh._auto_1):PT X (.Compare a [op,op'] [b,c] pos) (pI (lS r r' ta tb tc)):=by
 intro pins s σ H Q I h
 refine isTrue_chain (wE (ha pins s σ H _ I h) fun v s1 ⟨x,H1,I1,r1,q1⟩=>test_link (wE (hb pins s1 σ H1 _ I1 q1) fun u s2 ⟨y,H2,I2,r2,q2⟩ =>
  wE (ho pins s2 σ H2 x y v u _ I2 r1 r2 q2) fun d s3 ⟨z,H3,I3,r3,k,e,q3⟩=>?_)) hm
 subst e;cases r3;refine zP ?_
 cases k with
 | false =>
   obtain⟨k',e',q'⟩:=q3;cases e'
   exact ite_ff ⟨H3,I3,q'⟩
 | true =>
   refine ite_tt (test_last (wE (hc pins s3 σ H3 _ I3 q3) fun w' s4 ⟨z',H4,I4,r4,q4⟩=>wE (ho' pins s4 σ H4 y z' u w' _ I4 r2 r4 q4) fun d' s5 ⟨z2,H5,I5,r5,k2,e2,q5⟩=>?_));subst e2;cases r5;exact zP ⟨H5,I5,q5⟩
theorem fQ:(sizeLine:Nat)<2^63:=by rw[CL];decide
theorem vals1{x:V}{us:List yG}(r:br [x] us):∃u,us=[u]/\RelV x u:=by
 cases r with
 | cons r1 r2=>cases r2;exact⟨_,rfl,r1⟩
theorem vals2{x y:V}{us:List yG}(r:br [x,y] us):∃u w',us=[u,w']/\RelV x u/\RelV y w':=by
 cases r with
 | cons r1 r2 =>
   cases r2 with
   | cons r3 r4=>cases r4;exact⟨_,_,rfl,r1,r3⟩
theorem eN:cS X (.builtin "abs") (fun xs H Q=>∃i,xs=[.int i]/\Q (.int (if i<0 then -i else i)) H):=by
 intro pins s σ H xs us Q I r h;obtain⟨i,rfl,q⟩:=h;obtain⟨u,rfl,t,rfl⟩:=vals1 r;exact call_abs_int fun u tk=>⟨.int (if i<0 then -i else i),H,I.tok _,⟨_,rfl⟩,q⟩
theorem kr(hc:X.calm=true):cS X (.builtin "max") (fun xs H Q=>∃i j,xs=[.int i,.int j]/\Q (.int (if j>i then j else i)) H):=by
 intro pins s σ H xs us Q I r h;obtain⟨i,j,rfl,q⟩:=h;obtain⟨u,w',rfl,⟨t,rfl⟩,⟨t',rfl⟩⟩:=vals2 r;refine max_two_ints (I.ok.hd hc) fun h' tk k=>⟨_,H,I.kept k,?_,q⟩;by_cases hj:j>i
 · rw[if_pos hj,if_pos hj];exact⟨_,rfl⟩
 · rw[if_neg hj,if_neg hj];exact⟨_,rfl⟩
theorem ko(hc:X.calm=true):cS X (.builtin "min") (fun xs H Q=>∃i j,xs=[.int i,.int j]/\Q (.int (if j<i then j else i)) H):=by
 intro pins s σ H xs us Q I r h;obtain⟨i,j,rfl,q⟩:=h;obtain⟨u,w',rfl,⟨t,rfl⟩,⟨t',rfl⟩⟩:=vals2 r;refine min_two_ints (I.ok.hd hc) fun h' tk k=>⟨_,H,I.kept k,?_,q⟩;by_cases hj:j<i
 · rw[if_pos hj,if_pos hj];exact⟨_,rfl⟩
 · rw[if_neg hj,if_neg hj];exact⟨_,rfl⟩
end
theorem jS{dx:Addr}{mA:Str->Option yG}(n:h.Ns1 dx mA):∃od,h.get? dx=some od/\∀name,W.lookIn name od=some (mA name):=by
 obtain⟨o,es,ep,ho,hd,hk,_,hm⟩:=n;refine⟨o,ho,fun name=>?_⟩;have e:=hm name;unfold nsFind findBy at e;rw[<- Array.find?_toList]at e;unfold W.lookIn;rw[hd];dsimp only;split
 · rename_i y q;rw[q]at e;exact congrArg some e
 · rename_i q;rw[q]at e
   have a:es.toList.any (·.refKey)=false:=by
    rw[List.any_eq_false];intro y hy;obtain⟨z,t,hkey⟩:=hk y (Array.mem_toList_iff.mp hy);simp[DictEntry.refKey,hkey]
   have a':¬es.toList.any (·.refKey)=true:=by rw[a];exact zy
   rw[if_neg a'];exact congrArg some e
section
variable{prog:yT}{w:zp}{A:zd}{E:yG->yH->Prop}{s:yH}{K:W.Frag}{x dx C f:Addr}{mA:Str->Option yG}{name:Str}{v:yG}
end
theorem tJ.some_of{v:V}{o:Option yG}(r:tJ (some v) o):∃u,o=some u/\RelV v u:=by
 cases o with
 | none=>exact(show False from r).elim
 | some u=>exact⟨u,rfl,r⟩
theorem j7{v:V}{u:yG}(r:RelV v u):W.handedIn u=true:=by
 cases v with
 | non=>cases(show u=zq from r);rfl
 | bl b=>cases(show u=Bm b from r);rfl
 | int i=>obtain⟨t,e⟩:=(show ∃t,u=AK i t from r);cases e;rfl
 | str x=>obtain⟨t,e⟩:=(show ∃t,u=CY x t from r);cases e;rfl
 | byt b=>obtain⟨t,e⟩:=(show ∃t,u=yG.bytes b t from r);cases e;rfl
 | flt b=>obtain⟨t,e⟩:=(show ∃t,u=yG.float b t from r);cases e;rfl
 | ref a=>cases(show u=zu a from r);rfl
 | ty n=>cases(show u=Cz n from r);rfl
section
variable{P:yT}{w:zp}{H H':Hp}{h h':Heap}{a C dx:Addr}{fs fs':List (Str×V)}
end
noncomputable def bi(K:W.Frag)(C:Addr)(f:Str):Prop:=W.findIn K (.ref C) f=some none
section
variable{X:Cx}{pins:List (Addr×Obj)}{σ:St}{H:Hp}{s:yH}{a C dx:Addr}{fs:List (Str×V)}{f:Str}{v:V}{A:zd}{E:yG->yH->Prop}
theorem oz{prog:yT}{w:zp}{env:Env}{f:Str}{s:yH}{Q:yG->yH->Prop}(hb:A1 e f env (eval e env)=eval e env)
 (h:zc (zh prog w) A (eval e env) (fun o s₁=>zc (zh prog w) A (getAttr o f true) Q E s₁) E s):zc (zh prog w) A (eval (.Attribute e f pos) env) Q E s :=
 Attribute_any_ h (by rw[arm_eval_Attribute,hb])
end
section
variable{X:Cx}{o e value:Expr}{f:Str}{pos pos' tpos:Pos}{ta tv:TE}
end
section
variable{X:Cx}{pins:List (Addr×Obj)}{σ:St}{H:Hp}{s:yH}{A:zd}{E:yG->yH->Prop}{Q:yG->yH->Prop}{c:yG}{b:Bool}
end
structure Room (k:Nat) (A:zd):Prop where
 hd:A.handled=none
 dp:A.depth+3*k+5<recursionLimit
 un:A.units+16*k+200<cLine
 gd:A.guards=some []
theorem Room.mono{A:zd}(r:Room k A)(h:j<=k):Room j A:=⟨r.hd,by have:=r.dp;omega,by have:=r.un;omega,r.gd⟩
theorem Room.deeper{A:zd}(r:Room (k+1) A)(env:Env):Room k (A.deeper env) :=
 ⟨r.hd,by have:=r.dp;show A.depth+1+3*k+5<_;omega,by have:=r.un;show A.units+3+16*k+200<_;omega,r.gd⟩
theorem iP{A:zd}{us:List yG}{kw:List (Str×yG)}:(A.under (.builtin "type.__call__" ⟨.ref C::us,kw⟩)).depth=A.depth+1:=by
 first|rfl|simp[Cd,Code.weight,Code.isCreation,Code.isGuard,Code.isCaller,Code.frames,C5,guardIds]
theorem iO{A:zd}{us:List yG}{kw:List (Str×yG)}:(A.under (.builtin "type.__call__" ⟨.ref C::us,kw⟩)).units=A.units+1:=by
 first|rfl|simp[Cd,Code.cUnits,Code.frames,C5]
theorem Room.make{A:zd}(r:Room (k+1) A)(C:Addr)(us:List yG)(kw:List (Str×yG)):Room k (A.under (.builtin "type.__call__" ⟨.ref C::us,kw⟩)) :=
 ⟨r.hd,by have:=r.dp;rw[iP];omega,by have:=r.un;rw[iO];omega,by first|exact r.gd|(have:=r.gd;simp[Cd,Code.guards,Code.isGuard,guardIds,pushGuards,this])⟩
theorem Room.depth{A:zd}(r:Room k A):A.depth<recursionLimit:=by have:=r.dp;omega
theorem Room.units{A:zd}(r:Room k A):A.units+64<cLine:=by have:=r.un;omega
noncomputable def vt:TA:=fun _ H Q=>Q [] H
noncomputable def sI(ta:TE)(tr:TA):TA:=fun σ H Q=>ta σ H fun x H1=>tr σ H1 fun xs H2=>Q (x::xs) H2
section
variable{X:Cx}{e:Expr}{es:List Expr}{te:TE}{t:TA}{pos:Pos}
theorem cL:PA X [] vt:=fun _ _ _ _ H Q I h=>Calls.spliced_nil ⟨[],H,I,.nil,h⟩
theorem bw(ha:PE X e te)(hr:PA X es t)(hs:autoParam (yM (e::es) X.env=(false,eval e X.env)::yM es X.env) æa._auto_1):PA X (e::es) (sI te t):=by
 intro pos pins s σ H Q I h;rw[hs];show zc _ _ (spliced ((false,eval e X.env)::Ae pos (yM es X.env))) _ _ s;refine Calls.spliced_cons (wE (ha pins s σ H _ I h) fun u s1 ⟨x,H1,I1,r1,q1⟩=>?_);exact wE (hr pos pins s1 σ H1 _ I1 q1) fun us s2 ⟨xs,H2,I2,r2,q2⟩=>⟨x::xs,H2,I2,.cons r1 r2,q2⟩
noncomputable def vj(t:TA):TE:=fun σ H Q=>t σ H fun xs H1=>xs.length<=sizeLine/\∀p,H1 p=none->Q (.ref p) (upd H1 p (.tup xs))
noncomputable def vw(t:TA):TE:=fun σ H Q=>t σ H fun xs H1=>xs.length<=sizeLine/\∀p,H1 p=none->Q (.ref p) (upd H1 p (.lst xs))
theorem qk{x1}(h:PA X es t):PE X (.Tuple es x1 pos) (vj t):=by
 intro pins s σ H Q I hq;refine wpAny_Tuple_spliced (wE (h pos pins s σ H _ I hq) fun us s1 ⟨xs,H1,I1,r,z,q⟩=>⟨by rw[<- r.length];exact z,?_⟩);have hf:H1 s1.heap.objs.size=none:=I1.hok.fresh (y7 _);refine⟨.ref s1.heap.objs.size,upd H1 s1.heap.objs.size (.tup xs),I1.laid (t':=s1.toks) (fun b u e=>yI _ e) (y7 _) ?_,rfl,q _ hf⟩;exact⟨z,us,r,kB.new _ _⟩
theorem l0(h:PA X es t):PE X (.List es pos) (vw t):=by
 intro pins s σ H Q I hq;refine wpAny_List_spliced (wE (h pos pins s σ H _ I hq) fun us s1 ⟨xs,H1,I1,r,z,q⟩=>⟨by rw[<- r.length];exact z,?_⟩);have hf:H1 s1.heap.objs.size=none:=I1.hok.fresh (y7 _);refine⟨.ref s1.heap.objs.size,upd H1 s1.heap.objs.size (.lst xs),I1.laid (t':=s1.toks) (fun b u e=>yI _ e) (y7 _) ?_,rfl,q _ hf⟩;exact⟨z,us,0,r,zj _ rfl⟩
end
abbrev Sp:=List V->Hp->VK->XK->Prop
abbrev yy:=List Env->Hp->yH->XK->yG->yH->Prop
structure Env0 (P:yT) (w:zp) (K:W.Frag) (mg:Str->Option yG) (base:Heap) (A:zd) (outer:List Env) (s:yH) (H:Hp):Prop where
 frames:A.frames=some outer
 mod:Mod K mg base
 bs:∀b o,base.get? b=some o->s.heap.get? b=some o/\H b=none
 bsz:base.objs.size<=s.heap.objs.size
 funs:s.heap.FunFrames base outer
 frf:∀b∈frs outer,H b=none
 hok:yx P w H s.heap
 bare:BR s.gens
noncomputable def CE(outer:List Env)(P:yT)(w:zp)(H:Hp)(s:yH)(Q:VK)(u:yG)(s':yH):Prop :=
 ∃v H',s'.os=s.os/\BR s'.gens/\Un (frs outer) [] H H' s.heap s'.heap/\yx P w H' s'.heap/\RelV v u/\Q v H'
noncomputable def CR(CX:yy)(outer:List Env)(P:yT)(w:zp)(H:Hp)(s:yH)(Q:VK)(E:XK)(r:Result)(s':yH):Prop :=
 match r with
 | .ok (.ret u)=>CE outer P w H s Q u s'
 | .ok _=>False
 | .error e=>CX outer H s E e s'
structure FnOk (P:yT) (w:zp) (K:W.Frag) (mg:Str->Option yG) (base:Heap) (CX:yy) (k:Nat) (f:Addr) (fd:z5) (ps:List Str) (sp:Sp):Prop where
 len:∀vs H Q E,sp vs H Q E->vs.length=ps.length
 run:∀(A:zd)(outer:List Env)(s:yH)(H:Hp)(args:Args)(us:List yG)(vs:List V)(Q:VK)(E:XK),Room k A->Env0 P w K mg base A outer s H->Df s fd args (ps.zip us)->br vs us->sp vs H Q E ->
  BV (zh P w) A (.call (.ref f) args) (CR CX outer P w H s Q E) s
theorem Env0.make{P:yT}{w:zp}{K:W.Frag}{mg:Str->Option yG}{A:zd}{outer:List Env}{s:yH}{H:Hp}(e:Env0 P w K mg base A outer s H)(C:Addr)(us:List yG)(kw:List (Str×yG)) :
 Env0 P w K mg base (A.under (.builtin "type.__call__" ⟨.ref C::us,kw⟩)) outer s H:=⟨by first|exact e.frames|(simpa[Cd,Code.envs,C5,pushEnvs]using e.frames),e.mod,e.bs,e.bsz,e.funs,e.frf,e.hok,e.bare⟩
section
variable{X:Cx}{pins:List (Addr×Obj)}{σ:St}{H:Hp}{s s':yH}
theorem Inv.env0(I:Inv X pins σ H s):Env0 X.prog X.w X.K X.mg X.base X.A X.stack s H :=
 ⟨I.ok.frames,I.ok.mod,I.bs,zx I.ok.bsz I.sz,I.stack,I.stkFree,I.hok,I.bare⟩
theorem Inv.after{Q:VK}{u:yG}(I:Inv X pins σ H s)(h:CE X.stack X.prog X.w H s Q u s'):EP X pins σ Q u s':=by
 obtain⟨v,H',os,bare,un,hok,r,q⟩:=h;obtain⟨hh,g,d,t,os'⟩:=s';obtain rfl:os'=s.os:=os;exact⟨v,H',I.call (h':=hh) (g':=g) (d':=d) (t':=t) (ch:=[]) un hok bare (fun b z=>absurd z (by simp)),r,q⟩
end
noncomputable def sJ(sp:Sp)(dvs:List V)(E:XK)(t:TA):TE:=fun σ H Q=>t σ H fun vs H1=>sp (vs++dvs) H1 Q E
noncomputable def Binds(K:W.Frag)(fd:z5)(ps:List Str)(ds:List yG):Prop :=
 ∀(s:yH)(us:List yG),K.In s.heap->(us++ds).length=ps.length->Df s fd ⟨us,[]⟩ (ps.zip (us++ds))
theorem Binds.all{K:W.Frag}{fd:z5}(h:∀us:List yG,us.length=ps.length->bindArgs fd ⟨us,[]⟩=pure (ps.zip us)):Binds K fd ps []:=fun s us _ hl=>by
 rw[Ag]at hl ⊢;exact .of_eq (h us hl)
noncomputable def d0(CX:yy)(X:Cx)(E:XK):Prop:=∀(pins:List (Addr×Obj))(σ:St)(H:Hp)(s:yH)(e:yG)(s':yH),Inv X pins σ H s->CX X.stack H s E e s'->X.xe e s'
section
variable{X:Cx}{CX:yy}{k:Nat}{f C:Addr}{fd:z5}{ps:List Str}{sp:Sp}{dvs:List V}{ds:List yG}{E:XK}{x m:Str}{p pos apos:Pos}{e o:Expr}{es:List Expr}{ta:TE}{t:TA}
theorem pW{σ:St}{H:Hp}{s:yH}{Q:VK}{us:List yG}{vs:List V}(F:FnOk X.prog X.w X.K X.mg X.base CX k f fd ps sp)(hr:Room k X.A)(hb:Binds X.K fd ps ds)(hd:br dvs ds)(hx:d0 CX X E)
 (I:Inv X pins σ H s)(r:br vs us)(h:sp (vs++dvs) H Q E):zc (zh X.prog X.w) X.A (call (.ref f) us) (EP X pins σ Q) X.xe s:=by
 have r2:br (vs++dvs) (us++ds):=r.append hd;have hl:(us++ds).length=ps.length:=by rw[<- r2.length];exact F.len _ _ _ _ h
 refine wpAny_call (BD (F.run X.A X.stack s H ⟨us,[]⟩ (us++ds) (vs++dvs) Q E hr I.env0 (hb s us I.kIn hl) r2 h) fun r s' hq=>?_)
 cases r with
 | error e=>exact hx pins σ H s e s' I hq
 | ok fl =>
   cases fl with
   | ret u=>exact I.after hq
   | next=>exact zl hq
   | brk=>exact zl hq
   | cont=>exact zl hq
theorem gz(F:FnOk X.prog X.w X.K X.mg X.base CX k f fd ps sp)(hr:Room k X.A)(hg:Gl X x)(hm:X.mg x=some (.ref f))(hk:W.keepIn X.K (.ref f)=true)(hb:Binds X.K fd ps ds)(hd:br dvs ds)(hx:d0 CX X E)
 (ha:PA X (e::es) t)(hdb:autoParam ((x==("__debug__" : Str))=false) æb._auto_1)(he:autoParam (yM (e::es) X.env=(false,eval e X.env)::yM es X.env) æa._auto_1)(hpl:autoParam ((Ae pos (yM es X.env)).any (·.1)=false) æa._auto_1) :
 PE X (.Call (.Name x p) (e::es) [] pos) (sJ sp dvs E t):=by
 intro pins s σ H Q I h;refine A2 (eF I hg hm ?_ hdb);refine W.callWith_K (h₀:=X.base) I.ok.mod.kin hk (wE (ha pos pins s σ H _ I h) fun us s1 ⟨vs,H1,I1,r,q⟩=>⟨I1.kIn,?_⟩) he hpl;exact pW F hr hb hd hx I1 r q
end
section
variable{X:Cx}{CX:yy}{k:Nat}{f C:Addr}{fd:z5}{ps ks:List Str}{sp:Sp}{E:XK}{x m:Str}{p pos apos kpos:Pos}{e o:Expr}{es:List Expr}{kws:List Ce}{te ta:TE}{t tk:TA}{nm:Option Str}
variable{g:List yG->List yG->List yG}{gV:List V->List V->List V}
end
structure FnScope (N P:List Str) (sc:Scope):Prop where
 kind:sc.kind = .function
 co:sc.isCoroutine=false
 gen:sc.isGenerator=false
 nd:N.Nodup
 pre:N.take P.length=P
 par:∀x∈P,sc.names.lookup x=some .local\/sc.names.lookup x=some .cell
 nofree:∀y∈sc.names,y.2 ≠ .free
theorem gf{kindOf:Str->Option A3}{x:Str}:∀{binds:List (Str×yG)}{m:Str->Option yG},(∀v,(x,v)∉binds)->bindL kindOf binds m x=m x
 | [],_,_=>rfl
 | (n,v)::r,m,h=>by
   unfold bindL;rw[gf fun w hw=>h w (yR _ hw)];split
   · have:x≠n:=by rintro rfl;exact h v yY
     simp[this]
   · rfl
theorem gi{kindOf:Str->Option A3}{x:Str}:∀{binds:List (Str×yG)}{m:Str->Option yG},(∀v,(x,v)∉binds)->bindC kindOf binds m x=m x
 | [],_,_=>rfl
 | (n,v)::r,m,h=>by
   unfold bindC;rw[gi fun w hw=>h w (yR _ hw)];split
   · rfl
   · have:x≠n:=by rintro rfl;exact h v yY
     simp[this]
theorem gg{kindOf:Str->Option A3}{x:Str}{v:yG}:∀{P:List Str}{vs:List yG}{i:Nat}{m:Str->Option yG},P.Nodup->P[i]?=some x->vs[i]?=some v->kindOf x=some .local ->
 bindL kindOf (P.zip vs) m x=some v
 | [],_,_,_,_,h,_,_=>by simp at h
 | _::_,[],_,_,_,_,h,_=>by simp at h
 | p::P,w::vs,0,m,nd,h1,h2,hk=>by
   simp at h1 h2;subst h1;subst h2;show bindL kindOf ((p,w)::P.zip vs) m p=_;unfold bindL;rw[gf fun v hv=>(Bo.mp nd).1 (Cf hv).1,if_pos hk]
   simp
 | p::P,w::vs,i+1,m,nd,h1,h2,hk=>by
   show bindL kindOf ((p,w)::P.zip vs) m x=_;unfold bindL;exact gg (i:=i) (Bo.mp nd).2 (by simpa using h1) (by simpa using h2) hk
theorem gj{kindOf:Str->Option A3}{x:Str}{v:yG}:∀{P:List Str}{vs:List yG}{i:Nat}{m:Str->Option yG},P.Nodup->P[i]?=some x->vs[i]?=some v->kindOf x≠some .local ->
 bindC kindOf (P.zip vs) m x=some v
 | [],_,_,_,_,h,_,_=>by simp at h
 | _::_,[],_,_,_,_,h,_=>by simp at h
 | p::P,w::vs,0,m,nd,h1,h2,hk=>by
   simp at h1 h2;subst h1;subst h2;show bindC kindOf ((p,w)::P.zip vs) m p=_;unfold bindC;rw[gi fun v hv=>(Bo.mp nd).1 (Cf hv).1,if_neg hk]
   simp
 | p::P,w::vs,i+1,m,nd,h1,h2,hk=>by
   show bindC kindOf ((p,w)::P.zip vs) m x=_;unfold bindC;exact gj (i:=i) (Bo.mp nd).2 (by simpa using h1) (by simpa using h2) hk
noncomputable def start(N:List Str)(vs:List V):St:=vs.map some++zt (N.length-vs.length) none
noncomputable def gE(CX:yy)(P:yT)(w:zp)(K:W.Frag)(mg:Str->Option yG)(base:Heap)(N:List Str)(qual:Str)(scope:Scope)(f:Addr)(cd:yG)(A:zd)(outer:List Env)(s:yH)(H:Hp)(E:XK):Cx where
 prog:=P
 w:=w
 K:=K
 mg:=mg
 base:=base
 A:=A.deeper (Bp qual scope s.heap.objs.size f cd)
 N:=N
 s₀:=s
 H₀:=H
 env:=Bp qual scope s.heap.objs.size f cd
 outer:=outer
 stack:=Bp qual scope s.heap.objs.size f cd::outer
 ex:=[]
 calm:=true
 fn:=fun _=>true
 pn:=[]
 xe:=fun e s'=>zc (zh P w) (A.deeper (Bp qual scope s.heap.objs.size f cd)) (leaving (Bp qual scope s.heap.objs.size f cd) e) (fun _ s''=>CX outer H s E e s'') (fun e' s''=>CX outer H s E e' s'') s'
theorem io{sc:Scope}(h:sc.names.lookup x=some .cell):∃c,(zO n sc.names []).lookup x=some c:=by
 have q:=W.cellsFrom_some sc.names n [] (.inl h);exact Ah.mp q
theorem jV{CX:yy}{P:yT}{w:zp}{K:W.Frag}{mg:Str->Option yG}{cd:yG}{A:zd}{outer:List Env}{s s1:yH}{H:Hp}{E:XK}{us:List yG}{vs:List V}
 (S:FnScope N ps scope)(hd:A.handled=none)(e0:Env0 P w K mg base A outer s H)(hl:vs.length=ps.length)(r:br vs us)
 (x:InCallC s s.heap.objs.size (bindL (Bp qual scope s.heap.objs.size f cd).kindOf (ps.zip us) fun _=>none) (zO (s.heap.objs.size+1) scope.names []) (bindC (Bp qual scope s.heap.objs.size f cd).kindOf (ps.zip us) fun _=>none) s1) :
 Inv (gE CX P w K mg base N qual scope f cd A outer s H E) [] (start N vs) H s1:=by
 have hpl:ps.length<=N.length:=by have:=congrArg List.length S.pre;rw[List.length_take]at this;omega
 obtain⟨h1,tk,rfl,hk⟩:=x.done;have noA:∀b:Addr,b∉(gE CX P w K mg base N qual scope f cd A outer s H E).ex:=fun b z=>absurd (show b∈([]:List Addr)from z) (by simp)
 refine⟨⟨e0.mod,S.kind,rfl,rfl,y7 _,fun y z c h1 h2=>?_,fun y hy=>?_,fun y c _ h=>?_,fun _=>hd,zd.frames_deeper e0.frames,.inr ⟨rfl,rfl⟩,fun b z=>absurd z (noA b),e0.bs,e0.bsz,fun b _ _=>noA b,fun b z=>absurd z (noA b),e0.funs,e0.frf⟩,
  rfl,e0.bare,Un.kept hk,⟨_,x.toInCall.ns,fun i y v h1 h2 h3=>?_⟩,fun y c h=>⟨_,x.cell y c h⟩,e0.hok.fresh (y7 _),fun y c h=>?_,fun p hp=>absurd (show p∈([]:List (Addr×Obj))from hp) (by simp),e0.hok.kept hk,?_⟩
 · exact name_of_addr x.apart (zv h1) (zv h2)
 · have hy:scope.names.lookup y=some .cell\/scope.names.lookup y=some .free:=hy;rcases hy with hy|hy
   · exact io hy
   · exact absurd rfl (S.nofree _ (zv hy))
 · exact Ca (x.above y c (zv h))
 · have hi:i<vs.length:=by
     unfold start at h2;by_cases hi:i<vs.length
     · exact hi
     · rw[Bx (by simpa using hi)]at h2;rw[zN]at h2;split at h2<;>cases h2
   have ha:vs[i]?=some v:=by
    unfold start at h2;rw[AM (by simpa using hi),zB]at h2
    cases e:vs[i]? with
    | none=>rw[e]at h2;cases h2
    | some a=>rw[e]at h2;cases h2;rfl
   obtain⟨u,hu,rv⟩:=r.get ha
   have hp:ps[i]?=some y:=by
    rw[<- S.pre,List.getElem?_take_of_lt (by omega)];exact h1
   have ndP:ps.Nodup:=by rw[<- S.pre];exact S.nd.sublist (List.take_sublist _ _)
   refine⟨u,rv,?_⟩;rcases S.par y (CC hp)with k|k
   · exact .inl ⟨k,gg ndP hp hu k⟩
   · obtain⟨c,e⟩:=io (n:=s.heap.objs.size+1) k;refine .inr ⟨.inl k,c,e,?_⟩;have q:=x.cell y c e;rw[gj ndP hp hu (by show scope.names.lookup y≠_;rw[k];decide)]at q;exact q
 · exact e0.hok.fresh (Ca (x.above y c (zv h)))
 · unfold start;show _=N.length;rw[Ay,yV,List.length_replicate];omega
theorem q9{CX:yy}{P:yT}{w:zp}{K:W.Frag}{mg:Str->Option yG}{name:Str}{params:Arguments}{body:List Stmt}{dV kV doc pm cdv ct oc:yG}{an od:Option Addr}
 {osl:Array (Option yG)}{sp:Sp}(lk:K.lookup f=some ⟨oc,od,.func (W.fnOf name qual params body scope dV kV doc pm an cdv ct),osl⟩)(hcd:W.codeIn K cdv qual=true)(S:FnScope N ps scope)
 (len:∀vs H Q E,sp vs H Q E->vs.length=ps.length)
 (hbody:∀(A:zd)(outer:List Env)(s:yH)(H:Hp)(vs:List V)(Q:VK)(E:XK),Room k (A.deeper (Bp qual scope s.heap.objs.size f cdv))->sp vs H Q E ->
  ∃t,yd (gE CX P w K mg base N qual scope f cdv A outer s H E) body t/\t {nx:=fun _ H'=>Q .non H',rt:=Q} (start N vs) H) :
 FnOk P w K mg base CX (k+1) f (W.fnOf name qual params body scope dV kV doc pm an cdv ct) ps sp:=by
 refine⟨len,fun A outer s H args us vs Q E hr e0 hb r hsp=>?_⟩;have hl:=len _ _ _ _ hsp;have KX:K.In s.heap:=e0.mod.kin.keeps fun b o e=>(e0.bs b o e).1;have lim:s.heap.NoLimit:=e0.mod.nolimit.keeps fun b o e=>(e0.bs b o e).1
 have hkind:∀y∈ps.zip us,scope.names.lookup y.1=some .local\/(scope.names.lookup y.1=some .cell/\((zO (s.heap.objs.size+1) scope.names []).lookup y.1).isSome=true):=fun⟨n,v⟩ hy=>by
  rcases S.par n (Cf hy).1 with q|q
  · exact .inl q
  · exact .inr ⟨q,W.cellsFrom_some _ _ _ (.inl q)⟩
 refine codeAny_call_function hr.depth (KX _ _ lk) rfl S.co S.gen rfl (W.codeRec_of KX hcd) (hb _ _ _ _ ?_);refine wpAny_newFunctionEnv_cells S.kind hkind fun env he s1 x=>?_;subst he;refine⟨lim.keeps x.toInCall.keep,codeAny_func ?_⟩;obtain⟨t,ht,hq⟩:=hbody A outer s H vs Q E (hr.deeper _) hsp;have I:Inv (gE CX P w K mg base N qual scope f cdv A outer s H E) [] (start N vs) H s1:=jV S hr.hd e0 hl r x;refine zG (ht [] s1 (start N vs) H _ I hq) (fun fl s' hs=>?_) fun e s' hs=>hs
 have fin:∀{σ':St}{H':Hp}{v:V}{u:yG},Inv (gE CX P w K mg base N qual scope f cdv A outer s H E) [] σ' H' s'->RelV v u->Q v H'->CE outer P w H s Q u s' :=
  fun{σ' H' v u} J rv q=>⟨v,H',J.os,J.bare,J.base,J.hok,rv,q⟩
 cases fl with
 | ret u =>
   obtain⟨v,σ',H',J,rv,q⟩:=hs
   exact fin J rv q
 | next =>
   obtain⟨σ',H',J,q⟩:=hs
   exact fin (v:=V.non) (u:=zq) J rfl q
 | brk =>
   obtain⟨_,_,_,q⟩:=hs
   exact zl q
 | cont =>
   obtain⟨_,_,_,q⟩:=hs;exact zl q
section
variable{X:Cx}{x:Str}{p pos:Pos}{e:Expr}{es:List Expr}{t:TA}{id T:String}{r:List V->Hp->VK->Prop}
noncomputable def wK(r:List V->Hp->VK->Prop)(t:TA):TE:=fun σ H Q=>t σ H fun vs H1=>r vs H1 Q
theorem bZ(hc:cS X (.builtin id) r)(hg:Gl X x)(hm:X.mg x=none)(hv:AB x=some (.builtin id))(ha:PA X (e::es) t)(hn:autoParam (x ≠ "__name__") æb._auto_1)(hdb:autoParam ((x==("__debug__" : Str))=false) æb._auto_1)
 (he:autoParam (yM (e::es) X.env=(false,eval e X.env)::yM es X.env) æa._auto_1)(hpl:autoParam ((Ae pos (yM es X.env)).any (·.1)=false) æa._auto_1):PE X (.Call (.Name x p) (e::es) [] pos) (wK r t):=by
 intro pins s σ H Q I h;refine A2 (fR I hg hm hv ?_ hn hdb);exact PyProof.Rows.callWith_builtin1 (wE (ha pos pins s σ H _ I h) fun us s1 ⟨vs,H1,I1,r1,q1⟩=>hc pins s1 σ H1 vs us Q I1 r1 q1) he hpl
theorem jK(hc:cS X (.type T) r)(hg:Gl X x)(hm:X.mg x=none)(hv:AB x=some (.type T))(ha:PA X (e::es) t)(hn:autoParam (x ≠ "__name__") æb._auto_1)(hdb:autoParam ((x==("__debug__" : Str))=false) æb._auto_1)
 (he:autoParam (yM (e::es) X.env=(false,eval e X.env)::yM es X.env) æa._auto_1)(hpl:autoParam ((Ae pos (yM es X.env)).any (·.1)=false) æa._auto_1):PE X (.Call (.Name x p) (e::es) [] pos) (wK r t):=by
 intro pins s σ H Q I h;refine A2 (fR I hg hm hv ?_ hn hdb);exact AD (wE (ha pos pins s σ H _ I h) fun us s1 ⟨vs,H1,I1,r1,q1⟩=>hc pins s1 σ H1 vs us Q I1 r1 q1) he hpl
end
end L2
variable{xs vs:List L2.V}{H H' F F' F₀ H₀:L2.Hp}{v:L2.V}{X:L2.Cx}{σ:L2.St}
namespace HT
open PySem PyProof.Rows
section
open PySem.SeqAt
open PySem.AutoSeq1 (wpAny_loadPart')
open PySem.MeetsSeq PySem.MeetsSeq2 PySem.MeetsSeq3
end
section
variable{prog:yT}{w:zp}{A:zd}{E:yG->yH->Prop}{s:yH}
noncomputable def sIx(n d:Nat):Option Int->Nat
 | none=>d
 | some v=>if v<0 then(v+(n:Int)).toNat else min v.toNat n
theorem sIx_none(n d:Nat):sIx n d none=d:=rfl
theorem sIx_nat(n d k:Nat):sIx n d (some (k:Int))=min k n:=by
 show(if(k:Int)<0 then((k:Int)+(n:Int)).toNat else min (k:Int).toNat n)=min k n;rw[if_neg (by omega),Int.toNat_natCast]
end
end HT
namespace L2
abbrev TO:=St->Hp->(Option Int->Hp->Prop)->Prop
noncomputable def PO(X:Cx)(e:Option Expr)(t:TO):Prop :=
 ∀ (pins:List (Addr×Obj))(s:yH)(σ:St)(H:Hp)(Q:Option Int->Hp->Prop),Inv X pins σ H s->t σ H Q ->
   zc (zh X.prog X.w) X.A (evalPart e X.env) (fun u s'=>∃o H',Inv X pins σ H' s'/\IsPart u o/\Q o H') X.xe s
noncomputable def mR:TO:=fun _ H Q=>Q none H
noncomputable def sD(t:TE):TO:=fun σ H Q=>t σ H fun x H1=>∃i,x = .int i/\Q (some i) H1
section
variable{X:Cx}{e:Expr}{te:TE}{lo hi:Option Expr}{tl th:TO}{pos p2:Pos}
theorem nB:PO X none mR:=by
 intro pins s σ H Q I h;rw[evalPart_none];exact yX ⟨none,H,I,.none,h⟩
theorem nA(h:PE X e te):PO X (some e) (sD te):=by
 intro pins s σ H Q I hw;rw[evalPart_some];refine wE (h pins s σ H _ I hw) fun u s1 ⟨x,H1,I1,r1,q1⟩=>?_;obtain⟨i,rfl,q⟩:=q1;obtain⟨t,rfl⟩:=r1;exact⟨some i,H1,I1,.int i t,q⟩
noncomputable def xY(X:Cx)(r:V->Option Int->Option Int->Hp->VK->Prop):Prop :=
 ∀ (pins:List (Addr×Obj))(s:yH)(σ:St)(H:Hp)(x:V)(v vl vu:yG)(lo hi:Option Int)(sl:Addr)(Q:VK),Inv X pins σ H s->RelV x v->s.heap.IsSliceOf sl vl vu .none->IsPart vl lo->IsPart vu hi->r x lo hi H Q ->
   ∃T id,typeLookup (.type T) "__getitem__" = pure (some (.builtin id))/\s.TypeIs v T/\zc (zh X.prog X.w) X.A (getItem v (.ref sl)) (EP X pins σ Q) X.xe s
noncomputable def wG(r:V->Option Int->Option Int->Hp->VK->Prop)(te:TE)(tl th:TO):TE:=fun σ H Q=>te σ H fun x H1=>tl σ H1 fun l H2=>th σ H2 fun u H3=>r x l u H3 Q
theorem kU{r:V->Option Int->Option Int->Hp->VK->Prop}(hr:xY X r)(he:PE X e te)(hl:PO X lo tl)(hu:PO X hi th):PE X (.Subscript e (.Slice lo hi none p2) pos) (wG r te tl th):=by
 intro pins s σ H Q I h;refine Subscript_ (wE (he pins s σ H _ I h) fun v s1 ⟨x,H1,I1,r1,q1⟩=>?_);refine wpAny_Slice (wE (hl pins s1 σ H1 _ I1 q1) fun vl s2 ⟨l,H2,I2,pl,q2⟩=>wE (hu pins s2 σ H2 _ I2 q2) fun vu s3 ⟨u,H3,I3,pu,q3⟩=>?_);rw[evalPart_none];refine yX ?_;have I4:Inv X pins σ H3 {s3 with heap:=s3.heap.push {cls:=.type "slice", data:=.fields #[vl,vu,.none]}}:=I3.kept (t':=s3.toks) fun b ob q=>yI _ q;obtain⟨T,id,hT,ht,hg⟩:=hr pins {s3 with heap:=s3.heap.push {cls:=.type "slice", data:=.fields #[vl,vu,.none]}} σ H3 x v vl vu l u s3.heap.objs.size Q I4 r1 (Heap.IsSliceOf.new ..) pl pu q3;show zc (zh X.prog X.w) X.A (subscriptTail e (.Slice lo hi none p2) v (.ref s3.heap.objs.size)) (EP X pins σ Q) X.xe {s3 with heap:=s3.heap.push {cls:=.type "slice", data:=.fields #[vl,vu,.none]}};exact tail_any (ops:=[.ref s3.heap.objs.size,v]) ht hT hg (by with_unfolding_all rfl)
noncomputable def oI(xs:List V)(lo hi:Option Int):List V:=(xs.drop (HT.sIx xs.length 0 lo)).take (HT.sIx xs.length xs.length hi-HT.sIx xs.length 0 lo)
theorem gF(xs:List V)(lo hi:Option Int):(oI xs lo hi).length<=xs.length:=by
 unfold oI;rw[List.length_take,List.length_drop];omega
end
noncomputable def ixN(n:Nat)(i:Int):Option Nat:=if 0<=i then(if i<n then some i.toNat else none)else if -(n:Int)<=i then some (i+n).toNat else none
noncomputable def atI{α:Type}(xs:List α)(i:Int):Option α:=(ixN xs.length i).bind fun j=>xs[j]?
theorem jT{i:Int}(h:ixN n i=some j):seqIndex? i n=some j/\j<n /\ -(n:Int)<=i/\i<n:=by
 unfold ixN at h;by_cases h0:0<=i
 · rw[if_pos h0]at h;by_cases h1:i<n
   · rw[if_pos h1]at h;have e:i.toNat=j:=zg h;exact⟨by rw[Dg h0 h1,e],by omega,by omega,h1⟩
   · rw[if_neg h1]at h;cases h
 · rw[if_neg h0]at h;by_cases h1 : -(n:Int)<=i
   · rw[if_pos h1]at h;have e:(i+n).toNat=j:=zg h;exact⟨by rw[C6 (by omega) h1,e],by omega,h1,by omega⟩
   · rw[if_neg h1]at h;cases h
theorem gL{xs:List α}{i:Int}{v:α}(h:atI xs i=some v):∃j,seqIndex? i xs.length=some j/\xs[j]?=some v/\j<xs.length /\ -(xs.length:Int)<=i/\i<xs.length:=by
 unfold atI at h
 cases e:ixN xs.length i with
 | none=>rw[e]at h;cases h
 | some j =>
   rw[e]at h;obtain⟨h1,h2,h3,h4⟩:=jT e;exact⟨j,h1,h,h2,h3,h4⟩
theorem eP{xs:List α}{v:α}(h:xs[j]?=some v):atI xs (j:Int)=some v:=by
 have hj:j<xs.length:=(yU.mp h).1
 have e:ixN xs.length (j:Int)=some j:=by
  unfold ixN;rw[if_pos (by omega),if_pos (by omega)];simp
 unfold atI;rw[e];exact h
theorem lD(xs:List α)(v:α):atI (xs++[v]) (-1)=some v:=by
 have hl:(xs++[v]).length=xs.length+1:=by simp
 have e:ixN (xs++[v]).length (-1)=some xs.length:=by
  unfold ixN;rw[hl,if_neg (by decide),if_pos (by omega)];congr 1;omega
 unfold atI;rw[e];show(xs++[v])[xs.length]?=some v;simp
noncomputable def kA(b:Expr):Prop:=∀o i,subscripted b false o i=operate [o,i] (getItem o i)
noncomputable def yr(X:Cx)(r:R2):Prop :=
 ∀ (value slice:Expr)(pins:List (Addr×Obj))(s:yH)(σ:St)(H:Hp)(x y:V)(v u:yG)(Q:VK),Inv X pins σ H s->RelV x v->RelV y u->r x y H Q ->
   subscripted slice false v u=operate [v,u] (getItem v u)->zc (zh X.prog X.w) X.A (subscriptTail value slice v u) (EP X pins σ Q) X.xe s
noncomputable def ym(X:Cx)(id:String)(r:V->List V->Hp->VK->Prop):Prop :=
 ∀ (pins:List (Addr×Obj))(s:yH)(σ:St)(H:Hp)(x:V)(xs:List V)(v:yG)(us:List yG)(Q:VK),Inv X pins σ H s->RelV x v->br xs us->r x xs H Q ->
   zc (zh X.prog X.w) X.A (call (.builtin id) (v::us)) (EP X pins σ Q) X.xe s
section
variable{X:Cx}{a b:Expr}{ta tb:TE}{pos:Pos}
theorem yr.or{r r':R2}(h:yr X r)(h':yr X r'):yr X (fun x y H Q=>r x y H Q\/r' x y H Q):=by
 intro value slice pins s σ H x y v u Q I rx ry q hs;rcases q with q|q
 · exact h value slice pins s σ H x y v u Q I rx ry q hs
 · exact h' value slice pins s σ H x y v u Q I rx ry q hs
theorem bG{r:R2}(hr:yr X r)(ha:PE X a ta)(hb:PE X b tb)(hs:kA b):PE X (.Subscript a b pos) (wI r ta tb):=by
 intro pins s σ H Q I h;exact Subscript_ (tF ha hb I h fun v u s2 x y H2 I2 rx ry q=>hr a b pins s2 σ H2 x y v u Q I2 rx ry q (hs _ _))
noncomputable def uP(K:W.Frag):R2:=fun x y H Q=>∃p xs i v,x = .ref p/\y = .int i/\xX K H p xs/\atI xs i=some v/\Q v H
noncomputable def uM(K:W.Frag):R2:=fun x y H Q=>∃p xs i v,x = .ref p/\y = .int i/\xW K H p xs/\atI xs i=some v/\Q v H
noncomputable def uO:R2:=fun x y H Q=>∃z i c,x = .str z/\y = .int i/\z.length<=sizeLine/\atI z.cps.toList i=some c/\Q (.str ⟨#[c]⟩) H
theorem sY:yr X (uP X.K):=by
 intro value slice pins s σ H x y v u Q I rx ry h hs;obtain⟨p,xs,i,z,rfl,rfl,hq,he,q⟩:=h;cases rx;obtain⟨t,rfl⟩:=ry;obtain⟨its,r,pl,hz⟩:=I.list hq;obtain⟨j,h1,h2,h3,h4,h5⟩:=gL he;obtain⟨w,ew,rw'⟩:=r.get h2;have hl:=r.length;have hn:=fQ;have fin:EP X pins σ Q w s:=⟨z,H,I,rw',q⟩;by_cases h0:0<=i
 · have hj:i.toNat=j:=by
     rw[Dg h0 h5]at h1;exact zg h1
   exact item_listR pl.isList h0 (by omega) (by rw[hj];simpa using ew) fin hs
 · have hj:(i+(its.toArray.size:Int)).toNat=j:=by
     rw[C6 (by omega) h4]at h1;rw[yL,<- hl];exact zg h1
   exact B9 (x:=w) pl.isList.typeIs slot_list_getitem.lookup
    (wpAny_getItem_list_neg (Q:=fun r s'=>r=w/\EP X pins σ Q r s') pl.isList (by omega) (by rw[yL]<;>omega) (by omega) (by rw[hj];simpa using ew) ⟨rfl,fin⟩) hs
theorem uT:yr X (uM X.K):=by
 intro value slice pins s σ H x y v u Q I rx ry h hs;obtain⟨p,xs,i,z,rfl,rfl,hq,he,q⟩:=h;cases rx;obtain⟨t,rfl⟩:=ry;obtain⟨its,r,pl,hz⟩:=I.tuple hq;obtain⟨j,h1,h2,h3,h4,h5⟩:=gL he;obtain⟨w,ew,rw'⟩:=r.get h2;have hl:=r.length;have hn:=fQ;have fin:EP X pins σ Q w s:=⟨z,H,I,rw',q⟩
 exact B9 (x:=w) pl.typeIs slot_tuple_getitem.lookup
  (getItem_tuple (j:=j) (Q:=fun r s'=>r=w/\EP X pins σ Q r s') pl (by omega) (by omega) (by rw[yL,<- hl];exact h1) (by simpa using ew) ⟨rfl,fin⟩) hs
theorem qJ:yr X uO:=by
 intro value slice pins s σ H x y v u Q I rx ry h hs;obtain⟨z,i,c,rfl,rfl,hz,he,q⟩:=h;obtain⟨t,rfl⟩:=rx;obtain⟨t',rfl⟩:=ry;obtain⟨j,h1,h2,h3,h4,h5⟩:=gL he;have hl:z.cps.toList.length=z.length:=by simp[Str.length]
 rw[hl]at h1 h4 h5;have hn:=fQ
 exact tail_any (typeIs_str s z t) slot_str_getitem.lookup (getItem_str (c:=c) (by
  have e1:decide (i < -(2^63:Int))=false:=decide_eq_false (by omega);have e2:decide (i ≥ 2^63)=false:=decide_eq_false (by omega)
  rw[e1,e2,Bool.or_false]) (by rw[h1];simpa using h2) ⟨.str ⟨#[c]⟩,H,I.tok _,⟨_,rfl⟩,q⟩) hs
noncomputable def wW(K:W.Frag):R2:=fun x y H Q=>uP K x y H Q\/uM K x y H Q\/uO x y H Q
theorem aP:yr X (wW X.K):=sY.or (uT.or qJ)
theorem iN(its:List yG)(n j:Nat)(u:yG):Aw (·.setIfInBounds j u) {cls:=.type "list", data:=.seq its.toArray n}={cls:=.type "list", data:=.seq (its.set j u).toArray n}:=by
 simp[Aw]
theorem Inv.lst{pins:List (Addr×Obj)}{σ:St}{H:Hp}{s:yH}{p:Addr}{xs:List V}(I:Inv X pins σ H s)(h:H p=some (.lst xs)) :
 ∃(its:List yG)(n:Nat),br xs its/\s.heap.get? p=some {cls:=.type "list", data:=.seq its.toArray n}/\xs.length<=sizeLine:=by
 obtain⟨z,its,n,r,e⟩:=I.hok p _ h;exact⟨its,n,r,e,z⟩
theorem Inv.lstUpd{s:yH}{p:Addr}{ys:List V}{its its':List yG}{n':Nat}{f:Obj->Obj}(I:Inv X pins σ H s)(h:H p=some (.lst xs))
 (ho:s.heap.get? p=some {cls:=.type "list", data:=.seq its.toArray n})(hf:f {cls:=.type "list", data:=.seq its.toArray n}={cls:=.type "list", data:=.seq its'.toArray n' })(r:br ys its')(hz:ys.length<=sizeLine)(t:Nat) :
 Inv X pins σ (upd H p (.lst ys)) {s with heap:=s.heap.update p f,toks:=t}:=by
 have e:(s.heap.update p f).get? p=some {cls:=.type "list", data:=.seq its'.toArray n' }:=by
  rw[zR f ho (by rw[hf]<;>rfl),hf]
 refine I.write (x:=p) (e:=p) (by rw[h];trivial) (.inl rfl) (fun b u hb q=>(ze _ _ (AC hb)).trans q) ⟨_,e⟩ ?_;exact⟨hz,its',n',r,e⟩
noncomputable def pY:V->V->V->Hp->(Hp->Prop)->Prop:=fun o i v H Q=>∃p xs k j,o = .ref p/\i = .int k/\H p=some (.lst xs)/\ixN xs.length k=some j/\Q (upd H p (.lst (xs.set j v)))
theorem cV:u6 X pY:=by
 intro pins s σ H o i v ov iv u Q I ro ri rv h;obtain⟨p,xs,k,j,rfl,rfl,hp,hj,q⟩:=h;cases ro;obtain⟨t,rfl⟩:=ri;obtain⟨its,n,r,ho,hz⟩:=I.lst hp;obtain⟨h1,h2,h3,h4⟩:=jT hj;have hl:=r.length;have hn:=fQ
 have I':Inv X pins σ (upd H p (.lst (xs.set j v))) {s with heap:=s.heap.update p (Aw (·.setIfInBounds j u))} :=
  I.lstUpd hp ho (iN its n j u) (r.set rv j) (by rw[List.length_set];exact hz) s.toks
 by_cases h0:0<=k
 · have hk:k.toNat=j:=by
     rw[Dg h0 h4]at h1;exact zg h1
   exact W.ki_setAt ho h0 (by omega) (by rw[yL,<- hl];exact h4) (by rw[hk];exact⟨_,I',q⟩)
 · have hk:(k+(its.toArray.size:Int)).toNat=j:=by
     rw[C6 (by omega) h3]at h1;rw[yL,<- hl];exact zg h1
   exact W.ki_setBack ho (by omega) (by rw[yL,<- hl];exact h3) (by omega) (by rw[hk];exact⟨_,I',q⟩)
theorem fj(lo hi:Option Int)(n:Nat):(A9 lo hi none n).1=((HT.sIx n 0 lo:Nat):Int)/\(A9 lo hi none n).2.1=((HT.sIx n n hi:Nat):Int)/\(A9 lo hi none n).2.2=1:=by
 refine⟨?_,?_,rfl⟩
 · cases lo with
   | none=>simp[A9,HT.sIx]
   | some i =>
     simp only[A9,HT.sIx,Option.getD_none,show(1:Int)>0 by decide,if_true];by_cases h:i<0
     · simp only[h,if_true]<;>omega
     · simp only[h,if_false]<;>omega
 · cases hi with
   | none=>simp[A9,HT.sIx]
   | some i =>
     simp only[A9,HT.sIx,Option.getD_none,show(1:Int)>0 by decide,if_true];by_cases h:i<0
     · simp only[h,if_true]<;>omega
     · simp only[h,if_false]<;>omega
theorem d_(its:List yG)(lo hi:Option Int):slicePick its.toArray lo hi none=((its.drop (HT.sIx its.length 0 lo)).take (HT.sIx its.length its.length hi-HT.sIx its.length 0 lo)).toArray:=by
 obtain⟨h1,h2,h3⟩:=fj lo hi its.toArray.size;unfold slicePick;rw[h1,h2,h3];simp only[sliceRange_one,pick_run,yL]<;>rfl
noncomputable def vD(K:W.Frag):V->Option Int->Option Int->Hp->VK->Prop:=fun x lo hi H Q=>∃a xs,x = .ref a/\xX K H a xs/\∀p,H p=none->Q (.ref p) (upd H p (.lst (oI xs lo hi)))
theorem mX:xY X (vD X.K):=by
 intro pins s σ H x v vl vu lo hi sl Q I rx hs pl pu h;obtain⟨a,xs,rfl,hx,q⟩:=h;cases rx;obtain⟨its,r,ht,hz⟩:=I.list hx;have hlen:=r.length;refine⟨"list", _,slot_list_getitem.lookup,ht.isList.typeIs,?_⟩;refine wpAny_getItem_list_slice ht.isList hs pl pu .none (by simp) ?_ (by rw[yL]<;>omega);rw[d_,<- hlen];refine⟨.ref s.heap.objs.size,_,I.laid (t':=s.toks) (o:=.lst (oI xs lo hi)) (fun b ob q=>yI _ q) (y7 _) ?_,rfl,q _ (I.hok.fresh (y7 _))⟩;exact⟨zx (gF xs lo hi) hz,_,0,(r.drop (HT.sIx xs.length 0 lo)).take (HT.sIx xs.length xs.length hi-HT.sIx xs.length 0 lo),zj _ rfl⟩
theorem bE:cS X (.builtin "len") (fun xs H Q=>∃p ys,xs=[.ref p]/\(xX X.K H p ys\/xW X.K H p ys)/\Q (.int ys.length) H):=by
 intro pins s σ H xs us Q I r h;obtain⟨p,ys,rfl,hq,q⟩:=h;obtain⟨u,rfl,rx⟩:=vals1 r;cases rx;have hn:=fQ;rcases hq with hq|hq
 · obtain⟨its,r',pl,hz⟩:=I.list hq;have hlen:=r'.length;exact Calls.call_len_list pl.isList (by simp only[yL]<;>omega) ⟨.int ys.length,H,I.tok _,⟨s.toks+1,by rw[yL,hlen]⟩,q⟩
 · obtain⟨its,r',pl,hz⟩:=I.tuple hq;have hlen:=r'.length;exact len_tuple pl (by simp only[yL]<;>omega) ⟨.int ys.length,H,I.tok _,⟨s.toks+1,by rw[yL,hlen]⟩,q⟩
theorem gb:cS X (.type "list") (fun xs H Q=>∃p ys,xs=[.ref p]/\(xX X.K H p ys\/xW X.K H p ys)/\∀l,H l=none->Q (.ref l) (upd H l (.lst ys))):=by
 intro pins s σ H xs us Q I r h;obtain⟨p,ys,rfl,hq,q⟩:=h;obtain⟨u,rfl,rx⟩:=vals1 r;cases rx
 have fin:∀(its:List yG),br ys its->ys.length<=sizeLine->∀(h':Heap)(c':Nat),(∀b o',s.heap.get? b=some o'->h'.get? b=some o') ->
  h'.get? s.heap.objs.size=some {cls:=.type "list", dict:=none,data:=.seq its.toArray c',slots:=#[]}->EP X pins σ Q (.ref s.heap.objs.size) {s with heap:=h' }:=fun its r' hz h' c' kp e =>
  ⟨.ref s.heap.objs.size,_,I.laid (t':=s.toks) kp (y7 _) (show bC X.prog X.w _ h' _ (.lst ys)from⟨hz,its,c',r',e⟩),rfl,q _ (I.hok.fresh (y7 _))⟩
 rcases hq with hq|hq
 · obtain⟨its,r',pl,hz⟩:=I.list hq;have hlen:=r'.length;obtain⟨o,ho,hc,n,hd⟩:=pl.isList;exact call_list_seq p (.inl rfl) ho hc hd (fun h' c' kp e=>fin its r' hz h' c' kp e) (by simp only[yL]<;>omega)
 · obtain⟨its,r',pl,hz⟩:=I.tuple hq;have hlen:=r'.length;obtain⟨o,ho,hc,n,hd⟩:=pl;exact call_list_seq p (.inr rfl) ho hc hd (fun h' c' kp e=>fin its r' hz h' c' kp e) (by simp only[yL]<;>omega)
noncomputable def wA(K:W.Frag)(T:String)(x:V)(H:Hp):Prop:=match x with
 | .str _=>T = "str"
 | .int _=>T = "int"
 | .ref p=>(T = "list" /\ ∃xs,xX K H p xs)\/(T = "tuple" /\ ∃xs,xW K H p xs) \/
     (T = "dict" /\ ((∃kvs,H p=some (.dK kvs))\/∃kvs,H p=some (.dT kvs)))\/(T = "set" /\ ∃S n,H p=some (.set S n))
 | _=>False
theorem pD{s:yH}{T:String}{x:V}{v:yG}(I:Inv X pins σ H s)(r:RelV x v)(ty:wA X.K T x H) :
 s.TypeIs v T/\∀a,v = .ref a->∃ob,s.heap.get? a=some ob/\ob.dict=none:=by
 cases x with
 | str z =>
   obtain⟨t,rfl⟩:=r;cases(show T = "str" from ty)
   exact⟨typeIs_str s z t,fun _ e=>nomatch e⟩
 | int i =>
   obtain⟨t,rfl⟩:=r;cases(show T = "int" from ty)
   exact⟨typeIs_int s i t,fun _ e=>nomatch e⟩
 | ref p =>
   cases r;rcases ty with⟨rfl,xs,hq⟩|⟨rfl,xs,hq⟩|⟨rfl,hk⟩|⟨rfl,S,n,hk⟩
   · obtain⟨its,_,pl,_⟩:=I.list hq;refine⟨pl.isList.typeIs,fun a e=>?_⟩;cases e;obtain⟨o,n,e,c,hd,_⟩:=pl;exact⟨o,e,hd⟩
   · obtain⟨o,e1,e2,e3⟩:=I.tupleD hq;refine⟨⟨o,e1,e2⟩,fun a e=>?_⟩;cases e;exact⟨o,e1,e3⟩
   · have z:∃o,s.heap.get? p=some o/\o.ExactDict:=by
       rcases hk with⟨kvs,hk⟩|⟨kvs,hk⟩
       · obtain⟨_,_,_,_,o,_,_,e,ex,_⟩:=I.hok p _ hk;exact⟨o,e,ex⟩
       · obtain⟨_,_,_,_,o,_,_,e,ex,_⟩:=I.hok p _ hk;exact⟨o,e,ex⟩
     obtain⟨o,e,ex⟩:=z;refine⟨⟨o,e,ex.1⟩,fun a e2=>?_⟩;cases e2;exact⟨o,e,ex.2.1⟩
   · obtain⟨o,_,_,_,e,ex,_⟩:=I.hok p _ hk;refine⟨⟨o,e,ex.1⟩,fun a e2=>?_⟩;cases e2
     exact⟨o,e,ex.2.1⟩
 | _=>exact zl ty
noncomputable def wL(K:W.Frag)(T:String)(r:V->List V->Hp->VK->Prop)(to:TE)(t:TA):TE:=fun σ H Q=>to σ H fun x H1=>wA K T x H1/\t σ H1 fun xs H2=>r x xs H2 Q
variable{o e:Expr}{es:List Expr}{to:TE}{t:TA}{name:Str}{apos cpos:Pos}{T id:String}{r:V->List V->Hp->VK->Prop}
theorem sU(pa:PlainAttrs T)(slot:Slot T name id)(hty:typeOf (.builtin id)=pure (.type "method_descriptor"))(hm:ym X id r)(ho:PE X o to)(ha:PA X (e::es) t)
 (hbase:autoParam (A1 o name X.env (eval o X.env)=eval o X.env) æa._auto_1)
 (hfew:autoParam (((Ae cpos (yM (e::es) X.env)).all (fun x=>!x.1)&&(backToKw cpos (CM [] X.env)).all (fun x=>x.1.isSome)
  && decide ((e::es).length+([]:List Ce).length+(if([]:List Ce).isEmpty then 0 else 1)<30))=true) æa._auto_1)
 (hline:autoParam ((apos.endLine==cpos.line)=true) æa._auto_1)(hs:autoParam (yM (e::es) X.env=(false,eval e X.env)::yM es X.env) æa._auto_1)(hplain:autoParam ((Ae cpos (yM es X.env)).any (·.1)=false) æa._auto_1) :
 PE X (.Call (.Attribute o name apos) (e::es) [] cpos) (wL X.K T r to t):=by
 intro pins s σ H Q I h;refine wpAny_Call_method_late hbase hfew hline rfl (wE (ho pins s σ H _ I h) fun v s1 ⟨x,H1,I1,r1,ty,q1⟩=>?_);obtain⟨h1,h2⟩:=pD I1 r1 ty;refine⟨T,id,pa,slot,hty,h1,h2,?_⟩;have hA:=ha cpos pins s1 σ H1 _ I1 q1;rw[hs]at hA ⊢;refine Calls.callWith_builtin (by show(false||(Ae cpos (yM es X.env)).any (·.1))=false;rw[hplain]<;>rfl) (Calls.evalArgs_plain ?_);exact wE hA fun us s2 ⟨vs,H2,I2,r2,q2⟩=>hm pins s2 σ H2 x vs v us Q I2 r1 r2 q2
end
noncomputable def yn(X:Cx)(id:String)(r:V->List V->Hp->VK->Prop):Prop :=
 ∀ (pins:List (Addr×Obj))(s:yH)(σ:St)(H:Hp)(x:V)(xs:List V)(v:yG)(us:List yG)(Q:VK),Inv X pins σ H s->RelV x v->br xs us->r x xs H Q ->
   zc (zh X.prog X.w) X.A (call (.builtin id) (v::us)) (EP X pins σ Q) X.xe s
theorem br.one:∀{x:V}{us:List yG},br [x] us->∃u,us=[u]/\RelV x u
 | _,_,.cons r .nil=>⟨_,rfl,r⟩
section
variable{X:Cx}{pins:List (Addr×Obj)}{σ:St}{H:Hp}{s:yH}{l b:Addr}{xs ys zs:List V}
theorem Inv.lset{its its':List yG}{f:Array yG->Array yG}{t':Nat}(I:Inv X pins σ H s)(hH:H l=some (.lst xs))
 (e:s.heap.get? l=some {cls:=.type "list", data:=.seq its.toArray n})(hf:f its.toArray=its'.toArray)(hv:br ys its')(hz:ys.length<=sizeLine) :
 Inv X pins σ (upd H l (.lst ys)) {s with heap:=s.heap.update l (Aw f),toks:=t' }:=by
 have q:=PySem.IsL.update e f;rw[hf]at q;refine I.write (x:=l) (e:=l) (by rw[hH];exact trivial) (.inl rfl) (fun b' u hb hu=>(ze s.heap (Aw f) (AC hb)).trans hu) ⟨_,q⟩ ?_;exact⟨hz,its',_,hv,q⟩
theorem Inv.lnew{its:List yG}{t':Nat}(I:Inv X pins σ H s)(hv:br ys its)(hz:ys.length<=sizeLine) :
 Inv X pins σ (upd H s.heap.objs.size (.lst ys)) {s with heap:=s.heap.push {cls:=.type "list", data:=.seq its.toArray},toks:=t' } :=
 I.laid (fun _ _ q=>yI _ q) (y7 _) ⟨hz,its,0,hv,zj _ rfl⟩
theorem Inv.fresh(I:Inv X pins σ H s):H s.heap.objs.size=none:=I.hok.fresh (y7 _)
theorem Inv.lstM(I:Inv X pins σ H s)(hH:H l=some (.lst xs)):xs.length<=sizeLine/\∃(its:List yG)(n:Nat),br xs its/\xs.length=its.length/\s.heap.get? l=some {cls:=.type "list", data:=.seq its.toArray n}:=by
 obtain⟨z,its,n,r,e⟩:=I.hok l _ hH;exact⟨z,its,n,r,r.length,e⟩
theorem k7(h:n<=sizeLine):AV n=false:=by
 unfold AV;exact decide_eq_false (by omega)
end
section
variable{X:Cx}
noncomputable def jA:V->List V->Hp->VK->Prop:=fun x vs H Q=>∃l xs y,x = .ref l/\vs=[y]/\H l=some (.lst xs)/\xs.length<sizeLine/\Q .non (upd H l (.lst (xs++[y])))
theorem fP:yn X "list.append" jA:=by
 intro pins s σ H x vs v us Q I rx rv h;obtain⟨l,xs,y,rfl,rfl,hH,hz,q⟩:=h;cases rx;obtain⟨u,rfl,ru⟩:=rv.one;obtain⟨z,its,n,r,hl,e⟩:=I.lstM hH;refine call_meets F.slot_list_append ⟨_,e,rfl⟩ F.entry_list_append (F.args_list_append_2 _ _) (PySem.list_append l its.toArray n u (by rw[yL];omega)) ⟨e,?_⟩;refine⟨.non,_,I.lset (its':=its++[u]) hH e (by simp) (r.append (.cons ru .nil)) ?_,rfl,q⟩;rw[Ay,List.length_singleton];omega
noncomputable def jz:V->List V->Hp->VK->Prop:=fun x vs H Q=>∃l b xs zs,x = .ref l/\vs=[.ref b]/\H l=some (.lst xs)/\H b=some (.lst zs)/\xs.length+zs.length<=sizeLine/\Q .non (upd H l (.lst (xs++zs)))
theorem jN:yn X "list.extend" jz:=by
 intro pins s σ H x vs v us Q I rx rv h;obtain⟨l,b,xs,zs,rfl,rfl,hH,hB,hz,q⟩:=h;cases rx;obtain⟨u,rfl,ru⟩:=rv.one;cases ru;obtain⟨z,its,n,r,hl,e⟩:=I.lstM hH;obtain⟨z2,its2,n2,r2,hl2,e2⟩:=I.lstM hB;have hsz:its.toArray.size+its2.toArray.size<=sizeLine:=by rw[yL,yL];omega
 have hlong:¬(!its.toArray.isEmpty&&AV (its.toArray.size+its2.toArray.size))=true:=by
  rw[k7 hsz,Bool.and_false];exact zy
 refine call_meets F.slot_list_extend ⟨_,e,rfl⟩ F.entry_list_extend (F.args_list_extend_2 _ _)
  (AutoSeq1.list_extend_list_list_0 l its.toArray n b its2.toArray n2 hlong (by rw[yL];omega) (by omega)) ⟨e,e2,?_⟩
 refine⟨.non,_,I.lset (its':=its++its2) hH e (by simp) (r.append r2) ?_,rfl,q⟩;rw[Ay];omega
noncomputable def uR:R2:=fun x y H Q=>∃l b xs zs,x = .ref l/\y = .ref b/\H l=some (.lst xs)/\H b=some (.lst zs)/\xs.length+zs.length<=sizeLine/\∀p,H p=none->Q (.ref p) (upd H p (.lst (xs++zs)))
theorem qw:yk X (BC .Add) uR:=by
 intro pins s σ H x y v u Q I rx ry h;obtain⟨l,b,xs,zs,rfl,rfl,hH,hB,hz,q⟩:=h;cases rx;cases ry;obtain⟨z,its,n,r,hl,e⟩:=I.lstM hH;obtain⟨z2,its2,n2,r2,hl2,e2⟩:=I.lstM hB;refine PySem.P.add_list e e2 ?_ (by rw[yL,yL];omega);have ea:its.toArray++its2.toArray=(its++its2).toArray:=by simp
 rw[ea];exact⟨.ref _,_,I.lnew (t':=s.toks) (r.append r2) (by rw[Ay];omega),rfl,q _ I.fresh⟩
end
section
variable{prog:yT}{w:zp}{A:zd}{E:yG->yH->Prop}{s:yH}
end
section
variable{X:Cx}
end
section
variable{κ:Type}[DecidableEq κ]
end
section
variable{P:yT}{w:zp}{H:Hp}{h:Heap}{a:Addr}
end
section
variable{X:Cx}{pins:List (Addr×Obj)}{σ:St}{H:Hp}{s:yH}{a:Addr}{y v:V}{u r:yG}{o:Option V}{A:zd}{E:yG->yH->Prop}
end
section
variable{X:Cx}{pins:List (Addr×Obj)}{σ:St}{H:Hp}{s:yH}{a:Addr}{kvs:List (yo×V)}{k:yo}{u:yG}{A:zd}{E:yG->yH->Prop}
end
section
variable{X:Cx}{o i e value:Expr}{pos pos' tpos:Pos}{td ty tv:TE}
end
section
variable{X:Cx}{pos:Pos}
end
section
variable{X:Cx}{pins:List (Addr×Obj)}{σ:St}{H:Hp}{s:yH}{a:Addr}{y d:V}{u r:yG}{o:Option V}{A:zd}{E:yG->yH->Prop}
end
section
variable{X:Cx}{o e f:Expr}{apos cpos:Pos}{td ty tx:TE}
end
section
variable{X:Cx}{pins:List (Addr×Obj)}{σ:St}{H:Hp}{s:yH}{a:Addr}{kvs:List (yo×V)}{A:zd}{E:yG->yH->Prop}
end
section
variable{X:Cx}{pins:List (Addr×Obj)}{σ:St}{H:Hp}{s:yH}{a:Addr}{y:V}{u:yG}{A:zd}{E:yG->yH->Prop}
end
end L2
namespace Att
open PySem PySem.W PySem.Calls PyProof.Rows
theorem dj{P:Dn}:∀(ns:List Int)(vs:List yG),WellAll P h vs (ns.map WData.int)->CN vs ns:=by
 intro ns
 induction ns with
 | nil =>
   intro vs w;rw[List.map_nil]at w;cases w
   exact .nil
 | cons n ns ih =>
   intro vs w;rw[BW]at w
   cases w with
   | cons a b =>
     cases a;exact .cons _ _ (ih _ b)
theorem jr{l:Dp}(hn:l.most=some n){P:Dn}{args:List WData}{vals:List yG}
 (hpre:l.row.toRowW.claim.pre args=true)(hwl:WellAll P h vals args) :
 ∃a vs ns,vals=[zu a]/\args=[WData.list (ns.map WData.int)]/\h.get? a=some {cls:=.type "list", data:=.seq vs.toArray}/\CN vs ns/\ns.length<=n:=by
 have hsh:WShape.hasAll [] args [.list .int]=true:=(pre_splitW hpre).1;have hc:l.pre.holds [] {args:=args}=true:=(pre_splitW hpre).2;obtain⟨d,r,rfl,h1,h2⟩:=hasAllW_cons hsh;obtain rfl:=hasAllW_nil h2;obtain⟨xs,rfl,h3⟩:=hasW_list h1;obtain⟨ns,rfl⟩:=items_int h3
 have hlen:ns.length<=n:=by
  unfold Dp.pre at hc
  have h4:(WTm.not (.lt (.lit (.int (n:Int))) (.len (.arg 0)))).holds [] {args:=[.list (ns.map .int)]}=true:=by
   have h4:=(holds_andW hc).1;rw[hn]at h4;exact h4
  have h5:=condW_of h4 (w_not (w_lt w_lit (w_len_list (w_arg rfl))));rw[yV]at h5;refine Nat.le_of_not_lt fun q=>?_;have q':(n:Int)<((ns.length:Nat):Int):=by omega
  first
   | (rw[decide_eq_true q']at h5;exact absurd h5 (by decide))
   | (simp at h5;omega)
 cases hwl with
 | cons w1 w2 =>
   cases w2
   cases w1 with
   | list ho hall=>exact⟨_,_,ns,rfl,rfl,ho,dj ns _ hall,hlen⟩
theorem jG(l:Dp)(args:List WData):l.row.toRowW.claim.post args (.bool true) args=true :=
 postW_of (r:=l.row.toRowW) (X:=(true==true))
  (show WShape.has [] (.bool true) .bool=true by first|rfl|decide|simp[WShape.has,WShape.arms,WShape.armsAll])
  (show(WTm.eq .res (.lit (.bool true))).value [] {args:=args,res:=some (.bool true),after:=args}=some (.bool (true==true))from w_eq_bool (w_res rfl) w_lit) rfl
theorem attach_call{l:Dp}{q:yT}{XP:(Str->Option yG)->Heap->Prop}{YP:zp->Heap->Prop}{d:DefRec}
 (hn:l.most=some n)(hdf:d.params.defaults=[])
 (call:∀(w:zp)(s₀ s₁:yH)(mg mb:Str->Option yG)(fa:Addr)(o:Obj)(pm cd doc:yG)(a:Addr)(vs:List yG)(ns:List Int),
  Ground q loose [] XP w s₀ mg mb s₁.heap->YP w s₁.heap ->
  s₁.heap.get? fa=some o->o.data = .func (docDef d.name d.params d.body d.scope pm cd doc)->s₁.heap.CodeRec cd d.name->mg d.name=some (.ref fa) ->
  s₁.heap.get? a=some {cls:=.type "list", data:=.seq vs.toArray}->CN vs ns->ns.length<=n->s₁.gens = #[] ->
  BV (zh l.prog w) C1 (.call (.ref fa) ⟨[.ref a],[]⟩) (fun r s'=>r = .ok (.ret (.bool true))/\OldK s₁.heap s'.heap/\s'.os=s₁.os/\BR s'.gens) s₁) :
 WalkO q loose XP YP l.row.toRowW d [] (fun f vs=>PySem.call f vs):=by
 intro w s₀ s₁ mg mb G Y fa o pm cd doc dV kV ho hd hcd hD hmg hg args vals as hpre hlay hrd hwl hlo;obtain rfl:dV = .none:=Dflts.none hD hdf;obtain rfl:kV = .none:=Dflts.noKw hD;obtain⟨a,vs,ns,rfl,rfl,hobj,hints,hlen⟩:=jr hn hpre hwl;refine enter_call (BD (call w s₀ s₁ mg mb fa o pm cd doc a vs ns G Y ho (fd_plain hd) hcd hmg hobj hints hlen hg) fun r s' hq=>?_);obtain⟨rfl,h2,h3,h4⟩:=hq;exact⟨.inl ⟨.bool true,.bool true,[],rfl,fun _=>rfl,.bool true,jG l _,fun _=>⟨List.Pairwise.nil,fun _ hm=>(nomatch hm)⟩⟩,h2,h3,h4⟩
section
variable{prog:yT}{w:zp}{A:zd}{E:yG->yH->Prop}{s:yH}{K:Frag}
end
end Att
namespace L2
theorem eZ:∀{vs:List yG}{ns:List Int},CN vs ns->br (ns.map V.int) vs
 | _,_,.nil=>.nil
 | _,_,.cons n t h=>.cons ⟨t,rfl⟩ (eZ h)
noncomputable def tK(H:Hp):Prop:=∀b,H b=none\/∃o xs,H b=some (.frz o (.lst xs))
theorem lc{P:yT}{w:zp}{K:W.Frag}{mg mb:Str->Option yG}{CX:yy}{fa:Addr}{fd:z5}{sp:Sp}{s₁:yH}{vs:List yG}{ns:List Int}
 (KX:K.In s₁.heap)(hns:s₁.heap.Ns yW mg)(hb:s₁.heap.Ns builtinsNs mb)(hbb:∀x:Str,x ≠ "__name__" -> mb x=AB x)(hlim:s₁.heap.NoLimit)(hg:s₁.gens = #[])
 (ha:s₁.heap.get? a=some {cls:=.type "list", data:=.seq vs.toArray})(hi:CN vs ns)(hl:ns.length<=sizeLine)(hr:Room k C1)
 (F:∀base:Heap,K.In base->base.Ns yW mg->FnOk P w K mg base CX k fa fd [x] sp)(hbind:∀(s:yH)(u:yG),Df s fd ⟨[u],[]⟩ [(x,u)])
 (hsp:∀H:Hp,tK H->xX K H a (ns.map V.int)->sp [.ref a] H (fun v _=>v = .bl true) fun _ _ _=>False)
 (hCX:∀H e s',CX [] H s₁ (fun _ _ _=>False) e s'->False) :
 BV (zh P w) C1 (.call (.ref fa) ⟨[.ref a],[]⟩) (fun r s'=>r = .ok (.ret (.bool true))/\OldK s₁.heap s'.heap/\s'.os=s₁.os/\BR s'.gens) s₁:=by
 have rv:=eZ hi;have lenV:=hi.length
 have core:∀H:Hp,tK H->xX K H a (ns.map V.int)->yx P w H s₁.heap->(∀b,H b≠none->b=a)->(H a≠none->K.lookup a=none) ->
  BV (zh P w) C1 (.call (.ref fa) ⟨[.ref a],[]⟩) (fun r s'=>r = .ok (.ret (.bool true))/\OldK s₁.heap s'.heap/\s'.os=s₁.os/\BR s'.gens) s₁:=by
  intro H hO hS hok hA hK;have base_of:∀{b:Addr}{o:Obj},s₁.heap.get? b=some o->H b=none->(lj s₁.heap H).get? b=some o:=fun e n=>li e n
  have noA:∀{b:Addr}{o:Obj}{es:Array DictEntry}{ep:Nat},s₁.heap.get? b=some o->o.data = .dict es ep->H b=none:=fun{b o es ep} e d=>by
   cases q:H b with
   | none=>rfl
   | some u =>
     have e':b=a:=hA b (by rw[q];simp);subst e';rw[ha]at e;cases e;have d':Data.seq vs.toArray _=Data.dict es ep:=d;cases d'
  have nsK:∀{b:Addr}{m:Str->Option yG},s₁.heap.Ns b m->(lj s₁.heap H).Ns b m:=fun{b m} ⟨o,es,ep,e,d,r⟩=>⟨o,es,ep,base_of e (noA e d),d,r⟩
  have hKb:K.In (lj s₁.heap H):=fun b o e=>base_of (KX b o e) (by
   cases q:H b with
   | none=>rfl
   | some u =>
     have e':b=a:=hA b (by rw[q];simp);subst e'
     rw[hK (by rw[q];simp)]at e;cases e)
  have hM:Mod K mg (lj s₁.heap H):=⟨hKb,nsK hns,⟨mb,nsK hb,hbb⟩,let ⟨mc,h1,h2⟩:=hlim;⟨mc,nsK h1,h2⟩⟩;have e0:Env0 P w K mg (lj s₁.heap H) C1 [] s₁ H:=⟨rfl,hM,fun b o e=>nM e,Nat.le_of_eq (j6 _ _),trivial,fun b hb=>absurd (show b∈([]:List Addr)from hb) (by simp),hok,.of_eq hg⟩;refine BD ((F _ hKb (nsK hns)).run C1 [] s₁ H ⟨[.ref a],[]⟩ [.ref a] [.ref a] _ _ hr e0 (hbind s₁ (.ref a)) (.cons rfl .nil) (hsp H hO hS)) fun r s' h=>?_
  cases r with
  | error e=>exact(hCX H e s' h).elim
  | ok fl =>
    cases fl with
    | next=>exact zl h
    | brk=>exact zl h
    | cont=>exact zl h
    | ret u =>
      obtain⟨v,H',os,bare,un,hok',r',q⟩:=h;have q':v = .bl true:=q;subst q';obtain rfl:u=Bm true:=r';refine⟨rfl,OldK.of_keep fun b o e=>?_,os,bare⟩
      cases q:H b with
      | none=>exact un.keep b o e q (by intro z;exact absurd (show b∈([]:List Addr)from z) (by simp)) (by simp)
      | some u =>
        rcases hO b with z|⟨ob,xs,z⟩
        · rw[q]at z;cases z
        · have z2:=un.frzs b ob _ z;obtain⟨e1,_⟩:=hok b _ z;obtain⟨e2,_⟩:=hok' b _ z2;rw[e]at e1;cases e1;exact e2
 cases hk:K.lookup a with
 | some o =>
   have e:=KX a o hk;rw[ha]at e;cases e
   refine core (fun _=>none) (fun _=>.inl rfl) (.inr ⟨_,vs.toArray,_,hk,rfl,rfl,rfl,by rw[yL,lenV];exact hl,by simpa using rv⟩) (fun b u z=>by have z':(none:Option HO)=some u:=z;cases z') (fun b z=>absurd rfl z) fun z=>absurd rfl z
 | none =>
   refine core (fun b=>if b=a then some (.frz {cls:=.type "list", data:=.seq vs.toArray} (.lst (ns.map V.int)))else none) (fun b=>?_) (.inl (.inr ⟨{cls:=.type "list", data:=.seq vs.toArray},if_pos rfl⟩)) (fun b u z=>?_) (fun b z=>?_) fun _=>hk
   · by_cases hb:b=a
     · exact .inr ⟨_,_,if_pos hb⟩
     · exact .inl (if_neg hb)
   · by_cases hb:b=a
     · have z':=(if_pos hb).symm.trans z;cases z';subst hb;exact⟨ha,by rw[yV];exact hl,vs,_,rv,ha⟩
     · have z':=(if_neg hb).symm.trans z;cases z'
   · by_cases hb:b=a
     · exact hb
     · exact absurd (if_neg hb) z
theorem walk_of{l:W.OpenLaw}{q:yT}{XP:(Str->Option yG)->Heap->Prop}{YP:zp->Heap->Prop}{d:DefRec}{K:Dn->W.Frag}{CX:zp->yy}{sp:zp->Sp}
 (hn:l.most=some n)(hn2:n<=sizeLine)(hdf:d.params.defaults=[])(hr:Room k C1)
 (hY:∀(w:zp)(h:Heap),YP w h->(K w.params).In h)
 (F:∀(w:zp)(mg:Str->Option yG)(fa:Addr)(h:Heap),(K w.params).In h->h.Ns yW mg->mg d.name=some (.ref fa) ->
  ∃ fd:z5,(∀(s:yH)(u:yG),Df s fd ⟨[u],[]⟩ [(x,u)]) /\
    ∀base:Heap,(K w.params).In base->base.Ns yW mg->FnOk l.prog w (K w.params) mg base (CX w) k fa fd [x] (sp w))
 (hsp:∀(w:zp)(H:Hp)(a:Addr)(ns:List Int),ns.length<=n->tK H->xX (K w.params) H a (ns.map V.int)->sp w [.ref a] H (fun v _=>v = .bl true) fun _ _ _=>False)
 (hCX:∀(w:zp)(H:Hp)(s:yH)(e:yG)(s':yH),CX w [] H s (fun _ _ _=>False) e s'->False) :
 W.WalkO q loose XP YP l.row.toRowW d [] (fun f vs=>PySem.call f vs):=by
 refine Att.attach_call hn hdf fun w s₀ s₁ mg mb fa o pm cd doc a vs ns G Y ho hd hcd hmg hobj hints hlen hg=>?_;have KX:=hY w _ Y;obtain⟨fd,hb,hF⟩:=F w mg fa _ KX G.T.g hmg;exact lc KX G.T.g G.T.b G.T.builtins G.T.nolimit hg hobj hints (zx hlen hn2) hr hF hb (fun H hO hS=>hsp w H a ns hlen hO hS) fun H e s'=>hCX w H s₁ e s'
abbrev yA:yy:=fun _ _ _ _ _ _=>False
abbrev E0:XK:=fun _ _ _=>False
theorem qq:d0 yA X E0:=fun _ _ _ _ _ _ _ h=>h.elim
structure Fun (K:W.Frag) (x qual:Str) (st:Stmt) (f:Addr) (fd:z5):Prop where
 ex:∃(oc:yG)(od:Option Addr)(kV doc pm:yG)(an:Option Addr)(cdv ct:yG)(osl:Array (Option yG)),
  fd=W.fnOf x qual (defArgs st) (defBody st) (defScope st) .none kV doc pm an cdv ct/\K.lookup f=some ⟨oc,od,.func fd,osl⟩/\W.codeIn K cdv qual=true
 kp:W.keepIn K (.ref f)=true
section
variable{P:yT}{w:zp}{K:W.Frag}{mg:Str->Option yG}{base:Heap}
theorem Fun.ok{st:Stmt}{fd:z5}{sp:Sp}(F:Fun K x qual st f fd)(S:FnScope N ps (defScope st))(len:∀vs H Q E,sp vs H Q E->vs.length=ps.length)
 (hbody:∀(cdv:yG)(A:zd)(outer:List Env)(s:yH)(H:Hp)(vs:List V)(Q:VK)(E:XK),Room k (A.deeper (Bp qual (defScope st) s.heap.objs.size f cdv))->sp vs H Q E ->
  ∃t,yd (gE yA P w K mg base N qual (defScope st) f cdv A outer s H E).nox (defBody st) t/\t {nx:=fun _ H'=>Q .non H',rt:=Q} (start N vs) H):FnOk P w K mg base yA (k+1) f fd ps sp:=by
 obtain⟨oc,od,kV,doc,pm,an,cdv,ct,osl,rfl,lk,hcd⟩:=F.ex;refine q9 lk hcd S len fun A outer s H vs Q E hr hsp=>?_;obtain⟨t,h,q⟩:=hbody cdv A outer s H vs Q E hr hsp;exact⟨t,h.nox,q⟩
theorem Fun.binds{st:Stmt}{fd:z5}(F:Fun K x qual st f fd)
 (h:∀(kV doc pm:yG)(an:Option Addr)(cdv ct:yG)(us:List yG),us.length=ps.length->bindArgs (W.fnOf x qual (defArgs st) (defBody st) (defScope st) .none kV doc pm an cdv ct) ⟨us,[]⟩=pure (ps.zip us)):Binds K fd ps []:=by
 obtain⟨oc,od,kV,doc,pm,an,cdv,ct,osl,rfl,lk,hcd⟩:=F.ex;exact .all (h kV doc pm an cdv ct)
theorem fY{st:Stmt}{oc:yG}{od an:Option Addr}{osl:Array (Option yG)}{kV doc pm cdv ct:yG}(l:K.lookup f=some ⟨oc,od,.func (W.fnOf x qual (defArgs st) (defBody st) (defScope st) .none kV doc pm an cdv ct),osl⟩)
 (c:W.codeIn K cdv qual=true)(k:W.keepIn K (.ref f)=true):Fun K x qual st f (W.fnOf x qual (defArgs st) (defBody st) (defScope st) .none kV doc pm an cdv ct):=⟨⟨oc,od,kV,doc,pm,an,cdv,ct,osl,rfl,l,c⟩,k⟩
end
section
variable{X:Cx}
theorem pv(i:Nat)(hN:autoParam (X.N[i]?=some x) æa._auto_1)(hv:autoParam (xO X.env.scope x) æd._auto_1)(hd:autoParam ((x==("__debug__" : Str))=false) æb._auto_1)
 (hcd:autoParam ((x==("__classdict__" : Str))=false) æb._auto_1):PE X (.Name x pos) (uI i):=cK hN hv hd hcd
end
noncomputable def aW(H H':Hp):Prop:=∀b o,H b=some o->H' b=some o
theorem aW.refl(H:Hp):aW H H:=fun _ _ h=>h
theorem aW.trans{H1 H2:Hp}(a:aW H H1)(b:aW H1 H2):aW H H2:=fun c o h=>b c o (a c o h)
theorem aW.free(e:aW H H'){l:Addr}(h:H' l=Option.none):H l=Option.none:=by
 cases q:H l with
 | none=>rfl
 | some o =>
   rw[e l o q]at h;cases h
section
variable{X:Cx}
end
section
variable{κ:Type}[DecidableEq κ]
end
end L2
namespace L2.VL
noncomputable def RO(F:Hp)(o:HO):Prop:=∃(c:Addr)(ns:List Int)(a l t:Int),o = .lst [.ref c,.int a,.int l,.int t]/\F c=some (.lst (ns.map V.int))/\ns.length<=63/\0<=a/\0<=l/\0<=t
theorem RO.mono{o:HO}(s:aW F F')(h:RO F o):RO F' o:=by
 obtain⟨c,ns,a,l,t,e,q,r⟩:=h;exact⟨c,ns,a,l,t,e,s _ _ q,r⟩
mutual
inductive Rep (K:W.Frag) (F:Hp):V->yF->Prop
 | non:Rep K F .non .none
 | bl (b:Bool):Rep K F (.bl b) (.bool b)
 | int (i:Int):Rep K F (.int i) (.int i)
 | str (x:Str):Rep K F (.str x) (.str x)
 | tup {a:Addr} {vs:List V} {ds:List yF}:xW K F a vs->Reps K F vs ds->Rep K F (.ref a) (.tuple ds)
 | lst {a:Addr} {vs:List V} {ds:List yF}:F a=some (.lst vs)->Reps K F vs ds->Rep K F (.ref a) (.list ds)
inductive Reps (K:W.Frag) (F:Hp):List V->List yF->Prop
 | nil:Reps K F [] []
 | cons {v:V} {d:yF} {vs:List V} {ds:List yF}:Rep K F v d->Reps K F vs ds->Reps K F (v::vs) (d::ds)
end
theorem gv{K:W.Frag}(e:aW H H')(h:xW K H a xs):xW K H' a xs:=by
 rcases h with(h|⟨o,h⟩)|h
 · exact .inl (.inl (e _ _ h))
 · exact .inl (.inr ⟨o,e _ _ h⟩)
 · exact .inr h
theorem js{K:W.Frag}(e:aW H H')(h:xX K H a xs):xX K H' a xs:=by
 rcases h with(h|⟨o,h⟩)|h
 · exact .inl (.inl (e _ _ h))
 · exact .inl (.inr ⟨o,e _ _ h⟩)
 · exact .inr h
mutual
theorem Rep.mono{K:W.Frag}{F F':Hp}(s:aW F F'):∀{v:V}{d:yF},Rep K F v d->Rep K F' v d
 | _,_,.non=>.non
 | _,_,.bl b=>.bl b
 | _,_,.int i=>.int i
 | _,_,.str x=>.str x
 | _,_,.tup h r=>.tup (gv s h) (Reps.mono s r)
 | _,_,.lst h r=>.lst (s _ _ h) (Reps.mono s r)
theorem Reps.mono{K:W.Frag}{F F':Hp}(s:aW F F'):∀{vs:List V}{ds:List yF},Reps K F vs ds->Reps K F' vs ds
 | _,_,.nil=>.nil
 | _,_,.cons h r=>.cons (Rep.mono s h) (Reps.mono s r)
end
theorem Reps.length{K:W.Frag}{F:Hp}:∀{vs:List V}{ds:List yF},Reps K F vs ds->vs.length=ds.length
 | _,_,.nil=>rfl
 | _,_,.cons _ r=>by simp[Reps.length r]
theorem Reps.get{K:W.Frag}{F:Hp}:∀{vs:List V}{ds:List yF}{i:Nat}{d:yF},Reps K F vs ds->ds[i]?=some d->∃v,vs[i]?=some v/\Rep K F v d
 | _,_,_,_,.nil,e=>by simp at e
 | _,_,0,_,.cons h _,e=>by simp at e;subst e;exact⟨_,rfl,h⟩
 | _,_,i+1,d,.cons _ r,e=>by
   obtain⟨v,h1,h2⟩:=Reps.get (i:=i) (d:=d) r (by simpa using e);exact⟨v,by simpa using h1,h2⟩
theorem Reps.append{K:W.Frag}{F:Hp}:∀{vs us:List V}{ds es:List yF},Reps K F vs ds->Reps K F us es->Reps K F (vs++us) (ds++es)
 | _,_,_,_,.nil,s=>s
 | _,_,_,_,.cons h r,s=>.cons h (Reps.append r s)
theorem Reps.snoc{K:W.Frag}{ds:List yF}{d:yF}(r:Reps K F vs ds)(h:Rep K F v d):Reps K F (vs++[v]) (ds++[d]):=r.append (.cons h .nil)
theorem Reps.nil_iff{K:W.Frag}(h:Reps K F vs []):vs=[]:=by cases h;rfl
mutual
theorem Rep.reads{X:Cx}{pins:List (Addr×Obj)}{σ:St}{H F:Hp}{s:yH}(I:Inv X pins σ H s)(sub:aW F H):∀{v:V}{d:yF},Rep X.K F v d->∀u,RelV v u->∃as,Reads s.heap u d as
 | _,_,.non,u,r=>by cases(show u=zq from r);exact⟨_,.none⟩
 | _,_,.bl b,u,r=>by cases(show u=Bm b from r);exact⟨_,.bool b⟩
 | _,_,.int i,u,r=>by obtain⟨t,q⟩:=(show ∃t,u=AK i t from r);cases q;exact⟨_,.int i t⟩
 | _,_,.str x,u,r=>by obtain⟨t,q⟩:=(show ∃t,u=CY x t from r);cases q;exact⟨_,.str x t⟩
 | _,_,.tup (a:=a) h q,u,r=>by
   cases(show u=zu a from r);obtain⟨its,rv,⟨o,h1,h2,n,h3⟩,hz⟩:=I.tuple (gv sub h);obtain⟨as,ra⟩:=Reps.reads I sub q its rv
   exact⟨_,.tuple h1 h2 h3 (by simpa using ra)⟩
 | _,_,.lst (a:=a) h q,u,r=>by
   cases(show u=zu a from r);obtain⟨its,rv,p,hz⟩:=I.list (.inl (.inl (sub _ _ h)));obtain⟨o,h1,h2,n,h3⟩:=p.isList;obtain⟨as,ra⟩:=Reps.reads I sub q its rv;exact⟨_,.list h1 h2 h3 (by simpa using ra)⟩
theorem Reps.reads{X:Cx}{pins:List (Addr×Obj)}{σ:St}{H F:Hp}{s:yH}(I:Inv X pins σ H s)(sub:aW F H):∀{vs:List V}{ds:List yF},Reps X.K F vs ds->∀us,br vs us->∃as,ReadsAll s.heap us ds as
 | _,_,.nil,us,r=>by cases r;exact⟨_,.nil⟩
 | _,_,.cons h q,us,r=>by
   cases r with
   | cons r1 r2 =>
     obtain⟨as,a1⟩:=Rep.reads I sub h _ r1;obtain⟨bs,a2⟩:=Reps.reads I sub q _ r2;exact⟨_,.cons a1 a2⟩
end
structure ReelOk (F H:Hp) (r:Addr):Prop where
 ex:∃o,H r=some o/\RO F o
noncomputable def x_(rl:Option Addr)(F H:Hp):Prop:=∀r,rl=some r->F r=none/\ReelOk F H r
theorem x_.live(h:x_ rl F H)(e:rl=some r):∃o,H r=some o:=by
 obtain⟨_,⟨o,q,_⟩⟩:=h r e;exact⟨_,q⟩
structure Grow (rl:Option Addr) (F H F' H':Hp):Prop where
 same:∀b o,H b=some o->rl≠some b->H' b=some o
 fs:aW F F'
 sub:aW F' H'
 old:∀b o,H b=some o->F' b=F b
 reel:x_ rl F' H'
theorem Grow.refl{rl:Option Addr}{F H:Hp}(s:aW F H)(r:x_ rl F H):Grow rl F H F H:=⟨fun _ _ e _=>e,.refl F,s,fun _ _ _=>rfl,r⟩
theorem Grow.live{rl:Option Addr}{F H F' H':Hp}(g:Grow rl F H F' H'){b:Addr}{o:HO}(e:H b=some o):∃o',H' b=some o':=by
 by_cases h:rl=some b
 · exact g.reel.live h
 · exact⟨o,g.same b o e h⟩
theorem Grow.trans{rl:Option Addr}{F H F1 H1 F2 H2:Hp}(a:Grow rl F H F1 H1)(b:Grow rl F1 H1 F2 H2):Grow rl F H F2 H2 :=
 ⟨fun c o e n=>b.same c o (a.same c o e n) n,a.fs.trans b.fs,b.sub,fun c o e=>by obtain⟨o',e'⟩:=a.live e;rw[b.old c o' e',a.old c o e],b.reel⟩
theorem Grow.freeB(g:Grow rl F H F' H'){b:Addr}(e:H' b=none):H b=none:=by
 cases q:H b with
 | none=>rfl
 | some o=>obtain⟨o',e'⟩:=g.live q;rw[e]at e';cases e'
theorem Grow.laid{o:HO}(s:aW F H)(r:x_ rl F H)(n:H a=none):Grow rl F H F (upd H a o):=by
 have ne:∀b u,H b=some u->b≠a:=fun b u e=>aj e n;refine⟨fun b u e _=>by rw[upd_ne (ne b u e)];exact e,.refl F,fun b u e=>by rw[upd_ne (ne b u (s b u e))];exact s b u e,fun _ _ _=>rfl,fun q e=>?_⟩;obtain⟨z,⟨u,h1,h2⟩⟩:=r q e;exact⟨z,⟨u,by rw[upd_ne (ne _ _ h1)];exact h1,h2⟩⟩
theorem Grow.data{o:HO}(s:aW F H)(r:x_ rl F H)(n:H a=none):Grow rl F H (upd F a o) (upd H a o):=by
 have ne:∀b u,H b=some u->b≠a:=fun b u e=>aj e n;have neF:∀b u,F b=some u->b≠a:=fun b u e=>ne b u (s b u e);refine⟨fun b u e _=>by rw[upd_ne (ne b u e)];exact e,fun b u e=>by rw[upd_ne (neF b u e)];exact e,fun b u e=>?_,fun b u e=>by rw[upd_ne (ne b u e)],fun q e=>?_⟩
 · by_cases hb:b=a
   · subst hb;rw[ai]at e ⊢;exact e
   · rw[upd_ne hb]at e ⊢;exact s b u e
 · obtain⟨z,⟨u,h1,h2⟩⟩:=r q e;exact⟨by rw[upd_ne (ne _ _ h1)];exact z,⟨u,by rw[upd_ne (ne _ _ h1)];exact h1,RO.mono (fun b u e=>by rw[upd_ne (neF b u e)];exact e) h2⟩⟩
theorem Grow.freeze{F1 H1:Hp}{o:HO}(g:Grow rl F H F1 H1)(n:H a=none)(e:H1 a=some o)(f:F1 a=none)(hr:rl≠some a):Grow rl F H (upd F1 a o) H1:=by
 have neF:∀b u,F1 b=some u->b≠a:=fun b u q z=>by subst z;rw[f]at q;cases q
 refine⟨g.same,fun b u q=>by rw[upd_ne (neF b u (g.fs b u q))];exact g.fs b u q,fun b u q=>?_,fun b u q=>by rw[upd_ne (aj q n)];exact g.old b u q,fun q z=>?_⟩
 · by_cases hb:b=a
   · subst hb;rw[ai]at q;rw[e];exact q
   · rw[upd_ne hb]at q;exact g.sub b u q
 · obtain⟨z1,⟨u,h1,h2⟩⟩:=g.reel q z;exact⟨by rw[upd_ne (fun y=>hr (by rw[<- y];exact z))];exact z1,⟨u,h1,RO.mono (fun b u e=>by rw[upd_ne (neF b u e)];exact e) h2⟩⟩
inductive W where
 | d (x:yF)
 | ml (xs:List yF)
 | pk (xs:List yF)
 | reel
 | vv (v:V)
 | md (kvs:List (List yo×yF))
 | mk (kvs:List (yo×yF))
 | nt (ds:List yF)
 | lk
 | sc (ns:List Int)
 | fd (kvs:List (yo×yF))
 | fw (kvs:List (yo×yF))
 | ft (kvs:List (List yo×yF))
 | xc (x:Str) (fs:List (Str×yF))
 | dp (kvs:List (yo×yF)) (x:yF)
noncomputable def W.dat:W->Option yF
 | .d x=>some x
 | .ml xs=>some (.list xs)
 | .pk xs=>some (.list xs)
 | .nt ds=>some (.tuple ds)
 | _=>none
noncomputable def W.peek:W->W
 | .ml xs=>.pk xs
 | .md _=>.lk
 | .mk _=>.lk
 | w=>w
noncomputable def W.own:W->Bool
 | .ml _=>true
 | .md _=>true
 | .mk _=>true
 | _=>false
abbrev KD(K:W.Frag)(F:Hp):List (List yo×V)->List (List yo×yF)->Prop:=zE fun p q=>p.1=q.1/\Rep K F p.2 q.2
abbrev yq(K:W.Frag)(F:Hp):List (yo×V)->List (yo×yF)->Prop:=zE fun p q=>p.1=q.1/\Rep K F p.2 q.2
abbrev yp(K:W.Frag)(F:Hp):List (Str×V)->List (Str×yF)->Prop:=zE fun p q=>p.1=q.1/\Rep K F p.2 q.2
noncomputable def cR(e C dx:Addr):Heap->Prop:=fun h=>∃oe vs,h.get? e=some oe/\oe.cls = .ref C/\oe.dict=some dx/\oe.data = .fields vs
noncomputable def oK(K:W.Frag)(rl:Option Addr)(F H:Hp)(v:V)(kvs:List (List yo×yF)):Prop:=∃a us,v = .ref a/\F a=none/\rl≠some a/\H a=some (.dT us)/\KD K F us kvs
noncomputable def oJ(K:W.Frag)(rl:Option Addr)(F H:Hp)(v:V)(kvs:List (yo×yF)):Prop:=∃a us,v = .ref a/\F a=none/\rl≠some a/\H a=some (.dK us)/\yq K F us kvs
noncomputable def eR(K:W.Frag)(rl:Option Addr)(F H:Hp)(v:V)(xs:List yF):Prop:=∃a vs,v = .ref a/\F a=none/\rl≠some a/\H a=some (.lst vs)/\Reps K F vs xs
noncomputable def cu(K:W.Frag)(rl:Option Addr)(F H:Hp)(v:V):W->Prop
 | .d x=>Rep K F v x
 | .ml xs=>eR K rl F H v xs
 | .pk xs=>eR K rl F H v xs
 | .reel=>∃r,rl=some r/\v = .ref r
 | .vv u=>v=u
 | .md kvs=>oK K rl F H v kvs
 | .mk kvs=>oJ K rl F H v kvs
 | .nt ds=>∃a vs,v = .ref a/\F a=some (.tup vs)/\Reps K F vs ds
 | .lk=>True
 | .sc ns=>∃a,v = .ref a/\xX K F a (ns.map V.int)
 | .fd kvs=>∃a us,v = .ref a/\F a=some (.dK us)/\yq K F us kvs
 | .fw kvs=>∃a us o,v = .ref a/\F a=some (.frz o (.dK us))/\yq K F us kvs
 | .ft kvs=>∃a us o,v = .ref a/\F a=some (.frz o (.dT us))/\KD K F us kvs
 | .xc x fs=>∃e dx us C,v = .ref e/\W.nsIn K yW x=some (some (.ref C))/\F e=some (.ext (cR e C dx))/\F dx=some (.xd us)/\yp K F us fs
 | .dp kvs x=>∃a b us u o,v = .ref a/\F a=some (.tup [.ref b,u])/\F b=some (.frz o (.dK us))/\yq K F us kvs/\Rep K F u x
theorem oK.grow{K:W.Frag}{kvs:List (List yo×yF)}(g:Grow rl F H F' H')(r:oK K rl F H v kvs):oK K rl F' H' v kvs:=by
 obtain⟨a,us,rfl,h1,h2,h3,h4⟩:=r;exact⟨a,us,rfl,by rw[g.old a _ h3];exact h1,h2,g.same a _ h3 h2,zE.mapP h4 fun _ _ z=>⟨z.1,z.2.mono g.fs⟩⟩
theorem oJ.grow{K:W.Frag}{kvs:List (yo×yF)}(g:Grow rl F H F' H')(r:oJ K rl F H v kvs):oJ K rl F' H' v kvs:=by
 obtain⟨a,us,rfl,h1,h2,h3,h4⟩:=r;exact⟨a,us,rfl,by rw[g.old a _ h3];exact h1,h2,g.same a _ h3 h2,zE.mapP h4 fun _ _ z=>⟨z.1,z.2.mono g.fs⟩⟩
theorem eR.grow{K:W.Frag}{xs:List yF}(g:Grow rl F H F' H')(r:eR K rl F H v xs):eR K rl F' H' v xs:=by
 obtain⟨a,vs,rfl,h1,h2,h3,h4⟩:=r;exact⟨a,vs,rfl,by rw[g.old a _ h3];exact h1,h2,g.same a _ h3 h2,h4.mono g.fs⟩
theorem cu.grow{K:W.Frag}{rl:Option Addr}{F H F' H':Hp}{v:V}{w:W}(g:Grow rl F H F' H')(r:cu K rl F H v w):cu K rl F' H' v w:=by
 cases w with
 | d x=>exact Rep.mono g.fs r
 | ml xs=>exact eR.grow g r
 | pk xs=>exact eR.grow g r
 | reel=>exact r
 | vv u=>exact r
 | md kvs=>exact oK.grow g r
 | mk kvs=>exact oJ.grow g r
 | nt ds=>obtain⟨a,vs,e,h,q⟩:=r;exact⟨a,vs,e,g.fs _ _ h,q.mono g.fs⟩
 | lk=>trivial
 | sc ns=>obtain⟨a,e,h⟩:=r;exact⟨a,e,js g.fs h⟩
 | fd kvs=>obtain⟨a,us,e,h,q⟩:=r;exact⟨a,us,e,g.fs _ _ h,zE.mapP q fun _ _ z=>⟨z.1,z.2.mono g.fs⟩⟩
 | fw kvs=>obtain⟨a,us,o,e,h,q⟩:=r;exact⟨a,us,o,e,g.fs _ _ h,zE.mapP q fun _ _ z=>⟨z.1,z.2.mono g.fs⟩⟩
 | ft kvs=>obtain⟨a,us,o,e,h,q⟩:=r;exact⟨a,us,o,e,g.fs _ _ h,zE.mapP q fun _ _ z=>⟨z.1,z.2.mono g.fs⟩⟩
 | xc _ _=>obtain⟨a,dx,us,C,e,n,h1,h2,q⟩:=r;exact⟨a,dx,us,C,e,n,g.fs _ _ h1,g.fs _ _ h2,zE.mapP q fun _ _ z=>⟨z.1,z.2.mono g.fs⟩⟩
 | dp _ _=>obtain⟨a,b,us,u,o,e,h1,h2,q,z⟩:=r;exact⟨a,b,us,u,o,e,g.fs _ _ h1,g.fs _ _ h2,zE.mapP q fun _ _ z=>⟨z.1,z.2.mono g.fs⟩,z.mono g.fs⟩
theorem cu.peek{K:W.Frag}{w:W}(r:cu K rl F H v w):cu K rl F H v w.peek:=by cases w<;>first|exact r|trivial
theorem eR.rep{K:W.Frag}{xs:List yF}(s:aW F H)(r:eR K rl F H v xs):Rep K H v (.list xs):=by
 obtain⟨a,vs,rfl,h1,h2,h3,h4⟩:=r;exact .lst h3 (h4.mono s)
theorem cu.dat{K:W.Frag}{w:W}{x:yF}(s:aW F H)(r:cu K rl F H v w)(e:w.dat=some x):Rep K H v x:=by
 cases w with
 | d y=>cases e;exact Rep.mono s r
 | ml xs=>cases e;exact eR.rep s r
 | pk xs=>cases e;exact eR.rep s r
 | reel=>cases e
 | vv u=>cases e
 | md kvs=>cases e
 | mk kvs=>cases e
 | nt ds=>cases e;obtain⟨a,vs,rfl,h,q⟩:=r;exact .tup (.inl (.inl (s _ _ h))) (q.mono s)
 | lk=>cases e
 | sc _=>cases e
 | fd _=>cases e
 | fw _=>cases e
 | ft _=>cases e
 | xc _ _=>cases e
 | dp _ _=>cases e
theorem cu.items{K:W.Frag}{w:W}{xs:List yF}(s:aW F H)(r:cu K rl F H v w)(e:w.dat=some (.list xs)):∃a vs,v = .ref a/\xX K H a vs/\Reps K F vs xs:=by
 have own:eR K rl F H v xs->∃a vs,v = .ref a/\xX K H a vs/\Reps K F vs xs:=fun⟨a,vs,e1,_,_,e2,e3⟩=>⟨a,vs,e1,.inl (.inl e2),e3⟩
 cases w with
 | d y =>
   cases e
   cases(show Rep K F v (.list xs)from r)with
   | lst h q=>exact⟨_,_,rfl,.inl (.inl (s _ _ h)),q⟩
 | ml ys=>cases e;exact own r
 | pk ys=>cases e;exact own r
 | reel=>cases e
 | vv u=>cases e
 | md kvs=>cases e
 | mk kvs=>cases e
 | nt ds=>cases e
 | lk=>cases e
 | sc _=>cases e
 | fd _=>cases e
 | fw _=>cases e
 | ft _=>cases e
 | xc _ _=>cases e
 | dp _ _=>cases e
theorem cu.itemsT{K:W.Frag}{w:W}{xs:List yF}(s:aW F H)(r:cu K rl F H v w)(e:w.dat=some (.tuple xs)):∃a vs,v = .ref a/\xW K H a vs/\Reps K F vs xs:=by
 cases w with
 | d y =>
   cases e
   cases(show Rep K F v (.tuple xs)from r)with
   | tup h q=>exact⟨_,_,rfl,gv s h,q⟩
 | ml ys=>cases e
 | pk ys=>cases e
 | reel=>cases e
 | vv u=>cases e
 | md kvs=>cases e
 | mk kvs=>cases e
 | nt ds=>cases e;obtain⟨a,vs,rfl,h,q⟩:=r;exact⟨a,vs,rfl,.inl (.inl (s _ _ h)),q⟩
 | lk=>cases e
 | sc _=>cases e
 | fd _=>cases e
 | fw _=>cases e
 | ft _=>cases e
 | xc _ _=>cases e
 | dp _ _=>cases e
noncomputable def dB(H:Hp)(v:V):W->Prop
 | .ml _=>∀a,v = .ref a->H a=none
 | .md _=>∀a,v = .ref a->H a=none
 | .mk _=>∀a,v = .ref a->H a=none
 | _=>True
theorem cu.live{K:W.Frag}{w:W}(r:cu K rl F H v w)(h:w.own=true):∃a o,v = .ref a/\H a=some o:=by
 cases w with
 | ml xs=>obtain⟨a,vs,e,_,_,hh,_⟩:=r;exact⟨a,_,e,hh⟩
 | md xs=>obtain⟨a,vs,e,_,_,hh,_⟩:=r;exact⟨a,_,e,hh⟩
 | mk xs=>obtain⟨a,vs,e,_,_,hh,_⟩:=r;exact⟨a,_,e,hh⟩
 | _=>cases h
theorem dB.none{w:W}(n:dB H v w)(h:w.own=true)(e:v = .ref a):H a=none:=by
 cases w with
 | ml xs=>exact n a e
 | md xs=>exact n a e
 | mk xs=>exact n a e
 | _=>cases h
abbrev En:=List (Option W)
structure VR (K:W.Frag) (rl:Option Addr) (F₀ H₀ F H:Hp) (σ:St) (ρ:En):Prop where
 g:Grow rl F₀ H₀ F H
 sl:∀(i:Nat) w,ρ[i]?=some (some w)->∃v,σ[i]?=some (some v)/\cu K rl F H v w/\dB H₀ v w
 ap:∀(i j:Nat)(x y:W) v,i≠j->ρ[i]?=some (some x)->ρ[j]?=some (some y)->x.own=true->y.own=true->σ[i]?=some (some v)->σ[j]?=some (some v)->False
 np:∀(i:Nat) xs,ρ[i]?≠some (some (W.pk xs))
 len:ρ.length=σ.length
section
variable{K:W.Frag}{rl:Option Addr}{F₀ H₀ F H F' H':Hp}{σ:St}{ρ:En}
theorem VR.sub(r:VR K rl F₀ H₀ F H σ ρ):aW F H:=r.g.sub
theorem VR.reel(r:VR K rl F₀ H₀ F H σ ρ):x_ rl F H:=r.g.reel
theorem VR.grow(r:VR K rl F₀ H₀ F H σ ρ)(g:Grow rl F H F' H'):VR K rl F₀ H₀ F' H' σ ρ :=
 ⟨r.g.trans g,fun i w e=>let ⟨v,e1,e2,e3⟩:=r.sl i w e;⟨v,e1,e2.grow g,e3⟩,r.ap,r.np,r.len⟩
theorem VR.set(r:VR K rl F₀ H₀ F H σ ρ){H1 F1:Hp}(g:Grow rl F H F1 H1){w:W}(rw':cu K rl F1 H1 v w)(hn:dB H v w)(hp:∀xs,w ≠ .pk xs)(i:Nat):VR K rl F₀ H₀ F1 H1 (σ.set i (some v)) (ρ.set i (some w)):=by
 have r1:=r.grow g;refine⟨r1.g,fun j w' e=>?_,fun j k xs ys u hjk e1 e2 w1 w2 s1 s2=>?_,fun j xs z=>?_,by simp[r.len]⟩
 · by_cases hj:i=j
   · subst hj
     have hi:i<ρ.length:=by
      rw[zm]at e;by_cases hi:i<ρ.length
      · exact hi
      · simp[hi]at e
     rw[yZ hi]at e;cases e;refine⟨v,by rw[yZ (by rw[<- r.len];exact hi)],rw',?_⟩
     cases w with
     | ml xs=>exact fun a ea=>r.g.freeB (hn a ea)
     | d x=>trivial
     | pk xs=>trivial
     | reel=>trivial
     | vv u=>trivial
     | md xs=>exact fun a ea=>r.g.freeB (hn a ea)
     | mk xs=>exact fun a ea=>r.g.freeB (hn a ea)
     | nt ds=>trivial
     | lk=>trivial
     | sc _=>trivial
     | fd _=>trivial
     | fw _=>trivial
     | ft _=>trivial
     | xc _ _=>trivial
     | dp _ _=>trivial
   · rw[yO hj]at e;obtain⟨u,h1,h2,h3⟩:=r1.sl j w' e;exact⟨u,by rw[yO hj];exact h1,h2,h3⟩
 · have key:∀(k:Nat)(x y:W),ρ[k]?=some (some y)->some (some w)=some (some x)->x.own=true->y.own=true->σ[k]?=some (some v)->False:=fun k x y d2 e1 o1 o2 s2=>by
     cases e1;obtain⟨u',h1,h2,h3⟩:=r.sl k _ d2;rw[s2]at h1;cases h1;obtain⟨a,o,ea,hh⟩:=h2.live o2;rw[hn.none o1 ea]at hh;cases hh
   by_cases hj:i=j
   · subst hj;have hk:i≠k:=hjk
     have hi:i<ρ.length:=by
      rw[zm]at e1;by_cases hi:i<ρ.length
      · exact hi
      · simp[hi]at e1
     rw[yZ hi]at e1;rw[yO hk]at e2 s2;rw[yZ (by rw[<- r.len];exact hi)]at s1;cases s1;exact key k xs ys e2 e1 w1 w2 s2
   · by_cases hk:i=k
     · subst hk
       have hi:i<ρ.length:=by
        rw[zm]at e2;by_cases hi:i<ρ.length
        · exact hi
        · simp[hi]at e2
       rw[yZ hi]at e2;rw[yO hj]at e1 s1;rw[yZ (by rw[<- r.len];exact hi)]at s2;cases s2;exact key j ys xs e1 e2 w2 w1 s1
     · rw[yO hj]at e1 s1;rw[yO hk]at e2 s2;exact r.ap j k xs ys u hjk e1 e2 w1 w2 s1 s2
 · rw[zm]at z;split at z
   · split at z
     · exact hp xs (zg (zg z))
     · cases z
   · exact r.np j xs z
theorem VR.freeze(r:VR K rl F₀ H₀ F H σ ρ){i:Nat}{xs:List yF}(e:ρ[i]?=some (some (.ml xs))):∃F1,VR K rl F₀ H₀ F1 H σ (ρ.set i (some (.d (.list xs)))):=by
 obtain⟨v,h1,h2,h3⟩:=r.sl i _ e;obtain⟨a,vs,rfl,f,hr,hh,q⟩:=(show eR K rl F H v xs from h2);have hi:i<ρ.length:=(yU.mp e).1;have neF:∀b u,F b=some u->b≠a:=fun b u q z=>by subst z;rw[f]at q;cases q
 have fsm:aW F (upd F a (.lst vs)):=fun b u z=>by rw[upd_ne (neF b u z)];exact z
 refine⟨upd F a (.lst vs),r.g.freeze (h3 a rfl) hh f hr,fun j w e1=>?_,fun j k ys zs u hjk e1 e2 w1 w2 s1 s2=>?_,fun j ys z=>?_,by simp[r.len]⟩
 · by_cases hj:i=j
   · subst hj;rw[yZ hi]at e1;cases e1;exact⟨.ref a,h1,.lst ai (q.mono fsm),trivial⟩
   · rw[yO hj]at e1;obtain⟨u,g1,g2,g3⟩:=r.sl j w e1;refine⟨u,g1,?_,g3⟩
     have own:∀ys,(∀zs,w = .ml zs->ys=zs)->eR K rl F H u ys->(∃b,u = .ref b/\b≠a)->eR K rl (upd F a (.lst vs)) H u ys:=fun ys _ ⟨b,us,eb,f1,f2,f3,f4⟩ ⟨b',eb',ne⟩=>by
      rw[eb]at eb';cases eb';exact⟨b,us,eb,by rw[upd_ne ne];exact f1,f2,f3,f4.mono fsm⟩
     cases w with
     | d x=>exact Rep.mono fsm g2
     | reel=>exact g2
     | vv u=>exact g2
     | ml ys =>
       obtain⟨b,us,eb,f1,f2,f3,f4⟩:=(show eR K rl F H u ys from g2);have ne:b≠a:=fun z=>r.ap i j _ _ (.ref a) hj e e1 rfl rfl h1 (by rw[g1,eb,z])
       exact⟨b,us,eb,by rw[upd_ne ne];exact f1,f2,f3,f4.mono fsm⟩
     | pk ys=>exact absurd e1 (r.np j ys)
     | md ys =>
       obtain⟨b,us,eb,f1,f2,f3,f4⟩:=(show oK K rl F H u ys from g2);have ne:b≠a:=fun z=>r.ap i j _ _ (.ref a) hj e e1 rfl rfl h1 (by rw[g1,eb,z])
       exact⟨b,us,eb,by rw[upd_ne ne];exact f1,f2,f3,zE.mapP f4 fun _ _ z=>⟨z.1,z.2.mono fsm⟩⟩
     | mk ys =>
       obtain⟨b,us,eb,f1,f2,f3,f4⟩:=(show oJ K rl F H u ys from g2);have ne:b≠a:=fun z=>r.ap i j _ _ (.ref a) hj e e1 rfl rfl h1 (by rw[g1,eb,z])
       exact⟨b,us,eb,by rw[upd_ne ne];exact f1,f2,f3,zE.mapP f4 fun _ _ z=>⟨z.1,z.2.mono fsm⟩⟩
     | nt ds=>obtain⟨b,us,eb,f1,f2⟩:=g2;exact⟨b,us,eb,fsm _ _ f1,f2.mono fsm⟩
     | lk=>trivial
     | sc ns=>obtain⟨b,eb,f1⟩:=g2;exact⟨b,eb,js fsm f1⟩
     | fd kvs=>obtain⟨b,us,eb,f1,f2⟩:=g2;exact⟨b,us,eb,fsm _ _ f1,zE.mapP f2 fun _ _ z=>⟨z.1,z.2.mono fsm⟩⟩
     | fw kvs=>obtain⟨b,us,o,eb,f1,f2⟩:=g2;exact⟨b,us,o,eb,fsm _ _ f1,zE.mapP f2 fun _ _ z=>⟨z.1,z.2.mono fsm⟩⟩
     | ft kvs=>obtain⟨b,us,o,eb,f1,f2⟩:=g2;exact⟨b,us,o,eb,fsm _ _ f1,zE.mapP f2 fun _ _ z=>⟨z.1,z.2.mono fsm⟩⟩
     | xc _ _=>obtain⟨b,dx,us,C,eb,n,f1,f3,f2⟩:=g2;exact⟨b,dx,us,C,eb,n,fsm _ _ f1,fsm _ _ f3,zE.mapP f2 fun _ _ z=>⟨z.1,z.2.mono fsm⟩⟩
     | dp _ _=>obtain⟨c,b,us,u,o,eb,f1,f3,f2,z⟩:=g2;exact⟨c,b,us,u,o,eb,fsm _ _ f1,fsm _ _ f3,zE.mapP f2 fun _ _ z=>⟨z.1,z.2.mono fsm⟩,z.mono fsm⟩
 · have nd:∀(j:Nat)(y:W),(ρ.set i (some (W.d (.list xs))))[j]?=some (some y)->y.own=true->ρ[j]?=some (some y):=fun j y z o=>by
     by_cases hj:i=j
     · subst hj;rw[yZ hi]at z;cases z;cases o
     · rw[yO hj]at z;exact z
   exact r.ap j k ys zs u hjk (nd j ys e1 w1) (nd k zs e2 w2) w1 w2 s1 s2
 · rw[zm]at z;split at z
   · first|cases z|(split at z<;>cases z)
   · exact r.np j ys z
end
abbrev TV:=En->(W->Prop)->Prop
abbrev TB:=En->(Bool->Prop)->Prop
abbrev xR:=En->(List W->Prop)->Prop
abbrev cI(K:W.Frag)(rl:Option Addr)(F H:Hp):List V->List W->Prop:=zE (cu K rl F H)
noncomputable def PV(X:Cx)(rl:Option Addr)(e:Expr)(f:TV):Prop:=∃t,PE X e t/\∀{F₀ H₀ F H:Hp}{σ:St}{ρ:En},VR X.K rl F₀ H₀ F H σ ρ->∀(Qd:W->Prop)(Q:VK),f ρ Qd ->
 (∀v w F' H',Grow rl F H F' H'->cu X.K rl F' H' v w->dB H v w->Qd w->Q v H')->t σ H Q
noncomputable def PB(X:Cx)(rl:Option Addr)(e:Expr)(f:TB):Prop:=∃t,PT X e t/\∀{F₀ H₀ F H:Hp}{σ:St}{ρ:En},VR X.K rl F₀ H₀ F H σ ρ->∀(Qd:Bool->Prop)(Q:Bool->Hp->Prop),f ρ Qd ->
 (∀b F' H',Grow rl F H F' H'->Qd b->Q b H')->t σ H Q
noncomputable def yb(X:Cx)(rl:Option Addr)(es:List Expr)(f:xR):Prop:=∃t,PA X es t/\∀{F₀ H₀ F H:Hp}{σ:St}{ρ:En},VR X.K rl F₀ H₀ F H σ ρ->∀(Qd:List W->Prop)(Q:List V->Hp->Prop),f ρ Qd ->
 (∀vs ws F' H',Grow rl F H F' H'->cI X.K rl F' H' vs ws->Qd ws->Q vs H')->t σ H Q
noncomputable def W.fz:W->W
 | .ml xs=>.d (.list xs)
 | .nt ds=>.d (.tuple ds)
 | w=>w
theorem cu.fz{K:W.Frag}{F1 H1:Hp}{w:W}(g:Grow rl F H F1 H1)(r:cu K rl F1 H1 v w)(n:dB H v w):∃F2,Grow rl F H F2 H1/\aW F1 F2/\cu K rl F2 H1 v w.fz:=by
 cases w with
 | d x=>exact⟨F1,g,.refl _,r⟩
 | pk xs=>exact⟨F1,g,.refl _,r⟩
 | reel=>exact⟨F1,g,.refl _,r⟩
 | vv u=>exact⟨F1,g,.refl _,r⟩
 | md u=>exact⟨F1,g,.refl _,r⟩
 | mk u=>exact⟨F1,g,.refl _,r⟩
 | lk=>exact⟨F1,g,.refl _,r⟩
 | sc _=>exact⟨F1,g,.refl _,r⟩
 | fd _=>exact⟨F1,g,.refl _,r⟩
 | fw _=>exact⟨F1,g,.refl _,r⟩
 | ft _=>exact⟨F1,g,.refl _,r⟩
 | xc _ _=>exact⟨F1,g,.refl _,r⟩
 | dp _ _=>exact⟨F1,g,.refl _,r⟩
 | nt ds=>obtain⟨a,vs,rfl,h,q⟩:=r;exact⟨F1,g,.refl _,.tup (.inl (.inl h)) q⟩
 | ml xs =>
   obtain⟨a,vs,rfl,f,hr,hh,q⟩:=(show eR K rl F1 H1 v xs from r);have neF:∀b u,F1 b=some u->b≠a:=fun b u q z=>by subst z;rw[f]at q;cases q
   have fsm:aW F1 (upd F1 a (.lst vs)):=fun b u z=>by rw[upd_ne (neF b u z)];exact z
   exact⟨upd F1 a (.lst vs),g.freeze (n a rfl) hh f hr,fsm,.lst ai (q.mono fsm)⟩
section
variable{X:Cx}{rl:Option Addr}{a b e:Expr}{es:List Expr}{fa fb fc:TV}{fs:xR}{pos p:Pos}
noncomputable def vC(x:yF):TV:=fun _ Q=>Q (.d x)
theorem cy{x:yF}(h:PE X e (tC v))(r:∀F,Rep X.K F v x):PV X rl e (vC x) :=
 ⟨_,h,fun R Qd Q q k=>k v (.d x) _ _ (Grow.refl R.sub R.reel) (r _) trivial q⟩
theorem ag{i:Int}{j pos}:PV X rl (.Constant (.int i) j pos) (vC (.int i)):=cy aq fun _=>.int i
theorem iH{i:Bool}{j pos}:PV X rl (.Constant (.bool i) j pos) (vC (.bool i)):=cy qo fun _=>.bl i
theorem jC{j pos}:PV X rl (.Constant .none j pos) (vC .none):=cy lZ fun _=>.non
theorem b9{j pos}:PV X rl (.Constant (.str x) j pos) (vC (.str x)):=cy lY fun _=>.str x
theorem iG{n:String}{pos:Pos}(hm:X.mg x=none)(hv:AB x=some (.type n))(hg:autoParam (Gl X x) æa._auto_1)(hn:autoParam (x ≠ "__name__") æb._auto_1)(hd:autoParam ((x==("__debug__" : Str))=false) æb._auto_1) :
 PV X rl (.Name x pos) (fun _ Q=>Q (.vv (.ty n))) :=
 ⟨_,nK (v:=.ty n) hg hm hv rfl hn hd,fun R Qd Q q k=>k (.ty n) (.vv (.ty n)) _ _ (Grow.refl R.sub R.reel) rfl trivial q⟩
theorem nk{u:yG}{d:yF}{pos:Pos}(hm:X.mg x=some u)(r:RelV v u)(h:∀F,Rep X.K F v d)(hg:autoParam (Gl X x) æa._auto_1)(hd:autoParam ((x==("__debug__" : Str))=false) æb._auto_1):PV X rl (.Name x pos) (vC d) :=
 cy (nI hg hm r hd) h
noncomputable def dD(i:Nat):TV:=fun ρ Q=>∃w,ρ[i]?=some (some w)/\Q w.peek
theorem vn(i:Nat){pos:Pos}(hN:autoParam (X.N[i]?=some x) æa._auto_1)(hv:autoParam (xO X.env.scope x) æd._auto_1)(hd:autoParam ((x==("__debug__" : Str))=false) æb._auto_1)
 (hcd:autoParam ((x==("__classdict__" : Str))=false) æb._auto_1):PV X rl (.Name x pos) (dD i) :=
 ⟨_,cK hN hv hd hcd,fun R Qd Q ⟨w,e,q⟩ k=>by
  obtain⟨v,e1,r,_⟩:=R.sl i w e;refine⟨v,e1,k v w.peek _ _ (Grow.refl R.sub R.reel) r.peek ?_ q⟩
  cases w<;>trivial⟩
noncomputable def ji:xR:=fun _ Q=>Q []
noncomputable def az(f:TV)(fs:xR):xR:=fun ρ Q=>f ρ fun w=>fs ρ fun ws=>Q (w.fz::ws)
theorem ac:yb X rl [] ji:=⟨_,cL,fun R Qd Q q k=>k [] [] _ _ (Grow.refl R.sub R.reel) .nil q⟩
theorem aa(h1:PV X rl e fa)(h2:yb X rl es fs)(hs:autoParam (yM (e::es) X.env=(false,eval e X.env)::yM es X.env) æa._auto_1):yb X rl (e::es) (az fa fs):=by
 obtain⟨t,p1,k1⟩:=h1;obtain⟨ts,p2,k2⟩:=h2;refine⟨_,bw p1 p2 hs,fun R Qd Q q k=>?_⟩;refine k1 R _ _ q fun v w F1 H1 g1 r1 n1 q1=>?_;obtain⟨F2,g2,s2,r2⟩:=cu.fz g1 r1 n1;refine k2 (R.grow g2) _ _ q1 fun vs ws F3 H3 g3 r3 q3=>?_;exact k (v::vs) (w.fz::ws) F3 H3 (g2.trans g3) (.cons (r2.grow g3) r3) q3
noncomputable def xP(X:Cx)(rl:Option Addr)(r:R2)(g:W->W->(W->Prop)->Prop):Prop:=∀{F H:Hp}{x y:V}{wx wy:W}(Qd:W->Prop)(Q:VK),aW F H->x_ rl F H->cu X.K rl F H x wx->cu X.K rl F H y wy->g wx wy Qd ->
 (∀v w F' H',Grow rl F H F' H'->cu X.K rl F' H' v w->dB H v w->Qd w->Q v H')->r x y H Q
noncomputable def wr(g:W->W->(W->Prop)->Prop)(fa fb:TV):TV:=fun ρ Q=>fa ρ fun x=>fb ρ fun y=>g x y Q
theorem i_{r:R2}{g:W->W->(W->Prop)->Prop}(vo:xP X rl r g)(ha:PV X rl a fa)(hb:PV X rl b fb){e:Expr}(hp:∀ta tb,PE X a ta->PE X b tb->PE X e (wI r ta tb)):PV X rl e (wr g fa fb):=by
 obtain⟨ta,p1,k1⟩:=ha;obtain⟨tb,p2,k2⟩:=hb;refine⟨_,hp ta tb p1 p2,fun R Qd Q q k=>?_⟩;refine k1 R _ _ q fun v w F1 H1 g1 r1 n1 q1=>?_;refine k2 (R.grow g1) _ _ q1 fun v2 w2 F2 H2 g2 r2 n2 q2=>?_
 exact vo Qd Q g2.sub g2.reel (r1.grow g2) r2 q2 fun v3 w3 F3 H3 g3 r3 n3 q3=>k v3 w3 F3 H3 ((g1.trans g2).trans g3) r3 (by
  cases w3 with
  | ml xs=>exact fun a ea=>g1.freeB (g2.freeB (n3 a ea))
  | md xs=>exact fun a ea=>g1.freeB (g2.freeB (n3 a ea))
  | mk xs=>exact fun a ea=>g1.freeB (g2.freeB (n3 a ea))
  | nt _=>trivial
  | lk=>trivial
  | sc _=>trivial
  | fd _=>trivial
  | fw _=>trivial
  | ft _=>trivial
  | xc _ _=>trivial
  | dp _ _=>trivial
  | d _=>trivial
  | pk _=>trivial
  | reel=>trivial
  | vv _=>trivial) q3
theorem gw{op:Operator}{r:R2}{g:W->W->(W->Prop)->Prop}(ho:yk X (BC op) r)(vo:xP X rl r g)(ha:PV X rl a fa)(hb:PV X rl b fb):PV X rl (.BinOp a op b pos) (wr g fa fb) :=
 i_ vo ha hb fun _ _ p1 p2=>bK ho p1 p2
noncomputable def gI(C:Int->Int->Prop)(g:Int->Int->yF):W->W->(W->Prop)->Prop:=fun x y Q=>∃i j,x = .d (.int i)/\y = .d (.int j)/\C i j/\Q (.d (g i j))
theorem aC{K:W.Frag}{i:Int}(h:Rep K F v (.int i)):v = .int i:=by cases h;rfl
theorem d8{C:Int->Int->Prop}{g:Int->Int->V}{gd:Int->Int->yF}(h:∀K F i j,Rep K F (g i j) (gd i j)):xP X rl (rI C g) (gI C gd):=fun{F H x y wx wy} Qd Q s ra r1 r2 q k=>by
 obtain⟨i,j,rfl,rfl,c,q⟩:=q;exact⟨i,j,aC r1,aC r2,c,k _ (.d _) _ _ (Grow.refl s ra) (h _ _ i j) trivial q⟩
noncomputable def xF(g:Int->Int->yF):W->W->(W->Prop)->Prop:=fun x y Q=>∃i j,x = .d (.int i)/\y = .d (.int j)/\Q (.d (g i j))
theorem cT{g:Int->Int->V}{gd:Int->Int->yF}(h:∀K F i j,Rep K F (g i j) (gd i j)):xP X rl (wX g) (xF gd):=fun{F H x y wx wy} Qd Q s ra r1 r2 q k=>by
 obtain⟨i,j,rfl,rfl,q⟩:=q;exact⟨i,j,aC r1,aC r2,k _ (.d _) _ _ (Grow.refl s ra) (h _ _ i j) trivial q⟩
theorem v_add(ha:PV X rl a fa)(hb:PV X rl b fb):PV X rl (.BinOp a .Add b pos) (wr (xF fun i j=>.int (i+j)) fa fb):=gw dQ (cT fun _ _ _ _=>.int _) ha hb
theorem v_sub(ha:PV X rl a fa)(hb:PV X rl b fb):PV X rl (.BinOp a .Sub b pos) (wr (xF fun i j=>.int (i-j)) fa fb):=gw qr (cT fun _ _ _ _=>.int _) ha hb
noncomputable def yB(i:Int):Prop:=i.natAbs<2^60000
theorem yB.bits{i:Int}(h:yB i):Builtin.Int.intBits i<=60000:=CF.mpr h
noncomputable def bp(i j:Int):Prop:=i.natAbs<2^64\/j.natAbs<2^64\/(yB i/\yB j)
theorem bp.lt{i j:Int}(h:i.natAbs<2^64):bp i j:=.inl h
theorem bp.rt{i j:Int}(h:j.natAbs<2^64):bp i j:=.inr (.inl h)
theorem bp.bb{i j:Int}(h:yB i)(h':yB j):bp i j:=.inr (.inr ⟨h,h'⟩)
theorem bp.ok{i j:Int}(h:bp i j):IntMulOk i j:=by
 rcases h with h|h|h
 · exact .of_left (CF.mpr h)
 · exact .of_right (CF.mpr h)
 · exact IntMulOk.of_le h.1.bits h.2.bits (by decide)
theorem df:yk X (BC .Mult) (rI bp fun i j=>.int (i*j)):=xg fun _ _ _ _ _ _ _ hc q=>mul_int q hc.ok
theorem v_mul(ha:PV X rl a fa)(hb:PV X rl b fb):PV X rl (.BinOp a .Mult b pos) (wr (gI bp fun i j=>.int (i*j)) fa fb):=gw df (d8 fun _ _ _ _=>.int _) ha hb
noncomputable def dC(_ j:Int):Prop:=j≠0/\j.natAbs<2^9000
theorem hU:yk X (BC .FloorDiv) (rI dC fun i j=>.int (i.fdiv j)):=xg fun _ j _ _ _ _ _ hc q=>floordiv_int hc.1 q (.inl (PyProof.noPylong_of_log2 ((Nat.log2_lt (by have:=hc.1;omega)).mpr hc.2)))
theorem v_div(ha:PV X rl a fa)(hb:PV X rl b fb):PV X rl (.BinOp a .FloorDiv b pos) (wr (gI dC fun i j=>.int (i.fdiv j)) fa fb):=gw hU (d8 fun _ _ _ _=>.int _) ha hb
theorem v_mod(ha:PV X rl a fa)(hb:PV X rl b fb):PV X rl (.BinOp a .Mod b pos) (wr (gI (fun _ j=>j≠0) fun i j=>.int (i.fmod j)) fa fb):=gw bU (d8 fun _ _ _ _=>.int _) ha hb
theorem v_pow(ha:PV X rl a fa)(hb:PV X rl b fb):PV X rl (.BinOp a .Pow b pos) (wr (gI tN fun i j=>.int (i^j.toNat)) fa fb):=gw l4 (d8 fun _ _ _ _=>.int _) ha hb
noncomputable def su(fa:TV):TV:=fun ρ Q=>fa ρ fun x=>∃i,x = .d (.int i)/\Q (.d (.int (-i)))
theorem o8(ha:PV X rl a fa):PV X rl (.UnaryOp .USub a pos) (su fa):=by
 obtain⟨ta,p1,k1⟩:=ha;refine⟨_,sT pC p1,fun R Qd Q q k=>k1 R _ _ q fun v w F1 H1 g1 r1 n1 ⟨i,ew,q1⟩=>?_⟩;subst ew;exact⟨i,aC r1,k _ (.d _) F1 H1 g1 (.int _) trivial q1⟩
theorem mJ{r:R2}{g:W->W->(W->Prop)->Prop}(ho:yk X (zK op) r)(vo:xP X rl r g)(hm:A0 op b=false)(ha:PV X rl a fa)(hb:PV X rl b fb):PV X rl (.Compare a [op] [b] pos) (wr g fa fb) :=
 i_ vo ha hb fun _ _ p1 p2=>nJ ho p1 p2 hm
noncomputable def iy(f:TV):TB:=fun ρ Q=>f ρ fun w=>∃k,w = .d (.bool k)/\Q k
theorem c7{K:W.Frag}{i:Bool}(h:Rep K F v (.bool i)):v = .bl i:=by cases h;rfl
theorem bj{r:R2}{g:W->W->(W->Prop)->Prop}(ho:yk X (zK op) r)(vo:xP X rl r g)(hm:A0 op b=false)(ha:PV X rl a fa)(hb:PV X rl b fb):PB X rl (.Compare a [op] [b] pos) (iy (wr g fa fb)):=by
 obtain⟨ta,p1,k1⟩:=ha;obtain⟨tb,p2,k2⟩:=hb;refine⟨_,cp ho p1 p2 hm,fun R Qd Q q k=>?_⟩;refine k1 R _ _ q fun v w F1 H1 g1 r1 n1 q1=>?_;refine k2 (R.grow g1) _ _ q1 fun v2 w2 F2 H2 g2 r2 n2 q2=>?_;refine vo _ _ g2.sub g2.reel (r1.grow g2) r2 q2 fun v3 w3 F3 H3 g3 r3 n3 ⟨kb,ew,q3⟩=>?_;subst ew;exact⟨kb,c7 r3,k kb F3 H3 ((g1.trans g2).trans g3) q3⟩
theorem eW(ha:PV X rl e fa)(he:autoParam (∀whole,isTrue e X.env whole=(do let v <- whole;standAt e.pos;Dq [v] (truthy v))) æc._auto_1):PB X rl e (iy fa):=by
 obtain⟨ta,p1,k1⟩:=ha;refine⟨_,qc p1 he,fun R Qd Q q k=>k1 R _ _ q fun v w F1 H1 g1 r1 n1 ⟨kb,ew,q1⟩=>?_⟩;subst ew;exact⟨kb,c7 r1,k kb F1 H1 g1 q1⟩
abbrev uY(p:Int->Int->Bool):=xF fun i j=>.bool (p i j)
theorem kI:xP X rl (wX fun i j=>.bl (decide (i<j))) (uY fun i j=>decide (i<j)):=cT fun _ _ _ _=>.bl _
theorem oX:xP X rl (wX fun i j=>.bl (decide (j<i))) (uY fun i j=>decide (j<i)):=cT fun _ _ _ _=>.bl _
noncomputable def sM(K:W.Frag)(neg:Bool):R2:=fun x y H Q=>∃dx dy,Rep K H x dx/\Rep K H y dy/\zF dx=true/\zF dy=true/\Q (.bl (if neg then !zH dx dy else zH dx dy)) H
theorem jL(hu:X.A.units+64<cLine):yk X (zK .Eq) (sM X.K false):=by
 intro pins s σ H x y v u Q I rx ry ⟨dx,dy,h1,h2,s1,s2,q⟩;obtain⟨as,a1⟩:=Rep.reads I (.refl H) h1 v rx;obtain⟨bs,a2⟩:=Rep.reads I (.refl H) h2 u ry;exact SeqAt.compareEq_shaped a1 a2 s1 s2 hu ⟨.bl _,H,I,rfl,q⟩
theorem cN(hu:X.A.units+64<cLine):yk X (zK .NotEq) (sM X.K true):=by
 intro pins s σ H x y v u Q I rx ry ⟨dx,dy,h1,h2,s1,s2,q⟩;obtain⟨as,a1⟩:=Rep.reads I (.refl H) h1 v rx;obtain⟨bs,a2⟩:=Rep.reads I (.refl H) h2 u ry;exact SeqAt.compareNe_shaped a1 a2 s1 s2 hu ⟨.bl _,H,I,rfl,q⟩
noncomputable def rN(neg:Bool):W->W->(W->Prop)->Prop:=fun x y Q=>∃dx dy,x.dat=some dx/\y.dat=some dy/\zF dx=true/\zF dy=true/\Q (.d (.bool (if neg then !zH dx dy else zH dx dy)))
theorem bP{neg:Bool}:xP X rl (sM X.K neg) (rN neg):=fun{F H x y wx wy} Qd Q s ra r1 r2 q k=>by
 obtain⟨dx,dy,e1,e2,s1,s2,q⟩:=q;exact⟨dx,dy,r1.dat s e1,r2.dat s e2,s1,s2,k _ (.d _) _ _ (Grow.refl s ra) (.bl _) trivial q⟩
noncomputable def uX(neg:Bool):W->W->(W->Prop)->Prop:=fun x y Q=>∃dx ys,x.dat=some dx/\(y.dat=some (.list ys)\/y.dat=some (.tuple ys))/\zF dx=true/\zL ys=true/\Q (.d (.bool (if neg then !(ys.any fun z=>zH z dx)else ys.any fun z=>zH z dx)))
noncomputable def uE(f g:TB):TB:=fun ρ Q=>f ρ fun b=>if b=true then g ρ Q else Q false
noncomputable def wq(f g:TB):TB:=fun ρ Q=>f ρ fun b=>if b=true then Q true else g ρ Q
noncomputable def uC(f:TB):TB:=fun ρ Q=>f ρ fun b=>Q (!b)
noncomputable def yj(X:Cx)(rl:Option Addr)(e:Expr)(f:TB):Prop:=∃t,PW X e t/\∀{F₀ H₀ F H:Hp}{σ:St}{ρ:En},VR X.K rl F₀ H₀ F H σ ρ->∀(Qd:Bool->Prop)(Q:Bool->Hp->Prop),f ρ Qd ->
 (∀b F' H',Grow rl F H F' H'->Qd b->Q b H')->t σ H Q
variable{f g:TB}{rest:List Expr}
theorem yj.pb(h:yj X rl e f):PB X rl e f:=let ⟨t,p,k⟩:=h;⟨t,p.pt,k⟩
theorem gR(ha:PB X rl a f):yj X rl (.BoolOp .Or [a] pos) f:=let ⟨t,p,k⟩:=ha;⟨t,p8 p,k⟩
theorem jc(ha:PB X rl a f)(hb:yj X rl (.BoolOp .Or (b::rest) pos) g):yj X rl (.BoolOp .Or (a::b::rest) pos) (wq f g):=by
 obtain⟨t,p,k⟩:=ha;obtain⟨t2,p2,k2⟩:=hb;refine⟨_,sP p p2,fun R Qd Q q h=>k R _ _ q fun c F1 H1 g1 q1=>?_⟩
 cases c with
 | true=>exact h true F1 H1 g1 q1
 | false=>exact k2 (R.grow g1) _ _ q1 fun c F2 H2 g2 q2=>h c F2 H2 (g1.trans g2) q2
theorem eX(ha:PB X rl a f):PB X rl (.UnaryOp .Not a pos) (uC f):=by
 obtain⟨t,p,k⟩:=ha;exact⟨_,qf p,fun R Qd Q q h=>k R _ _ q fun c F1 H1 g1 q1=>h (!c) F1 H1 g1 q1⟩
noncomputable def mM(fa fb:TV):TV:=fun ρ Q=>fa ρ fun w=>∃c,w = .d (.bool c)/\if c=true then fb ρ Q else Q (.d (.bool false))
noncomputable def uB(fa fb:TV):TV:=fun ρ Q=>fa ρ fun w=>∃c,w = .d (.bool c)/\if c=true then Q (.d (.bool true))else fb ρ Q
noncomputable def mL(fa:TV):TV:=fun ρ Q=>fa ρ fun w=>∃c,w = .d (.bool c)/\Q (.d (.bool (!c)))
theorem dB.back{rl:Option Addr}{w:W}(g:Grow rl F H F' H')(n:dB H' v w):dB H v w:=by
 cases w with
 | ml xs=>exact fun a ea=>g.freeB (n a ea)
 | md xs=>exact fun a ea=>g.freeB (n a ea)
 | mk xs=>exact fun a ea=>g.freeB (n a ea)
 | nt _=>trivial
 | lk=>trivial
 | sc _=>trivial
 | fd _=>trivial
 | fw _=>trivial
 | ft _=>trivial
 | xc _ _=>trivial
 | dp _ _=>trivial
 | d _=>trivial
 | pk _=>trivial
 | reel=>trivial
 | vv _=>trivial
theorem mI{op}(ha:PV X rl a fa):PV X rl (.BoolOp op [a] pos) fa:=let ⟨t,p,k⟩:=ha;⟨t,ql p,k⟩
theorem v_and(ha:PV X rl a fa)(hb:PV X rl (.BoolOp .And (b::rest) pos) fb):PV X rl (.BoolOp .And (a::b::rest) pos) (mM fa fb):=by
 obtain⟨t,p,k⟩:=ha;obtain⟨t2,p2,k2⟩:=hb;refine⟨_,qp p p2,fun R Qd Q q h=>k R _ _ q fun v w F1 H1 g1 r1 n1 ⟨c,ew,q1⟩=>?_⟩;subst ew;refine⟨c,c7 r1,?_⟩
 cases c with
 | true=>exact k2 (R.grow g1) _ _ q1 fun v w F2 H2 g2 r2 n2 q2=>h v w F2 H2 (g1.trans g2) r2 (n2.back g1) q2
 | false=>exact h _ (.d _) F1 H1 g1 (.bl false) trivial q1
theorem v_not(ha:PV X rl a fa):PV X rl (.UnaryOp .Not a pos) (mL fa):=by
 obtain⟨t,p,k⟩:=ha;refine⟨_,qm p,fun R Qd Q q h=>k R _ _ q fun v w F1 H1 g1 r1 n1 ⟨c,ew,q1⟩=>?_⟩;subst ew;exact⟨c,c7 r1,h _ (.d _) F1 H1 g1 (.bl _) trivial q1⟩
noncomputable def wv(t:TB)(fa fb:TV):TV:=fun ρ Q=>t ρ fun c=>if c=true then fa ρ Q else fb ρ Q
theorem jg{c:Expr}(hc:PB X rl c f)(ha:PV X rl a fa)(hb:PV X rl b fb):PV X rl (.IfExp c a b pos) (wv f fa fb):=by
 obtain⟨t,p,k⟩:=hc;obtain⟨t1,p1,k1⟩:=ha;obtain⟨t2,p2,k2⟩:=hb;refine⟨_,hG p p1 p2,fun R Qd Q q h=>k R _ _ q fun c F1 H1 g1 q1=>?_⟩
 cases c with
 | true=>exact k1 (R.grow g1) _ _ q1 fun v w F2 H2 g2 r2 n2 q2=>h v w F2 H2 (g1.trans g2) r2 (n2.back g1) q2
 | false=>exact k2 (R.grow g1) _ _ q1 fun v w F2 H2 g2 r2 n2 q2=>h v w F2 H2 (g1.trans g2) r2 (n2.back g1) q2
noncomputable def eM:List W->Option (List yF)
 | []=>some []
 | .d x::r=>(eM r).map (x :: ·)
 | _::_=>none
theorem b6{K:W.Frag}{F H:Hp}:∀{vs:List V}{ws:List W}{ds:List yF},cI K rl F H vs ws->eM ws=some ds->Reps K F vs ds
 | _,_,_,.nil,e=>by cases e;exact .nil
 | _,.d x::ws,ds,.cons r rs,e=>by
   have e:(eM ws).map (x :: ·)=some ds:=e
   cases q:eM ws with
   | none=>rw[q]at e;cases e
   | some es=>rw[q]at e;cases e;exact .cons r (b6 rs q)
 | _,.ml x::ws,ds,.cons r rs,e=>by cases(show none=some ds from e)
 | _,.pk x::ws,ds,.cons r rs,e=>by cases(show none=some ds from e)
 | _,.reel::ws,ds,.cons r rs,e=>by cases(show none=some ds from e)
 | _,.vv u::ws,ds,.cons r rs,e=>by cases(show none=some ds from e)
 | _,.md u::ws,ds,.cons r rs,e=>by cases(show none=some ds from e)
 | _,.nt u::ws,ds,.cons r rs,e=>by cases(show none=some ds from e)
 | _,.lk::ws,ds,.cons r rs,e=>by cases(show none=some ds from e)
 | _,.sc _::ws,ds,.cons r rs,e=>by cases(show none=some ds from e)
 | _,.fd _::ws,ds,.cons r rs,e=>by cases(show none=some ds from e)
 | _,.xc _ _::ws,ds,.cons r rs,e=>by cases(show none=some ds from e)
 | _,.mk _::ws,ds,.cons r rs,e=>by cases(show none=some ds from e)
 | _,.fw _::ws,ds,.cons r rs,e=>by cases(show none=some ds from e)
 | _,.ft _::ws,ds,.cons r rs,e=>by cases(show none=some ds from e)
 | _,.dp _ _::ws,ds,.cons r rs,e=>by cases(show none=some ds from e)
noncomputable def rE(fs:xR):TV:=fun ρ Q=>fs ρ fun ws=>∃ds,eM ws=some ds/\ds.length<=sizeLine/\Q (.d (.tuple ds))
noncomputable def sv(fs:xR):TV:=fun ρ Q=>fs ρ fun ws=>∃ds,eM ws=some ds/\ds.length<=sizeLine/\Q (.ml ds)
theorem ba{x1}(h:yb X rl es fs):PV X rl (.Tuple es x1 pos) (rE fs):=by
 obtain⟨t,p,k⟩:=h;refine⟨_,qk p,fun R Qd Q q h=>k R _ _ q fun vs ws F1 H1 g1 r1 ⟨ds,e1,z,q1⟩=>?_⟩;have rs:=b6 r1 e1;refine⟨by rw[rs.length];exact z,fun p hp=>?_⟩;have g2:=g1.trans (Grow.data (a:=p) (o:=.tup vs) g1.sub g1.reel hp);exact h _ (.d (.tuple ds)) _ _ g2 (.tup (.inl (.inl ai)) (rs.mono (Grow.data (o:=.tup vs) g1.sub g1.reel hp).fs)) trivial q1
theorem eA{K:W.Frag}{p:Addr}{ds:List yF}(s:aW F H)(ra:x_ rl F H)(hp:H p=none)(rs:Reps K F vs ds):eR K rl F (upd H p (.lst vs)) (.ref p) ds:=by
 refine⟨p,vs,rfl,s.free hp,fun e=>?_,ai,rs⟩;obtain⟨o,q⟩:=ra.live e;rw[hp]at q;cases q
theorem iw(h:yb X rl es fs):PV X rl (.List es pos) (sv fs):=by
 obtain⟨t,p,k⟩:=h;refine⟨_,l0 p,fun R Qd Q q h=>k R _ _ q fun vs ws F1 H1 g1 r1 ⟨ds,e1,z,q1⟩=>?_⟩;have rs:=b6 r1 e1;refine⟨by rw[rs.length];exact z,fun p hp=>?_⟩;exact h _ (.ml ds) _ _ (g1.trans (Grow.laid (a:=p) (o:=.lst vs) g1.sub g1.reel hp)) (eA g1.sub g1.reel hp rs) (fun a ea=>by cases ea;exact g1.freeB hp) q1
noncomputable def itemAt:yF->Int->Option yF
 | .list xs,i=>atI xs i
 | .tuple xs,i=>atI xs i
 | _,_=>none
theorem Reps.atI{K:W.Frag}{F:Hp}{vs:List V}{ds:List yF}{i:Int}{d:yF}(r:Reps K F vs ds)(e:L2.atI ds i=some d):∃v,L2.atI vs i=some v/\Rep K F v d:=by
 unfold L2.atI at e ⊢;rw[r.length]
 cases q:ixN ds.length i with
 | none=>rw[q]at e;cases e
 | some j =>
   rw[q]at e;exact r.get e
noncomputable def xD:W->W->(W->Prop)->Prop:=fun x y Q=>∃dx i z,x.dat=some dx/\y = .d (.int i)/\itemAt dx i=some z/\Q (.d z)
theorem se:xP X rl (wW X.K) xD:=fun{F H x y wx wy} Qd Q s ra r1 r2 q k=>by
 obtain⟨dx,i,z,e1,rfl,e3,q⟩:=q;have ey:=aC r2;subst ey
 cases dx with
 | list xs =>
   obtain⟨a,vs,rfl,sq,rs⟩:=r1.items s e1;obtain⟨v,e4,rz⟩:=Reps.atI rs e3
   exact .inl ⟨a,vs,i,v,rfl,rfl,sq,e4,k _ (.d _) _ _ (Grow.refl s ra) rz trivial q⟩
 | tuple xs =>
   obtain⟨a,vs,rfl,sq,rs⟩:=r1.itemsT s e1;obtain⟨v,e4,rz⟩:=Reps.atI rs e3
   exact .inr (.inl ⟨a,vs,i,v,rfl,rfl,sq,e4,k _ (.d _) _ _ (Grow.refl s ra) rz trivial q⟩)
 | none=>cases e3
 | bool b=>cases e3
 | int b=>cases e3
 | str b=>cases e3
 | dict b=>cases e3
theorem bX(ha:PV X rl a fa)(hb:PV X rl b fb)(hs:kA b:=by exact fun _ _=>rfl):PV X rl (.Subscript a b pos) (wr xD fa fb):=i_ se ha hb fun _ _ p1 p2=>bG aP p1 p2 hs
noncomputable def eQ(X:Cx)(rl:Option Addr)(r:List V->Hp->VK->Prop)(g:List W->(W->Prop)->Prop):Prop:=∀{F H:Hp}{vs:List V}{ws:List W}(Qd:W->Prop)(Q:VK),aW F H->x_ rl F H->cI X.K rl F H vs ws->g ws Qd ->
 (∀v w F' H',Grow rl F H F' H'->cu X.K rl F' H' v w->dB H v w->Qd w->Q v H')->r vs H Q
noncomputable def cY(g:List W->(W->Prop)->Prop)(fs:xR):TV:=fun ρ Q=>fs ρ fun ws=>g ws Q
theorem kJ{r:List V->Hp->VK->Prop}{g:List W->(W->Prop)->Prop}{t:TA->TE}(vc:eQ X rl r g)(ha:yb X rl es fs){e:Expr}(hp:∀ta,PA X es ta->PE X e (wK r ta)):PV X rl e (cY g fs):=by
 obtain⟨ta,p1,k1⟩:=ha;refine⟨_,hp ta p1,fun R Qd Q q k=>k1 R _ _ q fun vs ws F1 H1 g1 r1 q1=>?_⟩;exact vc Qd Q g1.sub g1.reel r1 q1 fun v w F2 H2 g2 r2 n2 q2=>k v w F2 H2 (g1.trans g2) r2 (n2.back g1) q2
theorem bQ{id:String}{r:List V->Hp->VK->Prop}{g:List W->(W->Prop)->Prop}(hc:cS X (.builtin id) r)(vc:eQ X rl r g)(hm:X.mg x=none)(hv:AB x=some (.builtin id))(ha:yb X rl (e::es) fs)(hg:autoParam (Gl X x) æa._auto_1)(hn:autoParam (x ≠ "__name__") æb._auto_1)(hdb:autoParam ((x==("__debug__" : Str))=false) æb._auto_1)
 (he:autoParam (yM (e::es) X.env=(false,eval e X.env)::yM es X.env) æa._auto_1)(hpl:autoParam ((Ae pos (yM es X.env)).any (·.1)=false) æa._auto_1):PV X rl (.Call (.Name x p) (e::es) [] pos) (cY g fs) :=
 kJ (t:=fun _=>tC .non) vc ha fun _ p1=>bZ hc hg hm hv p1 hn hdb he hpl
theorem lT{K:W.Frag}{w:W}(r:cI K rl F H vs [w]):∃v,vs=[v]/\cu K rl F H v w:=by
 cases r with
 | cons r1 r2=>cases r2;exact⟨_,rfl,r1⟩
theorem rG{K:W.Frag}{w w':W}(r:cI K rl F H vs [w,w']):∃v u,vs=[v,u]/\cu K rl F H v w/\cu K rl F H u w':=by
 cases r with
 | cons r1 r2 =>
   cases r2 with
   | cons r3 r4=>cases r4;exact⟨_,_,rfl,r1,r3⟩
noncomputable def rQ:List W->(W->Prop)->Prop:=fun ws Q=>∃i,ws=[.d (.int i)]/\Q (.d (.int (if i<0 then -i else i)))
theorem o7:eQ X rl (fun xs H Q=>∃i,xs=[.int i]/\Q (.int (if i<0 then -i else i)) H) rQ:=fun{F H vs ws} Qd Q s ra r ⟨i,ew,q⟩ k=>by
 subst ew;obtain⟨v,rfl,r1⟩:=lT r;have e:=aC r1;subst e;exact⟨i,rfl,k _ (.d _) _ _ (Grow.refl s ra) (.int _) trivial q⟩
noncomputable def nX:yF->Option Nat
 | .list xs=>some xs.length
 | .tuple xs=>some xs.length
 | _=>none
noncomputable def rK:List W->(W->Prop)->Prop:=fun ws Q=>∃w d n,ws=[w]/\w.dat=some d/\nX d=some n/\Q (.d (.int n))
theorem o3:eQ X rl (fun xs H Q=>∃p ys,xs=[.ref p]/\(xX X.K H p ys\/xW X.K H p ys)/\Q (.int ys.length) H) rK:=fun{F H vs ws} Qd Q s ra r ⟨w,d,n,ew,e1,e2,q⟩ k=>by
 subst ew;obtain⟨v,rfl,r1⟩:=lT r
 cases d with
 | list xs =>
   obtain⟨a,vs,rfl,sq,rs⟩:=r1.items s e1;cases e2
   exact⟨a,vs,rfl,.inl sq,k _ (.d _) _ _ (Grow.refl s ra) (by rw[rs.length];exact .int _) trivial q⟩
 | tuple xs =>
   obtain⟨a,vs,rfl,sq,rs⟩:=r1.itemsT s e1;cases e2
   exact⟨a,vs,rfl,.inr sq,k _ (.d _) _ _ (Grow.refl s ra) (by rw[rs.length];exact .int _) trivial q⟩
 | none=>cases e2
 | bool b=>cases e2
 | int b=>cases e2
 | str b=>cases e2
 | dict b=>cases e2
end
structure VEnds where
 nx:En->Prop
 rt:W->Prop
 bk:En->Prop:=fun _=>False
 ct:En->Prop:=fun _=>False
structure EndsOk (K:W.Frag) (rl:Option Addr) (F₀ H₀ Fs:Hp) (Dv:VEnds) (D:Ends):Prop where
 nx:∀F H σ ρ,aW Fs F->VR K rl F₀ H₀ F H σ ρ->Dv.nx ρ->D.nx σ H
 rt:∀v w F H,Grow rl F₀ H₀ F H->cu K rl F H v w->dB H₀ v w->Dv.rt w->D.rt v H
 bk:∀F H σ ρ,aW Fs F->VR K rl F₀ H₀ F H σ ρ->Dv.bk ρ->D.bk σ H
 ct:∀F H σ ρ,aW Fs F->VR K rl F₀ H₀ F H σ ρ->Dv.ct ρ->D.ct σ H
theorem EndsOk.on{K:W.Frag}{Fs:Hp}{Dv:VEnds}{D:Ends}(ok:EndsOk K rl F₀ H₀ Fs Dv D)(s:aW Fs F):EndsOk K rl F₀ H₀ F Dv D :=
 ⟨fun F1 H σ ρ s1=>ok.nx F1 H σ ρ (s.trans s1),ok.rt,fun F1 H σ ρ s1=>ok.bk F1 H σ ρ (s.trans s1),fun F1 H σ ρ s1=>ok.ct F1 H σ ρ (s.trans s1)⟩
abbrev xS:=VEnds->En->Prop
noncomputable def ye(X:Cx)(rl:Option Addr)(st:Stmt)(t:xS):Prop:=∃T,PS X st T/\∀{F₀ H₀ F H:Hp}{σ:St}{ρ:En},VR X.K rl F₀ H₀ F H σ ρ->∀Dv D,EndsOk X.K rl F₀ H₀ F Dv D->t Dv ρ->T D σ H
noncomputable def gk(X:Cx)(rl:Option Addr)(st:List Stmt)(t:xS):Prop:=∃T,yd X st T/\∀{F₀ H₀ F H:Hp}{σ:St}{ρ:En},VR X.K rl F₀ H₀ F H σ ρ->∀Dv D,EndsOk X.K rl F₀ H₀ F Dv D->t Dv ρ->T D σ H
section
variable{X:Cx}{rl:Option Addr}{st:Stmt}{rest body:List Stmt}{t u:xS}{a b c e:Expr}{es:List Expr}{fa fb:TV}{fs:xR}{f:TB}{pos p:Pos}
noncomputable def po:xS:=fun D ρ=>D.nx ρ
noncomputable def sj(t u:xS):xS:=fun D ρ=>t {D with nx:=u D} ρ
theorem cv:gk X rl [] po:=⟨_,c9,fun R Dv D ok q=>ok.nx _ _ _ _ (.refl _) R q⟩
theorem av(h:ye X rl st t):gk X rl [st] t:=let ⟨T,p,k⟩:=h;⟨T,bF p,k⟩
theorem am(h:ye X rl st t)(h2:gk X rl rest u):gk X rl (st::rest) (sj t u):=by
 obtain⟨T,p,k⟩:=h;obtain⟨T2,p2,k2⟩:=h2;exact⟨_,aF p p2,fun R Dv D ok q=>k R {Dv with nx:=u Dv} {D with nx:=T2 D} ⟨fun F H σ ρ s' R' q'=>k2 R' Dv D (ok.on s') q',ok.rt,ok.bk,ok.ct⟩ q⟩
noncomputable def sy(fa:TV):xS:=fun D ρ=>fa ρ fun _=>D.nx ρ
noncomputable def uz(fa:TV):xS:=fun D ρ=>fa ρ D.rt
theorem aD(h:PV X rl e fa):ye X rl (.Return (some e) pos) (uz fa):=by
 obtain⟨t,p,k⟩:=h;exact⟨_,g9 p,fun R Dv D ok q=>k R _ _ q fun v w F1 H1 g1 r1 n1 q1=>ok.rt v w F1 H1 (R.g.trans g1) r1 (n1.back R.g) q1⟩
noncomputable def so:xS:=fun D _=>D.rt (.d .none)
noncomputable def sw(f:TB)(t u:xS):xS:=fun D ρ=>f ρ fun b=>if b=true then t D ρ else u D ρ
theorem d4{A B:List Stmt}(hc:PB X rl c f)(ha:gk X rl A t)(hb:gk X rl B u):ye X rl (.If c A B pos) (sw f t u):=by
 obtain⟨t0,p0,k0⟩:=hc;obtain⟨t1,p1,k1⟩:=ha;obtain⟨t2,p2,k2⟩:=hb;refine⟨_,jE p0 p1 p2,fun R Dv D ok q=>k0 R _ _ q fun b F1 H1 g1 q1=>?_⟩
 cases b with
 | true=>exact k1 (R.grow g1) Dv D (ok.on g1.fs) q1
 | false=>exact k2 (R.grow g1) Dv D (ok.on g1.fs) q1
theorem kG:ye X rl st (fun _ _=>False):=⟨_,kR,fun _ _ _ _ q=>q.elim⟩
noncomputable def W.isPk:W->Bool
 | .pk _=>true
 | _=>false
noncomputable def si(i:Nat)(fa:TV):xS:=fun D ρ=>fa ρ fun w=>w.isPk=false/\D.nx (ρ.set i (some w))
theorem gQ(i:Nat){pos':Pos}(hN:X.N.Nodup)(he:PV X rl e fa)(hi:autoParam (X.N[i]?=some x) æa._auto_1)(hx:autoParam (Loc X.env.scope x) æe._auto_1)
 (hs:autoParam (AL e (some (.Name x pos')) pos.line X.env=pure false) æa._auto_1)(hf:autoParam (X.fn x=true\/X.env.scope.names.lookup x=some .local) æf._auto_1) :
 ye X rl (.Assign [.Name x pos'] e pos) (si i fa):=by
 obtain⟨t,p,k⟩:=he;refine⟨_,cz hN hi hx p hs hf,fun R Dv D ok q=>k R _ _ q fun v w F1 H1 g1 r1 n1 ⟨hp,q1⟩=>?_⟩;exact ok.nx _ _ _ _ g1.fs (R.set g1 r1 n1 (fun xs z=>by subst z;cases hp) i) q1
noncomputable def lE(ρ:En):Prop:=∀(i:Nat)(w:W),ρ[i]?=some (some w)->w.own=false
theorem lE.set{ρ:En}(h:lE ρ)(i:Nat)(x:yF):lE (ρ.set i (some (.d x))):=fun j w z=>by
 rw[zm]at z;split at z
 · split at z
   · cases z;rfl
   · cases z
 · exact h j w z
abbrev xU:=yF->En->(En->Prop)->Prop
abbrev i4:=List yF->En->(En->Prop)->Prop
noncomputable def yi(X:Cx)(rl:Option Addr)(tg:Expr)(g:xU):Prop:=∃G,PG X tg G/\∀{F₀ H₀ F H:Hp}{σ:St}{ρ:En},VR X.K rl F₀ H₀ F H σ ρ->∀(v:V)(x:yF)(Qd:En->Prop)(Q:St->Hp->Prop),Rep X.K F v x->g x ρ Qd ->
 (∀F' H' σ' ρ',Grow rl F H F' H'->(lE ρ->lE ρ')->VR X.K rl F₀ H₀ F' H' σ' ρ'->Qd ρ'->Q σ' H')->G v σ H Q
noncomputable def rW(X:Cx)(rl:Option Addr)(tgs:List Expr)(g:i4):Prop:=∃G,yh X tgs G/\∀{F₀ H₀ F H:Hp}{σ:St}{ρ:En},VR X.K rl F₀ H₀ F H σ ρ->∀(vs:List V)(xs:List yF)(Qd:En->Prop)(Q:St->Hp->Prop),Reps X.K F vs xs->g xs ρ Qd ->
 (∀F' H' σ' ρ',Grow rl F H F' H'->(lE ρ->lE ρ')->VR X.K rl F₀ H₀ F' H' σ' ρ'->Qd ρ'->Q σ' H')->G vs σ H Q
noncomputable def qL(i:Nat):xU:=fun x ρ Q=>Q (ρ.set i (some (.d x)))
theorem aY(i:Nat)(hN:X.N.Nodup)(hi:autoParam (X.N[i]?=some x) æa._auto_1)(hx:autoParam (Loc X.env.scope x) æe._auto_1)(hf:autoParam (X.fn x=true\/X.env.scope.names.lookup x=some .local) æf._auto_1):yi X rl (.Name x pos) (qL i) :=
 ⟨_,nG hN hi hx hf,fun R v x Qd Q r q k=>k _ _ _ _ (Grow.refl R.sub R.reel) (fun n=>n.set i x) (R.set (w:=.d x) (Grow.refl R.sub R.reel) r trivial (fun _ z=>by cases z) i) q⟩
noncomputable def tj:i4:=fun xs ρ Q=>xs=[]/\Q ρ
noncomputable def ll(g:xU)(gs:i4):i4:=fun xs ρ Q=>∃y r,xs=y::r/\g y ρ fun ρ'=>gs r ρ' Q
theorem gl:rW X rl [] tj:=⟨_,nE,fun R vs xs Qd Q r ⟨e,q⟩ k=>by subst e;exact⟨r.nil_iff,k _ _ _ _ (Grow.refl R.sub R.reel) (fun n=>n) R q⟩⟩
theorem bW{g:xU}{gs:i4}(h1:yi X rl e g)(h2:rW X rl es gs)(hs:autoParam ((Av (e::es) X.env).map (·.2)=Do e X.env::(Av es X.env).map (·.2)) æa._auto_1):rW X rl (e::es) (ll g gs):=by
 obtain⟨G,p,k⟩:=h1;obtain⟨G2,p2,k2⟩:=h2;refine⟨_,kS p p2 hs,fun R vs xs Qd Q r ⟨y,ys,ex,q⟩ h=>?_⟩;subst ex
 cases r with
 | cons r1 r2 =>
   refine⟨_,_,rfl,k R _ y _ _ r1 q fun F1 H1 σ1 ρ1 s1 n1 R1 q1=>?_⟩;exact k2 R1 _ ys _ _ (r2.mono s1.fs) q1 fun F2 H2 σ2 ρ2 s2 n2 R2 q2=>h F2 H2 σ2 ρ2 (s1.trans s2) (fun n=>n2 (n1 n)) R2 q2
noncomputable def tf(n:Nat)(gs:i4):xU:=fun x ρ Q=>∃xs,x = .tuple xs/\xs.length=n/\gs xs ρ Q
theorem ja{kk:Nat}{gs:i4}(hc:X.calm=true)(h:rW X rl es gs)(hn:autoParam ((Av es X.env).length=n) æa._auto_1)(hst:autoParam ((Av es X.env).findIdx? (·.1)=none) æa._auto_1):yi X rl (.Tuple es kk pos) (tf n gs):=by
 obtain⟨G,p,k⟩:=h;refine⟨_,qj hc p hn hst,fun R v x Qd Q r ⟨xs,ex,hl,q⟩ h=>?_⟩;subst ex
 cases r with
 | tup sq rs=>exact⟨_,_,rfl,gv R.sub sq,by rw[rs.length];exact hl,k R _ xs _ _ rs q h⟩
noncomputable def sA(fa:TV)(g:xU):xS:=fun D ρ=>fa ρ fun w=>∃x,w = .d x/\g x ρ D.nx
theorem i9{g:xU}(he:PV X rl e fa)(hg:yi X rl tg g)(hs:autoParam (BS [tg] e pos.line X.env=pure false) æa._auto_1)(hw:autoParam (BU [tg] e X.env=pure none) æa._auto_1)
 (h1:autoParam ((Av [tg] X.env).map (·.2)=[Do tg X.env]) æa._auto_1):ye X rl (.Assign [tg] e pos) (sA fa g):=by
 obtain⟨t,p,k⟩:=he;obtain⟨G,p2,k2⟩:=hg;refine⟨_,fL p p2 hs hw h1,fun R Dv D ok q=>k R _ _ q fun v w F1 H1 g1 r1 n1 ⟨x,ew,q1⟩=>?_⟩;subst ew;exact k2 (R.grow g1) v x _ _ r1 q1 fun F2 H2 σ2 ρ2 s2 n2 R2 q2=>ok.nx _ _ _ _ (g1.fs.trans s2.fs) R2 q2
noncomputable def uA(i j:Nat)(fs:xR):xS:=fun D ρ=>fs ρ fun ws=>∃x y,eM ws=some [x,y]/\D.nx ((ρ.set i (some (.d x))).set j (some (.d y)))
theorem lF(i j:Nat){y:Str}{px py pt:Pos}{kt k2 pt2}(hc:X.calm=true)(hN:X.N.Nodup)(ha:yb X rl [a,b] fs)
 (hw:autoParam (BU [.Tuple [.Name x px,.Name y py] kt pt] (.Tuple [a,b] k2 pt2) X.env=pure (some [x,y])) æa._auto_1)(hi:autoParam (X.N[i]?=some x) æa._auto_1)(hj:autoParam (X.N[j]?=some y) æa._auto_1)(hij:autoParam (i≠j) æb._auto_1)
 (hx:autoParam (X.env.scope.names.lookup x=some .local) æa._auto_1)(hy:autoParam (X.env.scope.names.lookup y=some .local) æa._auto_1)
 (hs:autoParam (BS [.Tuple [.Name x px,.Name y py] kt pt] (.Tuple [a,b] k2 pt2) pos.line X.env=pure false) æa._auto_1) :
 ye X rl (.Assign [.Tuple [.Name x px,.Name y py] kt pt] (.Tuple [a,b] k2 pt2) pos) (uA i j fs):=by
 obtain⟨t,p,k⟩:=ha;refine⟨_,qg hc hN hi hj hij hx hy p hw hs,fun R Dv D ok q=>k R _ _ q fun vs ws F1 H1 g1 r1 ⟨x,y,e1,q1⟩=>?_⟩;have rs:=b6 r1 e1
 cases rs with
 | cons rx rs =>
   cases rs with
   | cons ry rs =>
     cases rs;have R1:=(R.grow g1).set (w:=.d x) (Grow.refl g1.sub g1.reel) rx trivial (fun _ z=>by cases z) i;exact⟨_,_,rfl,ok.nx _ _ _ _ g1.fs (R1.set (w:=.d y) (Grow.refl g1.sub g1.reel) ry trivial (fun _ z=>by cases z) j) q1⟩
structure VIt (K:W.Frag) (rl:Option Addr) (F:Hp) (J:It) (xs:List yF):Prop where
 go:∀i H x,xs[i]?=some x->aW F H->J.go i H
 stop:∀i H,xs.length<=i->aW F H->J.stop i H
 yld:∀i H v H' x F2,xs[i]?=some x->aW F F2->aW F2 H->x_ rl F2 H->J.yld i H v H'->∃F3,Grow rl F2 H F3 H'/\Rep K F3 v x
theorem VIt.of{K:W.Frag}{rl:Option Addr}{J:It}{xs:List yF}(go:∀i H x,xs[i]?=some x->aW F H->J.go i H)(stop:∀i H,xs.length<=i->aW F H->J.stop i H)
 (yld:∀i H v H' x,xs[i]?=some x->aW F H->J.yld i H v H'->H'=H/\Rep K F v x):VIt K rl F J xs :=
 ⟨go,stop,fun i H v H' x F2 e s s2 ra y=>by
  obtain⟨e1,r⟩:=yld i H v H' x e (s.trans s2) y;subst e1
  exact⟨F2,Grow.refl s2 ra,r.mono s⟩⟩
noncomputable def yf(X:Cx)(rl:Option Addr)(tg iter:Expr)(fi:En->(List yF->Prop)->Prop):Prop:=∃wi,PI X tg iter wi/\∀{F₀ H₀ F H:Hp}{σ:St}{ρ:En},VR X.K rl F₀ H₀ F H σ ρ->∀(Qd:List yF->Prop)(R:It->Hp->Prop),fi ρ Qd ->
 (∀J xs F' H',Grow rl F H F' H'->VIt X.K rl F' J xs->Qd xs->R J H')->wi σ H R
end
section
variable{X:Cx}{rl:Option Addr}{st:Stmt}{rest body:List Stmt}{t u:xS}{a b c e:Expr}{es:List Expr}{fa fb:TV}{fs:xR}{f:TB}{pos p:Pos}{tg:Expr}
noncomputable def sx(i:Nat)(t:xS):xS:=fun D ρ=>∃xs,ρ[i]?=some (some (.ml xs))/\t D (ρ.set i (some (.d (.list xs))))
theorem lu{K:W.Frag}{ρ:En}(r:VR K rl F₀ H₀ F H σ ρ){xs:List yF}(e:ρ[i]?=some (some (.ml xs))):∃F1,aW F F1/\VR K rl F₀ H₀ F1 H σ (ρ.set i (some (.d (.list xs)))):=by
 obtain⟨v,h1,h2,h3⟩:=r.sl i _ e;obtain⟨a,vs,ev,f,hr,hh,q⟩:=(show eR K rl F H v xs from h2);obtain⟨F1,R1⟩:=r.freeze e;obtain⟨v',k1,k2,k3⟩:=R1.sl i _ (yZ (yU.mp e).1);have neF:∀b u,F b=some u->b≠a:=fun b u q z=>by subst z;rw[f]at q;cases q
 have fsm:aW F (upd F a (.lst vs)):=fun b u z=>by rw[upd_ne (neF b u z)];exact z
 have hi:i<ρ.length:=(yU.mp e).1;refine⟨upd F a (.lst vs),fsm,r.g.freeze (h3 a ev) hh f hr,fun j w e1=>?_,R1.ap,R1.np,R1.len⟩;by_cases hj:i=j
 · subst hj;rw[yZ hi]at e1;cases e1;exact⟨v,h1,by rw[ev];exact .lst ai (q.mono fsm),trivial⟩
 · rw[yO hj]at e1;obtain⟨u,g1,g2,g3⟩:=r.sl j w e1;refine⟨u,g1,?_,g3⟩
   cases w with
   | d x=>exact Rep.mono fsm g2
   | reel=>exact g2
   | vv u=>exact g2
   | ml ys =>
     obtain⟨b,us,eb,f1,f2,f3,f4⟩:=(show eR K rl F H u ys from g2);have ne:b≠a:=fun z=>r.ap i j _ _ v hj e e1 rfl rfl h1 (by rw[g1,eb,z,ev])
     exact⟨b,us,eb,by rw[upd_ne ne];exact f1,f2,f3,f4.mono fsm⟩
   | pk ys=>exact absurd e1 (r.np j ys)
   | md ys =>
     obtain⟨b,us,eb,f1,f2,f3,f4⟩:=(show oK K rl F H u ys from g2);have ne:b≠a:=fun z=>r.ap i j _ _ v hj e e1 rfl rfl h1 (by rw[g1,eb,z,ev])
     exact⟨b,us,eb,by rw[upd_ne ne];exact f1,f2,f3,zE.mapP f4 fun _ _ z=>⟨z.1,z.2.mono fsm⟩⟩
   | mk ys =>
     obtain⟨b,us,eb,f1,f2,f3,f4⟩:=(show oJ K rl F H u ys from g2);have ne:b≠a:=fun z=>r.ap i j _ _ v hj e e1 rfl rfl h1 (by rw[g1,eb,z,ev])
     exact⟨b,us,eb,by rw[upd_ne ne];exact f1,f2,f3,zE.mapP f4 fun _ _ z=>⟨z.1,z.2.mono fsm⟩⟩
   | nt ds=>obtain⟨b,us,eb,f1,f2⟩:=g2;exact⟨b,us,eb,fsm _ _ f1,f2.mono fsm⟩
   | lk=>trivial
   | sc ns=>obtain⟨b,eb,f1⟩:=g2;exact⟨b,eb,js fsm f1⟩
   | fd kvs=>obtain⟨b,us,eb,f1,f2⟩:=g2;exact⟨b,us,eb,fsm _ _ f1,zE.mapP f2 fun _ _ z=>⟨z.1,z.2.mono fsm⟩⟩
   | fw kvs=>obtain⟨b,us,o,eb,f1,f2⟩:=g2;exact⟨b,us,o,eb,fsm _ _ f1,zE.mapP f2 fun _ _ z=>⟨z.1,z.2.mono fsm⟩⟩
   | ft kvs=>obtain⟨b,us,o,eb,f1,f2⟩:=g2;exact⟨b,us,o,eb,fsm _ _ f1,zE.mapP f2 fun _ _ z=>⟨z.1,z.2.mono fsm⟩⟩
   | xc _ _=>obtain⟨b,dx,us,C,eb,n,f1,f3,f2⟩:=g2;exact⟨b,dx,us,C,eb,n,fsm _ _ f1,fsm _ _ f3,zE.mapP f2 fun _ _ z=>⟨z.1,z.2.mono fsm⟩⟩
   | dp _ _=>obtain⟨c,b,us,u,o,eb,f1,f3,f2,z⟩:=g2;exact⟨c,b,us,u,o,eb,fsm _ _ f1,fsm _ _ f3,zE.mapP f2 fun _ _ z=>⟨z.1,z.2.mono fsm⟩,z.mono fsm⟩
theorem oS(i:Nat)(h:ye X rl st t):ye X rl st (sx i t):=by
 obtain⟨T,p,k⟩:=h;refine⟨T,p,fun R Dv D ok ⟨xs,e,q⟩=>?_⟩;obtain⟨F1,s1,R1⟩:=lu R e;exact k R1 Dv D (ok.on s1) q
noncomputable def iL(fa:TV):En->(List yF->Prop)->Prop:=fun ρ Q=>fa ρ fun w=>∃xs,w.fz = .d (.list xs)/\Q xs
noncomputable def iT(fa:TV):En->(List yF->Prop)->Prop:=fun ρ Q=>fa ρ fun w=>∃xs,w.fz = .d (.tuple xs)/\Q xs
theorem mF{l:Expr}(hl:PV X rl l fa):yf X rl tg l (iL fa):=by
 obtain⟨t,p,k⟩:=hl;refine⟨_,nD p,fun R Qd Q q h=>k R _ _ q fun v w F1 H1 g1 r1 n1 ⟨xs,ew,q1⟩=>?_⟩;obtain⟨F2,g2,s2,r2⟩:=cu.fz g1 r1 n1;rw[ew]at r2
 cases(show Rep X.K F2 v (.list xs)from r2)with
 | @lst a vs _ sq rs =>
   have sqH:∀H,aW F2 H->xX X.K H a vs:=fun H s=>.inl (.inl (s _ _ sq));refine⟨a,rfl,⟨vs,sqH H1 g2.sub⟩,h _ xs F2 H1 g2 (.of (fun i H x e s=>?_) (fun i H hl s=>⟨vs,sqH H s,by rw[rs.length];exact hl⟩) (fun i H v H' x e s y=>?_)) q1⟩
   · obtain⟨v,ev,_⟩:=rs.get e;exact⟨vs,v,sqH H s,ev⟩
   · obtain⟨e',hy⟩:=y;obtain⟨v',ev,rv⟩:=rs.get e;have:=hy vs (sqH H s);rw[ev]at this;cases this;exact⟨e',rv⟩
theorem lH{l:Expr}(hl:PV X rl l fa):yf X rl tg l (iT fa):=by
 obtain⟨t,p,k⟩:=hl;refine⟨_,qi p,fun R Qd Q q h=>k R _ _ q fun v w F1 H1 g1 r1 n1 ⟨xs,ew,q1⟩=>?_⟩;obtain⟨F2,g2,s2,r2⟩:=cu.fz g1 r1 n1;rw[ew]at r2
 cases(show Rep X.K F2 v (.tuple xs)from r2)with
 | @tup a vs _ sq rs =>
   have sqH:∀H,aW F2 H->xW X.K H a vs:=fun H s=>gv s sq;refine⟨a,rfl,⟨vs,sqH H1 g2.sub⟩,h _ xs F2 H1 g2 (.of (fun i H x e s=>?_) (fun i H hl s=>⟨vs,sqH H s,by rw[rs.length];exact hl⟩) (fun i H v H' x e s y=>?_)) q1⟩
   · obtain⟨v,ev,_⟩:=rs.get e;exact⟨vs,v,sqH H s,ev⟩
   · obtain⟨e',hy⟩:=y;obtain⟨v',ev,rv⟩:=rs.get e;have:=hy vs (sqH H s);rw[ev]at this;cases this;exact⟨e',rv⟩
noncomputable def aJ(lo:Int)(n:Nat):List yF:=(zw n).map fun(i:Nat)=>.int (lo+i)
theorem dO{lo:Int}{x:yF}(h:(aJ lo n)[i]?=some x):i<n/\x = .int (lo+i):=by
 unfold aJ at h;rw[zB]at h;by_cases hi:i<n
 · rw[zA (by simpa using hi)]at h;simp at h;exact⟨hi,h.symm⟩
 · rw[List.getElem?_eq_none (by simpa using hi)]at h;cases h
theorem eg{lo:Int}:(aJ lo n).length=n:=by simp[aJ]
theorem eU{K:W.Frag}(lo:Int)(n:Nat):VIt K rl F (yu lo n) (aJ lo n) :=
 .of (fun i H x e s=>(dO e).1) (fun i H hl s=>by rw[eg]at hl;exact hl) (fun i H v H' x e s y=>by
  obtain⟨e1,e2⟩:=y;subst e2;rw[(dO e).2]
  exact⟨e1,.int _⟩)
noncomputable def xz(fs:xR):En->(List yF->Prop)->Prop:=fun ρ Q=>fs ρ fun ws=>∃j:Int,ws=[.d (.int j)]/\(-(2^62)<=j/\j<2^62)/\Q (aJ 0 j.toNat)
noncomputable def xx(fs:xR):En->(List yF->Prop)->Prop:=fun ρ Q=>fs ρ fun ws=>∃i j:Int,ws=[.d (.int i),.d (.int j)]/\(-(2^62)<=i/\i<2^62 /\ -(2^62)<=j/\j<2^62)/\Q (aJ i (j-i).toNat)
theorem eV(hm:X.mg "range" = none)(ha:yb X rl [a] fs)(hg:autoParam (Gl X "range") æa._auto_1)(hs:autoParam (yM [a] X.env=[(false,eval a X.env)]) æa._auto_1):yf X rl tg (.Call (.Name "range" p) [a] [] pos) (xz fs):=by
 obtain⟨t,p1,k⟩:=ha;refine⟨_,jI hg hm p1 hs,fun R Qd Q q h=>k R _ _ q fun vs ws F1 H1 g1 r1 ⟨j,ew,b,q1⟩=>?_⟩;subst ew;obtain⟨v,rfl,rv⟩:=lT r1;have e:=aC rv;subst e;exact⟨j,rfl,b.1,b.2,h _ _ F1 H1 g1 (eU 0 _) q1⟩
theorem cX(hm:X.mg "range" = none)(ha:yb X rl [a,b] fs)(hg:autoParam (Gl X "range") æa._auto_1)(hs:autoParam (yM [a,b] X.env=[(false,eval a X.env),(false,eval b X.env)]) æa._auto_1)(hs2:autoParam (yM [b] X.env=[(false,eval b X.env)]) æa._auto_1):yf X rl tg (.Call (.Name "range" p) [a,b] [] pos) (xx fs):=by
 obtain⟨t,p1,k⟩:=ha;refine⟨_,jH hg hm p1 hs hs2,fun R Qd Q q h=>k R _ _ q fun vs ws F1 H1 g1 r1 ⟨i,j,ew,b,q1⟩=>?_⟩;subst ew;obtain⟨v,u,rfl,rv,ru⟩:=rG r1;have e:=aC rv;have e':=aC ru;subst e e';exact⟨i,j,rfl,b,h _ _ F1 H1 g1 (eU i _) q1⟩
theorem VR.own{K:W.Frag}{F₀ H₀ F H:Hp}{σ:St}{ρ:En}(r:VR K rl F₀ H₀ F H σ ρ){i:Nat}{xs ys:List yF}{a:Addr}{us:List V}(e:ρ[i]?=some (some (.ml xs)))(es:σ[i]?=some (some (.ref a)))(rs:Reps K F us ys) :
 VR K rl F₀ H₀ F (upd H a (.lst us)) σ (ρ.set i (some (.ml ys))):=by
 obtain⟨v,h1,h2,h3⟩:=r.sl i _ e;rw[es]at h1;cases h1;obtain⟨a',vs,ev,f,hr,hh,q⟩:=(show eR K rl F H (.ref a) xs from h2);cases ev;have n0:H₀ a=none:=h3 a rfl;have hi:i<ρ.length:=(yU.mp e).1;have neF:∀b u,F b=some u->b≠a:=fun b u q z=>by subst z;rw[f]at q;cases q
 have g:Grow rl F₀ H₀ F (upd H a (.lst us)):=by
  refine⟨fun b o q1 n=>by rw[upd_ne (aj q1 n0)];exact r.g.same b o q1 n,r.g.fs,fun b o q1=>by rw[upd_ne (neF b o q1)];exact r.sub b o q1,r.g.old,fun y z=>?_⟩;obtain⟨z1,⟨u,h1,h2⟩⟩:=r.reel y z;exact⟨z1,⟨u,by rw[upd_ne (fun q=>hr (by rw[<- q];exact z))];exact h1,h2⟩⟩
 refine⟨g,fun j w e1=>?_,fun j k ys' zs u hjk e1 e2 w1 w2 s1 s2=>?_,fun j ys' z=>?_,by simp[r.len]⟩
 · by_cases hj:i=j
   · subst hj;rw[yZ hi]at e1;cases e1;exact⟨_,es,⟨a,us,rfl,f,hr,ai,rs⟩,h3⟩
   · rw[yO hj]at e1;obtain⟨u,g1,g2,g3⟩:=r.sl j w e1;refine⟨u,g1,?_,g3⟩
     cases w with
     | d x=>exact g2
     | reel=>exact g2
     | vv u=>exact g2
     | ml zs =>
       obtain⟨b,us',eb,f1,f2,f3,f4⟩:=(show eR K rl F H u zs from g2);have ne:b≠a:=fun z=>r.ap i j _ _ (.ref a) hj e e1 rfl rfl es (by rw[g1,eb,z])
       exact⟨b,us',eb,f1,f2,by rw[upd_ne ne];exact f3,f4⟩
     | pk zs=>exact absurd e1 (r.np j zs)
     | md zs =>
       obtain⟨b,us',eb,f1,f2,f3,f4⟩:=(show oK K rl F H u zs from g2);have ne:b≠a:=fun z=>r.ap i j _ _ (.ref a) hj e e1 rfl rfl es (by rw[g1,eb,z])
       exact⟨b,us',eb,f1,f2,by rw[upd_ne ne];exact f3,f4⟩
     | mk zs =>
       obtain⟨b,us',eb,f1,f2,f3,f4⟩:=(show oJ K rl F H u zs from g2);have ne:b≠a:=fun z=>r.ap i j _ _ (.ref a) hj e e1 rfl rfl es (by rw[g1,eb,z])
       exact⟨b,us',eb,f1,f2,by rw[upd_ne ne];exact f3,f4⟩
     | nt ds=>exact g2
     | lk=>trivial
     | sc _=>exact g2
     | fd _=>exact g2
     | fw _=>exact g2
     | ft _=>exact g2
     | xc _ _=>exact g2
     | dp _ _=>exact g2
 · have nd:∀(j:Nat)(z:W),(ρ.set i (some (W.ml ys)))[j]?=some (some z)->z.own=true->∃z',ρ[j]?=some (some z')/\z'.own=true:=fun j zs z o=>by
     by_cases hj:i=j
     · subst hj;exact⟨_,e,rfl⟩
     · rw[yO hj]at z;exact⟨zs,z,o⟩
   obtain⟨_,d1,o1⟩:=nd j _ e1 w1;obtain⟨_,d2,o2⟩:=nd k _ e2 w2;exact r.ap j k _ _ u hjk d1 d2 o1 o2 s1 s2
 · rw[zm]at z;split at z
   · first|cases z|(split at z<;>cases z)
   · exact r.np j ys' z
noncomputable def tH(K:W.Frag)(rl:Option Addr)(r:V->List V->Hp->VK->Prop)(g:List yF->List W->(List yF->Prop)->Prop):Prop :=
 ∀ {F H:Hp}{a:Addr}{vs args:List V}{xs:List yF}{ws:List W}(Qn:List yF->Prop)(Q:VK),aW F H->H a=some (.lst vs)->Reps K F vs xs->cI K rl F H args ws->g xs ws Qn ->
   (∀us ys,Reps K F us ys->Qn ys->Q .non (upd H a (.lst us)))->r (.ref a) args H Q
noncomputable def pq(i:Nat)(g:List yF->List W->(List yF->Prop)->Prop)(fs:xR):xS:=fun D ρ=>∃xs,ρ[i]?=some (some (.ml xs))/\fs ρ fun ws=>g xs ws fun ys=>D.nx (ρ.set i (some (.ml ys)))
theorem lG(i:Nat){nm:Str}{id:String}{r:V->List V->Hp->VK->Prop}{g:List yF->List W->(List yF->Prop)->Prop}{px apos cpos:Pos}(slot:Slot "list" nm id)(hty:typeOf (.builtin id)=pure (.type "method_descriptor"))(hm:ym X id r)(vm:tH X.K rl r g)(ha:yb X rl (e::es) fs)
 (hN:autoParam (X.N[i]?=some x) æa._auto_1)(hv:autoParam (xO X.env.scope x) æd._auto_1)
 (hd:autoParam ((x==("__debug__" : Str))=false) æb._auto_1)(hcd:autoParam ((x==("__classdict__" : Str))=false) æb._auto_1)
 (hbase:autoParam (A1 (.Name x px) nm X.env (eval (.Name x px) X.env)=eval (.Name x px) X.env) æa._auto_1)
 (hfew:autoParam (((Ae cpos (yM (e::es) X.env)).all (fun x=>!x.1)&&(backToKw cpos (CM [] X.env)).all (fun x=>x.1.isSome)
  && decide ((e::es).length+([]:List Ce).length+(if([]:List Ce).isEmpty then 0 else 1)<30))=true) æa._auto_1)
 (hline:autoParam ((apos.endLine==cpos.line)=true) æa._auto_1)(hs:autoParam (yM (e::es) X.env=(false,eval e X.env)::yM es X.env) æa._auto_1)(hplain:autoParam ((Ae cpos (yM es X.env)).any (·.1)=false) æa._auto_1)
 (hsw:autoParam (AL (.Call (.Attribute (.Name x px) nm apos) (e::es) [] cpos) none pos.line X.env=pure false) æa._auto_1) :
 ye X rl (.Expr (.Call (.Attribute (.Name x px) nm apos) (e::es) [] cpos) pos) (pq i g fs):=by
 obtain⟨t,p1,k⟩:=ha;refine⟨_,ny (sU PySem.F.plainAttrs_list slot hty hm (cK hN hv hd hcd) p1 hbase hfew hline hs hplain) hsw,fun{F₀ H₀ F H σ ρ} R Dv D ok ⟨xs,e1,q⟩=>?_⟩;obtain⟨v,h1,h2,h3⟩:=R.sl i _ e1;obtain⟨a,vs,rfl,f,hr,hh,rs⟩:=(show eR X.K rl F H v xs from h2);refine⟨.ref a,h1,.inl ⟨rfl,vs,.inl (.inl hh)⟩,k R _ _ q fun args ws F1 H1 g1 r1 q1=>?_⟩;refine vm _ _ g1.sub (g1.same a _ hh hr) (rs.mono g1.fs) r1 q1 fun us ys r2 q2=>?_;exact ok.nx _ _ _ _ g1.fs ((R.grow g1).own e1 h1 r2) q2
noncomputable def rO:List yF->List W->(List yF->Prop)->Prop:=fun xs ws Q=>∃x,eM ws=some [x]/\xs.length<sizeLine/\Q (xs++[x])
theorem o0{K:W.Frag}:tH K rl jA rO:=fun{F H a vs args xs ws} Qn Q s ha rs ra ⟨x,e,z,q⟩ k=>by
 have r2:=b6 ra e
 cases r2 with
 | cons rx r3 =>
   cases r3;exact⟨a,vs,_,rfl,rfl,ha,by rw[rs.length];exact z,k _ _ (rs.snoc rx) q⟩
noncomputable def rM:List yF->List W->(List yF->Prop)->Prop:=fun xs ws Q=>∃ys,eM ws=some [.list ys]/\xs.length+ys.length<=sizeLine/\Q (xs++ys)
theorem oZ{K:W.Frag}:tH K rl jz rM:=fun{F H a vs args xs ws} Qn Q s ha rs ra ⟨ys,e,z,q⟩ k=>by
 have r2:=b6 ra e
 cases r2 with
 | cons rx r3 =>
   cases r3
   cases rx with
   | lst hb ry=>exact⟨a,_,vs,_,rfl,rfl,ha,s _ _ hb,by rw[rs.length,ry.length];exact z,k _ _ (rs.append ry) q⟩
theorem oV(i:Nat){px apos cpos:Pos}(ha:yb X rl [e] fs)(hN:autoParam (X.N[i]?=some x) æa._auto_1)(hv:autoParam (xO X.env.scope x) æd._auto_1)
 (hd:autoParam ((x==("__debug__" : Str))=false) æb._auto_1)(hcd:autoParam ((x==("__classdict__" : Str))=false) æb._auto_1)
 (hbase:autoParam (A1 (.Name x px) "append" X.env (eval (.Name x px) X.env)=eval (.Name x px) X.env) æa._auto_1)
 (hfew:autoParam (((Ae cpos (yM [e] X.env)).all (fun x=>!x.1)&&(backToKw cpos (CM [] X.env)).all (fun x=>x.1.isSome)
  && decide (([e]).length+([]:List Ce).length+(if([]:List Ce).isEmpty then 0 else 1)<30))=true) æa._auto_1)
 (hline:autoParam ((apos.endLine==cpos.line)=true) æa._auto_1)(hs:autoParam (yM [e] X.env=(false,eval e X.env)::yM [] X.env) æa._auto_1)(hplain:autoParam ((Ae cpos (yM [] X.env)).any (·.1)=false) æa._auto_1)
 (hsw:autoParam (AL (.Call (.Attribute (.Name x px) "append" apos) [e] [] cpos) none pos.line X.env=pure false) æa._auto_1) :
 ye X rl (.Expr (.Call (.Attribute (.Name x px) "append" apos) [e] [] cpos) pos) (pq i rO fs) :=
 lG i PySem.F.slot_list_append PySem.F.type_list_append fP o0 ha hN hv hd hcd hbase hfew hline hs hplain hsw
noncomputable def b7:W->Bool
 | .ml _=>false
 | .md _=>false
 | .mk _=>false
 | .pk _=>false
 | _=>true
noncomputable def wl(K:W.Frag)(rl:Option Addr)(P:List W->(yF->Prop)->Prop):Sp:=fun vs H Q _=>∃F ws,aW F H/\x_ rl F H/\cI K rl F H vs ws/\ws.all b7=true/\P ws fun d=>∀v F' H',Grow rl F H F' H'->Rep K F' v d->Q v H'
noncomputable def bS(N:List Str)(ws:List W):En:=ws.map some++zt (N.length-ws.length) none
theorem fJ{K:W.Frag}{F H:Hp}:∀{vs:List V}{ws:List W}{i:Nat}{w:W},cI K rl F H vs ws->ws[i]?=some w->∃v,vs[i]?=some v/\cu K rl F H v w
 | _,_,_,_,.nil,e=>by simp at e
 | _,_,0,_,.cons h _,e=>by simp at e;subst e;exact⟨_,rfl,h⟩
 | _,_,i+1,w,.cons _ r,e=>by
   obtain⟨v,h1,h2⟩:=fJ (i:=i) (w:=w) r (by simpa using e);exact⟨v,by simpa using h1,h2⟩
theorem e7{ws:List W}{w:W}(h:(bS N ws)[i]?=some (some w)):ws[i]?=some w:=by
 unfold bS at h;by_cases hi:i<ws.length
 · rw[AM (by simpa using hi),zB]at h
   cases q:ws[i]? with
   | none=>rw[q]at h;cases h
   | some x=>rw[q]at h;cases h;rfl
 · rw[Bx (by simpa using hi),zN]at h;split at h<;>cases h
theorem d7{K:W.Frag}{ws:List W}(s:aW F H)(ra:x_ rl F H)(r:cI K rl F H vs ws)(ok:ws.all b7=true):VR K rl F H F H (start N vs) (bS N ws):=by
 have hl:vs.length=ws.length:=AW r;have no:∀(i:Nat) w,(bS N ws)[i]?=some (some w)->b7 w=true:=fun i w e=>(Bf.mp ok) w (CC (e7 e));refine⟨Grow.refl s ra,fun i w e=>?_,fun i j xs ys v _ e1 _ o _ _ _=>(by have:=no i _ e1;cases xs<;>first|exact Bool.noConfusion o|exact Bool.noConfusion this),fun i xs e=>(by have:=no i _ e;cases this),?_⟩
 · obtain⟨v,h1,h2⟩:=fJ r (e7 e);refine⟨v,?_,h2,?_⟩
   · unfold start;rw[AM (by simpa using(yU.mp h1).1),zB,h1];rfl
   · have:=no i w e
     cases w with
     | ml xs=>cases this
     | md xs=>cases this
     | mk xs=>cases this
     | nt _=>trivial
     | lk=>trivial
     | sc _=>trivial
     | fd _=>trivial
     | fw _=>trivial
     | ft _=>trivial
     | xc _ _=>trivial
     | dp _ _=>trivial
     | d _=>trivial
     | pk _=>trivial
     | reel=>trivial
     | vv _=>trivial
 · unfold bS start;simp[hl]
noncomputable def iz(Q:yF->Prop):VEnds:=⟨fun _=>Q .none,fun w=>∃d,w.fz = .d d/\Q d,fun _=>False,fun _=>False⟩
theorem wm{P:yT}{w:zp}{K:W.Frag}{mg:Str->Option yG}{st:Stmt}{fa:Addr}{fd:z5}{Pd:List W->(yF->Prop)->Prop}{t:xS}
 (Fn:Fun K x qual st fa fd)(S:FnScope N ps (defScope st))(len:∀ws Q,Pd ws Q->ws.length=ps.length)
 (hbody:∀(cdv:yG)(A:zd)(outer:List Env)(s:yH)(H:Hp)(E:XK),Room k (A.deeper (Bp qual (defScope st) s.heap.objs.size fa cdv)) ->
  gk (gE yA P w K mg base N qual (defScope st) fa cdv A outer s H E).nox rl (defBody st) t)
 (hread:∀ws Q,Pd ws Q->t (iz Q) (bS N ws)):FnOk P w K mg base yA (k+1) fa fd ps (wl K rl Pd):=by
 refine Fn.ok S (fun vs H Q E ⟨F,ws,_,_,r,_,q⟩=>(AW r).trans (len ws _ q)) fun cdv A outer s H vs Q E hr h=>?_;obtain⟨F,ws,sm,ra,r,ok,q⟩:=h;obtain⟨T,p,kk⟩:=hbody cdv A outer s H E hr;refine⟨T,p,kk (d7 sm ra r ok) (iz _) _ ⟨?_,?_,fun _ _ _ _ _ _ z=>zl z,fun _ _ _ _ _ _ z=>zl z⟩ (hread ws _ q)⟩
 · intro F1 H1 σ1 ρ1 _ R1 q1;exact q1 .non F1 H1 R1.g .non
 · rintro v w1 F1 H1 g1 r1 n1 ⟨d,ed,q1⟩;obtain⟨F2,g2,s2,r2⟩:=cu.fz g1 r1 n1;rw[ed]at r2;exact q1 v F2 H1 g2 r2
structure Dfn (P:yT) (w:zp) (K:W.Frag) (mg:Str->Option yG) (base:Heap) (rl:Option Addr) (x:Str) (ps:List Str) (k:Nat) (Pd:List W->(yF->Prop)->Prop):Prop where
 mono:∀ws Q Q',(∀d,Q d->Q' d)->Pd ws Q->Pd ws Q'
 ex:∃f fd,mg x=some (.ref f)/\W.keepIn K (.ref f)=true/\Binds K fd ps []/\FnOk P w K mg base yA k f fd ps (wl K rl Pd)
noncomputable def uu(Pd:List W->(yF->Prop)->Prop)(fs:xR):TV:=fun ρ Q=>fs ρ fun ws=>ws.all b7=true/\Pd ws fun d=>Q (.d d)
theorem aw{Pd:List W->(yF->Prop)->Prop}(D:Dfn X.prog X.w X.K X.mg X.base rl x ps k Pd)(hr:Room k X.A)(ha:yb X rl (e::es) fs)(hg:autoParam (Gl X x) æa._auto_1)
 (hdb:autoParam ((x==("__debug__" : Str))=false) æb._auto_1)(he:autoParam (yM (e::es) X.env=(false,eval e X.env)::yM es X.env) æa._auto_1)(hpl:autoParam ((Ae pos (yM es X.env)).any (·.1)=false) æa._auto_1) :
 PV X rl (.Call (.Name x p) (e::es) [] pos) (uu Pd fs):=by
 obtain⟨f,fd,hm,hk,hb,F⟩:=D.ex;obtain⟨t,p1,kk⟩:=ha;refine⟨_,gz F hr hg hm hk hb .nil qq p1 hdb he hpl,fun R Qd Q q h=>kk R _ _ q fun vs ws F1 H1 g1 r1 ⟨ok,q1⟩=>?_⟩;refine⟨F1,ws,g1.sub,g1.reel,by rw[Ag];exact r1,ok,?_⟩;exact D.mono ws _ _ (fun d qd v F2 H2 g2 r2=>h v (.d d) F2 H2 (g1.trans g2) r2 trivial qd) q1
end
end L2.VL
variable{w:L2.VL.W}{ρ:L2.VL.En}
namespace L2
theorem cH{env:Env}:∀(names:List (Str×A3))(acc:List (Str×Addr)),(∀x∈names,x.2 = .free->∃c,env.cells.lookup x.1=some c)->(∀x c,acc.lookup x=some c->env.cells.lookup x=some c) ->
 ∃ cl,(forIn names acc (fun(x:Str×A3)(cs:List (Str×Addr))=>if(x.2==zr)=true then do let c <- cellOf env x.1;pure (AE ((x.1,c)::cs))else pure (AE cs)):Sem (List (Str×Addr)))=pure cl /\
   (∀x c,cl.lookup x=some c->env.cells.lookup x=some c)/\(∀x,(acc.lookup x).isSome=true->(cl.lookup x).isSome=true)/\∀x,(x,zr)∈names->(cl.lookup x).isSome=true
 | [],acc,_,h2=>⟨acc,rfl,h2,fun _ z=>z,fun _ z=>nomatch z⟩
 | (n,k)::r,acc,h1,h2=>by
   by_cases hk:k = .free
   · subst hk;obtain⟨c,hc⟩:=h1 (n,.free) yY rfl
     have h2':∀x c',((n,c)::acc).lookup x=some c'->env.cells.lookup x=some c':=fun x c' z=>by
      rw[zf]at z
      cases e:x==n with
      | true =>
        rw[e]at z;have e':x=n:=by simpa using e
        cases z;rw[e']
        exact hc
      | false =>
        rw[e]at z;exact h2 x c' z
     obtain⟨cl,e,g1,g2,g3⟩:=cH r ((n,c)::acc) (fun x hx=>h1 x (yR _ hx)) h2';refine⟨cl,?_,g1,fun x z=>g2 x ?_,fun x z=>?_⟩
     · rw[Cg];simp only[beq_self_eq_true,if_true];have e0:cellOf env n=pure c:=by unfold cellOf;rw[hc]
       rw[e0,pure_bind,pure_bind];exact e
     · rw[zf];split
       · rfl
       · exact z
     · rcases zo.mp z with z|z
       · cases z;refine g2 _ ?_;rw[zf];simp
       · exact g3 x z
   · obtain⟨cl,e,g1,g2,g3⟩:=cH r acc (fun x hx=>h1 x (yR _ hx)) h2;refine⟨cl,?_,g1,g2,fun x z=>?_⟩
     · rw[Cg];have hb:(k==zr)=false:=by simpa using hk
       simp only[hb,Az,if_false];rw[pure_bind];exact e
     · rcases zo.mp z with z|z
       · cases z;exact absurd rfl hk
       · exact g3 x z
theorem gH{env:Env}(h:∀x∈scope.names,x.2 = .free->∃c,env.cells.lookup x.1=some c) :
 ∃cl,closureFor scope env=pure cl/\(∀x c,cl.lookup x=some c->env.cells.lookup x=some c)/\∀x,(x,zr)∈scope.names->(cl.lookup x).isSome=true:=by
 obtain⟨cl,e,g1,_,g3⟩:=cH scope.names [] h (fun _ _ z=>by cases z);refine⟨cl,?_,g1,g3⟩;unfold closureFor
 first
  | exact e
  | (simp only[bind_pure];exact e)
theorem fI{env:Env}(h:(relabel scope env).names.lookup x=some .cell\/(relabel scope env).names.lookup x=some .free):(x,zr)∈scope.names\/(x,zW)∈scope.names:=by
 have key:∀names:List (Str×A3),∀k,(k = .cell\/k = .free) ->
  (names.map fun(n,k)=>if(k==zr&&env.scope.kind == .function&&env.kindOf n==some .cell)then(n,zW)else(n,k)).lookup x=some k->(x,zr)∈names\/(x,zW)∈names:=by
  intro names
  induction names with
  | nil=>intro k _ z;cases z
  | cons y r ih =>
    intro k hk z;obtain⟨n,kn⟩:=y;have step:((x,zr)∈r\/(x,zW)∈r)->((x,zr)∈(n,kn)::r\/(x,zW)∈(n,kn)::r):=fun z=>z.imp (yR _) (yR _);rw[BW]at z;dsimp only at z;by_cases hc:(kn==zr&&env.scope.kind == .function&&env.kindOf n==some .cell)=true
    · rw[if_pos hc,zf]at z
      have hf:kn = .free:=by
       have:=(y_.mp (y_.mp hc).1).1;simpa using this
      cases e:x==n with
      | true =>
        have e':x=n:=by simpa using e
        rw[e',<- hf]
        exact .inl yY
      | false =>
        rw[e]at z;exact step (ih k hk z)
    · rw[if_neg hc,zf]at z
      cases e:x==n with
      | true =>
        rw[e]at z;have e':x=n:=by simpa using e
        cases z;rcases hk with hk|hk
        · rw[e',hk];exact .inr yY
        · rw[e',hk];exact .inl yY
      | false =>
        rw[e]at z;exact step (ih k hk z)
 rcases h with h|h
 · exact key scope.names .cell (.inl rfl) h
 · exact key scope.names .free (.inr rfl) h
theorem aH:∀(names:List (Str×A3))(n:Nat)(acc:List (Str×Addr)),zO n names acc=zO n names []++acc
 | [],_,_=>rfl
 | (x,k)::r,n,acc=>by
   unfold zO;split
   · rw[aH r (n+1) ((x,n)::acc),aH r (n+1) [(x,n)],List.append_assoc];rfl
   · exact aH r n acc
theorem bM{x:Str}{c:Addr}:∀{names:List (Str×A3)}{n:Nat},(x,c)∈zO n names []->(x,zW)∈names
 | (y,k)::r,n,h=>by
   unfold zO at h;split at h
   · rename_i hk;rw[aH]at h;rcases AX.mp h with h|h
     · exact yR _ (bM h)
     · simp at h;have:k = .cell:=by simpa using hk
       rw[h.1,this];exact yY
   · exact yR _ (bM h)
theorem cE{a b:List (Str×Addr)}:(a++b).lookup x=(a.lookup x).or (b.lookup x):=by
 induction a with
 | nil=>simp
 | cons y a ih =>
   obtain⟨n,c⟩:=y;rw[AR,zf,zf];cases x==n<;>simp[ih]
theorem gB{M:Dl}{A:zd}{E:yG->yH->Prop}{s:yH}{globals:Addr}{cl:List (Str×Addr)}{o:Env}{Q:Env->yH->Prop}
 (hQ:Q {scope,locals:=s.heap.objs.size,globals,cells:=zO (s.heap.objs.size+1) scope.names cl,qual,func:=none,code:=o.code,frame:=o.frame,builtins:=o.builtins} {s with heap:=Dh (s.heap.push {cls:=.type "dict", data:=.dict #[]}) scope.names}) :
 zc M A (BH scope globals cl [] qual none .none (some o)) Q E s:=by
 simp only[BH,Option.isSome_some,if_true];refine yJ (wpAny_alloc ?_);refine yJ (wpAny_layCells _ (fun name kind cells=>by cases hkc:kind==zW<;>simp[hkc]) _ _ _ _ ?_);rw[show({s with heap:=s.heap.push {cls:=.type "dict", data:=.dict #[]}}:yH).heap.objs.size=s.heap.objs.size+1 from CG ..];exact yJ (yX (yX hQ))
noncomputable def aZ(X:Cx)(N':List Str)(scope:Scope)(cl:List (Str×Addr))(fp:List Addr)(pn:List (Addr×Obj))(s:yH)(H:Hp):Cx :=
 {X with N:=N',s₀:=s,H₀:=H,env:={compEnvC scope cl s.heap.objs.size X.env with cells:=zO (s.heap.objs.size+1) scope.names cl},outer:=X.stack,ex:=fp,fn:=fun x=>scope.names.lookup x==some .cell,pn:=pn,xe:=fun _ _=>False}
abbrev jn(ifs:List Expr)(env:Env):Sem Bool:=forIn ifs true fun c r=>if r=true then do let ok <- isTrue c env (eval c env);pure (AE ok)else pure (AE r)
noncomputable def yc(X:Cx)(ifs:List Expr)(t:TT):Prop :=
 ∀(pins:List (Addr×Obj))(s:yH)(σ:St)(H:Hp)(Q:Bool->Hp->Prop),Inv X pins σ H s->t σ H Q->zc (zh X.prog X.w) X.A (jn ifs X.env) (TP X pins σ Q) X.xe s
theorem nq:yc X [] (fun _ H Q=>Q true H):=fun _ _ _ H _ I h=>wpAny_tests_nil ⟨H,I,h⟩
theorem nn{c:Expr}{t:TT}(h:PT X c t):yc X [c] t:=fun pins s σ H Q I hw=>wpAny_tests_one (h pins s σ H Q I hw)
theorem kg{prog:yT}{w:zp}{A:zd}{R:Result->yH->Prop}{s:yH}{elt target iter:Expr}{ifs:List Expr}{it acc:yG}{env:Env}(I:Nat->yH->Prop)
 (turn:∀n s,I n s->zc (zh prog w) A (pyNext it) (fun r s₁=>(r=none/\R (.ok .next) s₁)\/∃v,r=some v /\
  zc (zh prog w) A (Bn target it v) (fun _ s₂=>zc (zh prog w) A (Do target env v) (fun _ s₃=>zc (zh prog w) A (jn ifs env) (fun ok s₄ =>
   if ok=true then zc (zh prog w) A (eval elt env) (fun x s₅=>zc (zh prog w) A (call (.builtin "list.append") [acc,x]) (fun _ s₆=>∃m,m<n/\I m s₆) (fun _ _=>False) s₅) (fun _ _=>False) s₄
   else ∃m,m<n/\I m s₄) (fun _ _=>False) s₃) (fun _ _=>False) s₂) (fun _ _=>False) s₁) (fun _ _=>False) s)
 (n:Nat)(h:I n s):BV (zh prog w) A (.compLoop (.ListComp elt [⟨target,iter,ifs,0⟩] scope pos) 0 it acc env) R s:=by
 refine codeAny_loop rfl I (fun n s hI=>?_) n h;show zc _ A ((compTurn (.ListComp elt [⟨target,iter,ifs,0⟩] scope pos) 0 it acc env).onRaise (fun x=>do Ch x env;theTreesLotGoes x)) _ _ s;refine wpAny_noted ?_;rw[compTurn_list];refine yJ (Bj (yJ (zG (turn n s hI) (fun r s₁ h₁=>?_) fun _ _ h'=>h'.elim)));rcases h₁ with⟨rfl,h₁⟩|⟨v,rfl,h₁⟩
 · exact yX h₁
 · refine yJ (zG h₁ (fun _ s₂ h₂=>yJ (zG h₂ (fun _ s₃ h₃=>yJ (zG h₃ (fun ok s₄ h₄=>?_) fun _ _ z=>z.elim)) fun _ _ z=>z.elim)) fun _ _ z=>z.elim)
   cases ok with
   | false=>exact yX ⟨rfl,h₄⟩
   | true=>exact yJ (yJ (zG h₄ (fun x s₅ h₅=>yJ (zG h₅ (fun _ s₆ h₆=>yX (yX ⟨rfl,h₆⟩)) fun _ _ z=>z.elim)) fun _ _ z=>z.elim))
noncomputable def lw(fr:List (Option Nat))(σ:St):St:=fr.map fun o=>o.bind fun j=>(σ[j]?).join
noncomputable def rR(fr:List (Option Nat))(N' N:List Str)(sc scX:Scope):Bool :=
 decide (fr.length=N'.length)&&(zw fr.length).all fun i=>match fr[i]? with
  | some (some j)=>match N'[i]? with
    | some x=>decide (N[j]?=some x)&&decide (sc.names.lookup x=some .free)&&(decide (scX.names.lookup x=some .cell)||decide (scX.names.lookup x=some .free))
    | none=>false
  | _=>true
noncomputable def uL(sc scX:Scope):Bool :=
 decide (sc.kind = .function)&&sc.names.all fun y=>(decide (y.2 ≠ .cell)||decide (sc.names.lookup y.1=some .cell))&&(decide (y.2 ≠ .local)||decide (sc.names.lookup y.1=some .local)) &&
  (decide (y.2 ≠ .free)||(decide (scX.names.lookup y.1=some .cell)||decide (scX.names.lookup y.1=some .free)))
theorem rR.get{fr:List (Option Nat)}{N':List Str}{sc scX:Scope}(h:rR fr N' N sc scX=true):fr.length=N'.length/\∀(i j:Nat),fr[i]?=some (some j)->∃x,N'[i]?=some x/\N[j]?=some x/\sc.names.lookup x=some .free/\(scX.names.lookup x=some .cell\/scX.names.lookup x=some .free):=by
 unfold rR at h;obtain⟨h1,h2⟩:=y_.mp h;refine⟨of_decide_eq_true h1,fun i j e=>?_⟩;have hi:i<fr.length:=(yU.mp e).1;have q:=Bf.mp h2 i (Au.mpr hi);rw[e]at q;dsimp only at q
 cases en:N'[i]? with
 | none=>rw[en]at q;cases q
 | some x =>
   rw[en]at q;dsimp only at q;obtain⟨q1,q2⟩:=y_.mp q;obtain⟨q3,q4⟩:=y_.mp q1;exact⟨x,rfl,of_decide_eq_true q3,of_decide_eq_true q4,(Ap.mp q2).imp of_decide_eq_true of_decide_eq_true⟩
theorem iQ{k:A3}:∀{names:List (Str×A3)},names.lookup x=some k->(x,k)∈names:=fun h=>zv h
structure CompA where
 cl:List (Str×Addr)
 fp:List Addr
 pn:List (Addr×Obj)
 s:yH
 H:Hp
abbrev blk(X:Cx)(N':List Str)(scope:Scope)(y:CompA):Cx:=aZ X N' scope y.cl y.fp y.pn y.s y.H
noncomputable def pK(wi:TI)(fr:List (Option Nat))(g:CompA->TG)(tt:CompA->TT)(te:CompA->TE):TE:=fun σ H Q=>wi σ H fun J H1=>∀D,H1 D=none->∃Wv:Nat->Nat->List V->St->Hp->Prop,(∃m,Wv 0 m [] (lw fr σ) (upd H1 D (.lst []))) /\
 ∀ (z:CompA) i m acc σc H,Wv i m acc σc H->(J.stop i H/\Q (.ref D) H)\/(J.go i H/\∀x H',J.yld i H x H'->g z x σc H' fun σ2 H2=>tt z σ2 H2 fun b H3 =>
   if b=true then te z σ2 H3 fun y H4=>H4 D=some (.lst acc)/\acc.length<sizeLine/\∃m',m'<m/\Wv (i+1) m' (acc++[y]) σ2 (upd H4 D (.lst (acc++[y])))else ∃m',m'<m/\Wv (i+1) m' acc σ2 H3)
theorem cJ{env:Env}:∀{names:List (Str×A3)}{x:Str},names.lookup x=some .free ->
 (names.map fun(n,k)=>if(k==zr&&env.scope.kind == .function&&env.kindOf n==some .cell)then(n,zW)else(n,k)).lookup x=some .cell \/
 (names.map fun(n,k)=>if(k==zr&&env.scope.kind == .function&&env.kindOf n==some .cell)then(n,zW)else(n,k)).lookup x=some .free
 | [],_,h=>by simp at h
 | (n,k)::r,x,h=>by
   have ih:=@cJ env r x;rw[BW];dsimp only
   cases hx:x==n with
   | true =>
     simp only[zf,hx]at h;cases h;by_cases hc:((zr==zr)&&env.scope.kind == .function&&env.kindOf n==some .cell)=true
     · rw[if_pos hc];simp[zf,hx]
     · rw[if_neg hc];simp[zf,hx]
   | false =>
     simp only[zf,hx]at h;by_cases hc:(k==zr&&env.scope.kind == .function&&env.kindOf n==some .cell)=true
     · rw[if_pos hc];simp only[zf,hx];exact ih h
     · rw[if_neg hc];simp only[zf,hx];exact ih h
theorem gG{ex:Expr}{H3:Hp}{s3:yH}{it D:Addr}{tn:Nat->Heap->Prop}{J:It}{Q:VK}
 {cl:List (Str×Addr)}(N':List Str)(fr:List (Option Nat))(hc:X.calm=true)(hkind:scope.kind = .function)(hcell:∀y∈scope.names,y.2 = .cell->scope.names.lookup y.1=some .cell)
 (hfree:∀y∈scope.names,y.2 = .free->X.env.kindOf y.1=some .cell\/X.env.kindOf y.1=some .free)(frl:fr.length=N'.length)
 (frg:∀(i j:Nat),fr[i]?=some (some j)->∃x,N'[i]?=some x/\X.N[j]?=some x/\scope.names.lookup x=some .free/\(X.env.scope.names.lookup x=some .cell\/X.env.scope.names.lookup x=some .free))
 (cl1:∀x c,cl.lookup x=some c->X.env.cells.lookup x=some c)(cl2:∀x,(x,zr)∈scope.names->(cl.lookup x).isSome=true)
 (I3:Inv X pins σ H3 s3)(T:Turn X.prog X.w X.K tg J fp it tn)(tn3:tn 0 s3.heap)(fpD:∀b∈fp,H3 b=none)(fp3:∀b∈fp,b<s3.heap.objs.size)
 (fpk:∀b∈fp,b≠X.env.locals/\b∉X.fs/\(b∈X.ex\/X.s₀.heap.objs.size<=b)/\(∀x c,X.env.cells.lookup x=some c->c≠b)/\∀p∈X.pn++pins,p.1≠b)
 (loop:∀s',Inv (aZ X N' scope cl fp (X.pn++pins) s3 H3) [] (lw fr σ) H3 s'->tn 0 s'.heap->(∀{H':Hp},(∀b∈fp,H' b=none)->∀b∈fp,kC (aZ X N' scope cl fp (X.pn++pins) s3 H3) [] H' b) ->
  BV (zh X.prog X.w) X.A (.compStart ex 0 (.ref it) (.ref D) (aZ X N' scope cl fp (X.pn++pins) s3 H3).env) (fun r s5=>r = .ok .next/\∃σ5 H4,Inv (aZ X N' scope cl fp (X.pn++pins) s3 H3) [] σ5 H4 s5/\Q (.ref D) H4) s')
 {Rp:Addr->Result->yH->Prop}(fin:∀s5 H4 m,s5.heap.Ns s3.heap.objs.size m->(∀h',Cb s3.heap.objs.size s5.heap h'->Inv X pins σ H4 {s5 with heap:=h' })->kC X pins H4 s3.heap.objs.size->Q (.ref D) H4->Rp s3.heap.objs.size (.ok .next) s5) :
 zc (zh X.prog X.w) X.A (BH scope X.env.globals cl [] X.env.qual none .none (some X.env)) (fun cenv s₄ =>
  BV (zh X.prog X.w) X.A (.compStart ex 0 (.ref it) (.ref D) {cenv with scope:=relabel scope X.env})
   (Rp cenv.locals) s₄) X.xe s3:=by
 refine gB ?_;have ok:=cellsFrom_ok scope.names (s3.heap.push {cls:=.type "dict", data:=.dict #[]}) (s3.heap.objs.size+1) [] ⟨fun _ _ hm=>(nomatch hm),List.Pairwise.nil⟩ (by rw[CG];exact y7 _);rw[CG]at ok;have kp:∀b o,s3.heap.get? b=some o->(Dh (s3.heap.push {cls:=.type "dict", data:=.dict #[]}) scope.names).get? b=some o:=fun b o e=>pushCells_keeps _ _ b o (yI _ e);have hns₁:(Dh (s3.heap.push {cls:=.type "dict", data:=.dict #[]}) scope.names).Ns s3.heap.objs.size (fun _=>none):=(Heap.Ns.new s3.heap (.type "dict")).keeps (pushCells_keeps _ _);generalize Dh (s3.heap.push {cls:=.type "dict", data:=.dict #[]}) scope.names=h₁ at ok kp hns₁ ⊢
 have cs:∀x c,(zO (s3.heap.objs.size+1) scope.names cl).lookup x=some c->(zO (s3.heap.objs.size+1) scope.names []).lookup x=some c\/cl.lookup x=some c:=fun x c e=>by
  rw[aH,cE]at e
  cases q:(zO (s3.heap.objs.size+1) scope.names []).lookup x with
  | none=>rw[q]at e;exact .inr (by simpa using e)
  | some c'=>rw[q]at e;exact .inl (by simpa using e)
 have own:∀x c,(zO (s3.heap.objs.size+1) scope.names []).lookup x=some c->h₁.IsCell c none/\s3.heap.objs.size+1<=c:=fun x c e=>ok.empty x c (zv e)
 have clt:∀x c,cl.lookup x=some c->c<s3.heap.objs.size:=fun x c e=>by
  obtain⟨v,o,ho,_⟩:=I3.cell x c (cl1 x c e);exact yN ho
 have frn:∀x,scope.names.lookup x=some .free->(zO (s3.heap.objs.size+1) scope.names []).lookup x=none:=fun x e=>by
  cases q:(zO (s3.heap.objs.size+1) scope.names []).lookup x with
  | none=>rfl
  | some c =>
    have:=hcell (x,.cell) (bM (zv q)) rfl;rw[e]at this;cases this
 have notC:∀b o,s3.heap.get? b=some o->b≠s3.heap.objs.size:=fun b o e=>zn (yN e);have fpstk:∀b∈fp,b∉frs X.stack:=fun b hb z=>(zo.mp (I3.stkSub b z)).elim (fpk b hb).1 (fpk b hb).2.1;have cellK:∀c v,s3.heap.IsCell c v->h₁.IsCell c v:=fun c v ⟨o,ho,hd⟩=>⟨o,kp c o ho,hd⟩
 have IY:Inv (aZ X N' scope cl fp (X.pn++pins) s3 H3) [] (lw fr σ) H3 {s3 with heap:=h₁}:=by
  refine⟨⟨I3.ok.mod,hkind,I3.ok.glob,I3.ok.blt,y7 _,fun x y c e1 e2=>?_,fun x hx=>?_,fun x c _ e=>?_,I3.ok.hd,I3.ok.frames,.inl rfl,
   fun b hb=>⟨zn (fp3 b hb),fun x c e=>?_⟩,I3.bs,zx I3.ok.bsz I3.sz,fun b o e hb=>?_,fun b hb=>fpstk b hb,I3.stack,I3.stkFree⟩,
   rfl,I3.bare,Un.kept kp,⟨_,hns₁,fun i x v e1 e2 e3=>?_⟩,fun x c e=>?_,I3.hok.fresh (y7 _),fun x c e=>?_,fun p hp=>?_,I3.hok.kept kp,?_⟩
  · rcases cs x c e1 with q1|q1<;>rcases cs y c e2 with q2|q2
    · exact name_of_addr ok.apart (zv q1) (zv q2)
    · exact absurd (yK (clt y c q2) (AI (own x c q1).2)) (zM _)
    · exact absurd (yK (clt x c q1) (AI (own y c q2).2)) (zM _)
    · exact I3.ok.inj x y c (cl1 x c q1) (cl1 y c q2)
  · refine Ah.mp ?_;show((zO (s3.heap.objs.size+1) scope.names cl).lookup x).isSome=true;rcases fI hx with q|q
    · exact W.cellsFrom_some _ _ _ (.inr (cl2 x q))
    · exact W.cellsFrom_some _ _ _ (.inl (hcell _ q rfl))
  · rename_i hfn;rcases cs x c e with q|q
    · have:=(own x c q).2;show s3.heap.objs.size<=c;omega
    · have hfn:(scope.names.lookup x==some zW)=true:=hfn;have hl:scope.names.lookup x=some .cell:=by simpa using hfn
      obtain⟨c',ec'⟩:=Ah.mp (W.cellsFrom_some scope.names (s3.heap.objs.size+1) [] (.inl hl));have e':(zO (s3.heap.objs.size+1) scope.names cl).lookup x=some c:=e;rw[aH,cE,ec']at e';simp at e';subst e';exact AI (own x c' ec').2
  · rcases cs x c e with q|q
    · exact fun z=>absurd (yK (fp3 b hb) (AI (by rw[<- z];exact(own x c q).2))) (zM _)
    · exact(fpk b hb).2.2.2.1 x c (cl1 x c q)
  · rcases(fpk b hb).2.2.1 with z|z
    · exact I3.ok.noex b o e z
    · exact absurd (yK (yN e) (zx I3.ok.bsz z)) (zM _)
  · have e2':(fr[i]?).map (fun o=>o.bind fun j=>(σ[j]?).join)=some (some v):=by unfold lw at e2;rw[zB]at e2;exact e2
    cases ef:fr[i]? with
    | none=>rw[ef]at e2';cases e2'
    | some o =>
      cases o with
      | none=>rw[ef]at e2';cases e2'
      | some j =>
        rw[ef]at e2';have e3':(σ[j]?).join=some v:=zg e2'
        have e4:σ[j]?=some (some v):=by
         cases q:σ[j]? with
         | none=>rw[q]at e3';cases e3'
         | some z=>rw[q]at e3';cases e3';rfl
        obtain⟨x',n1,n2,n3,n4⟩:=frg i j ef;have ex:x'=x:=zg (n1.symm.trans e1);subst ex;obtain⟨m,hn,hl⟩:=I3.loc;obtain⟨u,ru,lk⟩:=hl j x' v n2 e4 (n4.elim (fun z=>.inr (.inl z)) fun z=>.inr (.inr z));refine⟨u,ru,?_⟩;rcases lk with⟨kl,_⟩|⟨_,c,ec,hcl⟩
        · exact absurd (show X.env.scope.names.lookup x'=some .local from kl) (by rcases n4 with z|z<;>rw[z]<;>decide)
        · obtain⟨c',ec'⟩:=Ah.mp (cl2 x' (iQ n3));have:=cl1 x' c' ec';rw[ec]at this;cases this;refine .inr ⟨cJ n3,c,?_,cellK _ _ hcl⟩;show(zO (s3.heap.objs.size+1) scope.names cl).lookup x'=some c;rw[aH,cE,frn x' n3];simpa using ec'
  · rcases cs x c e with q|q
    · exact⟨_,(own x c q).1⟩
    · obtain⟨v,z⟩:=I3.cell x c (cl1 x c q);exact⟨v,cellK _ _ z⟩
  · rcases cs x c e with q|q
    · exact I3.hok.fresh (by have:=(own x c q).2;omega)
    · exact I3.freeC x c (cl1 x c q)
  · rw[Ag]at hp;obtain⟨e,n,ne,nf,d⟩:=I3.pin p hp;exact⟨kp _ _ e,n,notC _ _ e,fun z=>(zo.mp (I3.stkSub p.1 z)).elim ne nf,d⟩
  · unfold lw;rw[yV];exact frl
 have stat:∀{H':Hp},(∀b∈fp,H' b=none)->∀b∈fp,kC (aZ X N' scope cl fp (X.pn++pins) s3 H3) [] H' b:=fun hn b hb =>
  ⟨hn b hb,zn (fp3 b hb),fpstk b hb,.inl hb,fun x c e=>(by
   rcases cs x c e with q|q
   · exact fun z=>absurd (yK (fp3 b hb) (AI (by rw[<- z];exact(own x c q).2))) (zM _)
   · exact(fpk b hb).2.2.2.1 x c (cl1 x c q)),fun p hp=>by rw[Ag]at hp;exact(fpk b hb).2.2.2.2 p hp⟩
 refine BD (loop _ IY (T.keep _ _ _ tn3 fun b _ o e=>kp b o e) stat) fun r s5 ⟨hr,σ5,H4,I5,qn⟩=>?_;subst hr;obtain⟨m,hn,_⟩:=I5.loc;refine fin s5 H4 m hn (fun h' hs'=>?_) (I3.fpOk (y7 _) I5.free) qn;have k':∀b o,b≠s3.heap.objs.size->s5.heap.get? b=some o->h'.get? b=some o:=fun b o nb e=>hs'.extBut b o nb e;have u5:Un (frs X.stack) fp H3 H4 s3.heap s5.heap:=I5.base
 have un:Un (frs X.stack) fp H3 H4 s3.heap h' :=
  ⟨fun b o e n hb hx=>k' b o (notC b o e) (u5.keep b o e n hb hx),fun b o e n hb hx=>by obtain⟨sl,q⟩:=u5.slot b o e n hb hx;exact⟨sl,k' b _ (notC b o e) q⟩,u5.free,
   fun b o e hx=>by obtain⟨o',q⟩:=u5.there b o e hx;exact⟨o',k' b _ (notC b o e) q⟩,u5.tups,u5.frzs,u5.tbls⟩
 have nC:H4 s3.heap.objs.size=none:=I5.free
 have hok':yx X.prog X.w H4 h':=fun b u e=>(I5.hok b u e).stay (fun c v hcv q=>k' c v (by
  rintro rfl;rcases hcv with z|z
  · rw[<- z]at e;rw[nC]at e;cases e
  · rw[nC]at z;cases z) q) (fun _ q=>q) fun _ _ q=>q
 obtain⟨hh,g5,d5,t5,os5⟩:=s5;have os':os5=s3.os:=I5.os;subst os';have I':=Inv.call (s:=s3) (h':=h') (g':=g5) (d':=d5) (t':=t5) (ch:=fp) I3 un hok' I5.bare (fun b hb=>⟨(fpk b hb).2.2.1,(fpk b hb).1,(fpk b hb).2.2.2.1,(fpk b hb).2.2.2.2⟩);exact I'
theorem iX{elt iter:Expr}{ifs:List Expr}{g:TG}{tt:TT}{te:TE}{H3:Hp}{s3:yH}{it D:Addr}{tn:Nat->Heap->Prop}{J:It}{Q:VK}
 {cl:List (Str×Addr)}(N':List Str)(fr:List (Option Nat))(hc:X.calm=true)(hkind:scope.kind = .function)(hcell:∀y∈scope.names,y.2 = .cell->scope.names.lookup y.1=some .cell)
 (hfree:∀y∈scope.names,y.2 = .free->X.env.kindOf y.1=some .cell\/X.env.kindOf y.1=some .free)(frl:fr.length=N'.length)
 (frg:∀(i j:Nat),fr[i]?=some (some j)->∃x,N'[i]?=some x/\X.N[j]?=some x/\scope.names.lookup x=some .free/\(X.env.scope.names.lookup x=some .cell\/X.env.scope.names.lookup x=some .free))
 (cl1:∀x c,cl.lookup x=some c->X.env.cells.lookup x=some c)(cl2:∀x,(x,zr)∈scope.names->(cl.lookup x).isSome=true)
 (I3:Inv X pins σ H3 s3)(T:Turn X.prog X.w X.K tg J fp it tn)(tn3:tn 0 s3.heap)(fpD:∀b∈fp,H3 b=none)(fp3:∀b∈fp,b<s3.heap.objs.size)
 (fpk:∀b∈fp,b≠X.env.locals/\b∉X.fs/\(b∈X.ex\/X.s₀.heap.objs.size<=b)/\(∀x c,X.env.cells.lookup x=some c->c≠b)/\∀p∈X.pn++pins,p.1≠b)
 (hg:PG (aZ X N' scope cl fp (X.pn++pins) s3 H3) tg g)(ht:yc (aZ X N' scope cl fp (X.pn++pins) s3 H3) ifs tt)(he:PE (aZ X N' scope cl fp (X.pn++pins) s3 H3) elt te)
 {Wv:Nat->Nat->List V->St->Hp->Prop}{m0:Nat}(w0:Wv 0 m0 [] (lw fr σ) H3)
 (turn:∀i m acc σc H,Wv i m acc σc H->(J.stop i H/\Q (.ref D) H)\/(J.go i H/\∀x H',J.yld i H x H'->g x σc H' fun σ2 H2=>tt σ2 H2 fun b H3 =>
  if b=true then te σ2 H3 fun y H4=>H4 D=some (.lst acc)/\acc.length<sizeLine/\∃m',m'<m/\Wv (i+1) m' (acc++[y]) σ2 (upd H4 D (.lst (acc++[y])))else ∃m',m'<m/\Wv (i+1) m' acc σ2 H3))
 {Rp:Addr->Result->yH->Prop}(fin:∀s5 H4 m,s5.heap.Ns s3.heap.objs.size m->(∀h',Cb s3.heap.objs.size s5.heap h'->Inv X pins σ H4 {s5 with heap:=h' })->kC X pins H4 s3.heap.objs.size->Q (.ref D) H4->Rp s3.heap.objs.size (.ok .next) s5) :
 zc (zh X.prog X.w) X.A (BH scope X.env.globals cl [] X.env.qual none .none (some X.env)) (fun cenv s₄ =>
  BV (zh X.prog X.w) X.A (.compStart (.ListComp elt [⟨tg,iter,ifs,0⟩] scope pos) 0 (.ref it) (.ref D) {cenv with scope:=relabel scope X.env})
   (Rp cenv.locals) s₄) X.xe s3:=by
 refine gG N' fr hc hkind hcell hfree frl frg cl1 cl2 I3 T tn3 fpD fp3 fpk (fun s' IY tY stat=>?_) fin
 have loop:BV (zh X.prog X.w) X.A (.compLoop (.ListComp elt [⟨tg,iter,ifs,0⟩] scope pos) 0 (.ref it) (.ref D) (aZ X N' scope cl fp (X.pn++pins) s3 H3).env)
  (fun r s5=>r = .ok .next/\∃σ5 H4,Inv (aZ X N' scope cl fp (X.pn++pins) s3 H3) [] σ5 H4 s5/\Q (.ref D) H4) s':=by
  refine kg (fun n s'=>∃i acc σ' H',Inv (aZ X N' scope cl fp (X.pn++pins) s3 H3) [] σ' H' s'/\tn i s'.heap/\(∀b∈fp,H' b=none)/\Wv i n acc σ' H') ?_ m0
   ⟨0,[],_,_,IY,tY,fpD,w0⟩
  rintro n s4 ⟨i,acc,σ4,H4,I4,st4,fr4,w4⟩;rcases turn i n acc σ4 H4 w4 with⟨stop,qn⟩|⟨go,step⟩
  · exact wE (T.done (aZ X N' scope cl fp (X.pn++pins) s3 H3) rfl rfl rfl hc i [] s4 σ4 H4 (fun _ _=>False) I4 (stat fr4) st4 stop) fun r s5 ⟨hr,I5⟩=>.inl ⟨hr,rfl,σ4,H4,I5,qn⟩
  · refine wE (T.item (aZ X N' scope cl fp (X.pn++pins) s3 H3) rfl rfl rfl hc i [] s4 σ4 H4 (fun _ _=>False) I4 (stat fr4) st4 go) fun r s5 ⟨u,hr,h5⟩=>.inr ⟨u,hr,?_⟩;refine wE h5 fun _ s6 ⟨x,H6,I6,r6,y6,st6,fr6⟩=>?_;have I6':=I6.pinned (stat fr6) (T.obj _ _ st6)
    have again:∀{σ7:St}{H7:Hp}{s7:yH},Inv (aZ X N' scope cl fp (X.pn++pins) s3 H3) ([]++fM fp s6.heap) σ7 H7 s7->∀{acc':List V}{m':Nat},m'<n->Wv (i+1) m' acc' σ7 H7 ->
     ∃m,m<n/\∃i acc σ' H',Inv (aZ X N' scope cl fp (X.pn++pins) s3 H3) [] σ' H' s7/\tn i s7.heap/\(∀b∈fp,H' b=none)/\Wv i m acc σ' H':=fun{σ7 H7 s7} I7 {acc' m'} hm w7=>by
     refine⟨m',hm,i+1,acc',σ7,H7,I7.unpinned,T.keep _ _ _ st6 fun b hb o e=>(I7.pin (b,o) (zi _ (zi _ (b4 hb e)))).1,fun b hb=>?_,w7⟩;obtain⟨o,e,d⟩:=T.obj _ _ st6 b hb;exact(I7.pin (b,o) (zi _ (zi _ (b4 hb e)))).2.1
    refine wE (hg _ s6 σ4 H6 x u _ I6' r6 (step x H6 y6)) fun _ s7 ⟨σ7,H7,I7,q7⟩=>?_;refine wE (ht _ s7 σ7 H7 _ I7 q7) fun ok s8 ⟨H8,I8,q8⟩=>?_
    cases ok with
    | false =>
      rw[if_neg zy]at q8 ⊢;obtain⟨m',hm,w8⟩:=q8
      exact again I8 hm w8
    | true =>
      rw[if_pos rfl]at q8 ⊢;refine wE (he _ s8 σ7 H8 _ I8 q8) fun y s9 ⟨yv,H9,I9,r9,eD,hl,m',hm,w9⟩=>?_
      exact wE (fP (X:=aZ X N' scope cl fp (X.pn++pins) s3 H3) _ s9 σ7 H9 (.ref D) [yv] (.ref D) [y] (fun _ H'=>H'=upd H9 D (.lst (acc++[yv]))) I9 rfl (.cons r9 .nil) ⟨D,acc,yv,rfl,rfl,eD,hl,rfl⟩)
       fun _ s10 ⟨_,H10,I10,_,e10⟩=>by subst e10;exact again I10 hm w9
 exact codeAny_compStart_list loop (T.self X.A 0 _ _ _ tY loop)
section
variable{X:Cx}{elt tg iter:Expr}{ifs:List Expr}{scope:Scope}{pos:Pos}{wi:TI}{g:CompA->TG}{tt:CompA->TT}{te:CompA->TE}
theorem kW(N':List Str)(fr:List (Option Nat))(hc:X.calm=true)(hi:PI X tg iter wi)(hfr:rR fr N' X.N scope X.env.scope=true)(hsc:uL scope X.env.scope=true)
 (hg:∀y,PG (blk X N' scope y) tg (g y))(ht:∀y,yc (blk X N' scope y) ifs (tt y))(he:∀y,PE (blk X N' scope y) elt (te y))
 (hs:autoParam (∀x,A8 iter X.env x=pure x) æc._auto_1):PE X (.ListComp elt [⟨tg,iter,ifs,0⟩] scope pos) (pK wi fr g tt te):=by
 intro pins s σ H Q I h;obtain⟨sk,sn⟩:=y_.mp hsc;have hkind:scope.kind = .function:=of_decide_eq_true sk;have hall:=Bf.mp sn
 have hcell:∀y∈scope.names,y.2 = .cell->scope.names.lookup y.1=some .cell:=fun y hy hl=>by
  rcases Ap.mp (y_.mp (y_.mp (hall y hy)).1).1 with z|z
  · exact absurd hl (of_decide_eq_true z)
  · exact of_decide_eq_true z
 have hnames:∀y∈scope.names,y.2 = .local->scope.names.lookup y.1=some .local:=fun y hy hl=>by
  rcases Ap.mp (y_.mp (y_.mp (hall y hy)).1).2 with z|z
  · exact absurd hl (of_decide_eq_true z)
  · exact of_decide_eq_true z
 have hfree:∀y∈scope.names,y.2 = .free->X.env.kindOf y.1=some .cell\/X.env.kindOf y.1=some .free:=fun y hy hl=>by
  rcases Ap.mp (y_.mp (hall y hy)).2 with z|z
  · exact absurd hl (of_decide_eq_true z)
  · exact(Ap.mp z).imp of_decide_eq_true of_decide_eq_true
 obtain⟨frl,frg⟩:=rR.get hfr;obtain⟨cl,hclos,cl1,cl2⟩:=gH (env:=X.env) (scope:=scope) fun y hy hl=>I.ok.has y.1 (hfree y hy hl);rw[eval_ListComp];refine wpAny_comprehension_free (use:=none) rfl hs hclos hkind hnames (wE (hi pins s σ H _ I h) fun v s1 h1=>wE h1 fun itv s2 h2=>?_);obtain⟨it,fp,tn,J,H2,e,I2,T,st2,f2,q2⟩:=h2;subst e;refine BN ?_;have hD:H2 s2.heap.objs.size=none:=I2.hok.fresh (y7 _)
 have I3:Inv X pins σ (upd H2 s2.heap.objs.size (.lst [])) {s2 with heap:=s2.heap.push {cls:=.type "list", data:=.seq ([]:List yG).toArray}} :=
  I2.laid (t':=s2.toks) (fun b u e=>yI _ e) (y7 _) ⟨by show 0<=sizeLine;exact zQ _,[],0,.nil,zj _ rfl⟩
 obtain⟨Wv,⟨m0,w0⟩,turn⟩:=q2 _ hD;have tn3:tn 0 (s2.heap.push {cls:=.type "list", data:=.seq ([]:List yG).toArray}):=T.keep _ _ _ st2 fun b _ o e=>yI _ e
 have fpD:∀b∈fp,(upd H2 s2.heap.objs.size (.lst [])) b=none:=fun b hb=>by
  obtain⟨o,e,_⟩:=T.obj _ _ st2 b hb;rw[upd_ne (zn (yN e))];exact(f2 b hb).1
 have fp3:∀b∈fp,b<(s2.heap.push {cls:=.type "list", data:=.seq ([]:List yG).toArray}).objs.size:=fun b hb=>by
  obtain⟨o,e,_⟩:=T.obj _ _ tn3 b hb;exact yN e
 exact iX N' fr hc hkind hcell hfree frl frg cl1 cl2 I3 T tn3 fpD fp3 (fun b hb=>(f2 b hb).2) (hg ⟨cl,fp,X.pn++pins,_,_⟩) (ht ⟨cl,fp,X.pn++pins,_,_⟩) (he ⟨cl,fp,X.pn++pins,_,_⟩) w0 (turn ⟨cl,fp,X.pn++pins,_,_⟩)
  (Rp:=compPost (zh X.prog X.w) X.A X.xe none (EP X pins σ Q) (.ref s2.heap.objs.size)) fun s5 H4 m hn k _ qn=>⟨m,hn,fun h' hs'=>⟨.ref _,H4,k h' hs',rfl,qn⟩⟩
end
end L2
namespace L2.VL
noncomputable def W.cap:W->Option W
 | .d x=>some (.d x)
 | .reel=>some .reel
 | .vv u=>some (.vv u)
 | .sc ns=>some (.sc ns)
 | .fd kvs=>some (.fd kvs)
 | .fw kvs=>some (.fw kvs)
 | .ft kvs=>some (.ft kvs)
 | .xc x fs=>some (.xc x fs)
 | .dp kvs x=>some (.dp kvs x)
 | _=>none
noncomputable def iZ(fr:List (Option Nat))(ρ:En):En:=fr.map fun o=>o.bind fun j=>((ρ[j]?).join).bind W.cap
noncomputable def rV(X:Cx)(rl:Option Addr)(ifs:List Expr)(f:TB):Prop:=∃t,yc X ifs t/\∀{F₀ H₀ F H:Hp}{σ:St}{ρ:En},VR X.K rl F₀ H₀ F H σ ρ->∀(Qd:Bool->Prop)(Q:Bool->Hp->Prop),f ρ Qd ->
 (∀b F' H',Grow rl F H F' H'->Qd b->Q b H')->t σ H Q
theorem i8:rV X rl [] (fun _ Q=>Q true):=⟨_,nq,fun R Qd Q q k=>k true _ _ (Grow.refl R.sub R.reel) q⟩
theorem oQ{c:Expr}{f:TB}(h:PB X rl c f):rV X rl [c] f:=let ⟨t,p,k⟩:=h;⟨t,nn p,k⟩
theorem cW{fr:List (Option Nat)}(h:(iZ fr ρ)[i]?=some (some w)):∃j w',fr[i]?=some (some j)/\ρ[j]?=some (some w')/\w'.cap=some w:=by
 unfold iZ at h;rw[zB]at h
 cases ef:fr[i]? with
 | none=>rw[ef]at h;cases h
 | some o =>
   cases o with
   | none=>rw[ef]at h;cases h
   | some j =>
     rw[ef]at h;have h':((ρ[j]?).join).bind W.cap=some w:=zg h
     cases q:ρ[j]? with
     | none=>rw[q]at h';cases h'
     | some o =>
       cases o with
       | none=>rw[q]at h';cases h'
       | some w'=>rw[q]at h';exact⟨j,w',rfl,q,h'⟩
theorem ip{w':W}(h:w'.cap=some w):w=w'/\w.own=false/\∀xs,w ≠ .pk xs:=by
 cases w'<;>cases h<;>exact⟨rfl,rfl,(fun _ z=>by cases z)⟩
theorem kH{K:W.Frag}{fr:List (Option Nat)}(R:VR K rl F₀ H₀ F H σ ρ)(g:Grow rl F H F H'):VR K rl F H F H' (lw fr σ) (iZ fr ρ):=by
 refine⟨g,fun i w e=>?_,fun i j xs ys v _ e1 _ o1 _ _ _=>?_,fun i xs e=>?_,by simp[lw,iZ]⟩
 · obtain⟨j,w',e1,e2,e3⟩:=cW e;obtain⟨rfl,n1,n2⟩:=ip e3;obtain⟨v,s1,r1,_⟩:=R.sl j w e2;refine⟨v,?_,r1.grow g,?_⟩
   · unfold lw;rw[zB,e1];show some ((σ[j]?).join)=_;rw[s1];rfl
   · cases w with
     | ml xs=>cases n1
     | md xs=>cases n1
     | mk xs=>cases n1
     | nt _=>trivial
     | lk=>trivial
     | sc _=>trivial
     | fd _=>trivial
     | fw _=>trivial
     | ft _=>trivial
     | xc _ _=>trivial
     | dp _ _=>trivial
     | d _=>trivial
     | pk _=>trivial
     | reel=>trivial
     | vv _=>trivial
 · obtain⟨_,_,_,_,e3⟩:=cW e1;rw[(ip e3).2.1]at o1;cases o1
 · obtain⟨_,_,_,_,e3⟩:=cW e;exact absurd rfl ((ip e3).2.2 xs)
theorem iM{fr:List (Option Nat)}:lE (iZ fr ρ):=fun i xs e=>by
 obtain⟨_,_,_,_,e3⟩:=cW e;exact(ip e3).2.1
theorem VR.other{K:W.Frag}(R:VR K rl F₀ H₀ F H σ ρ)(n:lE ρ){D:Addr}{o:HO}(h0:H₀ D=none)(f:F D=none)(hr:rl≠some D):VR K rl F₀ H₀ F (upd H D o) σ ρ:=by
 have neF:∀b u,F b=some u->b≠D:=fun b u q z=>by subst z;rw[f]at q;cases q
 have g:Grow rl F₀ H₀ F (upd H D o):=by
  refine⟨fun b o q1 n=>by rw[upd_ne (aj q1 h0)];exact R.g.same b o q1 n,R.g.fs,fun b o q1=>by rw[upd_ne (neF b o q1)];exact R.sub b o q1,R.g.old,fun y z=>?_⟩;obtain⟨z1,⟨u,h1,h2⟩⟩:=R.reel y z;exact⟨z1,⟨u,by rw[upd_ne (fun q=>hr (by rw[<- q];exact z))];exact h1,h2⟩⟩
 refine⟨g,fun i w e=>?_,R.ap,R.np,R.len⟩;obtain⟨v,h1,h2,h3⟩:=R.sl i w e;refine⟨v,h1,?_,h3⟩
 cases w with
 | d x=>exact h2
 | reel=>exact h2
 | vv u=>exact h2
 | ml xs=>cases n i _ e
 | md xs=>cases n i _ e
 | mk xs=>cases n i _ e
 | nt ds=>exact h2
 | lk=>trivial
 | sc _=>exact h2
 | fd _=>exact h2
 | fw _=>exact h2
 | ft _=>exact h2
 | xc _ _=>exact h2
 | dp _ _=>exact h2
 | pk xs=>exact absurd e (R.np i xs)
section
variable{X:Cx}{rl:Option Addr}{elt tg iter:Expr}{ifs:List Expr}{scope:Scope}{pos:Pos}{fi:En->(List yF->Prop)->Prop}{g:xU}{ft:TB}{fe:TV}
end
mutual
def oM:yF->Prop
 | .none=>True
 | .bool _=>True
 | .int i=>i.natAbs<2^1900
 | .str x=>C7 x=true
 | .list xs=>dA xs
 | .tuple xs=>dA xs
 | .dict _=>False
def dA:List yF->Prop
 | []=>True
 | x::xs=>oM x/\dA xs
end
theorem iR(h:n<2^k)(hk:0<k):n.log2<k:=by
 by_cases h0:n=0
 · subst h0;simpa using hk
 · exact(Nat.log2_lt h0).mpr h
mutual
theorem oM.facts:∀d:yF,oM d->d.showable=true/\d.canLay0=true/\d.hasDict=false/\d.leavesShort 1921=true
 | .none,_=>⟨rfl,rfl,rfl,rfl⟩
 | .bool _,_=>⟨rfl,rfl,rfl,rfl⟩
 | .int i,h=>by
   have hl:i.natAbs.log2<1920:=iR (yK (show i.natAbs<2^1900 from h) (za (by decide) (by decide))) (by decide);refine⟨by simp[Bq,hl],rfl,rfl,?_⟩;simp only[A4,decide_eq_true_eq]
   exact int_text_len_1921 hl
 | .str x,h=>by
   refine⟨rfl,(show Ac (.str x)=true by simp only[Ac];exact h),rfl,?_⟩;have h:x.cps.all (· < 0x110000)=true:=h;simp only[A4];rw[Bf];intro c hc;have:=(A6.mp h) c (by simpa using hc);simp at this ⊢
   omega
 | .list xs,h=>by
   obtain⟨a,b,c,d⟩:=dA.facts xs h
   exact⟨by simpa[Bq]using a,by simpa[Ac]using b,by simpa[yF.hasDict]using c,by simpa[A4]using d⟩
 | .tuple xs,h=>by
   obtain⟨a,b,c,d⟩:=dA.facts xs h
   exact⟨by simpa[Bq]using a,by simpa[Ac]using b,by simpa[yF.hasDict]using c,by simpa[A4]using d⟩
 | .dict _,h=>zl h
theorem dA.facts:∀xs:List yF,dA xs->yF.showableAll xs=true/\zL xs=true/\yF.hasDictAll xs=false/\Ci 1921 xs=true
 | [],_=>⟨rfl,rfl,rfl,rfl⟩
 | x::xs,h=>by
   obtain⟨a,b,c,d⟩:=oM.facts x h.1;obtain⟨a',b',c',d'⟩:=dA.facts xs h.2;exact⟨by simp[yF.showableAll,a,a'],by simp[zL,b,b'],by simp[yF.hasDictAll,c,c'],by simp[Ci,d,d']⟩
end
noncomputable def xZ(d:yF):Prop:=oM d/\d.depth<=60/\d.bulk<=8000
theorem xZ.len{d:yF}(h:xZ d):d.shown.length<=sizeLine:=by
 have q:=yF.shown_le_bulk 1921 (by decide) d (oM.facts d h.1).2.2.2;have:=h.2.2;have e:sizeLine=16777216:=by decide
 omega
section
variable{X:Cx}{rl:Option Addr}{a b e:Expr}{es:List Expr}{fa fb fc:TV}{fs:xR}{pos p:Pos}
noncomputable def pZ(K:W.Frag):List V->Hp->VK->Prop:=fun xs H Q=>∃x d,xs=[x]/\Rep K H x d/\xZ d/\Q (.str d.shown) H
theorem km(hgd:X.A.guards=some [])(hu:X.A.units+64<cLine):cS X (.builtin "repr") (pZ X.K):=by
 intro pins s σ H xs us Q I r ⟨x,d,ex,rx,sh,q⟩;subst ex;obtain⟨u,rfl,ru⟩:=vals1 r;have fin:∀tk h' , (∀b o,s.heap.get? b=some o->h'.get? b=some o)->∀t,EP X pins σ Q (.str d.shown t) {s with heap:=h',toks:=tk}:=fun tk h' k t=>⟨.str d.shown,H,I.kept k,⟨t,rfl⟩,q⟩;obtain⟨as,rd⟩:=Rep.reads I (.refl H) rx u ru;have hs:=(oM.facts d sh.1)
 cases rx with
 | non=>cases(show u=zq from ru);exact P.repr_of_none (fin _ _ (fun _ _ e=>e) _)
 | bl b=>cases(show u=Bm b from ru);exact P.repr_of_bool (fin _ _ (fun _ _ e=>e) _)
 | int i =>
   obtain⟨t,e⟩:=(show ∃t,u=AK i t from ru);cases e
   exact P.repr_of_int (by simpa[Bq]using hs.1) (fin _ _ (fun _ _ e=>e) _)
 | str x =>
   obtain⟨t,e⟩:=(show ∃t,u=CY x t from ru);cases e
   exact P.repr_of_str (fin _ _ (fun _ _ e=>e) _) sh.len
 | tup sq rs =>
   cases(show u=zu _ from ru)
   exact repr_of_reads' rd hs.1 (yF.noDict_hsm hs.2.2.1) hgd (by have:=sh.2.1;omega) (fun _ _ e=>e) (fun h' t tk hk=>fin tk h' hk t) sh.len
 | lst sq rs =>
   cases(show u=zu _ from ru);exact repr_of_reads' rd hs.1 (yF.noDict_hsm hs.2.2.1) hgd (by have:=sh.2.1;omega) (fun _ _ e=>e) (fun h' t tk hk=>fin tk h' hk t) sh.len
noncomputable def lq:List W->(W->Prop)->Prop:=fun ws Q=>∃w d,ws=[w]/\w.dat=some d/\xZ d/\Q (.d (.str d.shown))
theorem mH:eQ X rl (pZ X.K) lq:=fun{F H vs ws} Qd Q s ra r ⟨w,d,ew,e1,sh,q⟩ k=>by
 subst ew;obtain⟨v,rfl,r1⟩:=lT r;exact⟨v,d,rfl,r1.dat s e1,sh,k _ (.d _) _ _ (Grow.refl s ra) (.str _) trivial q⟩
theorem lJ(hr:Room 0 X.A)(hm:X.mg "repr" = none)(ha:yb X rl [e] fs)(hg:autoParam (Gl X "repr") æa._auto_1)(he:autoParam (yM [e] X.env=(false,eval e X.env)::yM [] X.env) æa._auto_1)(hpl:autoParam ((Ae pos (yM [] X.env)).any (·.1)=false) æa._auto_1) :
 PV X rl (.Call (.Name "repr" p) [e] [] pos) (cY lq fs):=bQ (km hr.gd hr.units) mH hm (by first|rfl|exact boot_repr) ha hg (by decide) (by decide) he hpl
noncomputable def wB:yF->String
 | .none => "NoneType"
 | .bool _ => "bool"
 | .int _ => "int"
 | .str _ => "str"
 | .list _ => "list"
 | .tuple _ => "tuple"
 | .dict _ => "dict"
noncomputable def dE(d:yF)(T:String):Bool:=wB d==T||(wB d == "bool" && T == "int")
noncomputable def lP(T:String):Bool:=["int", "bool", "str", "list", "tuple"].contains T
theorem kit_ok{K:W.Frag}{d:yF}{T:String}(hd:∀kvs,d ≠ .dict kvs)(h:lP T=true):W.kitOne K (.type (wB d)) (.type T)=some (dE d T):=by
 have h:T = "int" \/ T = "bool" \/ T = "str" \/ T = "list" \/ T = "tuple" := by simpa[lP]using h
 cases d with
 | dict kvs=>exact absurd rfl (hd kvs)
 | none=>rcases h with rfl|rfl|rfl|rfl|rfl<;>rfl
 | bool b=>rcases h with rfl|rfl|rfl|rfl|rfl<;>rfl
 | int b=>rcases h with rfl|rfl|rfl|rfl|rfl<;>rfl
 | str b=>rcases h with rfl|rfl|rfl|rfl|rfl<;>rfl
 | list b=>rcases h with rfl|rfl|rfl|rfl|rfl<;>rfl
 | tuple b=>rcases h with rfl|rfl|rfl|rfl|rfl<;>rfl
noncomputable def uQ(K:W.Frag):List V->Hp->VK->Prop:=fun xs H Q=>∃x d T,xs=[x,.ty T]/\Rep K H x d/\lP T=true/\Q (.bl (dE d T)) H
theorem lB:cS X (.builtin "isinstance") (uQ X.K):=by
 intro pins s σ H xs us Q I r ⟨x,d,T,ex,rx,ok,q⟩;subst ex;obtain⟨u,u2,rfl,ru,ru2⟩:=vals2 r;cases(show u2=Cz T from ru2);have fin:∀tk,EP X pins σ Q (.bool (dE d T)) {s with toks:=tk}:=fun tk=>⟨.bl _,H,I.tok tk,rfl,q⟩;obtain⟨as,rd⟩:=Rep.reads I (.refl H) rx u ru
 cases rd with
 | none=>exact W.kia_one W.kitx_none I.kIn CA (kit_ok (d:=yF.none) (fun _ z=>by cases z) ok) (fun z=>nomatch z) fin
 | bool b=>exact W.kia_one W.kitx_bool I.kIn CA (kit_ok (d:=Br b) (fun _ z=>by cases z) ok) (fun z=>nomatch z) fin
 | int i t=>exact W.kia_one W.kitx_int I.kIn CA (kit_ok (d:=zC i) (fun _ z=>by cases z) ok) (fun z=>nomatch z) fin
 | str y t=>exact W.kia_one W.kitx_str I.kIn CA (kit_ok (d:=yF.str y) (fun _ z=>by cases z) ok) (fun z=>nomatch z) fin
 | list h1 h2 h3 h4=>exact W.kia_one W.kitx_list I.kIn ⟨_,h1,h2⟩ (kit_ok (d:=BX _) (fun _ z=>by cases z) ok) (fun z=>nomatch z) fin
 | tuple h1 h2 h3 h4=>exact W.kia_one W.kitx_tuple I.kIn ⟨_,h1,h2⟩ (kit_ok (d:=y8 _) (fun _ z=>by cases z) ok) (fun z=>nomatch z) fin
 | dict h1 h2 h3 h4 h5=>cases rx
noncomputable def rL:List W->(W->Prop)->Prop:=fun ws Q=>∃w d T,ws=[w,.vv (.ty T)]/\w.dat=some d/\lP T=true/\Q (.d (.bool (dE d T)))
theorem o4:eQ X rl (uQ X.K) rL:=fun{F H vs ws} Qd Q s ra r ⟨w,d,T,ew,e1,ok,q⟩ k=>by
 subst ew;obtain⟨v,u,rfl,r1,r2⟩:=rG r;cases(show u=V.ty T from r2);exact⟨v,d,T,rfl,r1.dat s e1,ok,k _ (.d _) _ _ (Grow.refl s ra) (.bl _) trivial q⟩
theorem ix(hm:X.mg "isinstance" = none)(ha:yb X rl [a,b] fs)(hg:autoParam (Gl X "isinstance") æa._auto_1)(he:autoParam (yM [a,b] X.env=(false,eval a X.env)::yM [b] X.env) æa._auto_1)(hpl:autoParam ((Ae pos (yM [b] X.env)).any (·.1)=false) æa._auto_1) :
 PV X rl (.Call (.Name "isinstance" p) [a,b] [] pos) (cY rL fs):=bQ lB o4 hm (by first|rfl|exact boot_isinstance) ha hg (by decide) (by decide) he hpl
theorem pc(hm:X.mg "len" = none)(ha:yb X rl [a] fs)(hg:autoParam (Gl X "len") æa._auto_1)(he:autoParam (yM [a] X.env=(false,eval a X.env)::yM [] X.env) æa._auto_1)(hpl:autoParam ((Ae pos (yM [] X.env)).any (·.1)=false) æa._auto_1) :
 PV X rl (.Call (.Name "len" p) [a] [] pos) (cY rK fs):=bQ bE o3 hm boot_len ha hg (by decide) (by decide) he hpl
theorem pe(hm:X.mg "abs" = none)(ha:yb X rl [a] fs)(hg:autoParam (Gl X "abs") æa._auto_1)(he:autoParam (yM [a] X.env=(false,eval a X.env)::yM [] X.env) æa._auto_1)(hpl:autoParam ((Ae pos (yM [] X.env)).any (·.1)=false) æa._auto_1) :
 PV X rl (.Call (.Name "abs" p) [a] [] pos) (cY rQ fs):=bQ eN o7 hm (by first|rfl|exact boot_abs) ha hg (by decide) (by decide) he hpl
noncomputable def qO:List W->(W->Prop)->Prop:=fun ws Q=>∃i,ws=[.d (.int i)]/\i.natAbs.log2<1920/\Q (.d (.str (toString i)))
end
structure FnIn (K:W.Frag) (mg:Str->Option yG) (x:Str) (st:Stmt) (ps:List Str):Prop where
 ex:∃f fd,mg x=some (.ref f)/\Fun K x x st f fd/\Binds K fd ps []
structure Bz (mg:Str->Option yG):Prop where
 int_:mg "int" = none
 bool_:mg "bool" = none
 str_:mg "str" = none
 list_:mg "list" = none
 tuple_:mg "tuple" = none
 dict_:mg "dict" = none
 isinstance_:mg "isinstance" = none
 len_:mg "len" = none
 abs_:mg "abs" = none
 repr_:mg "repr" = none
 range_:mg "range" = none
 all_:mg "all" = none
 any_:mg "any" = none
 sum_:mg "sum" = none
 min_:mg "min" = none
 max_:mg "max" = none
 sorted_:mg "sorted" = none
 zip_:mg "zip" = none
 enumerate_:mg "enumerate" = none
 reversed_:mg "reversed" = none
 divmod_:mg "divmod" = none
 set_:mg "set" = none
section
variable{P:yT}{w:zp}{K:W.Frag}{mg:Str->Option yG}{base:Heap}{rl:Option Addr}{x:Str}{st:Stmt}{N ps:List Str}{k:Nat}{Pd:List W->(yF->Prop)->Prop}{t:xS}
theorem Dfn.of(Fn:FnIn K mg x st ps)(S:FnScope N ps (defScope st))(mono:∀ws Q Q',(∀d,Q d->Q' d)->Pd ws Q->Pd ws Q')(len:∀ws Q,Pd ws Q->ws.length=ps.length)
 (hbody:∀{f:Addr}(cdv:yG)(A:zd)(outer:List Env)(s:yH)(H:Hp)(E:XK),Room k (A.deeper (Bp x (defScope st) s.heap.objs.size f cdv)) ->
  gk (gE yA P w K mg base N x (defScope st) f cdv A outer s H E).nox rl (defBody st) t)
 (hread:∀ws Q,Pd ws Q->t (iz Q) (bS N ws)):Dfn P w K mg base rl x ps (k+1) Pd:=by
 obtain⟨f,fd,hm,F,hb⟩:=Fn.ex;exact⟨mono,f,fd,hm,F.kp,hb,wm F S len hbody hread⟩
end
section
variable{X:Cx}{rl:Option Addr}{e:Expr}{es:List Expr}{fa fb fc:TV}{fs:xR}{pos p:Pos}
theorem oU(i:Nat){px apos cpos:Pos}(ha:yb X rl [e] fs)(hN:autoParam (X.N[i]?=some x) æa._auto_1)(hv:autoParam (xO X.env.scope x) æd._auto_1)
 (hd:autoParam ((x==("__debug__" : Str))=false) æb._auto_1)(hcd:autoParam ((x==("__classdict__" : Str))=false) æb._auto_1)
 (hbase:autoParam (A1 (.Name x px) "extend" X.env (eval (.Name x px) X.env)=eval (.Name x px) X.env) æa._auto_1)
 (hfew:autoParam (((Ae cpos (yM [e] X.env)).all (fun x=>!x.1)&&(backToKw cpos (CM [] X.env)).all (fun x=>x.1.isSome)
  && decide (([e]).length+([]:List Ce).length+(if([]:List Ce).isEmpty then 0 else 1)<30))=true) æa._auto_1)
 (hline:autoParam ((apos.endLine==cpos.line)=true) æa._auto_1)(hs:autoParam (yM [e] X.env=(false,eval e X.env)::yM [] X.env) æa._auto_1)(hplain:autoParam ((Ae cpos (yM [] X.env)).any (·.1)=false) æa._auto_1)
 (hsw:autoParam (AL (.Call (.Attribute (.Name x px) "extend" apos) [e] [] cpos) none pos.line X.env=pure false) æa._auto_1) :
 ye X rl (.Expr (.Call (.Attribute (.Name x px) "extend" apos) [e] [] cpos) pos) (pq i rM fs) :=
 lG i PySem.F.slot_list_extend PySem.F.type_list_extend jN oZ ha hN hv hd hcd hbase hfew hline hs hplain hsw
end
noncomputable def et:List W->(yF->Prop)->Prop:=fun ws Q=>∃m:Int,ws=[.reel,.d (.int m)]/\0<m/\m<2^60/\∀k:Int,0<=k->k<m->Q (.int k)
theorem et.mono:∀ws (Q Q':yF->Prop),(∀d,Q d->Q' d)->et ws Q->et ws Q':=fun _ _ _ h ⟨m,e,p,z,q⟩=>⟨m,e,p,z,fun k a b=>h _ (q k a b)⟩
theorem et.len:∀ws (Q:yF->Prop),et ws Q->ws.length=2:=fun _ _ ⟨m,e,_⟩=>by subst e;rfl
theorem fz_d(x:yF):(W.d x).fz = .d x:=rfl
theorem fz_ml(x:List yF):(W.ml x).fz = .d (.list x):=rfl
theorem fz_pk(x:List yF):(W.pk x).fz = .pk x:=rfl
theorem fz_reel:W.reel.fz = .reel:=rfl
theorem fz_vv(x:V):(W.vv x).fz = .vv x:=rfl
theorem pk_d(x:yF):L2.VL.W.peek (.d x) = .d x:=rfl
theorem pk_ml(x:List yF):L2.VL.W.peek (.ml x) = .pk x:=rfl
theorem pk_reel:L2.VL.W.peek .reel = .reel:=rfl
theorem pk_vv(x:V):L2.VL.W.peek (.vv x) = .vv x:=rfl
theorem dat_d(x:yF):(W.d x).dat=some x:=rfl
theorem dat_ml(x:List yF):(W.ml x).dat=some (.list x):=rfl
theorem dat_pk(x:List yF):(W.pk x).dat=some (.list x):=rfl
theorem isPk_d(x:yF):(W.d x).isPk=false:=rfl
theorem isPk_ml(x:List yF):(W.ml x).isPk=false:=rfl
theorem isPk_reel:W.reel.isPk=false:=rfl
theorem dats_nil:eM []=some []:=rfl
theorem dats_d(x:yF)(r:List W):eM (.d x::r)=(eM r).map (x :: ·):=rfl
theorem arg_d(x:yF):b7 (.d x)=true:=rfl
theorem arg_reel:b7 .reel=true:=rfl
theorem item_l(xs:List yF)(i:Int):L2.VL.itemAt (.list xs) i=L2.atI xs i:=rfl
theorem item_t(xs:List yF)(i:Int):L2.VL.itemAt (.tuple xs) i=L2.atI xs i:=rfl
theorem len_l(xs:List yF):nX (.list xs)=some xs.length:=rfl
theorem len_t(xs:List yF):nX (.tuple xs)=some xs.length:=rfl
theorem at0{α:Type}(x:α)(r:List α):L2.atI (x::r) 0=some x:=by simp[L2.atI,L2.ixN]
theorem at1{α:Type}(x y:α)(r:List α):L2.atI (x::y::r) 1=some y:=by
 have:(1:Int)<((x::y::r).length:Int):=by simp;omega
 simp only[L2.atI,L2.ixN];rw[if_pos (by decide),if_pos this];rfl
theorem cr{x y:Int}(h:y≠0):(x.fmod y).natAbs<y.natAbs:=by
 rcases Int.lt_or_gt_of_ne h with hy|hy
 · have h1:=Cj x y
   have e:x.fmod y = -((-x).fmod (-y)):=by
    have:=Int.neg_fmod_neg x y;omega
   have p:0 < -y:=by omega
   have b1:=zI (-x) p;have b2:=z_ (-x) p;omega
 · have b1:=zI x hy;have b2:=z_ x hy;omega
theorem eG(x y:Int):zk y (x.fmod y)=zk x y:=by
 have e:x.fmod y=x+y*(-(x.fdiv y)):=by
  have:=Cj x y;rw[Int.mul_neg];omega
 rw[e,Int.gcd_add_mul_left_right];exact Int.gcd_comm y x
theorem eqv_ii(a b:Int):zH (.int a) (.int b)=(a==b):=by simp[zH]
theorem shaped_i(a:Int):zF (.int a)=true:=rfl
theorem shaped_b(a:Bool):zF (.bool a)=true:=rfl
noncomputable def bD(d:yF):Bool:=dE d "int" && !dE d "bool"
theorem l5{d:yF}:bD d=true↔∃i,d = .int i:=by
 cases d<;>simp[bD,dE,wB]
theorem bY{x y:Int}(h:y≠0)(b:y.natAbs<2^64):(x.fmod y).natAbs<2^64:=Nat.lt_trans (cr h) b
theorem dC.of{i j:Int}(h:j≠0)(b:j.natAbs<2^64):dC i j:=⟨h,yK b (za (by decide) (by decide))⟩
theorem og{a:Int}(h:b≠0):0<(zk a b:Int):=by
 have:=Bk a h;omega
theorem qM{a:Int}(h:b≠0):(zk a b)<=b.natAbs:=Nat.le_of_dvd (by omega) (Int.gcd_dvd_natAbs_right a b)
theorem dF(s:String):C7 (Aa s)=true:=by
 unfold C7;rw[Str.ofString_eq_toList];simp only[A6];intro c hc;have hc:c∈s.toList.map Char.toNat:=List.mem_toArray.mp hc;obtain⟨d,_,rfl⟩:=Ck.mp hc;have:=d.valid
 have h:d.val.toNat<0x110000:=by
  rcases this with h|h
  · have:d.val.toNat<0xd800:=h;omega
  · exact h.2
 exact decide_eq_true h
structure Lf (d:yF):Prop where
 nice:oM d
 dep:d.depth<=2
 wt:d.bulk<=2000
theorem Lf.int{i:Int}(h:i.natAbs<2^1000):Lf (.int i) :=
 ⟨Nat.lt_trans h (Nat.pow_lt_pow_right (by decide) (by decide)),by simp[AF],by simp[CO]⟩
theorem tG{xs:List α}{k:Int}(h0:0<=k)(h1:k<(xs.length:Int)):∃z,L2.atI xs k=some z/\z∈xs:=by
 obtain⟨n,rfl⟩:=Aq h0;have hn:n<xs.length:=by omega
 exact⟨xs[n],eP (zA hn),B5 hn⟩
theorem jw{K:W.Frag}{i:Str}(h:Rep K F v (.str i)):v = .str i:=by cases h;rfl
noncomputable def tw(neg:Bool):W->W->(W->Prop)->Prop:=fun x y Q=>∃a b:Str,x = .d (.str a)/\y = .d (.str b)/\Q (.d (.bool (if neg then !decide (a=b)else decide (a=b))))
theorem oY:xP X rl wY (tw false):=fun{F H x y wx wy} Qd Q s ra r1 r2 q k=>by
 obtain⟨a,b,rfl,rfl,q⟩:=q;have e1:=jw r1;have e2:=jw r2;subst e1 e2
 have e:decide (V.str a=V.str b)=decide (a=b):=by
  by_cases h:a=b
  · subst h;simp
  · rw[decide_eq_false h,decide_eq_false fun z=>h (by injection z)]
 exact⟨rfl,by rw[e];exact k _ (.d _) _ _ (Grow.refl s ra) (.bl _) trivial q⟩
section
variable{P:yT}{w:zp}{K:W.Frag}{mg:Str->Option yG}{base:Heap}{rl:Option Addr}{x:Str}{st:Stmt}{N ps:List Str}{k:Nat}{Pd:List W->(List yF->Prop)->Prop}{t:xS}
end
section
variable{X:Cx}{rl:Option Addr}{e:Expr}{es:List Expr}{fs:xR}{pos p:Pos}
noncomputable def sg(Pd:List W->(List yF->Prop)->Prop)(fs:xR):TV:=fun ρ Q=>fs ρ fun ws=>ws.all b7=true/\Pd ws fun xs=>Q (.ml xs)
theorem nw(X:Cx)(rest:List Stmt):yd X rest (fun D σ H=>∀pins s,Inv X pins σ H s->zc (zh X.prog X.w) X.A (execs rest X.env) (SP X pins D) X.xe s):=fun pins s σ H D I h=>h pins s I
end
theorem lz{ns:List Int}(h:ns.length<=63):oI (ns.map V.int) none (some 63)=ns.map V.int:=by
 unfold oI;rw[HT.sIx_none]
 have e:HT.sIx (ns.map V.int).length (ns.map V.int).length (some 63)=(ns.map V.int).length:=by
  have:=HT.sIx_nat (ns.map V.int).length (ns.map V.int).length 63;rw[show((63:Nat):Int)=63 from rfl]at this;rw[this,yV];omega
 rw[e];simp;exact List.take_of_length_le (by simp)
section
variable{X:Cx}{rl:Option Addr}{a b c e:Expr}{es:List Expr}{fa fb fc:TV}{fs:xR}{pos p:Pos}
noncomputable def dN:yF->Option (List yF)
 | .list xs=>some xs
 | .tuple xs=>some xs
 | _=>none
theorem seq_l(xs:List yF):dN (.list xs)=some xs:=rfl
theorem seq_t(xs:List yF):dN (.tuple xs)=some xs:=rfl
theorem dN.of{o:Option yF}{d:yF}{xs:List yF}(h:o=some d)(e:dN d=some xs):o=some (.list xs)\/o=some (.tuple xs):=by
 cases d<;>cases e
 · exact .inl h
 · exact .inr h
noncomputable def qN:List W->(W->Prop)->Prop:=fun ws Q=>∃w d xs,ws=[w]/\w.dat=some d/\dN d=some xs/\Q (.d (.tuple xs))
noncomputable def qU:List W->(W->Prop)->Prop:=fun ws Q=>∃w d xs,ws=[w]/\w.dat=some d/\dN d=some xs/\Q (.ml xs)
noncomputable def sr(i j l:Nat)(fs:xR):xS:=fun D ρ=>fs ρ fun ws=>∃x y z,eM ws=some [x,y,z]/\D.nx (((ρ.set i (some (.d x))).set j (some (.d y))).set l (some (.d z)))
end
section
variable{X:Cx}{rl:Option Addr}
theorem qu:yk X (zK .Is) (fun x y H Q=>∃b c,x = .bl b/\y = .bl c/\Q (.bl (b==c)) H):=by
 intro pins s σ H x y v u Q I rx ry ⟨b,c,ex,ey,q⟩;subst ex ey;cases(show v=Bm b from rx);cases(show u=Bm c from ry);exact is_bool ⟨.bl _,H,I,rfl,q⟩
noncomputable def uW:W->W->(W->Prop)->Prop:=fun x y Q=>∃b c,x = .d (.bool b)/\y = .d (.bool c)/\Q (.d (.bool (b==c)))
end
section
variable{X:Cx}{rl:Option Addr}{a b c e:Expr}{es:List Expr}{fa fb fc:TV}{fs:xR}{pos p p2:Pos}
noncomputable def xE(f:Int->Int->yF):List W->(W->Prop)->Prop:=fun ws Q=>∃i j,ws=[.d (.int i),.d (.int j)]/\Q (.d (f i j))
theorem o5{f:Int->Int->V}{g:Int->Int->yF}(h:∀K F i j,Rep K F (f i j) (g i j)):eQ X rl (fun xs H Q=>∃i j,xs=[.int i,.int j]/\Q (f i j) H) (xE g):=fun{F H vs ws} Qd Q s ra r ⟨i,j,ew,q⟩ k=>by
 subst ew;obtain⟨v,u,rfl,r1,r2⟩:=rG r;have e1:=aC r1;have e2:=aC r2;subst e1 e2;exact⟨i,j,rfl,k _ (.d _) _ _ (Grow.refl s ra) (h _ _ i j) trivial q⟩
theorem o9(hm:X.mg "max" = none)(ha:yb X rl [a,b] fs)(hc:autoParam (X.calm=true) æa._auto_1)(hg:autoParam (Gl X "max") æa._auto_1)(he:autoParam (yM [a,b] X.env=(false,eval a X.env)::yM [b] X.env) æa._auto_1)(hpl:autoParam ((Ae pos (yM [b] X.env)).any (·.1)=false) æa._auto_1) :
 PV X rl (.Call (.Name "max" p) [a,b] [] pos) (cY (xE fun i j=>.int (max i j)) fs) :=
 bQ (kr hc) (o5 (f:=fun i j=>.int (if j>i then j else i)) fun _ _ i j=>(show(if j>i then j else i)=max i j by split<;>omega) ▸ .int _) hm (by rfl) ha hg (by decide) (by decide) he hpl
theorem lK(hm:X.mg "min" = none)(ha:yb X rl [a,b] fs)(hc:autoParam (X.calm=true) æa._auto_1)(hg:autoParam (Gl X "min") æa._auto_1)(he:autoParam (yM [a,b] X.env=(false,eval a X.env)::yM [b] X.env) æa._auto_1)(hpl:autoParam ((Ae pos (yM [b] X.env)).any (·.1)=false) æa._auto_1) :
 PV X rl (.Call (.Name "min" p) [a,b] [] pos) (cY (xE fun i j=>.int (min i j)) fs) :=
 bQ (ko hc) (o5 (f:=fun i j=>.int (if j<i then j else i)) fun _ _ i j=>(show(if j<i then j else i)=min i j by split<;>omega) ▸ .int _) hm (by rfl) ha hg (by decide) (by decide) he hpl
noncomputable def j9:List W->(W->Prop)->Prop:=fun ws Q=>∃i j,ws=[.d (.int i),.d (.int j)]/\0<j/\j<1073741824/\Q (.d (.tuple [.int (i / j),.int (i%j)]))
noncomputable def qW:List W->(W->Prop)->Prop:=fun ws Q=>(∃i,ws=[.d (.int i)]/\Q (.d (.int i)))\/∃k:Bool,ws=[.d (.bool k)]/\Q (.d (.int (if k then 1 else 0)))
noncomputable def uD(i:Nat)(C:Int->Int->Prop)(f:Int->Int->Int)(fa:TV):xS:=fun D ρ=>∃n,ρ[i]?=some (some (.d (.int n)))/\fa ρ fun w=>∃m,w = .d (.int m)/\C n m/\D.nx (ρ.set i (some (.d (.int (f n m)))))
noncomputable def cutD(xs:List yF)(lo hi:Option Int):List yF:=(xs.drop (HT.sIx xs.length 0 lo)).take (HT.sIx xs.length xs.length hi-HT.sIx xs.length 0 lo)
abbrev xT:=En->(Option Int->Prop)->Prop
noncomputable def xh:xT:=fun _ Q=>Q none
noncomputable def xi(fa:TV):xT:=fun ρ Q=>fa ρ fun w=>∃i,w = .d (.int i)/\Q (some i)
noncomputable def ux(fa:TV)(fl fh:xT):TV:=fun ρ Q=>fa ρ fun w=>fl ρ fun l=>fh ρ fun h=>∃xs,w.dat=some (.list xs)/\Q (.ml (cutD xs l h))
noncomputable def ls:W->W->(W->Prop)->Prop:=fun x y Q=>∃xs ys,x.dat=some (.list xs)/\y.dat=some (.list ys)/\xs.length+ys.length<=sizeLine/\Q (.ml (xs++ys))
theorem cu.lst{K:W.Frag}{F H:Hp}{v:V}{w:W}{xs:List yF}(s:aW F H)(r:cu K rl F H v w)(e:w.dat=some (.list xs)):∃a vs,v = .ref a/\H a=some (.lst vs)/\Reps K F vs xs:=by
 have own:eR K rl F H v xs->∃a vs,v = .ref a/\H a=some (.lst vs)/\Reps K F vs xs:=fun⟨a,vs,e1,_,_,e2,e3⟩=>⟨a,vs,e1,e2,e3⟩
 cases w with
 | d y =>
   cases e
   cases(show Rep K F v (.list xs)from r)with
   | lst h q=>exact⟨_,_,rfl,s _ _ h,q⟩
 | ml ys=>cases e;exact own r
 | pk ys=>cases e;exact own r
 | reel=>cases e
 | vv u=>cases e
 | md u=>cases e
 | mk u=>cases e
 | nt u=>cases e
 | lk=>cases e
 | sc _=>cases e
 | fd _=>cases e
 | fw _=>cases e
 | ft _=>cases e
 | xc _ _=>cases e
 | dp _ _=>cases e
theorem mE:xP X rl uR ls:=fun{F H x y wx wy} Qd Q s ra r1 r2 q k=>by
 obtain⟨xs,ys,e1,e2,z,q⟩:=q;obtain⟨a,vs,rfl,h1,q1⟩:=r1.lst s e1;obtain⟨b,us,rfl,h2,q2⟩:=r2.lst s e2;refine⟨a,b,vs,us,rfl,rfl,h1,h2,by rw[q1.length,q2.length];exact z,fun p hp=>?_⟩;exact k _ (.ml _) _ _ (Grow.laid s ra hp) (eA s ra hp (q1.append q2)) (fun a ea=>by cases ea;exact hp) q
theorem pd(ha:PV X rl a fa)(hb:PV X rl b fb):PV X rl (.BinOp a .Add b pos) (wr ls fa fb):=gw qw mE ha hb
noncomputable def jk(p p':Int->Int->Bool)(fa fb fc:TV):TV:=fun ρ Q=>fa ρ fun x=>fb ρ fun y=>∃i j,x = .d (.int i)/\y = .d (.int j) /\
 if p i j=true then fc ρ fun z=>∃k,z = .d (.int k)/\Q (.d (.bool (p' j k)))else Q (.d (.bool false))
theorem mK{op':Dm}{p p':Int->Int->Bool}(ho:yk X (zK op) (wX fun i j=>.bl (p i j)))(ho':yk X (zK op') (wX fun i j=>.bl (p' i j)))(ha:PV X rl a fa)(hb:PV X rl b fb)(hc:PV X rl c fc)
 (hm:autoParam (Dd [op,op'] [b,c]=false) æh._auto_1):PV X rl (.Compare a [op,op'] [b,c] pos) (jk p p' fa fb fc):=by
 obtain⟨t,p1,k1⟩:=ha;obtain⟨t2,p2,k2⟩:=hb;obtain⟨t3,p3,k3⟩:=hc;refine⟨_,kX ho ho' p1 p2 p3 hm,fun R Qd Q q h=>k1 R _ _ q fun v w F1 H1 g1 r1 n1 q1=>k2 (R.grow g1) _ _ q1 fun v2 w2 F2 H2 g2 r2 n2 q2=>?_⟩;obtain⟨i,j,rfl,rfl,q2⟩:=q2;have e1:=aC r1;have e2:=aC r2;subst e1 e2;refine⟨i,j,rfl,rfl,p i j,rfl,?_⟩
 cases hp:p i j with
 | false =>
   rw[hp]at q2;rw[if_neg (by decide)]at q2 ⊢
   exact h _ (.d _) F2 H2 (g1.trans g2) (.bl _) trivial q2
 | true =>
   rw[hp]at q2;rw[if_pos rfl]at q2 ⊢;refine k3 ((R.grow g1).grow g2) _ _ q2 fun v3 w3 F3 H3 g3 r3 n3 ⟨k,ek,q3⟩=>?_;subst ek;have e3:=aC r3;subst e3;exact⟨j,k,rfl,rfl,h _ (.d _) F3 H3 ((g1.trans g2).trans g3) (.bl _) trivial q3⟩
theorem kK{op':Dm}{p p':Int->Int->Bool}(ho:yk X (zK op) (wX fun i j=>.bl (p i j)))(ho':yk X (zK op') (wX fun i j=>.bl (p' i j)))(ha:PV X rl a fa)(hb:PV X rl b fb)(hc:PV X rl c fc)
 (hm:autoParam (Dd [op,op'] [b,c]=false) æh._auto_1):PB X rl (.Compare a [op,op'] [b,c] pos) (iy (jk p p' fa fb fc)):=by
 obtain⟨t,p1,k1⟩:=ha;obtain⟨t2,p2,k2⟩:=hb;obtain⟨t3,p3,k3⟩:=hc;refine⟨_,kQ ho ho' p1 p2 p3 hm,fun R Qd Q q h=>k1 R _ _ q fun v w F1 H1 g1 r1 n1 q1=>k2 (R.grow g1) _ _ q1 fun v2 w2 F2 H2 g2 r2 n2 q2=>?_⟩;obtain⟨i,j,rfl,rfl,q2⟩:=q2;have e1:=aC r1;have e2:=aC r2;subst e1 e2;refine⟨i,j,rfl,rfl,p i j,rfl,?_⟩
 cases hp:p i j with
 | false =>
   rw[hp]at q2;rw[if_neg (by decide)]at q2 ⊢;obtain⟨k,ek,q2⟩:=q2;cases ek
   exact⟨false,rfl,h false F2 H2 (g1.trans g2) q2⟩
 | true =>
   rw[hp]at q2;rw[if_pos rfl]at q2 ⊢;refine k3 ((R.grow g1).grow g2) _ _ q2 fun v3 w3 F3 H3 g3 r3 n3 ⟨k,ek,q3⟩=>?_;subst ek;have e3:=aC r3;subst e3;obtain⟨kk,ekk,q3⟩:=q3;cases ekk;exact⟨j,k,rfl,rfl,p' j k,rfl,h _ F3 H3 ((g1.trans g2).trans g3) q3⟩
structure GlD (K:W.Frag) (mg:Str->Option yG) (x:Str) (d:yF):Prop where
 ex:∃v u,mg x=some u/\RelV v u/\∀F,Rep K F v d
theorem gS{d:yF}(G:GlD X.K X.mg x d)(hg:autoParam (Gl X x) æa._auto_1)(hd:autoParam ((x==("__debug__" : Str))=false) æb._auto_1):PV X rl (.Name x pos) (vC d):=by
 obtain⟨v,u,h1,h2,h3⟩:=G.ex;exact nk h1 h2 h3 hg hd
structure GlK (K:W.Frag) (x:Str) (d:yF):Prop where
 ex:∃v u,W.nsIn K yW x=some (some u)/\RelV v u/\∀F,Rep K F v d
theorem GlK.of{K:W.Frag}{d:yF}{mg:Str->Option yG}(k:GlK K x d)(Y:K.In h)(G:h.Ns yW mg):GlD K mg x d:=by
 obtain⟨v,u,h1,h2,h3⟩:=k.ex;exact⟨v,u,W.mg_of Y G h1,h2,h3⟩
end
end L2.VL
namespace L2
section
variable{X:Cx}{a b:Expr}{ta:TA}{p q pos pos2:Pos}
end
end L2
namespace L2.VL
section
variable{X:Cx}{rl:Option Addr}{a b c e:Expr}{es:List Expr}{fa fb fc:TV}{fs:xR}{pos pos2 p q:Pos}
noncomputable def vf(fs:xR):TV:=fun ρ Q=>fs ρ fun ws=>∃i j:Int,ws=[.d (.int i),.d (.int j)]/\(-(2^62)<=i/\i<2^62 /\ -(2^62)<=j/\j<2^62)/\(j-i).toNat<=2^24/\Q (.ml (aJ i (j-i).toNat))
noncomputable def vg(fs:xR):TV:=fun ρ Q=>fs ρ fun ws=>∃j:Int,ws=[.d (.int j)]/\(-(2^62)<=j/\j<2^62)/\j.toNat<=2^24/\Q (.ml (aJ 0 j.toNat))
noncomputable def jl(i j:Nat)(fa:TV):xS:=fun D ρ=>∃xs ys,ρ[i]?=some (some (.ml xs))/\ρ[j]?=some (some (.ml ys))/\fa ρ fun w=>∃k y,w = .d (.int k)/\0<=k/\k<(ys.length:Int)/\ys.length<2^62/\ys[k.toNat]?=some y/\xs.length<sizeLine /\
 D.nx ((ρ.set j (some (.ml (ys.eraseIdx k.toNat)))).set i (some (.ml (xs++[y]))))
end
structure Sm (dp bk:Nat) (d:yF):Prop where
 nice:oM d
 dep:d.depth<=dp
 blk:d.bulk<=bk
theorem dS:∀{xs:List yF},(∀d∈xs,oM d)->dA xs
 | [],_=>trivial
 | x::xs,h=>⟨h x yY,dS fun d hd=>h d (yR _ hd)⟩
theorem dm{k:Nat}:∀{xs:List yF},(∀d∈xs,d.depth<=k)->zS xs<=k+1
 | [],_=>by simp[zS]
 | x::xs,h=>by
   have h1:=h x yY;have h2:=dm (k:=k) (xs:=xs) fun d hd=>h d (yR _ hd);simp only[zS];omega
theorem dX{k:Nat}:∀{xs:List yF},(∀d∈xs,d.bulk<=k)->BI xs<=(k+1)*xs.length
 | [],_=>by simp[BI]
 | x::xs,h=>by
   have h1:=h x yY;have h2:=dX (k:=k) (xs:=xs) fun d hd=>h d (yR _ hd);simp only[BI,AS,Nat.mul_succ];omega
theorem Sm.seq{dp bk:Nat}{xs:List yF}(h:∀d∈xs,Sm dp bk d)(hl:xs.length<=n):Sm (dp+2) ((bk+1)*n) (.tuple xs)/\Sm (dp+2) ((bk+1)*n) (.list xs):=by
 have a:=dS fun d hd=>(h d hd).nice;have b:=dm fun d hd=>(h d hd).dep;have c:BI xs<=(bk+1)*n:=zx (dX fun d hd=>(h d hd).blk) (Nat.mul_le_mul_left _ hl);refine⟨⟨a,?_,c⟩,⟨a,?_,c⟩⟩<;>simp only[AF]<;>omega
theorem Sm.shw{dp bk:Nat}{d:yF}(h:Sm dp bk d)(h1:dp<=60)(h2:bk<=8000):xZ d:=⟨h.nice,by have:=h.dep;omega,by have:=h.blk;omega⟩
theorem Sm.int{i:Int}(h:i.natAbs<2^1000):Sm 0 0 (.int i):=⟨(Lf.int h).nice,by simp[AF],by simp[CO]⟩
theorem Sm.bool{b:Bool}:Sm 0 0 (.bool b):=⟨trivial,by simp[AF],by simp[CO]⟩
theorem Sm.none:Sm 0 0 .none:=⟨trivial,by simp[AF],by simp[CO]⟩
theorem Sm.mono{dp bk dp' bk':Nat}{d:yF}(h:Sm dp bk d)(h1:dp<=dp')(h2:bk<=bk'):Sm dp' bk' d:=⟨h.nice,zx h.dep h1,zx h.blk h2⟩
end L2.VL
namespace L2
section
variable{X:Cx}{tg e:Expr}{ta te:TE}{p p2 pos:Pos}
end
end L2
namespace L2.VL
section
variable{X:Cx}{rl:Option Addr}{a b c e tg:Expr}{es:List Expr}{fa fb fc:TV}{fs:xR}{pos pos2 p p2 q:Pos}
noncomputable def pi(fa:TV):TV:=fun ρ Q=>fa ρ fun w=>∃xs,w.dat=some (.list xs)/\Q (.ml xs.reverse)
end
end L2.VL
namespace L2
section
variable{X:Cx}
theorem oy{bs:List Bool}{its:List yG}(r:br (bs.map V.bl) its){v:yG}(e:its[i]?=some v):v = .bool (bs.getD i false):=by
 have hl:=r.length;rw[yV]at hl;have hi:i<bs.length:=by have:=(yU.mp e).1;omega
 have hb:(bs.map V.bl)[i]?=some (.bl bs[i]):=by simp[hi]
 obtain⟨u,hu,ru⟩:=r.get hb;rw[e]at hu;cases hu;have:bs.getD i false=bs[i]:=by simp[List.getD,hi]
 rw[this];exact ru
theorem jy{bs:List Bool}:(zw bs.length).all (fun i=>bs.getD i false)=bs.all id:=by
 have:bs=(zw bs.length).map fun i=>bs.getD i false:=by
  apply B6
  · simp
  · intro i h1 h2;simp[List.getD,h1]
 conv=>rhs;rw[this,List.all_map]
 rfl
theorem lC(hc:X.calm=true):cS X (.builtin "all") (fun xs H Q=>∃(p:Addr)(bs:List Bool),xs=[.ref p]/\xX X.K H p (bs.map V.bl)/\Q (.bl (bs.all id)) H):=by
 intro pins s σ H xs us Q I r ⟨p,bs,ex,hq,q⟩;subst ex;obtain⟨u,rfl,ru⟩:=vals1 r;cases ru;obtain⟨its,rv,pl,hz⟩:=I.list hq;have hl:=rv.length;rw[yV]at hl;refine call_all_walk (wpAny_pyIter_list pl.isList ?_);have ne:p≠s.heap.objs.size:=by obtain⟨o,ho,_⟩:=pl.isList;exact zn (yN ho)
 refine⟨s.heap.objs.size,_,_,_,_,_,fun i=>bs.getD i false,rfl,Walks.list (A:=X.A.in1) (I.ok.hd hc) s.heap.objs.size p ne its.toArray,⟨⟨_,zj _ rfl,rfl,rfl⟩,pl.isList.push _⟩,fun i v s' Q' E' hP hQ=>?_,fun h' tk k=>?_⟩
 · rw[oy rv (show its[i]?=some v by simpa using hP)];exact zP hQ
 · have e:(zw its.toArray.size).all (fun i=>bs.getD i false)=bs.all id:=by rw[yL,<- hl];exact jy
   rw[e];exact⟨.bl _,H,I.kept (t':=tk) fun b o eb=>k b o (by simp;exact zn (yN eb)) (yI _ eb),rfl,q⟩
end
end L2
namespace L2.VL
section
variable{X:Cx}{rl:Option Addr}{a b c e:Expr}{es:List Expr}{fa fb fc:TV}{fs:xR}{pos p p2:Pos}
theorem ju{K:W.Frag}{F:Hp}:∀{vs:List V}{bs:List Bool},Reps K F vs (bs.map .bool)->vs=bs.map V.bl
 | _,[],h=>h.nil_iff
 | _,b::bs,.cons h r=>by rw[c7 h,ju r];rfl
noncomputable def rP(f:List Bool->Bool):List W->(W->Prop)->Prop:=fun ws Q=>∃(w:W)(bs:List Bool),ws=[w]/\w.dat=some (.list (bs.map .bool))/\Q (.d (.bool (f bs)))
theorem o6{f:List Bool->Bool}:eQ X rl (fun xs H Q=>∃(p:Addr)(bs:List Bool),xs=[.ref p]/\xX X.K H p (bs.map V.bl)/\Q (.bl (f bs)) H) (rP f):=fun{F H vs ws} Qd Q s ra r ⟨w,bs,ew,ed,q⟩ k=>by
 subst ew;obtain⟨v,rfl,r1⟩:=lT r;obtain⟨a,us,rfl,sq,rs⟩:=r1.items s ed;have e:=ju rs;subst e;exact⟨a,bs,rfl,sq,k _ (.d _) _ _ (Grow.refl s ra) (.bl _) trivial q⟩
theorem v_all(hm:X.mg "all" = none)(ha:yb X rl [a] fs)(hc:autoParam (X.calm=true) æa._auto_1)(hg:autoParam (Gl X "all") æa._auto_1)(he:autoParam (yM [a] X.env=(false,eval a X.env)::yM [] X.env) æa._auto_1)(hpl:autoParam ((Ae pos (yM [] X.env)).any (·.1)=false) æa._auto_1) :
 PV X rl (.Call (.Name "all" p) [a] [] pos) (cY (rP fun bs=>bs.all id) fs):=bQ (lC hc) o6 hm (by rfl) ha hg (by decide) (by decide) he hpl
end
end L2.VL
namespace L2.TM
section
variable{prog:yT}{w:zp}{A:zd}{E:yG->yH->Prop}{s:yH}{k:Int}{t:Tok}{l:Addr}{its:Array yG}
end
end L2.TM
namespace L2
section
variable{X:Cx}
end
end L2
namespace L2.VL
section
variable{X:Cx}{rl:Option Addr}{a b c e:Expr}{es:List Expr}{fa fb fc:TV}{fs:xR}{pos p p2:Pos}
noncomputable def qQ:W->W->(W->Prop)->Prop:=fun x y Q=>∃xs k,x = .d (.tuple xs)/\y = .d (.int k)/\xs≠[]/\1<=k/\k<2^62/\xs.length*k.toNat<=sizeLine/\Q (.d (.tuple (zt k.toNat xs).flatten))
end
end L2.VL
namespace L2
section
variable{X:Cx}
section
variable{prog:yT}{w:zp}{A:zd}{E:yG->yH->Prop}{s:yH}
end
end
end L2
namespace L2.VL
section
variable{X:Cx}{rl:Option Addr}{a b c e:Expr}{es:List Expr}{fa fb fc:TV}{fs:xR}{pos p p2:Pos}
noncomputable def qX:W->W->(W->Prop)->Prop:=fun x y Q=>∃xs ys,x = .d (.tuple xs)/\y = .d (.tuple ys)/\xs.length+ys.length<=sizeLine/\Q (.d (.tuple (xs++ys)))
theorem gZ{K:W.Frag}{F:Hp}:∀{vs:List V}{ns:List Int},Reps K F vs (ns.map .int)->vs=ns.map V.int
 | _,[],h=>h.nil_iff
 | _,n::ns,.cons h r=>by rw[aC h,gZ r];rfl
noncomputable def qP:List W->(W->Prop)->Prop:=fun ws Q=>∃(ns:List Int),ws=[.d (.tuple (ns.map .int))]/\ns.length<64/\∀ns':List Int,ns'.Perm ns->ns'.Pairwise (· <= ·)->Q (.ml (ns'.map .int))
end
end L2.VL
namespace L2.TO
section
variable{prog:yT}{w:zp}{A:zd}{E:yG->yH->Prop}{s:yH}
end
end L2.TO
namespace L2
section
variable{X:Cx}{a b e:Expr}{ta:TA}{te:TE}{p p2 q pos pos2:Pos}
end
end L2
namespace L2.VL
section
variable{X:Cx}{rl:Option Addr}{a b c e:Expr}{es:List Expr}{fa fb fc:TV}{fs:xR}{pos pos2 p q p2:Pos}
noncomputable def ve(fs:xR):TV:=fun ρ Q=>fs ρ fun ws=>∃j:Int,ws=[.d (.int j)]/\(-(2^62)<=j/\j<2^62)/\j.toNat<=2^24/\Q (.d (.tuple (aJ 0 j.toNat)))
noncomputable def ph(fa:TV):TV:=fun ρ Q=>fa ρ fun w=>∃xs,w = .d (.tuple xs)/\Q (.d (.tuple xs.reverse))
end
end L2.VL
namespace L2.TW
section
variable{prog:yT}{w:zp}{A:zd}{E:yG->yH->Prop}{s:yH}
end
end L2.TW
namespace L2
section
variable{X:Cx}
end
end L2
namespace L2.VL
section
variable{X:Cx}{rl:Option Addr}{a b c e:Expr}{es:List Expr}{fa fb fc:TV}{fs:xR}{pos p p2:Pos}
noncomputable def uy(fa:TV)(fl fh:xT):TV:=fun ρ Q=>fa ρ fun w=>fl ρ fun l=>fh ρ fun h=>∃xs,w = .d (.tuple xs)/\Q (.d (.tuple (cutD xs l h)))
end
end L2.VL
namespace L2
abbrev vh(D:List (Str×Int)):List (yF×yF):=(D.map fun q=>(q.1,zC q.2)).map fun q=>(yF.str q.1,q.2)
section
variable{X:Cx}{e:Expr}{ty:TE}{px apos cpos:Pos}
end
end L2
namespace L2.VL
section
variable{X:Cx}{rl:Option Addr}{a b c e:Expr}{es:List Expr}{fa fb fc:TV}{fs:xR}{pos p p2 px apos cpos:Pos}
noncomputable def pG(D:List (Str×Int))(k:Str):yF:=(PySem.Spec.lookup (.str k) (vh D)).getD .none
noncomputable def pf(D:List (Str×Int))(fk:TV):TV:=fun ρ Q=>fk ρ fun w=>∃k,w = .d (.str k)/\Q (.d (pG D k))
end
end L2.VL
set_option exponentiation.threshold 10000
namespace L2.VL
noncomputable def nV(a b:Int):yF:=.tuple [.int (a.fdiv (zk a b)),.int (b.fdiv (zk a b))]
theorem eI{a:Int}(hb:0<b)(z:b.natAbs<2^8000)(i:Int):dC i (zk a b:Int):=by
 have h1:=og (a:=a) (b:=b) (by omega);have h2:=qM (a:=a) (b:=b) (by omega);exact⟨by omega,BE (by omega) (yK z (za (by decide) (by decide)))⟩
noncomputable def rB(bs:List Int):Prop:=bs.length=4/\(∀b∈bs,2<=b/\b<=16)/\bs.Pairwise fun x y=>zk x y=1
instance (bs:List Int):Decidable (rB bs):=by unfold rB;infer_instance
noncomputable def pr(a b:Int):yF:=.tuple [.int a,.int b]
theorem GlK.pair{K:W.Frag}{a:Int}{p:Addr}{sl:Array (Option yG)}{t u:Tok}(h1:W.nsIn K yW x=some (some (.ref p)))
 (h2:K.lookup p=some ⟨.type "tuple", none,.seq #[.int a t,.int b u] n,sl⟩):GlK K x (pr a b):=by
 refine⟨.ref p,.ref p,h1,rfl,fun F=>.tup (vs:=[.int a,.int b]) (.inr ⟨_,_,n,h2,rfl,rfl,(by show 2<=sizeLine;decide),.cons ⟨t,rfl⟩ (.cons ⟨u,rfl⟩ .nil),rfl⟩) (.cons (.int a) (.cons (.int b) .nil))⟩
end L2.VL
set_option exponentiation.threshold 10000
namespace L2.VL
noncomputable def stepT(b:Int)(p:List Int)(t:Int)(a:Nat):Int:=t*b+p.getD a 0
noncomputable def wz:yF->Int
 | .int i=>i
 | _=>0
section
variable{P:yT}{w:zp}{K:W.Frag}{mg:Str->Option yG}{base:Heap}{rl:Option Addr}{x:Str}{st:Stmt}{N ps:List Str}{k:Nat}{Pd:List W->(List yF->Prop)->Prop}{t:xS}
end
section
variable{X:Cx}{rl:Option Addr}{a b c e:Expr}{es:List Expr}{fa fb fc:TV}{fs:xR}{pos p p2 px apos cpos:Pos}
end
end L2.VL
namespace L2.IX
section
variable{prog:yT}{w:zp}{A:zd}{E:yG->yH->Prop}{s:yH}
end
end L2.IX
namespace L2
section
variable{X:Cx}
end
end L2
namespace L2.VL
section
variable{X:Cx}{rl:Option Addr}{a b c e:Expr}{es:List Expr}{fa fb fc:TV}{fs:xR}{pos p p2 px apos cpos:Pos}
noncomputable def dW:yF->Bool
 | .none=>true
 | _=>false
noncomputable def tu(neg:Bool):W->W->(W->Prop)->Prop:=fun x y Q=>∃d,x.dat=some d/\y = .d .none/\Q (.d (.bool (if neg then !dW d else dW d)))
theorem nc{K:W.Frag}{d:yF}(h:Rep K F v d):decide (v=V.non)=dW d:=by
 cases h<;>first|rfl|exact decide_eq_false (fun z=>by cases z)
theorem oW:xP X rl (fun x y H Q=>y = .non/\Q (.bl (decide (x = .non))) H) (tu false):=fun{F H x y wx wy} Qd Q s ra r1 r2 q k=>by
 obtain⟨d,e1,rfl,q⟩:=q;have e2:y = .non:=by cases(show Rep X.K F y .none from r2);rfl
 refine⟨e2,?_⟩;rw[nc (r1.dat s e1)];exact k _ (.d _) _ _ (Grow.refl s ra) (.bl _) trivial q
noncomputable def qR:W->W->(W->Prop)->Prop:=fun x y Q=>∃xs k,x.dat=some (.list xs)/\y = .d (.int k) /\ -(2^63)<=k/\k<2^63/\xs.length*k.toNat<=sizeLine/\Q (.ml (zt k.toNat xs).flatten)
noncomputable def pj(i:Nat):xS:=fun D ρ=>∃xs,ρ[i]?=some (some (.ml xs))/\D.rt (.ml xs)
noncomputable def pA(i:Nat)(fa:TV):xS:=fun D ρ=>∃xs,ρ[i]?=some (some (.ml xs))/\fa ρ fun w=>∃ys,w.isPk=false/\w.dat=some (.list ys)/\xs.length+ys.length<=sizeLine/\D.nx (ρ.set i (some (.ml (xs++ys))))
end
end L2.VL
namespace L2.ZP
section
variable{prog:yT}{w:zp}{A:zd}{E:yG->yH->Prop}{s:yH}{it a:Addr}{k:Nat}{xs:Array yG}{v:yG}
end
section
variable{prog:yT}{w:zp}{A:zd}{E:yG->yH->Prop}{s:yH}{it a:Addr}{k:Nat}{xs:Array yG}{v:yG}
end
section
variable{prog:yT}{w:zp}{A:zd}{E:yG->yH->Prop}{s:yH}{z ti to i1 i2 a1 a2:Addr}{k1 k2:Nat}{xs ys:Array yG}{x y p q:yG}
end
noncomputable def xp(b:Bool):String:=bif b then "tuple_iterator" else "list_iterator"
section
variable{prog:yT}{w:zp}{A:zd}{E:yG->yH->Prop}{s:yH}{b b1 b2:Bool}{a a1 a2:Addr}{xs ys:Array yG}
abbrev y1(h:Heap)(b1:Bool)(a1:Addr):Heap:=h.push {cls:=.type (xp b1),data:=.fields #[.ref a1,.int 0 0]}
abbrev y2(h:Heap)(b1 b2:Bool)(a1 a2:Addr):Heap:=(y1 h b1 a1).push {cls:=.type (xp b2),data:=.fields #[.ref a2,.int 0 0]}
abbrev y3(h:Heap)(b1 b2:Bool)(a1 a2:Addr):Heap:=(y2 h b1 b2 a1 a2).push {cls:=.type "tuple", data:=.seq #[.ref h.objs.size,.ref (y1 h b1 a1).objs.size]}
abbrev y4(h:Heap)(b1 b2:Bool)(a1 a2:Addr):Heap:=(y3 h b1 b2 a1 a2).push {cls:=.type "tuple", data:=.seq #[.none,.none]}
abbrev y5(h:Heap)(b1 b2:Bool)(a1 a2:Addr):Heap:=(y4 h b1 b2 a1 a2).push {cls:=.type "zip", data:=.fields #[.none,.bool false,.bool false,.ref (y2 h b1 b2 a1 a2).objs.size,.ref (y3 h b1 b2 a1 a2).objs.size]}
end
end L2.ZP
namespace L2
open PySem PySem.Spec PyProof.Rows L2.ZP
open PySem PySem.Spec PyProof.Rows L2.ZP
section
variable{X:Cx}{e1 e2:Expr}{ta:TA}{elts:List Expr}{kt:Nat}{pt p pos:Pos}
end
end L2
namespace L2.VL
section
variable{X:Cx}{rl:Option Addr}{a b:Expr}{elts:List Expr}{kt:Nat}{pt p pos:Pos}{fs:xR}
noncomputable def rC(xs ys:List yF):List yF:=List.zipWith (fun x y=>.tuple [x,y]) xs ys
noncomputable def cF:yF->Bool
 | .tuple _=>true
 | _=>false
noncomputable def xw(b1 b2:Bool)(fs:xR):En->(List yF->Prop)->Prop:=fun ρ Q=>fs ρ fun ws=>∃dx dy xs ys,ws=[.d dx,.d dy]/\dN dx=some xs/\dN dy=some ys/\cF dx=b1/\cF dy=b2/\Q (rC xs ys)
end
theorem nr{α:Sort u}{a b:α}(h:a=b):a=b:=h
abbrev Mo(α:Type):=(α->Prop)->Prop
noncomputable def ret{α:Type}(a:α):Mo α:=fun Q=>Q a
noncomputable def xH{α β:Type}(m:Mo α)(f:α->Mo β):Mo β:=fun Q=>m fun a=>f a Q
noncomputable def xA{α:Type}(P:Prop)(m:Mo α):Mo α:=fun Q=>P/\m Q
noncomputable def stk{α:Type}:Mo α:=fun _=>False
noncomputable def anyM{α:Type}(P:α->Prop):Mo α:=fun Q=>∀a,P a->Q a
noncomputable def ar{α β:Type}(o:Option α)(f:α->Mo β):Mo β:=match o with
 | some a=>f a
 | none=>stk
section
variable{α β γ:Type}
theorem bnd_ret(a:α)(f:α->Mo β):xH (ret a) f=f a:=nr rfl
theorem bnd_bnd(m:Mo α)(f:α->Mo β)(g:β->Mo γ):xH (xH m f) g=xH m fun a=>xH (f a) g:=nr rfl
theorem bnd_grd(P:Prop)(m:Mo α)(f:α->Mo β):xH (xA P m) f=xA P (xH m f):=nr rfl
theorem bnd_stk(f:α->Mo β):xH stk f=stk:=nr rfl
theorem bnd_ite(c:Prop)[Decidable c](a b:Mo α)(f:α->Mo β):xH (if c then a else b) f=if c then xH a f else xH b f:=by split<;>rfl
theorem bnd_opt(o:Option α)(k:α->Mo β)(f:β->Mo γ):xH (ar o k) f=ar o fun a=>xH (k a) f:=by cases o<;>rfl
theorem opt_some(a:α)(k:α->Mo β):ar (some a) k=k a:=nr rfl
theorem opt_none(k:α->Mo β):ar none k=stk:=nr rfl
theorem ak{P:Prop}(h:P)(m:Mo α):xA P m=m:=by funext Q;exact propext ⟨fun z=>z.2,fun z=>⟨h,z⟩⟩
theorem grd_T(m:Mo α):xA True m=m:=ak trivial m
theorem cO(c:Prop)[Decidable c](a b:Mo α)(Q:α->Prop):(if c then a else b) Q=if c then a Q else b Q:=by split<;>rfl
theorem ae{m n:Mo α}(h:∀Q,m Q↔n Q):m=n:=funext fun Q=>propext (h Q)
end
noncomputable def asI:W->Option Int
 | .d (.int i)=>some i
 | _=>none
noncomputable def asB:W->Option Bool
 | .d (.bool b)=>some b
 | _=>none
noncomputable def asS:W->Option Str
 | .d (.str b)=>some b
 | _=>none
noncomputable def asD:W->Option yF
 | .d x=>some x
 | _=>none
noncomputable def lstD:yF->Option (List yF)
 | .list xs=>some xs
 | _=>none
noncomputable def tupD:yF->Option (List yF)
 | .tuple xs=>some xs
 | _=>none
noncomputable def xM(w:W):Option (List yF):=w.dat.bind lstD
noncomputable def xK(w:W):Option (List yF):=(asD w).bind tupD
noncomputable def xL(w:W):Option (List yF):=w.dat.bind dN
noncomputable def wD:W->Option Int
 | .d (.int i)=>some i
 | .d (.bool b)=>some (if b then 1 else 0)
 | _=>none
noncomputable def isiT:W->Option String
 | .vv (.ty T)=>some T
 | _=>none
noncomputable def mf:List yF->Option (List Bool)
 | []=>some []
 | .bool b::r=>(mf r).map (b :: ·)
 | _=>none
noncomputable def fW:List yF->Option (List Int)
 | []=>some []
 | .int b::r=>(fW r).map (b :: ·)
 | _=>none
theorem blsD_map:∀bs:List Bool,mf (bs.map .bool)=some bs
 | []=>rfl
 | b::bs=>by show(mf (bs.map .bool)).map (b :: ·)=_;rw[blsD_map bs];rfl
theorem gK:∀{xs:List yF}{bs:List Bool},mf xs=some bs->xs=bs.map .bool
 | [],bs,h=>by cases h;rfl
 | .bool b::r,bs,h=>by
   have h:(mf r).map (b :: ·)=some bs:=h
   cases q:mf r with
   | none=>rw[q]at h;cases h
   | some cs=>rw[q]at h;cases h;rw[gK q];rfl
 | .none::_,_,h=>by cases h
 | .int _::_,_,h=>by cases h
 | .str _::_,_,h=>by cases h
 | .list _::_,_,h=>by cases h
 | .tuple _::_,_,h=>by cases h
 | .dict _::_,_,h=>by cases h
theorem cB:∀bs:List Int,fW (bs.map .int)=some bs
 | []=>rfl
 | b::bs=>by show(fW (bs.map .int)).map (b :: ·)=_;rw[cB bs];rfl
theorem ie:∀{xs:List yF}{bs:List Int},fW xs=some bs->xs=bs.map .int
 | [],bs,h=>by cases h;rfl
 | .int b::r,bs,h=>by
   have h:(fW r).map (b :: ·)=some bs:=h
   cases q:fW r with
   | none=>rw[q]at h;cases h
   | some cs=>rw[q]at h;cases h;rw[ie q];rfl
 | .none::_,_,h=>by cases h
 | .bool _::_,_,h=>by cases h
 | .str _::_,_,h=>by cases h
 | .list _::_,_,h=>by cases h
 | .tuple _::_,_,h=>by cases h
 | .dict _::_,_,h=>by cases h
theorem asI_d(i:Int):asI (.d (.int i))=some i:=rfl
theorem asB_d(i:Bool):asB (.d (.bool i))=some i:=rfl
theorem asS_d(i:Str):asS (.d (.str i))=some i:=rfl
theorem asD_d(i:yF):asD (.d i)=some i:=rfl
theorem asT_d(x:yF):xK (.d x)=tupD x:=rfl
theorem asL_d(x:yF):xM (.d x)=lstD x:=rfl
theorem asL_ml(x:List yF):xM (.ml x)=some x:=rfl
theorem asL_pk(x:List yF):xM (.pk x)=some x:=rfl
theorem asQ_d(x:yF):xL (.d x)=dN x:=rfl
theorem asQ_ml(x:List yF):xL (.ml x)=some x:=rfl
theorem asQ_pk(x:List yF):xL (.pk x)=some x:=rfl
theorem lstD_l(x:List yF):lstD (.list x)=some x:=rfl
theorem tupD_t(x:List yF):tupD (.tuple x)=some x:=rfl
theorem toI_i(i:Int):wD (.d (.int i))=some i:=rfl
theorem toI_b(i:Bool):wD (.d (.bool i))=some (if i then 1 else 0):=rfl
theorem isiT_t(T:String):isiT (.vv (.ty T))=some T:=rfl
theorem bB{i:Int}:asI w=some i↔w = .d (.int i):=by
 constructor
 · intro h;unfold asI at h;split at h<;>simp_all
 · rintro rfl;rfl
theorem dw{i:Bool}:asB w=some i↔w = .d (.bool i):=by
 constructor
 · intro h;unfold asB at h;split at h<;>simp_all
 · rintro rfl;rfl
theorem mi{i:Str}:asS w=some i↔w = .d (.str i):=by
 constructor
 · intro h;unfold asS at h;split at h<;>simp_all
 · rintro rfl;rfl
theorem ir{i:yF}:asD w=some i↔w = .d i:=by
 constructor
 · intro h;unfold asD at h;split at h<;>simp_all
 · rintro rfl;rfl
theorem n8{i:String}:isiT w=some i↔w = .vv (.ty i):=by
 constructor
 · intro h;unfold isiT at h;split at h<;>simp_all
 · rintro rfl;rfl
theorem nU{w:yF}{i:List yF}:lstD w=some i↔w = .list i:=by
 constructor
 · intro h;unfold lstD at h;split at h<;>simp_all
 · rintro rfl;rfl
theorem mO{w:yF}{i:List yF}:tupD w=some i↔w = .tuple i:=by
 constructor
 · intro h;unfold tupD at h;split at h<;>simp_all
 · rintro rfl;rfl
theorem iq{i:List yF}:xK w=some i↔w = .d (.tuple i):=by
 constructor
 · intro h;unfold xK at h
   cases q:asD w with
   | none=>rw[q]at h;cases h
   | some x=>rw[q]at h;rw[ir.mp q,mO.mp h]
 · rintro rfl;rfl
theorem dY{i:List yF}:xM w=some i↔w.dat=some (.list i):=by
 unfold xM;constructor
 · intro h
   cases q:w.dat with
   | none=>rw[q]at h;cases h
   | some x=>rw[q]at h;rw[nU.mp h]
 · intro h;rw[h];rfl
theorem af{β:Type}{o:Option α}{k:α->Mo β}{Q:β->Prop}:ar o k Q↔∃a,o=some a/\k a Q:=by
 cases o with
 | none=>exact⟨fun z=>z.elim,fun⟨_,z,_⟩=>by cases z⟩
 | some a=>exact⟨fun z=>⟨a,rfl,z⟩,fun⟨_,e,z⟩=>by cases e;exact z⟩
section
variable{fa fb fc:TV}{fs:xR}{f g:TB}{ρ:En}{t u:xS}
theorem m_vC(x:yF):vC x ρ=ret (.d x):=nr rfl
theorem aX(i:Nat):dD i ρ=ar ((ρ[i]?).join) fun w=>ret w.peek:=by
 refine ae fun Q=>?_;rw[af];constructor
 · rintro⟨w,e,q⟩;exact⟨w,by rw[e];rfl,q⟩
 · rintro⟨w,e,q⟩;refine⟨w,?_,q⟩
   cases h:ρ[i]? with
   | none=>rw[h]at e;cases e
   | some o=>rw[h]at e;cases o with
     | none=>cases e
     | some x=>cases e;rfl
theorem m_vOp(h:W->W->(W->Prop)->Prop):wr h fa fb ρ=xH (fa ρ) fun x=>xH (fb ρ) fun y=>h x y:=nr rfl
theorem m_gI(C:Int->Int->Prop)(h:Int->Int->yF)(x y:W):gI C h x y=ar (asI x) fun i=>ar (asI y) fun j=>xA (C i j) (ret (.d (h i j))):=by
 refine ae fun Q=>?_;simp only[af,bB,gI,xA,ret];exact⟨fun⟨i,j,a,b,c,q⟩=>⟨i,a,j,b,c,q⟩,fun⟨i,a,j,b,c,q⟩=>⟨i,j,a,b,c,q⟩⟩
theorem m_gI0(h:Int->Int->yF)(x y:W):xF h x y=ar (asI x) fun i=>ar (asI y) fun j=>ret (.d (h i j)):=by
 refine ae fun Q=>?_;simp only[af,bB,xF,ret];exact⟨fun⟨i,j,a,b,q⟩=>⟨i,a,j,b,q⟩,fun⟨i,a,j,b,q⟩=>⟨i,j,a,b,q⟩⟩
theorem m_vNeg:su fa ρ=xH (fa ρ) fun x=>ar (asI x) fun i=>ret (.d (.int (-i))):=by
 refine ae fun Q=>?_;simp only[su,xH,af,bB,ret]
theorem m_vTest{f:TV}:iy f ρ=xH (f ρ) fun w=>ar (asB w) ret:=by
 refine ae fun Q=>?_;simp only[iy,xH,af,dw,ret]
theorem m_gEqD(neg:Bool)(x y:W):rN neg x y=ar x.dat fun dx=>ar y.dat fun dy=>xA (zF dx=true) (xA (zF dy=true) (ret (.d (.bool (if neg then !zH dx dy else zH dx dy))))):=by
 refine ae fun Q=>?_;simp only[af,rN,xA,ret];exact⟨fun⟨i,j,a,b,c,d,q⟩=>⟨i,a,j,b,c,d,q⟩,fun⟨i,a,j,b,c,d,q⟩=>⟨i,j,a,b,c,d,q⟩⟩
theorem rA{i:List yF}:xL w=some i↔(w.dat=some (.list i)\/w.dat=some (.tuple i)):=by
 unfold xL;constructor
 · intro h
   cases q:w.dat with
   | none=>rw[q]at h;cases h
   | some x=>rw[q]at h;exact dN.of (o:=some x) rfl h
 · rintro(h|h)<;>rw[h]<;>rfl
theorem m_gInD(neg:Bool)(x y:W):uX neg x y=ar x.dat fun dx=>ar (xL y) fun ys=>xA (zF dx=true) (xA (zL ys=true) (ret (.d (.bool (if neg then !(ys.any fun z=>zH z dx)else ys.any fun z=>zH z dx))))):=by
 refine ae fun Q=>?_;simp only[af,rA,uX,xA,ret];exact⟨fun⟨i,j,a,b,c,d,q⟩=>⟨i,a,j,b,c,d,q⟩,fun⟨i,a,j,b,c,d,q⟩=>⟨i,j,a,b,c,d,q⟩⟩
theorem m_vAnd:uE f g ρ=xH (f ρ) fun b=>if b=true then g ρ else ret false:=by
 refine ae fun Q=>?_;simp only[uE,xH,cO,ret]
theorem m_vOr:wq f g ρ=xH (f ρ) fun b=>if b=true then ret true else g ρ:=by
 refine ae fun Q=>?_;simp only[wq,xH,cO,ret]
theorem m_vNot:uC f ρ=xH (f ρ) fun b=>ret (!b):=nr rfl
theorem m_vAndV:mM fa fb ρ=xH (fa ρ) fun w=>ar (asB w) fun b=>if b=true then fb ρ else ret (.d (.bool false)):=by
 refine ae fun Q=>?_;simp only[mM,xH,af,dw,cO,ret]
theorem m_vOrV:uB fa fb ρ=xH (fa ρ) fun w=>ar (asB w) fun b=>if b=true then ret (.d (.bool true))else fb ρ:=by
 refine ae fun Q=>?_;simp only[uB,xH,af,dw,cO,ret]
theorem m_vNotV:mL fa ρ=xH (fa ρ) fun w=>ar (asB w) fun b=>ret (.d (.bool (!b))):=by
 refine ae fun Q=>?_;simp only[mL,xH,af,dw,ret]
theorem m_vIf{t:TB}:wv t fa fb ρ=xH (t ρ) fun c=>if c=true then fa ρ else fb ρ:=by
 refine ae fun Q=>?_;simp only[wv,xH,cO]
theorem m_vTup:rE fs ρ=xH (fs ρ) fun ws=>ar (eM ws) fun ds=>xA (ds.length<=sizeLine) (ret (.d (.tuple ds))):=by
 refine ae fun Q=>?_;simp only[rE,xH,af,xA,ret]
theorem m_vLst:sv fs ρ=xH (fs ρ) fun ws=>ar (eM ws) fun ds=>xA (ds.length<=sizeLine) (ret (.ml ds)):=by
 refine ae fun Q=>?_;simp only[sv,xH,af,xA,ret]
theorem m_gIx(x y:W):xD x y=ar x.dat fun dx=>ar (asI y) fun i=>ar (itemAt dx i) fun z=>ret (.d z):=by
 refine ae fun Q=>?_;simp only[xD,af,bB,ret];exact⟨fun⟨i,j,z,a,b,c,q⟩=>⟨i,a,j,b,z,c,q⟩,fun⟨i,a,j,b,z,c,q⟩=>⟨i,j,z,a,b,c,q⟩⟩
theorem m_vCall(h:List W->(W->Prop)->Prop):cY h fs ρ=xH (fs ρ) h:=nr rfl
theorem m_gAbs(w:W):rQ [w]=ar (asI w) fun i=>ret (.d (.int (if i<0 then -i else i))):=by
 refine ae fun Q=>?_;simp only[rQ,af,bB,ret,yS,and_true]
theorem m_gLen(w:W):rK [w]=ar w.dat fun d=>ar (nX d) fun n=>ret (.d (.int n)):=by
 refine ae fun Q=>?_;simp only[rK,af,ret,yS,and_true];exact⟨fun⟨w',d,n,e,a,b,q⟩=>by subst e;exact⟨d,a,n,b,q⟩,fun⟨d,a,n,b,q⟩=>⟨w,d,n,rfl,a,b,q⟩⟩
theorem m_gRepr(w:W):lq [w]=ar w.dat fun d=>xA (xZ d) (ret (.d (.str d.shown))):=by
 refine ae fun Q=>?_;simp only[lq,af,ret,xA,yS,and_true];exact⟨fun⟨w',d,e,a,b,q⟩=>by subst e;exact⟨d,a,b,q⟩,fun⟨d,a,b,q⟩=>⟨w,d,rfl,a,b,q⟩⟩
theorem m_gIsi(w v:W):rL [w,v]=ar w.dat fun d=>ar (isiT v) fun T=>xA (lP T=true) (ret (.d (.bool (dE d T)))):=by
 refine ae fun Q=>?_;simp only[rL,af,n8,ret,xA,yS,and_true];exact⟨fun⟨w',d,T,⟨e,e'⟩,a,b,q⟩=>by subst e;exact⟨d,a,T,e',b,q⟩,fun⟨d,a,T,e',b,q⟩=>⟨w,d,T,⟨rfl,e'⟩,a,b,q⟩⟩
theorem m_gStrI(w:W):qO [w]=ar (asI w) fun i=>xA (i.natAbs.log2<1920) (ret (.d (.str (toString i)))):=by
 refine ae fun Q=>?_;simp only[qO,af,bB,ret,xA,yS,and_true]
theorem m_gTupO(w:W):qN [w]=ar (xL w) fun xs=>ret (.d (.tuple xs)):=by
 refine ae fun Q=>?_;simp only[qN,af,ret,yS,and_true];constructor
 · rintro⟨w',d,xs,e,a,b,q⟩;subst e;exact⟨xs,by unfold xL;rw[a];exact b,q⟩
 · rintro⟨xs,e,q⟩;unfold xL at e
   cases h:w.dat with
   | none=>rw[h]at e;cases e
   | some d=>rw[h]at e;exact⟨w,d,xs,rfl,h,e,q⟩
theorem m_gLstO(w:W):qU [w]=ar (xL w) fun xs=>ret (.ml xs):=by
 refine ae fun Q=>?_;simp only[qU,af,ret,yS,and_true];constructor
 · rintro⟨w',d,xs,e,a,b,q⟩;subst e;exact⟨xs,by unfold xL;rw[a];exact b,q⟩
 · rintro⟨xs,e,q⟩;unfold xL at e
   cases h:w.dat with
   | none=>rw[h]at e;cases e
   | some d=>rw[h]at e;exact⟨w,d,xs,rfl,h,e,q⟩
theorem m_gIsB(x y:W):uW x y=ar (asB x) fun i=>ar (asB y) fun j=>ret (.d (.bool (i==j))):=by
 refine ae fun Q=>?_;simp only[af,dw,uW,ret];exact⟨fun⟨i,j,a,b,q⟩=>⟨i,a,j,b,q⟩,fun⟨i,a,j,b,q⟩=>⟨i,j,a,b,q⟩⟩
theorem m_gIsN(neg:Bool)(x:W):tu neg x (.d .none)=ar x.dat fun d=>ret (.d (.bool (if neg then !dW d else dW d))):=by
 refine ae fun Q=>?_;simp only[af,tu,ret,true_and]
theorem m_gI2(h:Int->Int->yF)(x y:W):xE h [x,y]=ar (asI x) fun i=>ar (asI y) fun j=>ret (.d (h i j)):=by
 refine ae fun Q=>?_;simp only[af,bB,xE,ret,yS,and_true];exact⟨fun⟨i,j,⟨a,b⟩,q⟩=>⟨i,a,j,b,q⟩,fun⟨i,a,j,b,q⟩=>⟨i,j,⟨a,b⟩,q⟩⟩
theorem m_gDivmod(x y:W):j9 [x,y]=ar (asI x) fun i=>ar (asI y) fun j=>xA (0<j) (xA (j<1073741824) (ret (.d (.tuple [.int (i / j),.int (i%j)])))):=by
 refine ae fun Q=>?_;simp only[af,bB,j9,xA,ret,yS,and_true];exact⟨fun⟨i,j,⟨a,b⟩,c,d,q⟩=>⟨i,a,j,b,c,d,q⟩,fun⟨i,a,j,b,c,d,q⟩=>⟨i,j,⟨a,b⟩,c,d,q⟩⟩
theorem pE{i:Int}:wD w=some i↔(w = .d (.int i)\/∃b:Bool,w = .d (.bool b)/\i=if b then 1 else 0):=by
 constructor
 · intro h;unfold wD at h;split at h
   · cases h;exact .inl rfl
   · cases h;exact .inr ⟨_,rfl,rfl⟩
   · cases h
 · rintro(rfl|⟨b,rfl,rfl⟩)<;>rfl
theorem m_gInt1(w:W):qW [w]=ar (wD w) fun i=>ret (.d (.int i)):=by
 refine ae fun Q=>?_;simp only[af,pE,qW,ret,yS,and_true];constructor
 · rintro(⟨i,rfl,q⟩|⟨k,rfl,q⟩)
   · exact⟨i,.inl rfl,q⟩
   · exact⟨_,.inr ⟨k,rfl,rfl⟩,q⟩
 · rintro⟨i,rfl|⟨b,rfl,rfl⟩,q⟩
   · exact .inl ⟨i,rfl,q⟩
   · exact .inr ⟨b,rfl,q⟩
theorem m_oNo:xh ρ=ret none:=nr rfl
theorem m_oIt:xi fa ρ=xH (fa ρ) fun w=>ar (asI w) fun i=>ret (some i):=by
 refine ae fun Q=>?_;simp only[xi,xH,af,bB,ret]
theorem m_vSlL{fl fh:xT}:ux fa fl fh ρ=xH (fa ρ) fun w=>xH (fl ρ) fun l=>xH (fh ρ) fun h=>ar (xM w) fun xs=>ret (.ml (cutD xs l h)):=by
 refine ae fun Q=>?_;simp only[ux,xH,af,dY,ret]
theorem m_vSlA{fl fh:xT}:uy fa fl fh ρ=xH (fa ρ) fun w=>xH (fl ρ) fun l=>xH (fh ρ) fun h=>ar (xK w) fun xs=>ret (.d (.tuple (cutD xs l h))):=by
 refine ae fun Q=>?_;simp only[uy,xH,af,iq,ret]
theorem m_gCatD(x y:W):ls x y=ar (xM x) fun xs=>ar (xM y) fun ys=>xA (xs.length+ys.length<=sizeLine) (ret (.ml (xs++ys))):=by
 refine ae fun Q=>?_;simp only[ls,af,dY,xA,ret];exact⟨fun⟨i,j,a,b,c,q⟩=>⟨i,a,j,b,c,q⟩,fun⟨i,a,j,b,c,q⟩=>⟨i,j,a,b,c,q⟩⟩
theorem m_gCatA(x y:W):qX x y=ar (xK x) fun xs=>ar (xK y) fun ys=>xA (xs.length+ys.length<=sizeLine) (ret (.d (.tuple (xs++ys)))):=by
 refine ae fun Q=>?_;simp only[qX,af,iq,xA,ret];exact⟨fun⟨i,j,a,b,c,q⟩=>⟨i,a,j,b,c,q⟩,fun⟨i,a,j,b,c,q⟩=>⟨i,j,a,b,c,q⟩⟩
theorem m_vChain(p p':Int->Int->Bool):jk p p' fa fb fc ρ=xH (fa ρ) fun x=>xH (fb ρ) fun y=>ar (asI x) fun i=>ar (asI y) fun j=>if p i j=true then xH (fc ρ) fun z=>ar (asI z) fun k=>ret (.d (.bool (p' j k)))else ret (.d (.bool false)):=by
 show(xH (fa ρ) fun x=>xH (fb ρ) fun y=>fun(Q:W->Prop)=>∃i j,x = .d (.int i)/\y = .d (.int j)/\if p i j=true then fc ρ fun z=>∃k,z = .d (.int k)/\Q (.d (.bool (p' j k)))else Q (.d (.bool false)))=_;congr 1;funext x;congr 1;funext y;refine ae fun Q=>?_;simp only[xH,af,bB,ret,cO];exact⟨fun⟨i,j,a,b,q⟩=>⟨i,a,j,b,q⟩,fun⟨i,a,j,b,q⟩=>⟨i,j,a,b,q⟩⟩
theorem m_vLR1:vg fs ρ=xH (fs ρ) fun ws=>ar (ws.head?.bind asI) fun j=>xA (ws.length=1) (xA (-(2^62)<=j/\j<2^62) (xA (j.toNat<=2^24) (ret (.ml (aJ 0 j.toNat))))):=by
 show(xH (fs ρ) fun ws=>fun(Q:W->Prop)=>∃j:Int,ws=[.d (.int j)]/\(-(2^62)<=j/\j<2^62)/\j.toNat<=2^24/\Q (.ml (aJ 0 j.toNat)))=_;congr 1;funext ws;refine ae fun Q=>?_;simp only[af,xA,ret];constructor
 · rintro⟨j,rfl,a,b,q⟩;exact⟨j,rfl,rfl,a,b,q⟩
 · rintro⟨j,e,l,a,b,q⟩
   match ws,l with
   | [w],_=>rw[show w = .d (.int j)from bB.mp e];exact⟨j,rfl,a,b,q⟩
theorem m_vTR1:ve fs ρ=xH (fs ρ) fun ws=>ar (ws.head?.bind asI) fun j=>xA (ws.length=1) (xA (-(2^62)<=j/\j<2^62) (xA (j.toNat<=2^24) (ret (.d (.tuple (aJ 0 j.toNat)))))):=by
 show(xH (fs ρ) fun ws=>fun(Q:W->Prop)=>∃j:Int,ws=[.d (.int j)]/\(-(2^62)<=j/\j<2^62)/\j.toNat<=2^24/\Q (.d (.tuple (aJ 0 j.toNat))))=_;congr 1;funext ws;refine ae fun Q=>?_;simp only[af,xA,ret];constructor
 · rintro⟨j,rfl,a,b,q⟩;exact⟨j,rfl,rfl,a,b,q⟩
 · rintro⟨j,e,l,a,b,q⟩
   match ws,l with
   | [w],_=>rw[show w = .d (.int j)from bB.mp e];exact⟨j,rfl,a,b,q⟩
noncomputable def two(ws:List W):Option (Int×Int):=match ws with
 | [a,b]=>(asI a).bind fun i=>(asI b).map fun j=>(i,j)
 | _=>none
theorem two_d(a b:Int):two [.d (.int a),.d (.int b)]=some (a,b):=rfl
theorem lQ{ws:List W}{p:Int×Int}:two ws=some p↔ws=[.d (.int p.1),.d (.int p.2)]:=by
 constructor
 · intro h
   match ws with
   | []=>cases h
   | [_]=>cases h
   | _::_::_::_=>cases h
   | [a,b] =>
     have h:((asI a).bind fun i=>(asI b).map fun j=>(i,j))=some p:=h
     cases ha:asI a with
     | none=>rw[ha]at h;cases h
     | some i =>
       cases hb:asI b with
       | none=>rw[ha,hb]at h;cases h
       | some j=>rw[ha,hb]at h;cases h;rw[bB.mp ha,bB.mp hb]
 · rintro rfl;rfl
theorem m_vLR2:vf fs ρ=xH (fs ρ) fun ws=>ar (two ws) fun p=>xA (-(2^62)<=p.1/\p.1<2^62 /\ -(2^62)<=p.2/\p.2<2^62) (xA ((p.2-p.1).toNat<=2^24) (ret (.ml (aJ p.1 (p.2-p.1).toNat)))):=by
 show(xH (fs ρ) fun ws=>fun(Q:W->Prop)=>∃i j:Int,ws=[.d (.int i),.d (.int j)]/\(-(2^62)<=i/\i<2^62 /\ -(2^62)<=j/\j<2^62)/\(j-i).toNat<=2^24/\Q (.ml (aJ i (j-i).toNat)))=_;congr 1;funext ws;refine ae fun Q=>?_;simp only[af,lQ,xA,ret];exact⟨fun⟨i,j,a,b,c,q⟩=>⟨(i,j),a,b,c,q⟩,fun⟨p,a,b,c,q⟩=>⟨p.1,p.2,a,b,c,q⟩⟩
theorem m_iL:iL fa ρ=xH (fa ρ) fun w=>ar ((asD w.fz).bind lstD) ret:=by
 show(xH (fa ρ) fun w=>fun(Q:List yF->Prop)=>∃xs,w.fz = .d (.list xs)/\Q xs)=_;congr 1;funext w;refine ae fun Q=>?_;simp only[af,ret];constructor
 · rintro⟨xs,e,q⟩;exact⟨xs,by rw[e];rfl,q⟩
 · rintro⟨xs,e,q⟩
   cases h:asD w.fz with
   | none=>rw[h]at e;cases e
   | some x=>rw[h]at e;rw[ir.mp h,nU.mp e];exact⟨xs,rfl,q⟩
theorem m_iT:iT fa ρ=xH (fa ρ) fun w=>ar ((asD w.fz).bind tupD) ret:=by
 show(xH (fa ρ) fun w=>fun(Q:List yF->Prop)=>∃xs,w.fz = .d (.tuple xs)/\Q xs)=_;congr 1;funext w;refine ae fun Q=>?_;simp only[af,ret];constructor
 · rintro⟨xs,e,q⟩;exact⟨xs,by rw[e];rfl,q⟩
 · rintro⟨xs,e,q⟩
   cases h:asD w.fz with
   | none=>rw[h]at e;cases e
   | some x=>rw[h]at e;rw[ir.mp h,mO.mp e];exact⟨xs,rfl,q⟩
theorem m_iR1:xz fs ρ=xH (fs ρ) fun ws=>ar (ws.head?.bind asI) fun j=>xA (ws.length=1) (xA (-(2^62)<=j/\j<2^62) (ret (aJ 0 j.toNat))):=by
 show(xH (fs ρ) fun ws=>fun(Q:List yF->Prop)=>∃j:Int,ws=[.d (.int j)]/\(-(2^62)<=j/\j<2^62)/\Q (aJ 0 j.toNat))=_;congr 1;funext ws;refine ae fun Q=>?_;simp only[af,xA,ret];constructor
 · rintro⟨j,rfl,a,q⟩;exact⟨j,rfl,rfl,a,q⟩
 · rintro⟨j,e,l,a,q⟩
   match ws,l with
   | [w],_=>rw[show w = .d (.int j)from bB.mp e];exact⟨j,rfl,a,q⟩
theorem m_iR2:xx fs ρ=xH (fs ρ) fun ws=>ar (two ws) fun p=>xA (-(2^62)<=p.1/\p.1<2^62 /\ -(2^62)<=p.2/\p.2<2^62) (ret (aJ p.1 (p.2-p.1).toNat)):=by
 show(xH (fs ρ) fun ws=>fun(Q:List yF->Prop)=>∃i j:Int,ws=[.d (.int i),.d (.int j)]/\(-(2^62)<=i/\i<2^62 /\ -(2^62)<=j/\j<2^62)/\Q (aJ i (j-i).toNat))=_;congr 1;funext ws;refine ae fun Q=>?_;simp only[af,lQ,xA,ret];exact⟨fun⟨i,j,a,b,q⟩=>⟨(i,j),a,b,q⟩,fun⟨p,a,b,q⟩=>⟨p.1,p.2,a,b,q⟩⟩
noncomputable def rY(b1 b2:Bool)(ws:List W):Option (List yF):=match ws with
 | [.d x,.d y]=>if cF x=b1/\cF y=b2 then(dN x).bind fun xs=>(dN y).map fun ys=>rC xs ys else none
 | _=>none
theorem m_iZb(b1 b2:Bool):xw b1 b2 fs ρ=xH (fs ρ) fun ws=>ar (rY b1 b2 ws) ret:=by
 show(xH (fs ρ) fun ws=>fun(Q:List yF->Prop)=>∃dx dy xs ys,ws=[.d dx,.d dy]/\dN dx=some xs/\dN dy=some ys/\cF dx=b1/\cF dy=b2/\Q (rC xs ys))=_;congr 1;funext ws;refine ae fun Q=>?_;simp only[af,ret];constructor
 · rintro⟨dx,dy,xs,ys,rfl,a,b,c,d,q⟩;exact⟨_,by show(if cF dx=b1/\cF dy=b2 then(dN dx).bind fun xs=>(dN dy).map fun ys=>rC xs ys else none)=_;rw[if_pos ⟨c,d⟩,a,b];rfl,q⟩
 · rintro⟨zs,e,q⟩;unfold rY at e;split at e
   · rename_i dx dy;split at e
     · rename_i c
       cases ha:dN dx with
       | none=>rw[ha]at e;cases e
       | some xs =>
         cases hb:dN dy with
         | none=>rw[ha,hb]at e;cases e
         | some ys=>rw[ha,hb]at e;cases e;exact⟨dx,dy,xs,ys,rfl,ha,hb,c.1,c.2,q⟩
     · cases e
   · cases e
theorem m_vUse(Pd:List W->(yF->Prop)->Prop):uu Pd fs ρ=xH (fs ρ) fun ws=>xA (ws.all b7=true) (xH (Pd ws) fun d=>ret (.d d)):=nr rfl
theorem m_vUseL(Pd:List W->(List yF->Prop)->Prop):sg Pd fs ρ=xH (fs ρ) fun ws=>xA (ws.all b7=true) (xH (Pd ws) fun d=>ret (.ml d)):=nr rfl
theorem m_gAll(h:List Bool->Bool)(w:W):rP h [w]=ar ((xM w).bind mf) fun bs=>ret (.d (.bool (h bs))):=by
 refine ae fun Q=>?_;simp only[rP,af,ret,yS,and_true];constructor
 · rintro⟨w',bs,rfl,e,q⟩;exact⟨bs,by rw[dY.mpr e];exact blsD_map bs,q⟩
 · rintro⟨bs,e,q⟩
   cases hl:xM w with
   | none=>rw[hl]at e;cases e
   | some xs=>rw[hl]at e;refine⟨w,bs,rfl,?_,q⟩;rw[<- gK e];exact dY.mp hl
theorem m_gRepT(x y:W):qQ x y=ar (xK x) fun xs=>ar (asI y) fun k=>xA (xs≠[]/\1<=k/\k<2^62/\xs.length*k.toNat<=sizeLine) (ret (.d (.tuple (zt k.toNat xs).flatten))):=by
 refine ae fun Q=>?_;simp only[qQ,af,iq,bB,xA,ret];exact⟨fun⟨i,j,a,b,c,d,e,f,q⟩=>⟨i,a,j,b,⟨c,d,e,f⟩,q⟩,fun⟨i,a,j,b,⟨c,d,e,f⟩,q⟩=>⟨i,j,a,b,c,d,e,f,q⟩⟩
theorem m_gRepL(x y:W):qR x y=ar (xM x) fun xs=>ar (asI y) fun k=>xA (-(2^63)<=k/\k<2^63/\xs.length*k.toNat<=sizeLine) (ret (.ml (zt k.toNat xs).flatten)):=by
 refine ae fun Q=>?_;simp only[qR,af,dY,bB,xA,ret];exact⟨fun⟨i,j,a,b,c,d,e,q⟩=>⟨i,a,j,b,⟨c,d,e⟩,q⟩,fun⟨i,a,j,b,⟨c,d,e⟩,q⟩=>⟨i,j,a,b,c,d,e,q⟩⟩
theorem m_vRevT:ph fa ρ=xH (fa ρ) fun w=>ar (xK w) fun xs=>ret (.d (.tuple xs.reverse)):=by
 refine ae fun Q=>?_;simp only[ph,xH,af,iq,ret]
theorem m_vRevL:pi fa ρ=xH (fa ρ) fun w=>ar (xM w) fun xs=>ret (.ml xs.reverse):=by
 refine ae fun Q=>?_;simp only[pi,xH,af,dY,ret]
theorem m_gEqS(neg:Bool)(x y:W):tw neg x y=ar (asS x) fun i=>ar (asS y) fun j=>ret (.d (.bool (if neg then !decide (i=j)else decide (i=j)))):=by
 refine ae fun Q=>?_;simp only[af,mi,tw,ret];exact⟨fun⟨i,j,a,b,q⟩=>⟨i,a,j,b,q⟩,fun⟨i,a,j,b,q⟩=>⟨i,j,a,b,q⟩⟩
theorem m_vTGet(D:List (Str×Int)):pf D fa ρ=xH (fa ρ) fun w=>ar (asS w) fun k=>ret (.d (pG D k)):=by
 refine ae fun Q=>?_;simp only[pf,xH,af,mi,ret]
noncomputable def u4(w:W):Option (List Int):=(xK w).bind fW
theorem m_gSrtT(w:W):qP [w]=ar (u4 w) fun ns=>xA (ns.length<64) (xH (anyM fun ns':List Int=>ns'.Perm ns/\ns'.Pairwise (· <= ·)) fun ns'=>ret (.ml (ns'.map .int))):=by
 refine ae fun Q=>?_;simp only[qP,af,ret,xA,xH,anyM,yS,and_true];constructor
 · rintro⟨ns,rfl,a,q⟩;exact⟨ns,cB ns,a,fun n' ⟨h1,h2⟩=>q n' h1 h2⟩
 · rintro⟨ns,e,a,q⟩;unfold u4 at e
   cases hl:xK w with
   | none=>rw[hl]at e;cases e
   | some xs=>rw[hl]at e;exact⟨ns,by rw[iq.mp hl,<- ie e],a,fun n' h1 h2=>q n' ⟨h1,h2⟩⟩
end
inductive Fl where
 | nx (ρ:En)|rt (w:W)|bk (ρ:En)|ct (ρ:En)
noncomputable def mS(t:xS)(ρ:En):Mo Fl:=fun Q=>t ⟨fun ρ=>Q (.nx ρ),fun w=>Q (.rt w),fun ρ=>Q (.bk ρ),fun ρ=>Q (.ct ρ)⟩ ρ
noncomputable def sq(m:Mo Fl)(k:En->Mo Fl):Mo Fl:=xH m fun fl=>match fl with
 | .nx ρ=>k ρ
 | .rt w=>ret (.rt w)
 | .bk ρ=>ret (.bk ρ)
 | .ct ρ=>ret (.ct ρ)
noncomputable def rg(Q:yF->Prop):Fl->Prop
 | .nx _=>Q .none
 | .rt w=>∃d,w.fz = .d d/\Q d
 | _=>False
section
variable{fa fb fc:TV}{fs:xR}{f g:TB}{ρ:En}{t u:xS}{k:En->Mo Fl}
theorem aK{Q:yF->Prop}(h:mS t ρ (rg Q)):t (iz Q) ρ:=h
theorem end_d(Q:yF->Prop)(d:yF):rg Q (.rt (.d d))=Q d:=propext ⟨fun⟨_,e,q⟩=>by cases e;exact q,fun q=>⟨d,rfl,q⟩⟩
theorem end_ml(Q:yF->Prop)(d:List yF):rg Q (.rt (.ml d))=Q (.list d):=propext ⟨fun⟨_,e,q⟩=>by cases e;exact q,fun q=>⟨_,rfl,q⟩⟩
theorem end_nx(Q:yF->Prop)(ρ:En):rg Q (.nx ρ)=Q .none:=nr rfl
theorem sq_nx:sq (ret (.nx ρ)) k=k ρ:=nr rfl
theorem sq_rt(w:W):sq (ret (.rt w)) k=ret (.rt w):=nr rfl
theorem sq_bk:sq (ret (.bk ρ)) k=ret (.bk ρ):=nr rfl
theorem sq_ct:sq (ret (.ct ρ)) k=ret (.ct ρ):=nr rfl
theorem sq_grd(P:Prop)(m:Mo Fl):sq (xA P m) k=xA P (sq m k):=nr rfl
theorem sq_stk:sq stk k=stk:=nr rfl
theorem sq_ite(c:Prop)[Decidable c](a b:Mo Fl):sq (if c then a else b) k=if c then sq a k else sq b k:=by split<;>rfl
theorem pN(o:Option α)(h:α->Mo Fl):sq (ar o h) k=ar o fun a=>sq (h a) k:=by cases o<;>rfl
theorem s_next:mS po ρ=ret (.nx ρ):=nr rfl
theorem s_seq:mS (sj t u) ρ=sq (mS t ρ) (mS u):=by
 refine ae fun Q=>?_;show t ⟨fun ρ=>u ⟨_,_,_,_⟩ ρ,_,_,_⟩ ρ↔_;exact CP
theorem s_drop:mS (sy fa) ρ=xH (fa ρ) fun _=>ret (.nx ρ):=nr rfl
theorem s_ret:mS (uz fa) ρ=xH (fa ρ) fun w=>ret (.rt w):=nr rfl
theorem s_retN:mS so ρ=ret (.rt (.d .none)):=nr rfl
theorem s_ifS:mS (sw f t u) ρ=xH (f ρ) fun b=>if b=true then mS t ρ else mS u ρ:=by
 refine ae fun Q=>?_;simp only[mS,sw,xH,cO]
theorem s_set(i:Nat):mS (si i fa) ρ=xH (fa ρ) fun w=>xA (w.isPk=false) (ret (.nx (ρ.set i (some w)))):=nr rfl
theorem s_never:mS (fun _ _=>False) ρ=stk:=nr rfl
theorem m_hName(i:Nat)(x:yF):qL i x ρ=ret (ρ.set i (some (.d x))):=nr rfl
theorem qB(xs:List yF):tj xs ρ=xA (xs=[]) (ret ρ):=nr rfl
theorem nP{g:xU}{gs:i4}(xs:List yF):ll g gs xs ρ=ar (match xs with | []=>none|y::r=>some (y,r)) fun p=>xH (g p.1 ρ) fun ρ'=>gs p.2 ρ':=by
 refine ae fun Q=>?_;simp only[af,ll,xH];constructor
 · rintro⟨y,r,rfl,q⟩;exact⟨(y,r),rfl,q⟩
 · rintro⟨p,e,q⟩
   cases xs with
   | nil=>cases e
   | cons y r=>cases e;exact⟨y,r,rfl,q⟩
theorem m_hCons_c{g:xU}{gs:i4}(y:yF)(r:List yF):ll g gs (y::r) ρ=xH (g y ρ) fun ρ'=>gs r ρ':=by rw[nP];rfl
theorem m_hNil_n:tj [] ρ=ret ρ:=by rw[qB,ak rfl]
theorem m_hTup(n:Nat){gs:i4}(x:yF):tf n gs x ρ=ar (tupD x) fun xs=>xA (xs.length=n) (gs xs ρ):=by
 refine ae fun Q=>?_;simp only[af,mO,tf,xA]
theorem s_asg{g:xU}:mS (sA fa g) ρ=xH (fa ρ) fun w=>ar (asD w) fun x=>xH (g x ρ) fun ρ'=>ret (.nx ρ'):=by
 refine ae fun Q=>?_;simp only[mS,sA,xH,af,ir,ret]
theorem s_par(i j:Nat):mS (uA i j fs) ρ=xH (fs ρ) fun ws=>ar (eM ws) fun ds=>ar (match ds with | [x,y]=>some (x,y)|_=>none) fun p=>ret (.nx ((ρ.set i (some (.d p.1))).set j (some (.d p.2)))):=by
 show(xH (fs ρ) fun ws=>fun(Q:Fl->Prop)=>∃x y,eM ws=some [x,y]/\Q (.nx ((ρ.set i (some (.d x))).set j (some (.d y)))))=_;congr 1;funext ws;refine ae fun Q=>?_;simp only[af,ret];constructor
 · rintro⟨x,y,e,q⟩;exact⟨_,e,(x,y),rfl,q⟩
 · rintro⟨ds,e,p,e2,q⟩;split at e2
   · cases e2;exact⟨_,_,e,q⟩
   · cases e2
theorem s_par3(i j l:Nat):mS (sr i j l fs) ρ=xH (fs ρ) fun ws=>ar (eM ws) fun ds=>ar (match ds with | [x,y,z]=>some (x,y,z)|_=>none) fun p=>ret (.nx (((ρ.set i (some (.d p.1))).set j (some (.d p.2.1))).set l (some (.d p.2.2)))):=by
 show(xH (fs ρ) fun ws=>fun(Q:Fl->Prop)=>∃x y z,eM ws=some [x,y,z]/\Q (.nx (((ρ.set i (some (.d x))).set j (some (.d y))).set l (some (.d z)))))=_;congr 1;funext ws;refine ae fun Q=>?_;simp only[af,ret];constructor
 · rintro⟨x,y,z,e,q⟩;exact⟨_,e,(x,y,z),rfl,q⟩
 · rintro⟨ds,e,p,e2,q⟩;split at e2
   · cases e2;exact⟨_,_,_,e,q⟩
   · cases e2
noncomputable def wQ(ρ:En)(i:Nat):Option Int:=((ρ[i]?).join).bind asI
noncomputable def asM:W->Option (List yF)
 | .ml xs=>some xs
 | _=>none
noncomputable def wP(ρ:En)(i:Nat):Option (List yF):=((ρ[i]?).join).bind asM
theorem asM_ml(xs:List yF):asM (.ml xs)=some xs:=rfl
theorem u3{xs:List yF}:asM w=some xs↔w = .ml xs:=by
 constructor
 · intro h;unfold asM at h;split at h<;>simp_all
 · rintro rfl;rfl
theorem fu{xs:List yF}:wP ρ i=some xs↔ρ[i]?=some (some (.ml xs)):=by
 unfold wP;constructor
 · intro h
   cases q:ρ[i]? with
   | none=>rw[q]at h;cases h
   | some o=>rw[q]at h;cases o with
     | none=>cases h
     | some w=>rw[u3.mp h]
 · intro h;rw[h];rfl
theorem pQ{n:Int}:wQ ρ i=some n↔ρ[i]?=some (some (.d (.int n))):=by
 unfold wQ;constructor
 · intro h
   cases q:ρ[i]? with
   | none=>rw[q]at h;cases h
   | some o=>rw[q]at h;cases o with
     | none=>cases h
     | some w=>rw[bB.mp h]
 · intro h;rw[h];rfl
theorem s_aug(i:Nat)(C:Int->Int->Prop)(h:Int->Int->Int):mS (uD i C h fa) ρ=ar (wQ ρ i) fun n=>xH (fa ρ) fun w=>ar (asI w) fun m=>xA (C n m) (ret (.nx (ρ.set i (some (.d (.int (h n m))))))):=by
 refine ae fun Q=>?_;simp only[mS,uD,xH,af,pQ,bB,xA,ret]
theorem s_augL(i:Nat):mS (pA i fa) ρ=ar (wP ρ i) fun xs=>xH (fa ρ) fun w=>ar (xM w) fun ys=>xA (w.isPk=false) (xA (xs.length+ys.length<=sizeLine) (ret (.nx (ρ.set i (some (.ml (xs++ys))))))):=by
 refine ae fun Q=>?_;simp only[mS,pA,af,fu];refine exists_congr fun xs=>and_congr_right fun _=>?_;show(fa ρ fun w=>∃ys,w.isPk=false/\w.dat=some (.list ys)/\_/\_)↔(fa ρ fun w=>_)
 have:(fun w:W=>∃ys,w.isPk=false/\w.dat=some (.list ys)/\xs.length+ys.length<=sizeLine/\Q (.nx (ρ.set i (some (.ml (xs++ys))))))=fun w=>(ar (xM w) fun ys=>xA (w.isPk=false) (xA (xs.length+ys.length<=sizeLine) (ret (.nx (ρ.set i (some (.ml (xs++ys)))))))) Q:=by
  funext w;refine propext ?_;rw[af];simp only[dY,xA,ret];exact⟨fun⟨ys,a,b,c,d⟩=>⟨ys,b,a,c,d⟩,fun⟨ys,b,a,c,d⟩=>⟨ys,a,b,c,d⟩⟩
 rw[this]
theorem s_frz(i:Nat):mS (sx i t) ρ=ar (wP ρ i) fun xs=>mS t (ρ.set i (some (.d (.list xs)))):=by
 refine ae fun Q=>?_;simp only[mS,sx,af,fu]
theorem s_mut(i:Nat)(h:List yF->List W->(List yF->Prop)->Prop):mS (pq i h fs) ρ=ar (wP ρ i) fun xs=>xH (fs ρ) fun ws=>xH (h xs ws) fun ys=>ret (.nx (ρ.set i (some (.ml ys)))):=by
 refine ae fun Q=>?_;simp only[mS,pq,xH,af,fu,ret]
theorem m_gApp(xs:List yF)(w:W):rO xs [w]=ar (asD w) fun x=>xA (xs.length<sizeLine) (ret (xs++[x])):=by
 refine ae fun Q=>?_;simp only[rO,af,ir,xA,ret];constructor
 · rintro⟨x,e,a,q⟩;cases w<;>first|(cases e;exact⟨_,rfl,a,q⟩)|cases e
 · rintro⟨x,rfl,a,q⟩;exact⟨x,rfl,a,q⟩
theorem m_gExt(xs:List yF)(w:W):rM xs [w]=ar ((asD w).bind lstD) fun ys=>xA (xs.length+ys.length<=sizeLine) (ret (xs++ys)):=by
 refine ae fun Q=>?_;simp only[rM,af,xA,ret];constructor
 · rintro⟨x,e,a,q⟩;cases w<;>first|(cases e;exact⟨_,rfl,a,q⟩)|cases e
 · rintro⟨x,e,a,q⟩
   cases h:asD w with
   | none=>rw[h]at e;cases e
   | some d=>rw[h]at e;rw[ir.mp h,nU.mp e];exact⟨x,rfl,a,q⟩
theorem s_retO(i:Nat):mS (pj i) ρ=ar (wP ρ i) fun xs=>ret (.rt (.ml xs)):=by
 refine ae fun Q=>?_;simp only[mS,pj,af,fu,ret]
theorem s_appPop(i j:Nat):mS (jl i j fa) ρ=ar (wP ρ i) fun xs=>ar (wP ρ j) fun ys=>xH (fa ρ) fun w=>ar (asI w) fun k=>xA (0<=k/\k<(ys.length:Int)/\ys.length<2^62) (ar (ys[k.toNat]?) fun y=>xA (xs.length<sizeLine) (ret (.nx ((ρ.set j (some (.ml (ys.eraseIdx k.toNat)))).set i (some (.ml (xs++[y]))))))):=by
 refine ae fun Q=>?_;simp only[mS,jl,af,fu]
 have:∀xs ys:List yF,(fun w:W=>∃k y,w = .d (.int k)/\0<=k/\k<(ys.length:Int)/\ys.length<2^62/\ys[k.toNat]?=some y/\xs.length<sizeLine/\Q (.nx ((ρ.set j (some (.ml (ys.eraseIdx k.toNat)))).set i (some (.ml (xs++[y]))))))=fun w=>(ar (asI w) fun k=>xA (0<=k/\k<(ys.length:Int)/\ys.length<2^62) (ar (ys[k.toNat]?) fun y=>xA (xs.length<sizeLine) (ret (.nx ((ρ.set j (some (.ml (ys.eraseIdx k.toNat)))).set i (some (.ml (xs++[y])))))))) Q:=by
  intro xs ys;funext w;refine propext ?_;simp only[af,bB,xA,ret];exact⟨fun⟨k,y,a,b,c,d,e,f,q⟩=>⟨k,a,⟨b,c,d⟩,y,e,f,q⟩,fun⟨k,a,⟨b,c,d⟩,y,e,f,q⟩=>⟨k,y,a,b,c,d,e,f,q⟩⟩
 constructor
 · rintro⟨xs,ys,e1,e2,q⟩;refine⟨xs,e1,ys,e2,?_⟩;rw[this]at q;exact q
 · rintro⟨xs,e1,ys,e2,q⟩;refine⟨xs,ys,e1,e2,?_⟩;rw[this];exact q
end
noncomputable def Le(a b:En):Prop:=a.length=b.length/\∀(i:Nat) w,a[i]?=some (some w)->b[i]?=some (some w)
theorem Le.refl(a:En):Le a a:=⟨rfl,fun _ _ h=>h⟩
theorem Le.trans{a b c:En}(h:Le a b)(h':Le b c):Le a c:=⟨h.1.trans h'.1,fun i w e=>h'.2 i w (h.2 i w e)⟩
theorem le_nil:Le [] []=True:=propext ⟨fun _=>trivial,fun _=>Le.refl _⟩
theorem le_cn(x:Option W)(a b:En):Le (none::a) (x::b)=Le a b:=by
 refine propext ⟨fun h=>⟨by have:=h.1;simpa using this,fun i w e=>by have:=h.2 (i+1) w (by simpa using e);simpa using this⟩,fun h=>⟨by simp[h.1],fun i w e=>?_⟩⟩
 cases i with
 | zero=>simp at e
 | succ i=>simpa using h.2 i w (by simpa using e)
theorem le_cs(x:Option W)(a b:En):Le (x::a) (x::b)=Le a b:=by
 refine propext ⟨fun h=>⟨by have:=h.1;simpa using this,fun i w e=>by have:=h.2 (i+1) w (by simpa using e);simpa using this⟩,fun h=>⟨by simp[h.1],fun i w e=>?_⟩⟩
 cases i with
 | zero=>simpa using e
 | succ i=>simpa using h.2 i w (by simpa using e)
theorem VR.le{K:W.Frag}{ρ0:En}(R:VR K rl F₀ H₀ F H σ ρ)(h:Le ρ0 ρ):VR K rl F₀ H₀ F H σ ρ0 :=
 ⟨R.g,fun i w e=>R.sl i w (h.2 i w e),fun i j x y v n e1 e2=>R.ap i j x y v n (h.2 i x e1) (h.2 j y e2),fun i xs e=>R.np i xs (h.2 i _ e),h.1.trans R.len⟩
noncomputable def fo:List Nat->En->En
 | [],ρ=>ρ
 | i::l,ρ=>fo l (ρ.set i none)
theorem qD(ρ:En)(i:Nat):Le (ρ.set i none) ρ:=by
 refine⟨by simp,fun j w e=>?_⟩;rw[zm]at e;split at e
 · split at e
   · cases e
   · cases e
 · exact e
theorem eE:∀(l:List Nat)(ρ:En),Le (fo l ρ) ρ
 | [],ρ=>Le.refl ρ
 | i::l,ρ=>(eE l (ρ.set i none)).trans (qD ρ i)
theorem fo_nil(ρ:En):fo [] ρ=ρ:=rfl
theorem fo_cons(i:Nat)(l:List Nat)(ρ:En):fo (i::l) ρ=fo l (ρ.set i none):=rfl
noncomputable def bR(fl:List Nat)(g:xU)(t:xS):List yF->xS
 | [],D,ρ=>D.nx ρ
 | x::xs,D,ρ=>g x ρ fun ρ2=>t {D with nx:=fun ρ'=>bR fl g t xs D (fo fl ρ'),ct:=fun ρ'=>bR fl g t xs D (fo fl ρ'),bk:=fun ρ'=>D.nx (fo fl ρ')} ρ2
noncomputable def pz(fl:List Nat)(fi:En->(List yF->Prop)->Prop)(g:xU)(t:xS):xS:=fun D ρ=>fi ρ fun xs=>bR fl g t xs D (fo fl ρ)
section
variable{X:Cx}{rl:Option Addr}{st:Stmt}{rest body:List Stmt}{t u:xS}{a b c e:Expr}{es:List Expr}{fa fb:TV}{fs:xR}{f:TB}{pos p:Pos}
theorem d6(fl:List Nat){iter:Expr}{fi:En->(List yF->Prop)->Prop}{g:xU}(hp:Dc (zh X.prog X.w) X.A X.env X.xe)(hc:X.calm=true)(hi:yf X rl tg iter fi)(hg:yi X rl tg g)(hb:gk X rl body t)
 (hs:autoParam (∀x,A8 iter X.env x=pure x) æc._auto_1):ye X rl (.For tg iter body [] pos) (pz fl fi g t):=by
 obtain⟨wi,p0,k0⟩:=hi;obtain⟨G,p1,k1⟩:=hg;obtain⟨T,p2,k2⟩:=hb;refine⟨_,qh hp hc p0 p1 p2 hs,fun{F₀ H₀ F H σ ρ} R Dv D ok q=>k0 R _ _ q fun J xs F1 H1 g1 vi q1=>?_⟩;refine⟨fun i m σ H=>m=xs.length-i/\i<=xs.length/\∃F ρ,aW F1 F/\VR X.K rl F₀ H₀ F H σ ρ/\bR fl g t (xs.drop i) Dv ρ,⟨xs.length,by simp,zQ _,F1,fo fl ρ,.refl _,(R.grow g1).le (eE fl ρ),by simpa using q1⟩,?_⟩;rintro i m σ H ⟨rfl,hi,F2,ρ2,s2,R2,j2⟩;have sH:aW F1 H:=s2.trans R2.sub;by_cases hlt:i<xs.length
 · have ei:xs[i]?=some xs[i]:=by simp[hlt]
   rw[BJ hlt]at j2;refine .inr ⟨vi.go i H _ ei sH,fun σ' H'=>∃F ρ,aW F1 F/\VR X.K rl F₀ H₀ F H' σ' ρ/\bR fl g t (xs.drop (i+1)) Dv ρ,fun σ' H' z=>⟨xs.length-(i+1),by omega,rfl,hlt,z⟩,fun v H' y=>?_⟩;obtain⟨Fy,gy,rv⟩:=vi.yld i H v H' _ F2 ei s2 R2.sub R2.reel y;refine k1 (R2.grow gy) v _ _ _ rv j2 fun F3 H3 σ3 ρ3 s3 n3 R3 q3=>?_;have s13:aW F1 F3:=s2.trans (gy.fs.trans s3.fs)
   exact k2 R3 {Dv with nx:=fun ρ'=>bR fl g t (xs.drop (i+1)) Dv (fo fl ρ'),ct:=fun ρ'=>bR fl g t (xs.drop (i+1)) Dv (fo fl ρ'),bk:=fun ρ'=>Dv.nx (fo fl ρ')} _
    ⟨fun F4 H4 σ4 ρ4 s4 R4 q4=>⟨F4,fo fl ρ4,s13.trans s4,R4.le (eE fl ρ4),q4⟩,ok.rt,fun F4 H4 σ4 ρ4 s4 R4 q4=>ok.nx _ _ _ _ (g1.fs.trans (s13.trans s4)) (R4.le (eE fl ρ4)) q4,fun F4 H4 σ4 ρ4 s4 R4 q4=>⟨F4,fo fl ρ4,s13.trans s4,R4.le (eE fl ρ4),q4⟩⟩ q3
 · have e:i=xs.length:=by omega
   subst e;rw[List.drop_length]at j2;exact .inl ⟨vi.stop _ H (y7 _) sH,ok.nx _ _ _ _ (g1.fs.trans s2) R2 j2⟩
noncomputable def wo(fl:List Nat)(f:TB)(t:xS)(m:Nat):xS:=fun D ρ=>f ρ fun b=>if b=true then t {D with nx:=fun ρ'=>∃k,∃h:k<m,wo fl f t k D (fo fl ρ'),ct:=fun ρ'=>∃k,∃h:k<m,wo fl f t k D (fo fl ρ'),bk:=fun ρ'=>D.nx (fo fl ρ')} ρ else D.nx ρ
termination_by m
noncomputable def jh(fl:List Nat)(f:TB)(t:xS):xS:=fun D ρ=>∃m,wo fl f t m D (fo fl ρ)
theorem lL(fl:List Nat)(f:TB)(t:xS)(m:Nat)(D:VEnds)(ρ:En):wo fl f t m D ρ=f ρ fun b=>if b=true then t {D with nx:=fun ρ'=>∃k,∃h:k<m,wo fl f t k D (fo fl ρ'),ct:=fun ρ'=>∃k,∃h:k<m,wo fl f t k D (fo fl ρ'),bk:=fun ρ'=>D.nx (fo fl ρ')} ρ else D.nx ρ:=by
 conv=>lhs;unfold wo
theorem eS(fl:List Nat)(hp:Dc (zh X.prog X.w) X.A X.env X.xe)(hc:PB X rl c f)(hb:gk X rl body t):ye X rl (.While c body [] pos) (jh fl f t):=by
 obtain⟨t0,p0,k0⟩:=hc;obtain⟨t1,p1,k1⟩:=hb;refine⟨_,g8 hp p0 p1,fun{F₀ H₀ F H σ ρ} R Dv D ok q=>?_⟩;obtain⟨m,j0⟩:=q;refine⟨fun m σ' H'=>∃F' ρ',aW F F'/\VR X.K rl F₀ H₀ F' H' σ' ρ'/\wo fl f t m Dv ρ',⟨m,F,fo fl ρ,.refl _,R.le (eE fl ρ),j0⟩,?_⟩;rintro m σ2 H2 ⟨F2,ρ2,s2,R2,j⟩;rw[lL]at j;refine k0 R2 _ _ j fun b F1 H1 g1 q1=>?_
 cases b with
 | false=>exact ok.nx _ _ _ _ (s2.trans g1.fs) (R2.grow g1) q1
 | true =>
   refine⟨fun σ' H'=>∃F' ρ',aW F F'/\VR X.K rl F₀ H₀ F' H' σ' ρ'/\∃m',m'<m/\wo fl f t m' Dv ρ',fun σ' H' ⟨F',ρ',s',R',m',hm,j⟩=>⟨m',hm,F',ρ',s',R',j⟩,?_⟩
   exact k1 (R2.grow g1) {Dv with nx:=fun ρ'=>∃k,∃h:k<m,wo fl f t k Dv (fo fl ρ'),ct:=fun ρ'=>∃k,∃h:k<m,wo fl f t k Dv (fo fl ρ'),bk:=fun ρ'=>Dv.nx (fo fl ρ')} _
    ⟨fun F3 H3 σ3 ρ3 s3 R3 ⟨m',hm,q3⟩=>⟨F3,fo fl ρ3,(s2.trans g1.fs).trans s3,R3.le (eE fl ρ3),m',hm,q3⟩,ok.rt,fun F3 H3 σ3 ρ3 s3 R3 q3=>ok.nx _ _ _ _ ((s2.trans g1.fs).trans s3) (R3.le (eE fl ρ3)) q3,fun F3 H3 σ3 ρ3 s3 R3 ⟨m',hm,q3⟩=>⟨F3,fo fl ρ3,(s2.trans g1.fs).trans s3,R3.le (eE fl ρ3),m',hm,q3⟩⟩ q1
end
noncomputable def xn(fl:List Nat)(k:En->Mo Fl):Fl->Mo Fl
 | .nx ρ=>k (fo fl ρ)
 | .ct ρ=>k (fo fl ρ)
 | .bk ρ=>ret (.nx (fo fl ρ))
 | .rt w=>ret (.rt w)
noncomputable def cP(fl:List Nat)(b:yF->En->Mo Fl):List yF->En->Mo Fl
 | [],ρ=>ret (.nx ρ)
 | x::xs,ρ=>xH (b x ρ) (xn fl (cP fl b xs))
theorem jQ(fl:List Nat)(g:xU)(t:xS):∀(xs:List yF)(ρ:En),mS (bR fl g t xs) ρ=cP fl (fun x ρ=>xH (g x ρ) (mS t)) xs ρ
 | [],ρ=>rfl
 | x::xs,ρ=>by
   refine ae fun Q=>?_;show(g x ρ fun ρ2=>t ⟨fun ρ'=>mS (bR fl g t xs) (fo fl ρ') Q,fun w=>Q (.rt w),fun ρ'=>Q (.nx (fo fl ρ')),fun ρ'=>mS (bR fl g t xs) (fo fl ρ') Q⟩ ρ2)↔_;simp only[jQ fl g t xs];exact CP
noncomputable def xJ(g:xU)(t:xS):yF->En->Mo Fl:=fun x ρ=>xH (g x ρ) (mS t)
theorem bdy_ap(g:xU)(t:xS)(x:yF)(ρ:En):xJ g t x ρ=xH (g x ρ) (mS t):=nr rfl
theorem s_for(fl:List Nat)(fi:En->(List yF->Prop)->Prop)(g:xU)(t:xS)(ρ:En):mS (pz fl fi g t) ρ=xH (fi ρ) fun xs=>cP fl (xJ g t) xs (fo fl ρ):=by
 refine ae fun Q=>?_;show(fi ρ fun xs=>mS (bR fl g t xs) (fo fl ρ) Q)↔_;simp only[jQ];exact CP
noncomputable def xm(fl:List Nat)(J:En->Prop)(Q:Fl->Prop):Fl->Prop
 | .nx ρ=>J (fo fl ρ)
 | .ct ρ=>J (fo fl ρ)
 | .bk ρ=>Q (.nx (fo fl ρ))
 | .rt w=>Q (.rt w)
section
variable{α σ:Type}{fl:List Nat}{b:yF->En->Mo Fl}
theorem ic(J:Nat->En->Prop){Q:Fl->Prop}:∀{xs:List yF}{ρ:En}(n:Nat),J n ρ->(∀i x ρ,xs[i]?=some x->J (n+i) ρ->∀k:Fl->Prop,(∀r,xm fl (J (n+i+1)) Q r->k r)->b x ρ k)->(∀ρ,J (n+xs.length) ρ->Q (.nx ρ))->cP fl b xs ρ Q
 | [],ρ,n,h0,_,fin=>fin ρ h0
 | x::xs,ρ,n,h0,step,fin=>by
   refine step 0 x ρ rfl h0 (fun r=>xn fl (cP fl b xs) r Q) fun r hr=>?_;have rc:∀ρ',J (n+1) ρ'->cP fl b xs ρ' Q:=fun ρ' h'=>ic J (n+1) h' (fun i y ρ e j k hk=>step (i+1) y ρ (by simpa using e) (by rw[show n+(i+1)=n+1+i by omega];exact j) k (by rw[show n+(i+1)+1=n+1+i+1 by omega];exact hk)) (fun ρ j=>fin ρ (by rw[AS,show n+(xs.length+1)=n+1+xs.length by omega];exact j))
   cases r with
   | nx ρ'=>exact rc _ hr
   | ct ρ'=>exact rc _ hr
   | bk ρ'=>exact hr
   | rt w=>exact hr
theorem jR{xs:List α}{enc:α->yF}{Q:Fl->Prop}(J:Nat->En->Prop)(h0:J 0 ρ)
 (step:∀i (h:i<xs.length) ρ,J i ρ->∀k:Fl->Prop,(∀r,xm fl (J (i+1)) Q r->k r)->b (enc xs[i]) ρ k)(fin:∀ρ,J xs.length ρ->Q (.nx ρ)):cP fl b (xs.map enc) ρ Q:=by
 refine ic J 0 h0 (fun i x ρ e j k hk=>?_) (fun ρ j=>fin ρ (by simpa using j));have hi:i<xs.length:=by have:=(yU.mp e).1;simpa using this
 rw[zB,zA hi]at e;cases e;rw[Nat.zero_add]at j hk;exact step i hi ρ j k hk
theorem k_{lo:Int}{Q:Fl->Prop}(J:Nat->En->Prop)(h0:J 0 ρ)
 (step:∀i,i<n->∀ρ,J i ρ->∀k:Fl->Prop,(∀r,xm fl (J (i+1)) Q r->k r)->b (.int (lo+i)) ρ k)(fin:∀ρ,J n ρ->Q (.nx ρ)):cP fl b (aJ lo n) ρ Q:=by
 refine jR (xs:=zw n) J h0 (fun i h ρ j k hk=>?_) (fun ρ j=>fin ρ (by simpa using j));rw[List.getElem_range];exact step i (by simpa using h) ρ j k hk
end
noncomputable def dI(fl:List Nat)(f:TB)(t:xS)(ρ:En):Mo Fl:=fun Q=>∃m,mS (wo fl f t m) ρ Q
theorem s_while(fl:List Nat)(f:TB)(t:xS)(ρ:En):mS (jh fl f t) ρ=dI fl f t (fo fl ρ):=nr rfl
theorem kF(fl:List Nat)(f:TB)(t:xS)(m:Nat)(ρ:En):mS (wo fl f t m) ρ=xH (f ρ) fun b=>if b=true then xH (mS t ρ) (xn fl fun ρ'=>fun Q=>∃k,∃h:k<m,mS (wo fl f t k) ρ' Q)else ret (.nx ρ):=by
 refine ae fun Q=>?_;show wo fl f t m _ ρ↔_;rw[lL];simp only[xH,cO];exact CP
theorem mw{fl:List Nat}{f:TB}{t:xS}(h:f ρ=ret false):dI fl f t ρ=ret (.nx ρ):=by
 refine ae fun Q=>?_;constructor
 · rintro⟨m,q⟩;rw[kF,h,bnd_ret,if_neg (by decide)]at q;exact q
 · intro q;refine⟨0,?_⟩;rw[kF,h,bnd_ret,if_neg (by decide)];exact q
theorem ms{fl:List Nat}{f:TB}{t:xS}{ρ':En}(h:f ρ=ret true)(h2:mS t ρ=ret (.nx ρ')):dI fl f t ρ=dI fl f t (fo fl ρ'):=by
 refine ae fun Q=>?_;constructor
 · rintro⟨m,q⟩;rw[kF,h,bnd_ret,if_pos rfl,h2,bnd_ret]at q;obtain⟨k,_,q⟩:=q;exact⟨k,q⟩
 · rintro⟨m,q⟩;refine⟨m+1,?_⟩;rw[kF,h,bnd_ret,if_pos rfl,h2,bnd_ret];exact⟨m,Nat.lt_succ_self m,q⟩
theorem i7{σ:Type}{fl:List Nat}{f:TB}{t:xS}(st:σ->En)(c:σ->Bool)(nxt:σ->σ)(μ:σ->Nat)(I:σ->Prop)
 (hf:∀s,I s->f (st s)=ret (c s))(ht:∀s,I s->c s=true->I (nxt s)/\μ (nxt s)<μ s/\∃ρ',mS t (st s)=ret (.nx ρ')/\fo fl ρ'=st (nxt s))(s:σ)(hs:I s):∃s',I s'/\c s'=false/\dI fl f t (st s)=ret (.nx (st s')):=by
 induction hm:μ s using Nat.strongRecOn generalizing s with
 | ind n ih =>
   subst hm
   cases hc:c s with
   | false=>exact⟨s,hs,hc,mw (by rw[hf s hs,hc])⟩
   | true =>
     obtain⟨i1,m1,ρ',e1,e2⟩:=ht s hs hc;obtain⟨s',a,b,e⟩:=ih _ m1 (nxt s) i1 rfl;exact⟨s',a,b,by rw[ms (by rw[hf s hs,hc]) e1,e2,e]⟩
noncomputable def lM(ρ0:En)(g:xU)(ft:TB)(fe:TV):List yF->List yF->(List yF->Prop)->Prop
 | [],acc,Q=>Q acc
 | x::xs,acc,Q=>g x ρ0 fun ρ2=>Le ρ0 ρ2/\ft ρ2 fun b=>if b=true then fe ρ2 fun w=>∃d,w.fz = .d d/\acc.length<sizeLine/\lM ρ0 g ft fe xs (acc++[d]) Q else lM ρ0 g ft fe xs acc Q
noncomputable def jj(fi:En->(List yF->Prop)->Prop)(fr:List (Option Nat))(g:xU)(ft:TB)(fe:TV):TV:=fun ρ Q=>fi ρ fun xs=>lM (iZ fr ρ) g ft fe xs [] fun ds=>Q (.ml ds)
section
variable{X:Cx}{rl:Option Addr}{elt tg iter:Expr}{ifs:List Expr}{scope:Scope}{pos:Pos}{fi:En->(List yF->Prop)->Prop}{g:xU}{ft:TB}{fe:TV}
theorem lb{N':List Str}{wi:TI}(fr:List (Option Nat))(k0:∀{F₀ H₀ F H:Hp}{σ:St}{ρ:En},VR X.K rl F₀ H₀ F H σ ρ->∀(Qd:List yF->Prop)(R:It->Hp->Prop),fi ρ Qd ->
 (∀J xs F' H',Grow rl F H F' H'->VIt X.K rl F' J xs->Qd xs->R J H')->wi σ H R)
 (hg:∀y,yi (blk X N' scope y) rl tg g)(ht:∀y,rV (blk X N' scope y) rl ifs ft)(he:∀y,PV (blk X N' scope y) rl elt fe)
 (R:VR X.K rl F₀ H₀ F H σ ρ)(Qd:W->Prop)(Q:VK)(q:jj fi fr g ft fe ρ Qd)
 (k:∀v w F' H',Grow rl F H F' H'->cu X.K rl F' H' v w->dB H v w->Qd w->Q v H'):pK wi fr (fun y=>B7 (hg y)) (fun y=>B7 (ht y)) (fun y=>B7 (he y)) σ H Q:=by
 refine k0 R _ _ q fun J xs F1 H1 g1 vi q1=>?_;intro D hD;have rD:rl≠some D:=fun e=>by obtain⟨o,z⟩:=g1.reel.live e;rw[hD]at z;cases z
 have FD:F1 D=none:=g1.sub.free hD;have gD:Grow rl F1 H1 F1 (upd H1 D (.lst [])):=Grow.laid g1.sub g1.reel hD;have R1:=R.grow g1;have n0:lE (iZ fr ρ):=iM
 refine⟨fun i m acc σc Hc=>m=xs.length-i/\i<=xs.length/\∃Fc ds,VR X.K rl F1 H1 Fc Hc σc (iZ fr ρ)/\Hc D=some (.lst acc)/\Fc D=none/\Reps X.K Fc acc ds/\lM (iZ fr ρ) g ft fe (xs.drop i) ds (fun ds=>Qd (.ml ds)),
  ⟨xs.length,by simp,zQ _,F1,[],kH R1 gD,ai,FD,.nil,by simpa using q1⟩,?_⟩
 rintro z i m acc σc Hc ⟨rfl,hi,Fc,ds,Rc,hDc,fDc,rs,q2⟩;have sH:aW F1 Hc:=Rc.g.fs.trans Rc.sub;by_cases hlt:i<xs.length
 · have ei:xs[i]?=some xs[i]:=by simp[hlt]
   have ed:xs.drop i=xs[i]::xs.drop (i+1):=BJ hlt;rw[ed]at q2;refine .inr ⟨vi.go i Hc _ ei sH,fun v H' y=>?_⟩;obtain⟨Fy,gy,rv⟩:=vi.yld i Hc v H' _ Fc ei Rc.g.fs Rc.sub Rc.reel y;refine(zT (hg z)).2 (Rc.grow gy) v _ _ _ rv q2 fun F3 H3 σ3 ρ3 g3 n3 R3 ⟨le3,q3⟩=>?_;refine(zT (ht z)).2 R3 _ _ q3 fun b F4 H4 g4 q4=>?_;have R4:=R3.grow g4;have g34:=(gy.trans g3).trans g4;have keepD:∀{Fx Hx:Hp},Grow rl Fc Hc Fx Hx->Hx D=some (.lst acc)/\Fx D=none:=fun gx=>⟨gx.same D _ hDc rD,by rw[gx.old D _ hDc];exact fDc⟩
   cases b with
   | false=>exact⟨xs.length-(i+1),by omega,rfl,hlt,F4,ds,R4.le le3,(keepD g34).1,(keepD g34).2,rs.mono g34.fs,q4⟩
   | true =>
     refine(zT (he z)).2 R4 _ _ q4 fun v5 w5 F5 H5 g5 r5 n5 ⟨d,ed5,hl,q5⟩=>?_;obtain⟨F6,g6,s6,r6⟩:=cu.fz g5 r5 n5;rw[ed5]at r6;have g36:=g34.trans g6;refine⟨(keepD g36).1,by rw[rs.length];exact hl,xs.length-(i+1),by omega,rfl,hlt,F6,ds++[d],((R4.grow g6).le le3).other n0 hD (keepD g36).2 rD,ai,(keepD g36).2,(rs.mono g36.fs).snoc r6,q5⟩
 · have e:i=xs.length:=by omega
   subst e;rw[List.drop_length]at q2;refine .inl ⟨vi.stop _ Hc (y7 _) sH,k _ (.ml ds) Fc Hc (g1.trans Rc.g) ⟨D,acc,rfl,fDc,rD,hDc,rs⟩ (fun a ea=>by cases ea;exact g1.freeB hD) q2⟩
theorem cU(N':List Str)(fr:List (Option Nat))(hc:X.calm=true)(hi:yf X rl tg iter fi)
 (hg:∀y,yi (blk X N' scope y) rl tg g)(ht:∀y,rV (blk X N' scope y) rl ifs ft)(he:∀y,PV (blk X N' scope y) rl elt fe)
 (hfr:autoParam (rR fr N' X.N scope X.env.scope=true) æa._auto_1)(hsc:autoParam (uL scope X.env.scope=true) æa._auto_1)
 (hs:autoParam (∀x,A8 iter X.env x=pure x) æc._auto_1):PV X rl (.ListComp elt [⟨tg,iter,ifs,0⟩] scope pos) (jj fi fr g ft fe):=by
 obtain⟨wi,p0,k0⟩:=hi;exact⟨_,kW N' fr hc p0 hfr hsc (fun y=>(zT (hg y)).1) (fun y=>(zT (ht y)).1) (fun y=>(zT (he y)).1) hs,fun R Qd Q q k=>lb fr k0 hg ht he R Qd Q q k⟩
end
noncomputable def xr(ρ0:En)(g:xU)(ft:TB)(fe:TV)(x:yF):Mo (Option yF):=xH (g x ρ0) fun ρ2=>xA (Le ρ0 ρ2) (xH (ft ρ2) fun b=>if b=true then xH (fe ρ2) fun w=>ar (asD w.fz) fun d=>ret (some d)else ret none)
noncomputable def bO(b:yF->Mo (Option yF)):List yF->List yF->Mo (List yF)
 | [],acc=>ret acc
 | x::xs,acc=>xH (b x) fun o=>match o with
   | some d=>xA (acc.length<sizeLine) (bO b xs (acc++[d]))
   | none=>bO b xs acc
theorem ki(ρ0:En)(g:xU)(ft:TB)(fe:TV):∀(xs acc:List yF),lM ρ0 g ft fe xs acc=bO (xr ρ0 g ft fe) xs acc
 | [],acc=>rfl
 | x::xs,acc=>by
   refine ae fun Q=>?_;show(g x ρ0 fun ρ2=>Le ρ0 ρ2/\ft ρ2 fun b=>if b=true then fe ρ2 fun w=>∃d,w.fz = .d d/\acc.length<sizeLine/\lM ρ0 g ft fe xs (acc++[d]) Q else lM ρ0 g ft fe xs acc Q)↔(xH (xr ρ0 g ft fe x) _) Q;simp only[ki ρ0 g ft fe xs]
   have:∀(ρ2:En)(b:Bool),(if b=true then fe ρ2 fun w=>∃d,w.fz = .d d/\acc.length<sizeLine/\bO (xr ρ0 g ft fe) xs (acc++[d]) Q else bO (xr ρ0 g ft fe) xs acc Q)=(xH (if b=true then xH (fe ρ2) fun w=>ar (asD w.fz) fun d=>ret (some d)else ret none) fun o=>match o with
   | some d=>xA (acc.length<sizeLine) (bO (xr ρ0 g ft fe) xs (acc++[d]))
   | none=>bO (xr ρ0 g ft fe) xs acc) Q:=by
     intro ρ2 b
     cases b with
     | false=>rfl
     | true =>
       rw[if_pos rfl,if_pos rfl];show _=fe ρ2 fun w=>_;congr 1;funext w;refine propext ?_;show _↔(xH (ar (asD w.fz) fun d=>ret (some d)) _) Q;rw[bnd_opt,af];simp only[ir];exact CP
   simp only[this];exact CP
theorem m_comp(fi:En->(List yF->Prop)->Prop)(fr:List (Option Nat))(g:xU)(ft:TB)(fe:TV)(ρ:En):jj fi fr g ft fe ρ=xH (fi ρ) fun xs=>xH (bO (xr (iZ fr ρ) g ft fe) xs []) fun ds=>ret (.ml ds):=by
 refine ae fun Q=>?_;show(fi ρ fun xs=>lM (iZ fr ρ) g ft fe xs [] fun ds=>Q (.ml ds))↔_;simp only[ki];exact CP
section
variable{α:Type}{b:yF->Mo (Option yF)}
theorem du{enc:α->yF}(f:α->Option yF):∀(xs:List α)(acc:List yF),(∀x∈xs,b (enc x)=ret (f x))->acc.length+xs.length<=sizeLine->bO b (xs.map enc) acc=ret (acc++xs.filterMap f)
 | [],acc,_,_=>by simp[bO]
 | x::xs,acc,h,hl=>by
   show xH (b (enc x)) _=_;rw[h x yY,bnd_ret];simp at hl
   cases e:f x with
   | none =>
     show bO b (xs.map enc) acc=_
     rw[du f xs acc (fun y hy=>h y (yR _ hy)) (by omega),List.filterMap_cons_none e]
   | some d =>
     show xA (acc.length<sizeLine) (bO b (xs.map enc) (acc++[d]))=_;rw[ak (by omega),du f xs (acc++[d]) (fun y hy=>h y (yR _ hy)) (by simp;omega),List.filterMap_cons_some e];simp
theorem kh{xs:List α}{enc:α->yF}(f:α->Option yF)(h:∀x∈xs,b (enc x)=ret (f x))(hl:xs.length<=sizeLine):bO b (xs.map enc) []=ret (xs.filterMap f):=by
 have:=du f xs [] h (by simpa using hl);simpa using this
theorem comp_map{xs:List α}{enc:α->yF}(f:α->yF)(h:∀x∈xs,b (enc x)=ret (some (f x)))(hl:xs.length<=sizeLine):bO b (xs.map enc) []=ret (xs.map f):=by
 rw[kh (fun x=>some (f x)) h hl,List.filterMap_eq_map']
theorem kf{lo:Int}(f:Nat->yF)(h:∀j,j<n->b (.int (lo+j))=ret (some (f j)))(hl:n<=sizeLine):bO b (aJ lo n) []=ret ((zw n).map f) :=
 comp_map (xs:=zw n) f (fun j hj=>h j (Au.mp hj)) (by simpa using hl)
end
section
variable(c:Prop)[Decidable c]
theorem ite_nx(a b:En):(if c then ret (Fl.nx a)else ret (Fl.nx b))=ret (Fl.nx (if c then a else b)):=by split<;>rfl
theorem ite_rt(a b:W):(if c then ret (Fl.rt a)else ret (Fl.rt b))=ret (Fl.rt (if c then a else b)):=by split<;>rfl
theorem ite_retd(a b:yF):(if c then ret (W.d a)else ret (W.d b))=ret (W.d (if c then a else b)):=by split<;>rfl
theorem ite_retb(a b:Bool):(if c then ret a else ret b)=ret (if c then a else b):=by split<;>rfl
theorem ite_rets(a b:yF):(if c then ret (some a)else ret (some b))=ret (some (if c then a else b)):=by split<;>rfl
theorem ite_cons{α:Type}(x y:α)(l m:List α):(if c then x::l else y::m)=(if c then x else y)::(if c then l else m):=by split<;>rfl
theorem ite_some{α:Type}(x y:α):(if c then some x else some y)=some (if c then x else y):=by split<;>rfl
theorem ite_d(a b:yF):(if c then W.d a else W.d b)=W.d (if c then a else b):=by split<;>rfl
theorem ite_pi(a b:Int):(if c then zC a else zC b)=zC (if c then a else b):=by split<;>rfl
theorem ite_pb(a b:Bool):(if c then Br a else Br b)=Br (if c then a else b):=by split<;>rfl
theorem itb_tt(b y:Bool):(if b=true then true else y)=(b||y):=by cases b<;>rfl
theorem itb_ff(b y:Bool):(if b=true then y else false)=(b&&y):=by cases b<;>rfl
theorem itb_ft(b y:Bool):(if b=true then false else y)=(!b&&y):=by cases b<;>rfl
theorem itb_tf(b y:Bool):(if b=true then y else true)=(!b||y):=by cases b<;>rfl
end
theorem ah(h:n<=1000):(n<=sizeLine)=True:=by have:=zD;exact propext ⟨fun _=>trivial,fun _=>by omega⟩
theorem tup2(x y:yF):(match [x,y]with | [x,y]=>some (x,y)|_=>none)=some (x,y):=rfl
theorem bnd_tt{α β:Type}(a:α)(f:α->Mo β):xH (fun Q=>Q a) f=f a:=nr rfl
section
variable{α β:Type}
theorem aO{P:α->Prop}{f:α->Mo β}{Q:β->Prop}(h:∀a,P a->f a Q):xH (anyM P) f Q:=h
theorem ik{P:Prop}{m:Mo α}{Q:α->Prop}(h:P)(h':m Q):xA P m Q:=⟨h,h'⟩
theorem lg{c:Prop}[Decidable c]{a b:Mo α}{Q:α->Prop}(h:c->a Q)(h':¬c->b Q):(if c then a else b) Q:=by split<;>simp_all
end
theorem aI{Q:yF->Prop}{d:yF}(h:Q d):ret (Fl.rt (.d d)) (rg Q):=⟨d,rfl,h⟩
section
variable{α:Type}{k:En->Mo Fl}{Q:Fl->Prop}
theorem wN{m:Mo α}{h:α->Mo Fl}(z:xH m (fun a=>sq (h a) k) Q):sq (xH m h) k Q:=z
theorem wM{o:Option α}{h:α->Mo Fl}(z:ar o (fun a=>sq (h a) k) Q):sq (ar o h) k Q:=by rw[pN];exact z
noncomputable def kc(k1 k2:En->Mo Fl):En->Mo Fl:=fun ρ=>sq (k1 ρ) k2
theorem kc_ap(k1 k2:En->Mo Fl)(ρ:En):kc k1 k2 ρ=sq (k1 ρ) k2:=nr rfl
theorem sq_sq(m:Mo Fl)(k1 k2:En->Mo Fl):sq (sq m k1) k2=sq m (kc k1 k2):=by
 refine ae fun Q=>?_;show m _↔m _;have:∀fl:Fl,(sq (match fl with | .nx ρ=>k1 ρ | .rt w=>ret (.rt w) | .bk ρ=>ret (.bk ρ) | .ct ρ=>ret (.ct ρ)) k2) Q=(match fl with | .nx ρ=>kc k1 k2 ρ | .rt w=>ret (.rt w) | .bk ρ=>ret (.bk ρ) | .ct ρ=>ret (.ct ρ):Mo Fl) Q:=by intro fl;cases fl<;>rfl
 exact Iff.of_eq (congrArg m (funext this))
theorem bc{P:α->Prop}{f:α->Mo Fl}(z:∀a,P a->sq (f a) k Q):sq (xH (anyM P) f) k Q:=z
end
theorem pk_sc(x:List Int):L2.VL.W.peek (.sc x) = .sc x:=rfl
theorem fz_sc(x:List Int):(W.sc x).fz = .sc x:=rfl
theorem arg_sc(x:List Int):b7 (.sc x)=true:=rfl
theorem isPk_sc(x:List Int):(W.sc x).isPk=false:=rfl
section
variable{X:Cx}{rl:Option Addr}{a b c e:Expr}{es:List Expr}{fa fb fc:TV}{fs:xR}{pos p p2:Pos}{ρ:En}
noncomputable def qV:List W->(W->Prop)->Prop:=fun ws Q=>∃ns,ws=[.sc ns]/\Q (.d (.int ns.length))
noncomputable def asSc:W->Option (List Int)
 | .sc ns=>some ns
 | _=>none
theorem asSc_s(ns:List Int):asSc (.sc ns)=some ns:=rfl
theorem gM{i:List Int}:asSc w=some i↔w = .sc i:=by
 constructor
 · intro h;unfold asSc at h;split at h<;>simp_all
 · rintro rfl;rfl
theorem m_gLenS(w:W):qV [w]=ar (asSc w) fun ns=>ret (.d (.int ns.length)):=by
 refine ae fun Q=>?_;simp only[qV,af,gM,ret,yS,and_true]
noncomputable def uV:W->W->(W->Prop)->Prop:=fun x y Q=>∃ns i n,x = .sc ns/\y = .d (.int i)/\atI ns i=some n/\Q (.d (.int n))
theorem dv{β:Type}(f:α->β)(xs:List α)(i:Int):atI (xs.map f) i=(atI xs i).map f:=by
 unfold atI;rw[yV];cases ixN xs.length i<;>simp
theorem m_gIxS(x y:W):uV x y=ar (asSc x) fun ns=>ar (asI y) fun i=>ar (atI ns i) fun n=>ret (.d (.int n)):=by
 refine ae fun Q=>?_;simp only[uV,af,gM,bB,ret];exact⟨fun⟨i,j,z,a,b,c,q⟩=>⟨i,a,j,b,z,c,q⟩,fun⟨i,a,j,b,z,c,q⟩=>⟨i,j,z,a,b,c,q⟩⟩
noncomputable def uw(fa:TV)(fl fh:xT):TV:=fun ρ Q=>fa ρ fun w=>fl ρ fun l=>fh ρ fun h=>∃ns:List Int,w = .sc ns/\Q (.ml (cutD (ns.map .int) l h))
theorem m_vSlS{fl fh:xT}:uw fa fl fh ρ=xH (fa ρ) fun w=>xH (fl ρ) fun l=>xH (fh ρ) fun h=>ar (asSc w) fun ns=>ret (.ml (cutD (ns.map .int) l h)):=by
 refine ae fun Q=>?_;simp only[uw,xH,af,gM,ret]
end
noncomputable def wO(K:W.Frag)(pre:List W->Prop):Sp:=fun vs H Q _=>∃F ws,aW F H/\cI K none F H vs ws/\ws.all b7=true/\pre ws/\∀r F' H',H r=none->Grow none F H F' H'->x_ (some r) F' H'->Q (.ref r) H'
structure DfnR (P:yT) (w:zp) (K:W.Frag) (mg:Str->Option yG) (base:Heap) (x:Str) (ps:List Str) (k:Nat) (pre:List W->Prop):Prop where
 ex:∃f fd,mg x=some (.ref f)/\W.keepIn K (.ref f)=true/\Binds K fd ps []/\FnOk P w K mg base yA k f fd ps (wO K pre)
noncomputable def xk:Option W->Option W
 | some .reel=>none
 | o=>o
noncomputable def nR(ρ:En):En:=ρ.map xk
noncomputable def W.isR:W->Bool
 | .reel=>true
 | _=>false
noncomputable def pp(i:Nat)(pre:List W->Prop)(fs:xR)(t:xS):xS:=fun D ρ=>fs ρ fun ws=>ws.all b7=true/\pre ws/\t ⟨fun ρ'=>D.nx (nR ρ'),fun w=>w.isR=false/\D.rt w,fun ρ'=>D.bk (nR ρ'),fun ρ'=>D.ct (nR ρ')⟩ (ρ.set i (some .reel))
theorem n_(g:Grow none F₀ H₀ F H)(ra:x_ (some r) F H):Grow (some r) F₀ H₀ F H:=⟨fun b o e _=>g.same b o e (by simp),g.fs,g.sub,g.old,ra⟩
theorem ii(g:Grow (some r) F₀ H₀ F H)(n:H₀ r=none):Grow none F₀ H₀ F H:=⟨fun b o e _=>g.same b o e (fun z=>by cases z;rw[n]at e;cases e),g.fs,g.sub,g.old,fun _ z=>by cases z⟩
theorem pX{K:W.Frag}(h:cu K none F H v w)(ne:∀a,w.own=true\/(∃xs,w = .pk xs)->v = .ref a->a≠r):cu K (some r) F H v w:=by
 cases w with
 | d x=>exact h
 | ml xs=>obtain⟨a,vs,e,f,_,g⟩:=h;exact⟨a,vs,e,f,fun z=>ne a (.inl rfl) e (by cases z;rfl),g⟩
 | pk xs=>obtain⟨a,vs,e,f,_,g⟩:=h;exact⟨a,vs,e,f,fun z=>ne a (.inr ⟨_,rfl⟩) e (by cases z;rfl),g⟩
 | reel=>obtain⟨_,z,_⟩:=h;cases z
 | vv u=>exact h
 | md kvs=>obtain⟨a,vs,e,f,_,g⟩:=h;exact⟨a,vs,e,f,fun z=>ne a (.inl rfl) e (by cases z;rfl),g⟩
 | mk kvs=>obtain⟨a,vs,e,f,_,g⟩:=h;exact⟨a,vs,e,f,fun z=>ne a (.inl rfl) e (by cases z;rfl),g⟩
 | nt ds=>exact h
 | lk=>trivial
 | sc ns=>exact h
 | fd _=>exact h
 | fw _=>exact h
 | ft _=>exact h
 | xc _ _=>exact h
 | dp _ _=>exact h
theorem jx{K:W.Frag}(h:cu K (some r) F H v w)(n:w.isR=false):cu K none F H v w:=by
 cases w with
 | d x=>exact h
 | ml xs=>obtain⟨a,vs,e,f,_,g⟩:=h;exact⟨a,vs,e,f,by simp,g⟩
 | pk xs=>obtain⟨a,vs,e,f,_,g⟩:=h;exact⟨a,vs,e,f,by simp,g⟩
 | reel=>cases n
 | vv u=>exact h
 | md kvs=>obtain⟨a,vs,e,f,_,g⟩:=h;exact⟨a,vs,e,f,by simp,g⟩
 | mk kvs=>obtain⟨a,vs,e,f,_,g⟩:=h;exact⟨a,vs,e,f,by simp,g⟩
 | nt ds=>exact h
 | lk=>trivial
 | sc ns=>exact h
 | fd _=>exact h
 | fw _=>exact h
 | ft _=>exact h
 | xc _ _=>exact h
 | dp _ _=>exact h
theorem hW(h:(nR ρ)[i]?=some (some w)):ρ[i]?=some (some w)/\w.isR=false:=by
 unfold nR at h;rw[zB]at h
 cases e:ρ[i]? with
 | none=>rw[e]at h;cases h
 | some o =>
   rw[e]at h
   cases o with
   | none=>cases h
   | some u=>cases u<;>first|(cases h;exact⟨rfl,rfl⟩)|cases h
theorem VR.out{K:W.Frag}(R:VR K (some r) F₀ H₀ F H σ ρ)(n:H₀ r=none):VR K none F₀ H₀ F H σ (nR ρ):=by
 refine⟨ii R.g n,fun i w e=>?_,fun i j x y v hn e1 e2=>R.ap i j x y v hn (hW e1).1 (hW e2).1,fun i xs e=>R.np i xs (hW e).1,?_⟩
 · obtain⟨e1,e2⟩:=hW e;obtain⟨v,h1,h2,h3⟩:=R.sl i w e1;exact⟨v,h1,jx h2 e2,h3⟩
 · have:=R.len;simpa[nR]using this
theorem VR.into{K:W.Frag}(R:VR K none F₀ H₀ F H σ ρ)(n:H r=none)(g:Grow none F H F' H')(ra:x_ (some r) F' H')(i:Nat):VR K (some r) F₀ H₀ F' H' (σ.set i (some (.ref r))) (ρ.set i (some .reel)):=by
 have R1:=R.grow g;refine⟨n_ R1.g ra,fun j w e=>?_,fun j k x y v hn e1 e2 o1 o2 s1 s2=>?_,fun j xs e=>?_,by simp[R.len]⟩
 · by_cases hj:i=j
   · subst hj
     have hi:i<ρ.length:=by
      rw[zm]at e;by_cases hi:i<ρ.length
      · exact hi
      · simp[hi]at e
     rw[yZ hi]at e;cases e;exact⟨.ref r,by rw[yZ (by rw[<- R.len];exact hi)],⟨r,rfl,rfl⟩,trivial⟩
   · rw[yO hj]at e;obtain⟨v,h1,h2,h3⟩:=R1.sl j w e;refine⟨v,by rw[yO hj];exact h1,pX h2 fun a ow ea z=>?_,h3⟩;obtain⟨v0,h10,h20,_⟩:=R.sl j w e;rw[h1]at h10;cases h10;rcases ow with ow|⟨xs,rfl⟩
     · obtain⟨b,o,eb,hb⟩:=h20.live ow;rw[ea]at eb;cases eb;rw[z,n]at hb;cases hb
     · exact absurd e (R.np j xs)
 · have key:∀(m:Nat)(z:W),(ρ.set i (some W.reel))[m]?=some (some z)->z.own=true->i≠m/\ρ[m]?=some (some z):=fun m z e o=>by
     by_cases hm:i=m
     · subst hm;rw[zm]at e;split at e
       · split at e
         · cases e;cases o
         · cases e
       · exact absurd rfl (by assumption)
     · rw[yO hm]at e;exact⟨hm,e⟩
   obtain⟨n1,d1⟩:=key j x e1 o1;obtain⟨n2,d2⟩:=key k y e2 o2;rw[yO n1]at s1;rw[yO n2]at s2;exact R1.ap j k x y v hn d1 d2 o1 o2 s1 s2
 · rw[zm]at e;split at e
   · split at e
     · cases e
     · cases e
   · exact R1.np j xs e
section
variable{X:Cx}{st:Stmt}{rest body:List Stmt}{t u:xS}{a b c e:Expr}{es:List Expr}{fa fb:TV}{fs:xR}{pos p px cpos:Pos}{ρ:En}
theorem mD(i:Nat){f:Str}{pre:List W->Prop}(D:DfnR X.prog X.w X.K X.mg X.base f ps k pre)(hr:Room k X.A)(hN:X.N.Nodup)(ha:yb X none (e::es) fs)(hrest:∀r,gk X (some r) rest t)
 (hi:autoParam (X.N[i]?=some x) æa._auto_1)(hx:autoParam (Loc X.env.scope x) æe._auto_1)(hg:autoParam (Gl X f) æa._auto_1)(hdb:autoParam ((f==("__debug__" : Str))=false) æb._auto_1)
 (he:autoParam (yM (e::es) X.env=(false,eval e X.env)::yM es X.env) æa._auto_1)(hpl:autoParam ((Ae cpos (yM es X.env)).any (·.1)=false) æa._auto_1)
 (hs:autoParam (AL (.Call (.Name f p) (e::es) [] cpos) (some (.Name x px)) pos.line X.env=pure false) æa._auto_1)(hf:autoParam (X.fn x=true\/X.env.scope.names.lookup x=some .local) æf._auto_1) :
 gk X none (.Assign [.Name x px] (.Call (.Name f p) (e::es) [] cpos) pos::rest) (pp i pre fs t):=by
 obtain⟨fa,fd,hm,hk,hb,F⟩:=D.ex;obtain⟨ta,p1,k1⟩:=ha;refine⟨_,aF (cz hN hi hx (gz F hr hg hm hk hb .nil qq p1 hdb he hpl) hs hf) (nw X rest),fun{F₀ H₀ F H σ ρ} R Dv D ok q=>k1 R _ _ q fun vs ws F1 H1 g1 r1 ⟨ao,pw,q1⟩=>?_⟩;have R1:=R.grow g1;refine⟨F1,ws,g1.sub,by rw[Ag];exact r1,ao,pw,fun r F2 H2 hr2 g2 ra=>?_⟩;intro pins s I;obtain⟨T,pT,kT⟩:=hrest r;have h0:H₀ r=none:=R1.g.freeB hr2;refine pT pins s _ H2 D I (kT (R1.into hr2 g2 ra i) _ D ⟨fun F3 H3 σ3 ρ3 s3 R3 q3=>?_,fun v w F3 H3 g3 r3 n3 q3=>?_,fun F3 H3 σ3 ρ3 s3 R3 q3=>?_,fun F3 H3 σ3 ρ3 s3 R3 q3=>?_⟩ q1)
 · exact ok.nx F3 H3 σ3 _ (g1.fs.trans (g2.fs.trans s3)) (R3.out h0) q3
 · exact ok.rt v w F3 H3 (ii g3 h0) (jx r3 q3.1) n3 q3.2
 · exact ok.bk F3 H3 σ3 _ (g1.fs.trans (g2.fs.trans s3)) (R3.out h0) q3
 · exact ok.ct F3 H3 σ3 _ (g1.fs.trans (g2.fs.trans s3)) (R3.out h0) q3
end
noncomputable def ww:Fl->Mo Fl
 | .nx ρ=>ret (.nx (nR ρ))
 | .rt w=>xA (w.isR=false) (ret (.rt w))
 | .bk ρ=>ret (.bk (nR ρ))
 | .ct ρ=>ret (.ct (nR ρ))
theorem s_newR(i:Nat)(pre:List W->Prop)(fs:xR)(t:xS)(ρ:En):mS (pp i pre fs t) ρ=xH (fs ρ) fun ws=>xA (ws.all b7=true) (xA (pre ws) (xH (mS t (ρ.set i (some .reel))) ww)):=nr rfl
theorem nR_nil:nR []=[]:=rfl
theorem nR_r(l:En):nR (some .reel::l)=none::nR l:=rfl
theorem nR_n(l:En):nR (none::l)=none::nR l:=rfl
theorem nR_d(x:yF)(l:En):nR (some (.d x)::l)=some (.d x)::nR l:=rfl
theorem nR_ml(x:List yF)(l:En):nR (some (.ml x)::l)=some (.ml x)::nR l:=rfl
theorem nR_sc(x:List Int)(l:En):nR (some (.sc x)::l)=some (.sc x)::nR l:=rfl
noncomputable def dL(K:W.Frag):Sp:=fun vs H Q _=>∃(a:Addr)(ns:List Int),vs=[.ref a]/\xX K H a (ns.map V.int)/\ns.length<=63/\∀H',Q (.bl true) H'
noncomputable def vI:VEnds:=⟨fun _=>False,fun w=>w = .d (.bool true),fun _=>False,fun _=>False⟩
noncomputable def oH:Fl->Prop
 | .rt w=>w = .d (.bool true)
 | _=>False
theorem un_law(m:Mo Fl):xH m ww oH=m oH:=by
 show m (fun fl=>ww fl oH)=m oH;congr 1;funext fl
 cases fl with
 | rt w=>exact propext ⟨fun⟨_,h⟩=>h,fun h=>⟨by rw[show w = .d (.bool true)from h];rfl,h⟩⟩
 | _=>rfl
theorem nZ:ret (Fl.rt (.d (.bool true))) oH:=rfl
section
variable{P:yT}{w:zp}{K:W.Frag}{mg:Str->Option yG}{base:Heap}{st:Stmt}{N:List Str}{k:Nat}{t:xS}{x:Str}
theorem nL{fd:z5}(F:Fun K "law" "law" st f fd)(S:FnScope N [x] (defScope st))
 (hbody:∀(cdv:yG)(A:zd)(outer:List Env)(s:yH)(H:Hp)(E:XK),Room k (A.deeper (Bp "law" (defScope st) s.heap.objs.size f cdv))->gk (gE yA P w K mg base N "law" (defScope st) f cdv A outer s H E).nox none (defBody st) t)
 (hread:∀ns:List Int,ns.length<=63->mS t (bS N [.sc ns]) oH):FnOk P w K mg base yA (k+1) f fd [x] (dL K):=by
 refine F.ok S (fun vs H Q E h=>?_) (fun cdv A outer s H vs Q E hr h=>?_)
 · obtain⟨a,ns,rfl,_⟩:=h;rfl
 · obtain⟨a,ns,rfl,hS,hl,kq⟩:=h;obtain⟨T,p,kk⟩:=hbody cdv A outer s H E hr;have rw0:cI K none H H [.ref a] [.sc ns]:=.cons ⟨a,rfl,hS⟩ .nil;have R:VR K none H H H H (start N [.ref a]) (bS N [.sc ns]):=d7 (.refl H) (fun _ z=>by cases z) rw0 rfl;refine⟨T,p,kk R vI _ ⟨fun _ _ _ _ _ _ z=>zl z,?_,fun _ _ _ _ _ _ z=>zl z,fun _ _ _ _ _ _ z=>zl z⟩ (hread ns hl)⟩;rintro v w1 F1 H1 g1 r1 n1 z;have z:w1 = .d (.bool true):=z;subst z;have e:=c7 r1;subst e;exact kq H1
end
noncomputable def pg(i:Nat)(fa:TV):xS:=fun D ρ=>fa ρ fun w=>∃d,w.fz = .d d/\D.nx (ρ.set i (some (.d d)))
section
variable{X:Cx}{rl:Option Addr}{st:Stmt}{rest body:List Stmt}{t u:xS}{a b c e:Expr}{es:List Expr}{fa fb:TV}{fs:xR}{f:TB}{pos p:Pos}{ρ:En}
theorem aR(i:Nat){pos':Pos}(hN:X.N.Nodup)(he:PV X rl e fa)(hi:autoParam (X.N[i]?=some x) æa._auto_1)(hx:autoParam (Loc X.env.scope x) æe._auto_1)
 (hs:autoParam (AL e (some (.Name x pos')) pos.line X.env=pure false) æa._auto_1)(hf:autoParam (X.fn x=true\/X.env.scope.names.lookup x=some .local) æf._auto_1) :
 ye X rl (.Assign [.Name x pos'] e pos) (pg i fa):=by
 obtain⟨t,p,k⟩:=he;refine⟨_,cz hN hi hx p hs hf,fun R Dv D ok q=>k R _ _ q fun v w F1 H1 g1 r1 n1 ⟨d,ed,q1⟩=>?_⟩;obtain⟨F2,g2,s2,r2⟩:=cu.fz g1 r1 n1;rw[ed]at r2;exact ok.nx _ _ _ _ g2.fs (R.set g2 r2 trivial (fun xs z=>by cases z) i) q1
theorem s_setZ(i:Nat):mS (pg i fa) ρ=xH (fa ρ) fun w=>ar (asD w.fz) fun d=>ret (.nx (ρ.set i (some (.d d)))):=by
 show(xH (fa ρ) fun w=>fun(Q:Fl->Prop)=>∃d,w.fz = .d d/\Q (.nx (ρ.set i (some (.d d)))))=_;congr 1;funext w;refine ae fun Q=>?_;simp only[af,ir,ret]
end
section
variable{X:Cx}{rl:Option Addr}{elt tg iter:Expr}{ifs:List Expr}{scope:Scope}{pos:Pos}{fi:En->(List yF->Prop)->Prop}{g:xU}{ft:TB}{fe:TV}
end
noncomputable def rF(xs:List Int):yF:=.tuple (xs.map .int)
noncomputable def sX(xs:List Int):yF:=.list (xs.map .int)
theorem cq:∀{xs ys:List Int},xs.map zC=ys.map zC↔xs=ys:=by
 intro xs ys;constructor
 · intro h;have:=congrArg fW h;rw[cB,cB]at this;exact zg this
 · rintro rfl;rfl
theorem gW{xs ys:List Int}:rF xs=rF ys↔xs=ys:=by
 unfold rF;rw[zz,cq]
theorem k8{xs ys:List Int}:sX xs=sX ys↔xs=ys:=by
 unfold sX;rw[BX.injEq,cq]
theorem bq{α:Type}{f:α->yF}(h:∀a b,f a=f b↔a=b):∀{xs ys:List α},xs.map f=ys.map f↔xs=ys
 | [],[]=>by simp
 | [],_::_=>by simp
 | _::_,[]=>by simp
 | x::xs,y::ys=>by simp[h,bq h (xs:=xs) (ys:=ys)]
noncomputable def sB(xs:List (List Int)):yF:=.tuple (xs.map rF)
theorem kL{xs ys:List (List Int)}:sB xs=sB ys↔xs=ys:=by
 unfold sB;rw[zz,bq fun _ _=>gW]
section
variable{α σ:Type}{fl:List Nat}{b:yF->En->Mo Fl}{k:En->Mo Fl}{Q:Fl->Prop}{ρ:En}
theorem gP{f:TB}{t:xS}(st:σ->En)(c:σ->Bool)(nxt:σ->σ)(μ:σ->Nat)(I:σ->Prop)(s:σ)(h0:ρ=st s)(hs:I s)
 (hf:∀s,I s->f (st s)=ret (c s))(ht:∀s,I s->c s=true->I (nxt s)/\μ (nxt s)<μ s/\∃ρ',mS t (st s)=ret (.nx ρ')/\fo fl ρ'=st (nxt s))(fin:∀s,I s->c s=false->k (st s) Q):sq (dI fl f t ρ) k Q:=by
 subst h0;obtain⟨s',a,b,e⟩:=i7 st c nxt μ I hf ht s hs;rw[e];exact fin s' a b
noncomputable def xl(fl:List Nat)(J:En->Prop)(k:En->Mo Fl)(Q:Fl->Prop):Fl->Prop
 | .nx ρ=>J (fo fl ρ)
 | .ct ρ=>J (fo fl ρ)
 | .bk ρ=>k (fo fl ρ) Q
 | .rt w=>Q (.rt w)
theorem hZ{J:En->Prop}{ρ:En}(h:J (fo fl ρ)):xl fl J k Q (.nx ρ):=h
theorem qK{xs:List α}{enc:α->yF}{xs':List yF}(J:Nat->En->Prop)(hx:xs'=xs.map enc)(h0:J 0 ρ)
 (step:∀i (h:i<xs.length) ρ,J i ρ->∀K:Fl->Prop,(∀r,xl fl (J (i+1)) k Q r->K r)->b (enc xs[i]) ρ K)(fin:∀ρ,J xs.length ρ->k ρ Q):sq (cP fl b xs' ρ) k Q:=by
 subst hx;refine jR (Q:=fun r=>(match r with | .nx ρ=>k ρ | .rt w=>ret (.rt w) | .bk ρ=>ret (.bk ρ) | .ct ρ=>ret (.ct ρ):Mo Fl) Q) J h0 (fun i hi ρ j K hK=>step i hi ρ j K fun r hr=>hK r ?_) fin;cases r<;>exact hr
theorem jW{lo:Int}(J:Nat->En->Prop)(h0:J 0 ρ)
 (step:∀i,i<n->∀ρ,J i ρ->∀K:Fl->Prop,(∀r,xl fl (J (i+1)) k Q r->K r)->b (.int (lo+i)) ρ K)(fin:∀ρ,J n ρ->k ρ Q):sq (cP fl b (aJ lo n) ρ) k Q:=by
 refine k_ (Q:=fun r=>(match r with | .nx ρ=>k ρ | .rt w=>ret (.rt w) | .bk ρ=>ret (.bk ρ) | .ct ρ=>ret (.ct ρ):Mo Fl) Q) J h0 (fun i hi ρ j K hK=>step i hi ρ j K fun r hr=>hK r ?_) fin;cases r<;>exact hr
theorem oi{xs:List α}{enc:α->yF}{xs':List yF}(hx:xs'=xs.map enc)(step:∀x∈xs,∀K:Fl->Prop,(∀r,xl fl (fun ρ'=>ρ'=ρ) k Q r->K r)->b (enc x) ρ K)(fin:k ρ Q):sq (cP fl b xs' ρ) k Q :=
 qK (fun _ ρ'=>ρ'=ρ) hx rfl (fun i h ρ' e K hK=>by subst e;exact step _ (B5 h) K hK) fun ρ' e=>by subst e;exact fin
theorem il{lo:Int}(step:∀i,i<n->∀K:Fl->Prop,(∀r,xl fl (fun ρ'=>ρ'=ρ) k Q r->K r)->b (.int (lo+i)) ρ K)(fin:k ρ Q):sq (cP fl b (aJ lo n) ρ) k Q :=
 jW (fun _ ρ'=>ρ'=ρ) rfl (fun i h ρ' e K hK=>by subst e;exact step i h K hK) fun ρ' e=>by subst e;exact fin
end
theorem uZ{m:Mo Fl}{Q:Fl->Prop}(h:sq m (fun ρ=>ret (.nx ρ)) Q):m Q:=by
 have e:(fun fl:Fl=>(match fl with | .nx ρ=>ret (.nx ρ) | .rt w=>ret (.rt w) | .bk ρ=>ret (.bk ρ) | .ct ρ=>ret (.ct ρ):Mo Fl) Q)=Q:=by
  funext fl;cases fl<;>rfl
 have h:m (fun fl:Fl=>(match fl with | .nx ρ=>ret (.nx ρ) | .rt w=>ret (.rt w) | .bk ρ=>ret (.bk ρ) | .ct ρ=>ret (.ct ρ):Mo Fl) Q):=h;rw[e]at h;exact h
section
variable{α β:Type}{b:yF->Mo (Option yF)}{k:List yF->Mo β}{Q:β->Prop}
theorem rm{xs:List α}{enc:α->yF}{xs':List yF}(f:α->Option yF)(hx:xs'=xs.map enc)(h:∀x∈xs,b (enc x)=ret (f x))(hl:xs.length<=sizeLine)(fin:k (xs.filterMap f) Q):xH (bO b xs' []) k Q:=by
 subst hx;rw[kh f h hl];exact fin
theorem ou{xs:List α}{enc:α->yF}{xs':List yF}(f:α->yF)(hx:xs'=xs.map enc)(h:∀x∈xs,b (enc x)=ret (some (f x)))(hl:xs.length<=sizeLine)(fin:k (xs.map f) Q):xH (bO b xs' []) k Q:=by
 subst hx;rw[comp_map f h hl];exact fin
theorem im{lo:Int}(f:Nat->yF)(h:∀j,j<n->b (.int (lo+j))=ret (some (f j)))(hl:n<=sizeLine)(fin:k ((zw n).map f) Q):xH (bO b (aJ lo n) []) k Q:=by
 rw[kf f h hl];exact fin
end
section
variable{α β:Type}
theorem jP{xs:List yF}{i:Int}{k:yF->Mo β}{Q:β->Prop}(h0:0<=i)(h1:i<(xs.length:Int))(h:∀z∈xs,k z Q):ar (atI xs i) k Q:=by
 obtain⟨z,e,m⟩:=tG h0 h1;rw[e];exact h z m
theorem dU{xs:List α}{enc:α->yF}{xs':List yF}{i:Int}{k:yF->Mo β}{Q:β->Prop}(P:α->Prop)(hx:xs'=xs.map enc)(h0:0<=i)(h1:i<(xs.length:Int))(hP:∀z∈xs,P z)(h:∀z,P z->k (enc z) Q):ar (atI xs' i) k Q:=by
 subst hx;refine jP h0 (by simpa using h1) fun z mz=>?_;obtain⟨x,hx,rfl⟩:=Ck.mp mz;exact h x (hP x hx)
end
section
variable{X:Cx}{rl:Option Addr}{a b c o e:Expr}{es:List Expr}{fa fb:TV}{fs:xR}{pos p apos cpos:Pos}{ρ:En}
noncomputable def wu(g:List yF->List W->(W->Prop)->Prop)(fa:TV)(fs:xR):TV:=fun ρ Q=>fa ρ fun x=>∃xs,x.dat=some (.list xs)/\fs ρ fun ws=>g xs ws Q
theorem m_vML(g:List yF->List W->(W->Prop)->Prop):wu g fa fs ρ=xH (fa ρ) fun x=>ar (xM x) fun xs=>xH (fs ρ) fun ws=>g xs ws:=by
 show(xH (fa ρ) fun x=>fun(Q:W->Prop)=>∃xs,x.dat=some (.list xs)/\fs ρ fun ws=>g xs ws Q)=_;congr 1;funext x;refine ae fun Q=>?_;rw[af];simp only[dY];exact CP
noncomputable def j_:List yF->List W->(W->Prop)->Prop:=fun xs ws Q=>∃(bs:List Bool)(k:Bool),xs=bs.map .bool/\ws=[.d (.bool k)]/\Q (.d (.int (bs.count k)))
theorem m_gCountB(xs:List yF)(w:W):j_ xs [w]=ar (mf xs) fun bs=>ar (asB w) fun k=>ret (.d (.int (bs.count k))):=by
 refine ae fun Q=>?_;simp only[j_,af,dw,ret,yS,and_true];constructor
 · rintro⟨bs,k,rfl,e,q⟩;exact⟨bs,blsD_map bs,k,e,q⟩
 · rintro⟨bs,e,k,e',q⟩;exact⟨bs,k,gK e,e',q⟩
noncomputable def qS:W->W->(W->Prop)->Prop:=fun x y Q=>∃b c,x = .d (.bool b)/\y = .d (.bool c)/\Q (.d (.bool (b != c)))
theorem m_gNotB(x y:W):qS x y=ar (asB x) fun i=>ar (asB y) fun j=>ret (.d (.bool (i != j))):=by
 refine ae fun Q=>?_;simp only[af,dw,qS,ret];exact⟨fun⟨i,j,a,b,q⟩=>⟨i,a,j,b,q⟩,fun⟨i,a,j,b,q⟩=>⟨i,j,a,b,q⟩⟩
end
end L2.VL
namespace L2
section
variable{X:Cx}{pos:Pos}
end
end L2
namespace L2.VL
section
variable{X:Cx}{rl:Option Addr}{es:List Expr}{pos:Pos}{ρ:En}
noncomputable def uU(n:Nat)(gs:i4):xU:=fun x ρ Q=>∃xs,x = .list xs/\xs.length=n/\gs xs ρ Q
theorem m_hLst(n:Nat){gs:i4}(x:yF):uU n gs x ρ=ar (lstD x) fun xs=>xA (xs.length=n) (gs xs ρ):=by
 refine ae fun Q=>?_;simp only[af,nU,uU,xA]
end
section
variable{α:Type}{a0 a1 a2 a3 a4 a5 a6 a7 a8 a9 a10 a11 a12 a13 a14 a15 a16 a17 a18 a19 x y:α}{l:List α}
theorem gt0:(x::l)[0]?=some x:=nr rfl
theorem st0:(x::l).set 0 y=y::l:=nr rfl
theorem gt1:(a0::x::l)[1]?=some x:=nr rfl
theorem st1:(a0::x::l).set 1 y=a0::y::l:=nr rfl
theorem gt2:(a0::a1::x::l)[2]?=some x:=nr rfl
theorem st2:(a0::a1::x::l).set 2 y=a0::a1::y::l:=nr rfl
theorem gt3:(a0::a1::a2::x::l)[3]?=some x:=nr rfl
theorem st3:(a0::a1::a2::x::l).set 3 y=a0::a1::a2::y::l:=nr rfl
theorem gt4:(a0::a1::a2::a3::x::l)[4]?=some x:=nr rfl
theorem st4:(a0::a1::a2::a3::x::l).set 4 y=a0::a1::a2::a3::y::l:=nr rfl
theorem gt5:(a0::a1::a2::a3::a4::x::l)[5]?=some x:=nr rfl
theorem st5:(a0::a1::a2::a3::a4::x::l).set 5 y=a0::a1::a2::a3::a4::y::l:=nr rfl
theorem gt6:(a0::a1::a2::a3::a4::a5::x::l)[6]?=some x:=nr rfl
theorem st6:(a0::a1::a2::a3::a4::a5::x::l).set 6 y=a0::a1::a2::a3::a4::a5::y::l:=nr rfl
theorem gt7:(a0::a1::a2::a3::a4::a5::a6::x::l)[7]?=some x:=nr rfl
theorem st7:(a0::a1::a2::a3::a4::a5::a6::x::l).set 7 y=a0::a1::a2::a3::a4::a5::a6::y::l:=nr rfl
theorem gt8:(a0::a1::a2::a3::a4::a5::a6::a7::x::l)[8]?=some x:=nr rfl
theorem st8:(a0::a1::a2::a3::a4::a5::a6::a7::x::l).set 8 y=a0::a1::a2::a3::a4::a5::a6::a7::y::l:=nr rfl
theorem gt9:(a0::a1::a2::a3::a4::a5::a6::a7::a8::x::l)[9]?=some x:=nr rfl
theorem st9:(a0::a1::a2::a3::a4::a5::a6::a7::a8::x::l).set 9 y=a0::a1::a2::a3::a4::a5::a6::a7::a8::y::l:=nr rfl
theorem gt10:(a0::a1::a2::a3::a4::a5::a6::a7::a8::a9::x::l)[10]?=some x:=nr rfl
theorem st10:(a0::a1::a2::a3::a4::a5::a6::a7::a8::a9::x::l).set 10 y=a0::a1::a2::a3::a4::a5::a6::a7::a8::a9::y::l:=nr rfl
theorem gt11:(a0::a1::a2::a3::a4::a5::a6::a7::a8::a9::a10::x::l)[11]?=some x:=nr rfl
theorem st11:(a0::a1::a2::a3::a4::a5::a6::a7::a8::a9::a10::x::l).set 11 y=a0::a1::a2::a3::a4::a5::a6::a7::a8::a9::a10::y::l:=nr rfl
theorem gt12:(a0::a1::a2::a3::a4::a5::a6::a7::a8::a9::a10::a11::x::l)[12]?=some x:=nr rfl
theorem st12:(a0::a1::a2::a3::a4::a5::a6::a7::a8::a9::a10::a11::x::l).set 12 y=a0::a1::a2::a3::a4::a5::a6::a7::a8::a9::a10::a11::y::l:=nr rfl
theorem gt13:(a0::a1::a2::a3::a4::a5::a6::a7::a8::a9::a10::a11::a12::x::l)[13]?=some x:=nr rfl
theorem st13:(a0::a1::a2::a3::a4::a5::a6::a7::a8::a9::a10::a11::a12::x::l).set 13 y=a0::a1::a2::a3::a4::a5::a6::a7::a8::a9::a10::a11::a12::y::l:=nr rfl
theorem gt14:(a0::a1::a2::a3::a4::a5::a6::a7::a8::a9::a10::a11::a12::a13::x::l)[14]?=some x:=nr rfl
theorem st14:(a0::a1::a2::a3::a4::a5::a6::a7::a8::a9::a10::a11::a12::a13::x::l).set 14 y=a0::a1::a2::a3::a4::a5::a6::a7::a8::a9::a10::a11::a12::a13::y::l:=nr rfl
theorem gt15:(a0::a1::a2::a3::a4::a5::a6::a7::a8::a9::a10::a11::a12::a13::a14::x::l)[15]?=some x:=nr rfl
theorem st15:(a0::a1::a2::a3::a4::a5::a6::a7::a8::a9::a10::a11::a12::a13::a14::x::l).set 15 y=a0::a1::a2::a3::a4::a5::a6::a7::a8::a9::a10::a11::a12::a13::a14::y::l:=nr rfl
theorem gt16:(a0::a1::a2::a3::a4::a5::a6::a7::a8::a9::a10::a11::a12::a13::a14::a15::x::l)[16]?=some x:=nr rfl
theorem st16:(a0::a1::a2::a3::a4::a5::a6::a7::a8::a9::a10::a11::a12::a13::a14::a15::x::l).set 16 y=a0::a1::a2::a3::a4::a5::a6::a7::a8::a9::a10::a11::a12::a13::a14::a15::y::l:=nr rfl
theorem gt17:(a0::a1::a2::a3::a4::a5::a6::a7::a8::a9::a10::a11::a12::a13::a14::a15::a16::x::l)[17]?=some x:=nr rfl
theorem st17:(a0::a1::a2::a3::a4::a5::a6::a7::a8::a9::a10::a11::a12::a13::a14::a15::a16::x::l).set 17 y=a0::a1::a2::a3::a4::a5::a6::a7::a8::a9::a10::a11::a12::a13::a14::a15::a16::y::l:=nr rfl
theorem gt18:(a0::a1::a2::a3::a4::a5::a6::a7::a8::a9::a10::a11::a12::a13::a14::a15::a16::a17::x::l)[18]?=some x:=nr rfl
theorem st18:(a0::a1::a2::a3::a4::a5::a6::a7::a8::a9::a10::a11::a12::a13::a14::a15::a16::a17::x::l).set 18 y=a0::a1::a2::a3::a4::a5::a6::a7::a8::a9::a10::a11::a12::a13::a14::a15::a16::a17::y::l:=nr rfl
theorem gt19:(a0::a1::a2::a3::a4::a5::a6::a7::a8::a9::a10::a11::a12::a13::a14::a15::a16::a17::a18::x::l)[19]?=some x:=nr rfl
theorem st19:(a0::a1::a2::a3::a4::a5::a6::a7::a8::a9::a10::a11::a12::a13::a14::a15::a16::a17::a18::x::l).set 19 y=a0::a1::a2::a3::a4::a5::a6::a7::a8::a9::a10::a11::a12::a13::a14::a15::a16::a17::a18::y::l:=nr rfl
end
section
variable{a0 a1 a2 a3 a4 a5 a6 a7 a8 a9 a10 a11 a12 a13 a14 a15 a16 a17 a18 a19:Option W}{w:W}{l:En}
theorem vv0:dD 0 (some w::l)=ret w.peek:=(aX 0).trans rfl
theorem vv1:dD 1 (a0::some w::l)=ret w.peek:=(aX 1).trans rfl
theorem vv2:dD 2 (a0::a1::some w::l)=ret w.peek:=(aX 2).trans rfl
theorem vv3:dD 3 (a0::a1::a2::some w::l)=ret w.peek:=(aX 3).trans rfl
theorem vv4:dD 4 (a0::a1::a2::a3::some w::l)=ret w.peek:=(aX 4).trans rfl
theorem vv5:dD 5 (a0::a1::a2::a3::a4::some w::l)=ret w.peek:=(aX 5).trans rfl
theorem vv6:dD 6 (a0::a1::a2::a3::a4::a5::some w::l)=ret w.peek:=(aX 6).trans rfl
theorem vv7:dD 7 (a0::a1::a2::a3::a4::a5::a6::some w::l)=ret w.peek:=(aX 7).trans rfl
theorem vv8:dD 8 (a0::a1::a2::a3::a4::a5::a6::a7::some w::l)=ret w.peek:=(aX 8).trans rfl
theorem vv9:dD 9 (a0::a1::a2::a3::a4::a5::a6::a7::a8::some w::l)=ret w.peek:=(aX 9).trans rfl
theorem vv10:dD 10 (a0::a1::a2::a3::a4::a5::a6::a7::a8::a9::some w::l)=ret w.peek:=(aX 10).trans rfl
theorem vv11:dD 11 (a0::a1::a2::a3::a4::a5::a6::a7::a8::a9::a10::some w::l)=ret w.peek:=(aX 11).trans rfl
theorem vv12:dD 12 (a0::a1::a2::a3::a4::a5::a6::a7::a8::a9::a10::a11::some w::l)=ret w.peek:=(aX 12).trans rfl
theorem vv13:dD 13 (a0::a1::a2::a3::a4::a5::a6::a7::a8::a9::a10::a11::a12::some w::l)=ret w.peek:=(aX 13).trans rfl
theorem vv14:dD 14 (a0::a1::a2::a3::a4::a5::a6::a7::a8::a9::a10::a11::a12::a13::some w::l)=ret w.peek:=(aX 14).trans rfl
theorem vv15:dD 15 (a0::a1::a2::a3::a4::a5::a6::a7::a8::a9::a10::a11::a12::a13::a14::some w::l)=ret w.peek:=(aX 15).trans rfl
theorem vv16:dD 16 (a0::a1::a2::a3::a4::a5::a6::a7::a8::a9::a10::a11::a12::a13::a14::a15::some w::l)=ret w.peek:=(aX 16).trans rfl
theorem vv17:dD 17 (a0::a1::a2::a3::a4::a5::a6::a7::a8::a9::a10::a11::a12::a13::a14::a15::a16::some w::l)=ret w.peek:=(aX 17).trans rfl
theorem vv18:dD 18 (a0::a1::a2::a3::a4::a5::a6::a7::a8::a9::a10::a11::a12::a13::a14::a15::a16::a17::some w::l)=ret w.peek:=(aX 18).trans rfl
theorem vv19:dD 19 (a0::a1::a2::a3::a4::a5::a6::a7::a8::a9::a10::a11::a12::a13::a14::a15::a16::a17::a18::some w::l)=ret w.peek:=(aX 19).trans rfl
end
section
variable{f1 f2 f3 f4 f5 f6 f7 f8 f9:TV}{fs:xR}{ρ:En}
theorem vk1:az f1 ji ρ=xH (f1 ρ) fun w1=>ret [w1.fz]:=nr rfl
theorem vk2:(az f1 (az f2 ji)) ρ=xH (f1 ρ) fun w1=>xH (f2 ρ) fun w2=>ret [w1.fz,w2.fz]:=nr rfl
theorem vk3:(az f1 (az f2 (az f3 ji))) ρ=xH (f1 ρ) fun w1=>xH (f2 ρ) fun w2=>xH (f3 ρ) fun w3=>ret [w1.fz,w2.fz,w3.fz]:=nr rfl
theorem vk4:(az f1 (az f2 (az f3 (az f4 ji)))) ρ=xH (f1 ρ) fun w1=>xH (f2 ρ) fun w2=>xH (f3 ρ) fun w3=>xH (f4 ρ) fun w4=>ret [w1.fz,w2.fz,w3.fz,w4.fz]:=nr rfl
theorem vk5:(az f1 (az f2 (az f3 (az f4 (az f5 ji))))) ρ=xH (f1 ρ) fun w1=>xH (f2 ρ) fun w2=>xH (f3 ρ) fun w3=>xH (f4 ρ) fun w4=>xH (f5 ρ) fun w5=>ret [w1.fz,w2.fz,w3.fz,w4.fz,w5.fz]:=nr rfl
theorem vk6:(az f1 (az f2 (az f3 (az f4 (az f5 (az f6 ji)))))) ρ=xH (f1 ρ) fun w1=>xH (f2 ρ) fun w2=>xH (f3 ρ) fun w3=>xH (f4 ρ) fun w4=>xH (f5 ρ) fun w5=>xH (f6 ρ) fun w6=>ret [w1.fz,w2.fz,w3.fz,w4.fz,w5.fz,w6.fz]:=nr rfl
theorem vk7:(az f1 (az f2 (az f3 (az f4 (az f5 (az f6 (az f7 ji))))))) ρ=xH (f1 ρ) fun w1=>xH (f2 ρ) fun w2=>xH (f3 ρ) fun w3=>xH (f4 ρ) fun w4=>xH (f5 ρ) fun w5=>xH (f6 ρ) fun w6=>xH (f7 ρ) fun w7=>ret [w1.fz,w2.fz,w3.fz,w4.fz,w5.fz,w6.fz,w7.fz]:=nr rfl
theorem vk8:(az f1 (az f2 (az f3 (az f4 (az f5 (az f6 (az f7 (az f8 ji)))))))) ρ=xH (f1 ρ) fun w1=>xH (f2 ρ) fun w2=>xH (f3 ρ) fun w3=>xH (f4 ρ) fun w4=>xH (f5 ρ) fun w5=>xH (f6 ρ) fun w6=>xH (f7 ρ) fun w7=>xH (f8 ρ) fun w8=>ret [w1.fz,w2.fz,w3.fz,w4.fz,w5.fz,w6.fz,w7.fz,w8.fz]:=nr rfl
theorem vk9:(az f1 (az f2 (az f3 (az f4 (az f5 (az f6 (az f7 (az f8 (az f9 fs))))))))) ρ=xH (f1 ρ) fun w1=>xH (f2 ρ) fun w2=>xH (f3 ρ) fun w3=>xH (f4 ρ) fun w4=>xH (f5 ρ) fun w5=>xH (f6 ρ) fun w6=>xH (f7 ρ) fun w7=>xH (f8 ρ) fun w8=>xH (az f9 fs ρ) fun ws=>ret (w1.fz::w2.fz::w3.fz::w4.fz::w5.fz::w6.fz::w7.fz::w8.fz::ws):=nr rfl
theorem vk0:ji ρ=ret []:=nr rfl
end
noncomputable def tU:=yE @bnd_tt (yE @bnd_ret (yE @bnd_bnd (yE @bnd_grd (yE @bnd_stk (yE @bnd_ite (yE @bnd_opt (yE @opt_some (yE @opt_none (yE @grd_T (yE @sq_nx (yE @sq_rt (yE @sq_bk (yE @sq_ct (yE @sq_grd (yE @sq_stk (yE @sq_ite (yE @sq_sq (@kc_ap))))))))))))))))))
noncomputable def tX:=yE @ite_nx (yE @ite_rt (yE @ite_retd (yE @ite_retb (yE @ite_rets (yE @ite_cons (yE @ite_some (yE @ite_d (yE @ite_pi (yE @ite_pb (yE @itb_tt (yE @itb_ff (yE @itb_ft (yE @itb_tf (@ite_self.{1}))))))))))))))
noncomputable def t7:=yE @m_vC (yE @m_vOp (yE @m_gI (yE @m_gI0 (yE @m_vNeg (yE @m_vTest (yE @m_gEqD (yE @m_gInD (yE @m_vAnd (yE @m_vOr (yE @m_vNot (yE @m_vAndV (yE @m_vOrV (yE @m_vNotV (yE @m_vIf (yE @m_vTup (yE @m_vLst (yE @m_gIx (yE @m_vCall (yE @m_gAbs (yE @m_gLen (yE @m_gRepr (yE @m_gIsi (@m_gStrI)))))))))))))))))))))))
noncomputable def t6:=yE @m_gTupO (yE @m_gLstO (yE @m_gIsB (yE @m_gIsN (yE @m_gI2 (yE @m_gDivmod (yE @m_gInt1 (yE @m_oNo (yE @m_oIt (yE @m_vSlL (yE @m_vSlA (yE @m_gCatD (yE @m_gCatA (yE @m_vChain (yE @m_vLR1 (yE @m_vLR2 (yE @m_vTR1 (yE @m_iL (yE @m_iT (yE @m_iR1 (yE @m_iR2 (yE @m_iZb (yE @m_vUse (@m_vUseL)))))))))))))))))))))))
noncomputable def tZ:=yE @m_gAll (yE @m_gRepT (yE @m_gRepL (yE @m_vRevT (yE @m_vRevL (yE @m_gEqS (yE @m_vTGet (yE @m_gSrtT (yE @m_comp (yE @m_gLenS (yE @m_gIxS (yE @m_vSlS (yE @m_hLst (yE @m_vML (yE @m_gCountB (@m_gNotB)))))))))))))))
noncomputable def tM:=yE @s_next (yE @s_seq (yE @s_drop (yE @s_ret (yE @s_retN (yE @s_ifS (yE @s_set (yE @s_setZ (yE @s_never (yE @s_asg (yE @s_par (yE @s_par3 (yE @s_aug (yE @s_augL (yE @s_frz (yE @s_mut (yE @s_retO (yE @s_appPop (yE @s_for (yE @bdy_ap (yE @s_while (yE @s_newR (yE @m_hName (@m_hNil_n)))))))))))))))))))))))
noncomputable def tL:=yE @m_hCons_c (yE @m_hTup (yE @m_gApp (@m_gExt)))
noncomputable def tQ:=yE @pk_sc (yE @fz_sc (yE @arg_sc (yE @isPk_sc (yE @asI_d (yE @asB_d (yE @asS_d (yE @asD_d (yE @asT_d (yE @asL_d (yE @asL_ml (yE @asL_pk (yE @asQ_d (yE @asQ_ml (yE @asQ_pk (yE @lstD_l (yE @tupD_t (yE @toI_i (yE @toI_b (yE @isiT_t (yE @asM_ml (yE @asSc_s (yE @two_d (@fz_d)))))))))))))))))))))))
noncomputable def tP:=yE @fz_ml (yE @fz_pk (yE @fz_reel (yE @fz_vv (yE @pk_d (yE @pk_ml (yE @pk_reel (yE @pk_vv (yE @dat_d (yE @dat_ml (yE @dat_pk (yE @isPk_d (yE @isPk_ml (yE @isPk_reel (yE @dats_nil (yE @dats_d (yE @arg_d (yE @arg_reel (yE @item_l (yE @item_t (yE @len_l (yE @len_t (yE @seq_l (@seq_t)))))))))))))))))))))))
noncomputable def tO:=yE @at0 (yE @at1 (yE @blsD_map (yE @tup2 (yE @fo_nil (yE @fo_cons (yE @nR_nil (yE @nR_r (yE @nR_n (yE @nR_d (yE @nR_ml (yE @nR_sc (yE @le_nil (yE @le_cn (yE @le_cs (yE @end_d (yE @end_ml (yE @end_nx (@un_law))))))))))))))))))
noncomputable def tW:=yE @BW.{0,0} (yE @List.map_nil.{0,0} (yE @AS.{0} (yE @List.length_nil.{0} (yE @List.set_nil.{0} (yE @AR.{0} (yE @Cm.{0} (yE @List.all_cons.{0} (yE @List.all_nil.{0} (yE @List.head?_cons.{0} (yE @Bool.and_true (yE @Option.some.injEq.{0} (yE @Option.map_some.{0,0} (yE @B8.{0,0} (yE @Option.bind_none.{0,0} (yE @Option.join_some.{0} (yE @Option.join_none.{0} (yE @Az (yE @and_self (yE @and_true (yE @true_and (yE @shaped_i (yE @eqv_ii (@shaped_b)))))))))))))))))))))))
noncomputable def tV:=yE @Bool.true_and (yE @Bool.and_self (yE @Bool.not_true (yE @Bool.not_false (yE @yV.{0,0} (yE @Int.toNat_natCast (yE @Bool.true_eq_false (yE @decide_true (yE @decide_false (yE @List.isEmpty_cons.{0} (yE @List.isEmpty_nil.{0} (@List.isEmpty_map.{0,0})))))))))))
noncomputable def tT:=yE @gt0 (yE @gt1 (yE @gt2 (yE @gt3 (yE @gt4 (yE @gt5 (yE @gt6 (yE @gt7 (yE @gt8 (yE @gt9 (yE @gt10 (yE @gt11 (yE @gt12 (yE @gt13 (yE @gt14 (yE @gt15 (yE @gt16 (yE @gt17 (yE @gt18 (yE @gt19 (yE @st0 (yE @st1 (yE @st2 (@st3)))))))))))))))))))))))
noncomputable def tS:=yE @st4 (yE @st5 (yE @st6 (yE @st7 (yE @st8 (yE @st9 (yE @st10 (yE @st11 (yE @st12 (yE @st13 (yE @st14 (yE @st15 (yE @st16 (yE @st17 (yE @st18 (yE @st19 (yE @vv0 (yE @vv1 (yE @vv2 (yE @vv3 (yE @vv4 (yE @vv5 (yE @vv6 (@vv7)))))))))))))))))))))))
noncomputable def tR:=yE @vv8 (yE @vv9 (yE @vv10 (yE @vv11 (yE @vv12 (yE @vv13 (yE @vv14 (yE @vv15 (yE @vv16 (yE @vv17 (yE @vv18 (yE @vv19 (yE @vk0 (yE @vk1 (yE @vk2 (yE @vk3 (yE @vk4 (yE @vk5 (yE @vk6 (yE @vk7 (yE @vk8 (@vk9)))))))))))))))))))))
section
variable{α β:Type}
end
noncomputable def xG(c:Addr)(a l t:Int):HO:=.lst [.ref c,.int a,.int l,.int t]
theorem ce{K:W.Frag}{k:Int}{Q:VK}(h:H r=some (.lst xs))(e:L2.atI xs k=some v)(q:Q v H):wW K (.ref r) (.int k) H Q:=.inl ⟨r,xs,k,v,rfl,rfl,.inl (.inl h),e,q⟩
theorem iS{k:Int}{Q:Hp->Prop}(h:H r=some (.lst xs))(e:ixN xs.length k=some j)(q:Q (upd H r (.lst (xs.set j v)))):pY (.ref r) (.int k) v H Q:=⟨r,xs,k,j,rfl,rfl,h,e,q⟩
theorem eO{ns:List Int}{k:Int}(h0:0<=k)(h1:k.toNat<ns.length):L2.atI (ns.map V.int) k=some (.int ns[k.toNat]):=by
 obtain⟨n,rfl⟩:=Aq h0;have h1:n<ns.length:=h1;exact eP (by rw[zB,zA h1];rfl)
theorem xq{b:Bool}{A B:Prop}(h:b=true)(a:A):if b=true then A else B:=by rw[if_pos h];exact a
theorem xt{b:Bool}{A B:Prop}(h:b=false)(x:B):if b=true then A else B:=by rw[if_neg (by rw[h];decide)];exact x
theorem sf{l:Int}(h:l≠0):decide (V.int l=V.int 0)=false:=decide_eq_false fun z=>h (by injection z)
theorem Grow.turn{o:HO}(s:aW F H)(ra:x_ (some r) F H)(h:RO F o):Grow (some r) F H F (upd H r o):=by
 have fr:F r=none:=(ra r rfl).1;have neF:∀b u,F b=some u->b≠r:=fun b u q z=>by subst z;rw[fr]at q;cases q
 refine⟨fun b u q n=>by rw[upd_ne (fun z=>n (by rw[z]))];exact q,.refl F,fun b u q=>by rw[upd_ne (neF b u q)];exact s b u q,fun _ _ _=>rfl,fun y z=>?_⟩;cases z;exact⟨fr,⟨o,ai,h⟩⟩
section
variable{P:yT}{w:zp}{K:W.Frag}{mg:Str->Option yG}{base:Heap}{rl:Option Addr}{x:Str}{st:Stmt}{N ps:List Str}{k:Nat}{Pd:List W->(yF->Prop)->Prop}
theorem Dfn.hand(Fn:FnIn K mg x st ps)(S:FnScope N ps (defScope st))(mono:∀ws Q Q',(∀d,Q d->Q' d)->Pd ws Q->Pd ws Q')(len:∀ws Q,Pd ws Q->ws.length=ps.length)
 (h:∀(f:Addr)(cdv:yG)(A:zd)(outer:List Env)(s:yH)(H:Hp)(E:XK) vs ws F (Q:yF->Prop) (Qv:VK),Room k (A.deeper (Bp x (defScope st) s.heap.objs.size f cdv))->aW F H->x_ rl F H->cI K rl F H vs ws->Pd ws Q->(∀v F' H' d,Grow rl F H F' H'->Rep K F' v d->Q d->Qv v H') ->
  ∃T,yd (gE yA P w K mg base N x (defScope st) f cdv A outer s H E).nox (defBody st) T/\T {nx:=fun _ H'=>Qv .non H',rt:=Qv} (start N vs) H):Dfn P w K mg base rl x ps (k+1) Pd:=by
 obtain⟨f,fd,hm,F,hb⟩:=Fn.ex;refine⟨mono,f,fd,hm,F.kp,hb,?_⟩;refine F.ok S (fun vs H Q E ⟨F,ws,_,_,r,_,q⟩=>(AW r).trans (len ws _ q)) fun cdv A outer s H vs Q E hr h=>?_;obtain⟨F,ws,sm,ra,r,ok,q⟩:=h;exact h f cdv A outer s H E vs ws F _ Q hr sm ra r q fun v F' H' d g rp qd=>qd v F' H' g rp
end
end L2.VL
namespace L2.TI
section
variable{prog:yT}{w:zp}{A:zd}{E:yG->yH->Prop}{s:yH}{t:Addr}{vs:List yG}{ns:List Int}{k:Int}{tok:Tok}{j:Nat}
theorem jX:∀{vs:List yG}{ns:List Int}{i:Nat}{n:Int},CN vs ns->ns[i]?=some n->∃u,vs[i]?=some (.int n u)
 | _,_,_,_,.nil,e=>by simp at e
 | _,_,0,_,.cons n t r,e=>by simp at e;subst e;exact⟨t,rfl⟩
 | _,_,i+1,_,.cons n t r,e=>by
   obtain⟨u,h⟩:=jX (i:=i) r (by simpa using e);exact⟨u,by simpa using h⟩
theorem scan{Q:Option Fin×Unit->yH->Prop}(hI:CN vs ns)(hj:ns[j]?=some k)(hno:∀m,m<j->ns[m]?≠some k)(q:Q (some (.done (.ret (.int j s.toks))),()) {s with toks:=s.toks+1}) :
 ∀ len start:Nat,start<=j->j<start+len->zc (zh prog w) A (forIn (List.range' start len) ((none,()):Option Fin×Unit) fun(i:Nat)(_:Option Fin×Unit) =>
   match vs.toArray[i]? with
   | some y=>do
     let b <- eqBool y (AK k tok)
     if b=true then do
      let r <- retInt (i:Int)
      pure (ForInStep.done (some r,()))
     else pure (AE (none,()))
   | _=>pure (AE (none,()))) Q E s
 | 0,start,h1,h2=>by omega
 | len+1,start,h1,h2=>by
   rw[List.range'_succ,Cg];have hl:start<ns.length:=by have:=(yU.mp hj).1;omega
   obtain⟨u,hu⟩:=jX (i:=start) (n:=ns[start]) hI (zA hl);have hv:vs.toArray[start]?=some (.int ns[start] u):=by simpa using hu
   refine yJ ?_;rw[hv];refine yJ (Be ?_);by_cases e:ns[start]=k
   · have es:start=j:=by
       rcases Nat.lt_or_eq_of_le h1 with z|z
       · exact absurd (by rw[zA hl,e]) (hno start z)
       · exact z
     subst es;rw[if_pos (by simpa using e)];exact yJ (yJ (wpAny_mkInt (yX (yX (yX q)))))
   · rw[if_neg (by simpa using e)];refine yX ?_;have ne:start≠j:=fun z=>by subst z;rw[zA hl]at hj;exact e (zg hj)
     exact scan hI hj hno q len (start+1) (by omega) (by omega)
theorem body{R:Result->yH->Prop}(tp:IsTup s.heap t vs.toArray)(hI:CN vs ns)(hj:ns[j]?=some k)(hno:∀m,m<j->ns[m]?≠some k)
 (q:R (.ok (.ret (.int j s.toks))) {s with toks:=s.toks+1}) :
 zc (zh prog w) A.in1 (Builtin.«tuple.index» ⟨[.ref t,.int k tok],[]⟩) (fun fin s'=>match fin with | .done f=>R (.ok f) s' | .again c'=>c'.quiet=true/\BV (zh prog w) A c' R s') (fun e s'=>R (.error e) s') s:=by
 unfold Builtin.«tuple.index»;show zc _ _ (do let z <- Builtin.Tuple.tupleItemsOf (.ref t);_) _ _ s;refine yJ (tupleItemsOf_ tp ?_);refine yJ (yX (yJ (yX ?_)));dsimp only;rw[Std.Legacy.Range.forIn_eq_forIn_range']
 have hl:j<vs.toArray.size:=by
  have h1:=(yU.mp hj).1;have h2:=hI.length;simp only[yL];omega
 refine yJ (scan hI hj hno ?_ _ 0 (zQ _) ?_)
 · exact yX q
 · show j<0+Std.Legacy.Range.size _;simp[Std.Legacy.Range.size];simpa using hl
end
end L2.TI
namespace L2
section
variable{X:Cx}
end
end L2
namespace L2.VL
section
variable{X:Cx}{rl:Option Addr}{a b c o e:Expr}{es:List Expr}{fa fb:TV}{fs:xR}{pos p apos cpos:Pos}{ρ:En}
end
noncomputable def fr(q:Rat):yF:=.tuple [.int q.num,.int q.den]
theorem fZ{r:Rat}(h:fr q=fr r):q=r:=by
 simp only[fr,zz,yS,AT,and_true]at h;exact Rat.ext h.1 (by omega)
theorem cA(n:Int)(d:Nat)(h:d≠0):nV n d=fr (BY n d h):=by
 unfold nV fr;rw[Rat.normalize_eq];have g:(zk n d:Int)=((n.natAbs.gcd d:Nat):Int):=by simp[zk]
 have gp:0<n.natAbs.gcd d:=Nat.gcd_pos_of_pos_right _ (by omega);have e1:n.fdiv (zk n d)=n / ((n.natAbs.gcd d:Nat):Int):=by rw[g,z6 _ (by omega)]
 have e2:(d:Int).fdiv (zk n d)=((d / n.natAbs.gcd d:Nat):Int):=by rw[g,z6 _ (by omega),Int.natCast_ediv]
 rw[e1,e2]
theorem dh{a:Int}(hb:0<b):nV a b=fr ((a:Rat) / (b:Rat)):=by
 obtain⟨d,rfl⟩:=Aq (show 0<=b by omega);rw[cA a d (by omega)];congr 1;have:(BY a d (by omega))=mkRat a d:=by rw[Rat.normalize_eq_mkRat]
 rw[this,Rat.mkRat_eq_div];rfl
theorem q0(q r:Rat):nV (q.num*r.den+r.num*q.den) (q.den*r.den)=fr (q+r):=by
 have:=cA (q.num*r.den+r.num*q.den) (q.den*r.den) (Co q.den_nz r.den_nz);rw[Cp]at this;rw[this,Rat.add_def]
theorem qY(q r:Rat):nV (q.num*r.den-r.num*q.den) (q.den*r.den)=fr (q-r):=by
 have:=cA (q.num*r.den-r.num*q.den) (q.den*r.den) (Co q.den_nz r.den_nz);rw[Cp]at this;rw[this,Rat.sub_def]
theorem qZ(q r:Rat):nV (q.num*r.num) (q.den*r.den)=fr (q*r):=by
 have:=cA (q.num*r.num) (q.den*r.den) (Co q.den_nz r.den_nz);rw[Cp]at this;rw[this,Rat.mul_def]
noncomputable def wZ(n:Nat)(q:Rat):Prop:=q.num.natAbs<2^n/\q.den<2^n
theorem wZ.mono{m:Nat}(h:wZ n q)(hm:n<=m):wZ m q:=⟨yK h.1 (za (by decide) hm),yK h.2 (za (by decide) hm)⟩
theorem ku{i:Int}(h:i.natAbs<2^2000):yB i:=yK h (za (by decide) (by decide))
theorem wZ.bn(h:wZ 2000 q):yB q.num:=ku h.1
theorem wZ.bd(h:wZ 2000 q):yB (q.den:Int):=ku (by rw[zV];exact h.2)
theorem cG(q r:Rat):(0:Int)<(q.den:Int)*(r.den:Int):=Bs (by have:=q.den_nz;omega) (by have:=r.den_nz;omega)
theorem dq{r:Rat}(h:wZ 2000 q)(h':wZ 2000 r):((q.den:Int)*(r.den:Int)).natAbs<2^8000:=by
 rw[Bb,zV,zV];have:q.den*r.den<2^2000*2^2000:=Nat.mul_lt_mul'' h.2 h'.2;rw[<- Nat.pow_add]at this;exact yK this (za (by decide) (by decide))
inductive Sd where
 | to (t:Rat)|from(a b:Rat)|round (a b:Rat)
noncomputable def Sd.last:Sd->Rat
 | .to t=>t | .from _ b=>b | .round _ b=>b
noncomputable def wS:Sd->yF
 | .to t=>.tuple [.str "to", fr t]
 | .from a b=>.tuple [.str "from", fr a,fr b]
 | .round a b=>.tuple [.str "round", fr a,fr b]
noncomputable def mx(q r:Rat):Rat:=if q<r then r else q
noncomputable def mn(q r:Rat):Rat:=if q<r then q else r
theorem fr0:pr 0 1=fr 0:=rfl
theorem fr1:pr 1 1=fr 1:=rfl
theorem vS:wZ 60 0:=⟨by decide,by decide⟩
theorem vF:wZ 60 1:=⟨by decide,by decide⟩
theorem gA{n:Int}{d:Nat}(hd:d≠0)(h1:n.natAbs<2^k)(h2:d<2^k):wZ k (BY n d hd):=by
 rw[Rat.normalize_eq];refine⟨?_,BE (Nat.div_le_self _ _) h2⟩;show(n / ((n.natAbs.gcd d:Nat):Int)).natAbs<2^k;have hdv:((n.natAbs.gcd d:Nat):Int)∣n:=Int.ofNat_dvd_left.mpr (Nat.gcd_dvd_left _ _);rw[Int.natAbs_ediv_of_dvd hdv,zV];exact BE (Nat.div_le_self _ _) h1
theorem bI{a b m:Nat}(h1:a<2^m)(h2:b<2^n):a*b<2^(m+n):=by
 rw[Nat.pow_add];exact Nat.mul_lt_mul'' h1 h2
theorem hX{m:Nat}{r:Rat}(h:wZ m q)(h':wZ n r):wZ (m+n) (q*r):=by
 rw[Rat.mul_def];refine gA _ ?_ (bI h.2 h'.2);rw[Bb];exact bI h.1 h'.1
theorem mm{m:Nat}{r:Rat}(h:wZ m q)(h':wZ n r):wZ (m+n+1) (q+r):=by
 rw[Rat.add_def];have a1:=bI h.1 h'.2;have a2:=bI h'.1 h.2;rw[Nat.add_comm n m]at a2;have a3:=bI h.2 h'.2;refine gA _ ?_ (yK a3 (za (by decide) (by omega)));have t:=Int.natAbs_add_le (q.num*r.den) (r.num*q.den);rw[Bb,Bb,zV,zV]at t;rw[Nat.pow_succ];omega
theorem pL{m:Nat}{r:Rat}(h:wZ m q)(h':wZ n r):wZ (m+n+1) (q-r):=by
 rw[Rat.sub_eq_add_neg];exact mm h ⟨by rw[Rat.neg_num,Int.natAbs_neg];exact h'.1,h'.2⟩
theorem wZ.up(h:wZ 60 q):wZ 2000 q:=h.mono (by decide)
noncomputable def me(ss:List Sd):yF:=.tuple (ss.map wS)
noncomputable def xa(qs:List Rat):yF:=.tuple (qs.map fr)
noncomputable def nu(ps:List (List Rat)):yF:=.tuple (ps.map xa)
theorem at_last2{α:Type}(x y:α):L2.atI [x,y] (-1)=some y:=rfl
theorem at_last3{α:Type}(x y z:α):L2.atI [x,y,z] (-1)=some z:=rfl
theorem at_last1{α:Type}(x:α):L2.atI [x] (-1)=some x:=rfl
theorem iW{r:Rat}:fr q=fr r↔q=r:=⟨fZ,fun h=>by rw[h]⟩
theorem cZ{s t:Sd}:wS s=wS t↔s=t:=by
 constructor
 · intro h;have n1:¬(Aa "from" = Aa "round"):=by decide +kernel
   cases s<;>cases t<;>simp[wS,iW,n1,AC n1]at h ⊢ <;> first|exact h|exact(n1 h.1.symm).elim|exact(n1 h.1).elim
 · rintro rfl;rfl
theorem c8{a b:List Rat}:xa a=xa b↔a=b:=by
 unfold xa;rw[zz,bq fun _ _=>iW]
theorem cf{a b:List Sd}:me a=me b↔a=b:=by
 unfold me;rw[zz,bq fun _ _=>cZ]
theorem cc{a b:List (List Rat)}:nu a=nu b↔a=b:=by
 unfold nu;rw[zz,bq fun _ _=>c8]
theorem dH{a b:List Rat}:a.map fr=b.map fr↔a=b:=bq fun _ _=>iW
theorem item_fr0(q:Rat):itemAt (fr q) 0=some (.int q.num):=rfl
theorem item_fr1(q:Rat):itemAt (fr q) 1=some (.int q.den):=rfl
theorem tupD_pt(a:List Rat):tupD (xa a)=some (a.map fr):=rfl
theorem seqD_pt(a:List Rat):dN (xa a)=some (a.map fr):=rfl
theorem lenD_pt(a:List Rat):nX (xa a)=some a.length:=by show some (a.map fr).length=_;rw[yV]
theorem item_pt(a:List Rat)(i:Int):itemAt (xa a) i=(atI a i).map fr:=dv _ _ _
theorem tupD_bx(a:List Sd):tupD (me a)=some (a.map wS):=rfl
theorem seqD_bx(a:List Sd):dN (me a)=some (a.map wS):=rfl
theorem lenD_bx(a:List Sd):nX (me a)=some a.length:=by show some (a.map wS).length=_;rw[yV]
theorem item_bx(a:List Sd)(i:Int):itemAt (me a) i=(atI a i).map wS:=dv _ _ _
theorem tupD_ps(a:List (List Rat)):tupD (nu a)=some (a.map xa):=rfl
theorem seqD_ps(a:List (List Rat)):dN (nu a)=some (a.map xa):=rfl
theorem lenD_ps(a:List (List Rat)):nX (nu a)=some a.length:=by show some (a.map xa).length=_;rw[yV]
theorem item_ps(a:List (List Rat))(i:Int):itemAt (nu a) i=(atI a i).map xa:=dv _ _ _
theorem kind_pt(a:List Rat):cF (xa a)=cF (.tuple []):=rfl
theorem kind_bx(a:List Sd):cF (me a)=cF (.tuple []):=rfl
noncomputable def qd(a b:Int):Rat:=(a:Rat) / (b:Rat)
theorem ib{a:Int}(hb:0<b):y8 [.int (a.fdiv (zk a b)),.int (b.fdiv (zk a b))]=fr (qd a b):=dh hb
theorem jB(q:Rat):qd q.num q.den=q:=by
 unfold qd;have:=Rat.mkRat_self q;rw[Rat.mkRat_eq_div]at this;exact this
theorem p7(q r:Rat):qd (q.num*r.den+r.num*q.den) (q.den*r.den)=q+r:=fZ (by rw[<- q0];exact(dh (cG q r)).symm)
theorem p4(q r:Rat):qd (q.num*r.den-r.num*q.den) (q.den*r.den)=q-r:=fZ (by rw[<- qY];exact(dh (cG q r)).symm)
theorem p6(q r:Rat):qd (q.num*r.num) (q.den*r.den)=q*r:=fZ (by rw[<- qZ];exact(dh (cG q r)).symm)
theorem eK(q:Rat):(0:Int)<(q.den:Int):=by have:=q.den_nz;omega
theorem sO{a:Int}(hb:0<b)(h1:a.natAbs<2^k)(h2:b.natAbs<2^k):wZ k (qd a b):=by
 obtain⟨d,rfl⟩:=Aq (show 0<=b by omega);have hd:d≠0:=by omega
 have e:qd a d=BY a d hd:=fZ (by rw[<- cA,dh (by omega)];rfl);rw[e];exact gA _ h1 (by simpa using h2)
theorem at2(x y z:α)(r:List α):L2.atI (x::y::z::r) 2=some z:=by
 rw[show(2:Int)=((2:Nat):Int)from rfl];exact eP rfl
theorem p5{a:Int}(hb:0<b)(h:0<=a):0<=qd a b:=by
 unfold qd;have h1:(0:Rat)<=(a:Rat):=by exact_mod_cast h
 have h2:(0:Rat)<(b:Rat):=by exact_mod_cast hb
 rw[Di];exact Rat.mul_nonneg h1 (Rat.le_of_lt (Rat.inv_pos.mpr h2))
theorem lU{a:Int}(hb:0<b)(h:a<b):qd a b<1:=by
 unfold qd;have h1:(a:Rat)<(b:Rat):=by exact_mod_cast h
 have h2:(0:Rat)<(b:Rat):=by exact_mod_cast hb
 exact(Rat.div_lt_iff h2).mpr (by rw[Rat.one_mul];exact h1)
noncomputable def yC:=yE @item_fr0 (yE @item_fr1 (yE @tupD_pt (yE @seqD_pt (yE @lenD_pt (yE @item_pt (yE @tupD_bx (yE @seqD_bx (yE @lenD_bx (yE @item_bx (yE @tupD_ps (yE @seqD_ps (yE @lenD_ps (yE @item_ps (yE @at_last1 (yE @at_last2 (yE @at_last3 (yE @kind_pt (yE @kind_bx (yE @fr0 (@fr1))))))))))))))))))))
noncomputable def tv(b:Int)(ds:List Int):Int:=ds.foldl (fun t d=>t*b+d) 0
noncomputable def Fx(b:Int)(N:Nat)(q:Rat):Prop:=∃(T:Int)(k:Nat),q=qd T (b^k)/\0<=T/\T<b^k/\b^k<2^N
section
variable{X:Cx}{rl:Option Addr}{e:Expr}{fa:TV}{pos dpos q1 q2 q3 q4:Pos}{ρ:En}{j1 j2 j3 j4:Nat}{a b x y:Str}
end
theorem gT:lP "int" = true:=by decide
theorem gU:lP "bool" = true:=by decide
theorem lO:lP "tuple" = true:=by decide
theorem l8(a b:Rat):zH (fr a) (fr b)=decide (a=b):=by
 unfold fr;simp only[zH,yF.eqvAll];by_cases h:a=b
 · subst h;simp[zH]
 · have:¬(a.num=b.num/\a.den=b.den):=fun z=>h (Rat.ext z.1 z.2);simp only[h,decide_false,Bool.and_true,zH];rw[Bool.and_eq_false_iff];by_cases h1:a.num=b.num
   · right
     have:a.den≠b.den:=fun z=>this ⟨h1,z⟩;simp;omega
   · left;simpa using h1
theorem fv(q:Rat):zF (fr q)=true:=by
 simp[zF,fr,Ac,zL,AF,zS]
theorem l7(q:Rat):zk q.num q.den=1:=by
 have:=q.reduced;simpa[zk,Nat.Coprime]using this
theorem fS{d:yF}(h:dE d "tuple" = true):∃xs,d = .tuple xs:=by cases d<;>simp[dE,wB]at h<;>exact⟨_,rfl⟩
theorem mW{xs:List yF}(h:∀d∈xs,Sm 2 68 d)(hl:xs.length<=4):Sm 4 276 (.tuple xs)/\Sm 4 276 (.list xs):=Sm.seq h hl
theorem fg{x y:yF}(hx:Sm 2 68 x)(hy:Sm 2 68 y):Sm 4 276 (.tuple [x,y]):=by
 refine(mW (fun d hd=>?_) (by simp)).1;simp only[zo,z9,or_false]at hd;rcases hd with rfl|rfl
 · exact hx
 · exact hy
noncomputable def fV(d:yF)(m:Int):Bool:=match d with
 | .int k=>decide (0<=k)&&decide (k<m)
 | _=>false
theorem fU(i:Int):bD (.int i)=true:=l5.mpr ⟨i,rfl⟩
theorem lh{d:yF}{m:Int}(h:bD d=false):fV d m=false:=by
 cases d<;>first|rfl|(rw[fU]at h;cases h)
noncomputable def Tm(n:Nat)(d:yF):Prop:=d.canLay0=true/\d.depth<=n
theorem lR{n:Nat}:∀{xs:List yF},(∀x∈xs,Tm n x)->zL xs=true/\zS xs<=n
 | [],_=>⟨rfl,by simp[zS]⟩
 | x::xs,h=>by
   obtain⟨a,b⟩:=lR fun y m=>h y (yR x m);obtain⟨c,d⟩:=h x yY;simp[zL,zS,a,c];omega
theorem Tm.lst{n:Nat}{xs:List yF}(h:∀x∈xs,Tm n x):Tm (n+1) (.list xs):=by
 obtain⟨a,b⟩:=lR h;exact⟨by simp[Ac,a],by simp[AF];omega⟩
theorem pF{n:Nat}:∀{xs:List yF},zL xs=true->zS xs<=n->∀x∈xs,Tm n x
 | y::xs,a,b,x,m=>by
   simp[zL,zS]at a b;rcases zo.mp m with rfl|m
   · exact⟨a.1,by omega⟩
   · exact pF a.2 (by omega) x m
theorem Tm.ofTup{xs:List yF}(h:Tm n (.tuple xs)):∀x∈xs,Tm n x:=by
 obtain⟨a,b⟩:=h;simp[Ac]at a;simp[AF]at b;exact pF a (by omega)
theorem jU{d:yF}{m:Int}(h:fV d m=true):∃k,d = .int k/\0<=k/\k<m:=by
 cases d<;>first|cases h|skip
 rename_i k;refine⟨k,rfl,?_⟩;simpa[fV]using h
theorem dJ{xs:List yF}(h:xs.length=2):∃x y,xs=[x,y]:=match xs,h with | [x,y],_=>⟨x,y,rfl⟩
end L2.VL
namespace L2
section
variable{X:Cx}{kx vx tg iter:Expr}{ifs:List Expr}{scope:Scope}{pos:Pos}{wi:TI}{g:CompA->TG}{tt:CompA->TT}{tk te:CompA->TE}
end
section
variable{prog:yT}{w:zp}{A:zd}{E:yG->yH->Prop}
end
section
variable{X:Cx}
end
end L2
namespace L2.VL
section
variable{K:W.Frag}{F:Hp}{us:List (yo×V)}{kvs:List (yo×yF)}
end
section
variable{X:Cx}{rl:Option Addr}{kx vx tg iter:Expr}{ifs:List Expr}{scope:Scope}{pos:Pos}{fi:En->(List yF->Prop)->Prop}{g:xU}{ft:TB}{fk fe:TV}
end
section
variable{α:Type}{b:yF->Mo (Option (yo×yF))}
end
section
variable{X:Cx}{rl:Option Addr}{a c e o i:Expr}{es:List Expr}{fa fb:TV}{fs:xR}{pos p kpos:Pos}{ρ:En}
end
end L2.VL
namespace L2
end L2
namespace L2.VL
section
variable{X:Cx}{rl:Option Addr}{tg:Expr}{fa:TV}{ρ:En}
end
end L2.VL
namespace L2
variable{X:Cx}
end L2
namespace L2.VL
section
variable{X:Cx}{rl:Option Addr}{a e:Expr}{es:List Expr}{fs:xR}{pos:Pos}
end
theorem mT{xs:List yF}(h:xZ (.tuple xs))(f:yF->Option yF)(hf:∀x y,f x=some y->y=x):zF (.list (xs.filterMap f))=true:=by
 have h1:Tm 60 (.tuple xs):=by
  obtain⟨_,b,_⟩:=oM.facts _ h.1;exact⟨b,h.2.1⟩
 have h2:=h1.ofTup
 have h3:Ac (.list (xs.filterMap f))=true/\(BX (xs.filterMap f)).depth<=62:=by
  have:Tm 61 (.list (xs.filterMap f)):=Tm.lst fun y my=>by
   obtain⟨x,mx,e⟩:=BB.mp my;rw[hf x y e];exact h2 x mx
  exact⟨this.1,zx this.2 (by decide)⟩
 simp[zF,h3.1];omega
end L2.VL
namespace L2.KS
open PySem PySem.W PyProof.Rows
noncomputable def Kp{α:Type}(n:Nat)(c:Nat->Nat->Bool):KasT α->(α->Prop)->Prop
 | .ret a,R=>R a
 | .ask i j k,R=>i<n/\j<n/\Kp n c (k (c i j)) R
theorem Kp.bind{α β:Type}{n:Nat}{c:Nat->Nat->Bool}{f:α->KasT β}{R:β->Prop}:∀{t:KasT α},Kp n c t (fun a=>Kp n c (f a) R)->Kp n c (t.bind f) R
 | .ret _,h=>h
 | .ask _ _ k,⟨h1,h2,h⟩=>⟨h1,h2,Kp.bind (t:=k _) h⟩
theorem Kp.mono{α:Type}{n:Nat}{c:Nat->Nat->Bool}{R R':α->Prop}(hr:∀a,R a->R' a):∀{t:KasT α},Kp n c t R->Kp n c t R'
 | .ret _,h=>hr _ h
 | .ask _ _ k,⟨h1,h2,h⟩=>⟨h1,h2,Kp.mono hr (t:=k _) h⟩
structure Ord (n:Nat) (c:Nat->Nat->Bool):Prop where
 asym:∀i j,i<n->j<n->c i j=true->c j i=false
 trans:∀i j k,i<n->j<n->k<n->c j i=false->c k j=false->c k i=false
section
variable{n:Nat}{c:Nat->Nat->Bool}
abbrev at_(p:Array Nat)(i:Nat):Nat:=p.getD i 0
noncomputable def Ok(n:Nat)(p:Array Nat):Prop:=p.toList.Perm (zw n)
theorem Ok.size(h:Ok n p):p.size=n:=by have:=h.length_eq;simpa using this
theorem Ok.lt(h:Ok n p)(hi:i<n):at_ p i<n:=by
 have hs:=h.size
 have e:at_ p i=p.toList[i]'(by simpa[hs]using hi):=by
  unfold at_
  rw[zZ,AO (by omega)];simp
 rw[e];exact Au.mp (h.mem_iff.mp (B5 _))
theorem Ok.perm{q:Array Nat}(h:Ok n p)(hq:q.Perm p):Ok n q:=(Array.perm_iff_toList_perm.mp hq).trans h
theorem kv{q:Array Nat}(h:p[i]?=q[j]?):at_ p i=at_ q j:=by
 unfold at_
 rw[zZ,zZ,h]
theorem b8(hj:j<=p.size)(k:Nat):at_ (Dj p i j) k=if i<=k/\k<j then at_ p (i+j-1-k)else at_ p k:=by
 have e:=getElem?_mirror_all (xs:=p) (i:=i) hj k;unfold Dj;by_cases h:i<=k/\k<j
 · rw[if_pos h]at e ⊢;exact kv e
 · rw[if_neg h]at e ⊢;exact kv e
theorem gY(h:Ok n p)(i j:Nat):Ok n (Dj p i j):=h.perm (mirror_perm ..)
theorem ma{s d:Nat}(hs:s<p.size)(hd:d<=s)(k:Nat):at_ (bubble p s d) k=if k=s-d then at_ p s else if s-d<k/\k<=s then at_ p (k-1)else at_ p k:=by
 have e:=getElem?_bubble (xs:=p) hs d hd k;by_cases h1:k=s-d
 · rw[if_pos h1]at e ⊢;exact kv e
 · rw[if_neg h1]at e ⊢;by_cases h2:s-d<k/\k<=s
   · rw[if_pos h2]at e ⊢;exact kv e
   · rw[if_neg h2]at e ⊢;exact kv e
noncomputable def As(c:Nat->Nat->Bool)(p:Array Nat)(b:Nat):Prop:=∀i j,i<=j->j<b->c (at_ p j) (at_ p i)=false
noncomputable def De(c:Nat->Nat->Bool)(p:Array Nat)(b:Nat):Prop:=∀i j,i<=j->j<b->c (at_ p i) (at_ p j)=false
variable(O:Ord n c)
include O
theorem xu(h:i<n):c i i=false:=by
 cases e:c i i with
 | false=>rfl
 | true=>have z:=O.asym i i h h e;rw[e]at z;cases z
theorem rq(h:Ok n p)(h1:1<=n):As c p 1:=fun i j hij hj=>by
 have:i=j:=by omega
 subst this;exact xu O (h.lt (by omega))
theorem oA{b:Nat}(h:Ok n p)(hb:b<n)(b1:1<=b)(ha:As c p b)(hc:c (at_ p b) (at_ p (b-1))=false):As c p (b+1):=fun i j hij hj=>by
 by_cases e:j=b
 · subst e;by_cases e2:i=j
   · subst e2;exact xu O (h.lt hb)
   · exact O.trans _ _ _ (h.lt (by omega)) (h.lt (by omega)) (h.lt hb) (ha i (j-1) (by omega) (by omega)) hc
 · exact ha i j hij (by omega)
theorem eL{b:Nat}(h:Ok n p)(hb:b<n)(b1:1<=b)(ha:De c p b)(hc:c (at_ p (b-1)) (at_ p b)=false):De c p (b+1):=fun i j hij hj=>by
 by_cases e:j=b
 · subst e;by_cases e2:i=j
   · subst e2;exact xu O (h.lt hb)
   · exact O.trans _ _ _ (h.lt hb) (h.lt (by omega)) (h.lt (by omega)) hc (ha i (j-1) (by omega) (by omega))
 · exact ha i j hij (by omega)
theorem ky{p:Array Nat}(h:Ok n p):∀(f b:Nat),1<=b->b+f=n->As c p b->Kp n c (kas_asc p f b) fun m=>b<=m/\m<=n/\As c p m/\(m<n->c (at_ p m) (at_ p (m-1))=true)
 | 0,b,b1,hf,ha=>⟨y7 _,by omega,ha,fun z=>by omega⟩
 | f+1,b,b1,hf,ha=>by
   refine⟨h.lt (by omega),h.lt (by omega),?_⟩
   cases e:c (at_ p b) (at_ p (b-1))with
   | true=>dsimp only;rw[if_pos rfl];exact⟨y7 _,by omega,ha,fun _=>e⟩
   | false =>
     dsimp only;rw[if_neg (by decide)];exact(ky h f (b+1) (by omega) (by omega) (oA O h (by omega) b1 ha e)).mono fun m ⟨h1,h2,h3⟩=>⟨by omega,h2,h3⟩
noncomputable def Al(c:Nat->Nat->Bool)(p:Array Nat)(b q:Nat):Prop:=q+1<=b/\∀i j,b-(q+1)<=i->i<b->b-(q+1)<=j->j<b->c (at_ p i) (at_ p j)=false
theorem l_{b q:Nat}(h:Ok n p)(hb:b<=n)(hd:De c p b)(ha:Al c p b q):De c (Dj p (b-(q+1)) b) b:=fun i j hij hj=>by
 have hs:=h.size;obtain⟨qb,al⟩:=ha;rw[b8 (by omega),b8 (by omega)];by_cases c1:b-(q+1)<=i/\i<b
 · rw[if_pos c1,if_pos ⟨by omega,hj⟩];exact al _ _ (by omega) (by omega) (by omega) (by omega)
 · rw[if_neg c1];by_cases c2:b-(q+1)<=j/\j<b
   · rw[if_pos c2];exact hd _ _ (by omega) (by omega)
   · rw[if_neg c2];exact hd _ _ hij hj
theorem eJ:∀(f:Nat)(p:Array Nat)(b q:Nat),Ok n p->1<=b->b+f=n->De c p b->Al c p b q->Kp n c (kas_desc f p b q) fun r=>Ok n r.1/\1<=r.2.1/\r.2.1<=n/\De c r.1 r.2.1/\Al c r.1 r.2.1 r.2.2
 | 0,p,b,q,h,b1,hf,hd,ha=>⟨h,b1,(show b<=n by omega),hd,ha⟩
 | f+1,p,b,q,h,b1,hf,hd,ha=>by
   have hs:=h.size;refine⟨h.lt (by omega),h.lt (by omega),?_⟩
   have one:∀{p':Array Nat},Ok n p'->Al c p' (b+1) 0:=fun h'=>⟨by omega,fun i j h1 h2 h3 h4=>by
    have:i=j:=by omega
    subst this
    exact xu O (h'.lt (by omega))⟩
   cases e:c (at_ p b) (at_ p (b-1))with
   | true =>
     dsimp only;rw[if_pos rfl];have e':=O.asym _ _ (h.lt (by omega)) (h.lt (by omega)) e;by_cases hq:q>0
     · rw[if_pos hq];have h':=gY h (b-(q+1)) b;refine eJ f _ (b+1) 0 h' (by omega) (by omega) (eL O h' (by omega) b1 (l_ O h (by omega) hd ha) ?_) (one h');rw[b8 (by omega),b8 (by omega),if_neg (show ¬(b-(q+1)<=b/\b<b) by omega),if_pos ⟨by have:=ha.1;omega,by omega⟩];have a:=ha.2 (b-(q+1)+b-1-(b-1)) (b-1) (by omega) (by have:=ha.1;omega) (by omega) (by omega);exact O.trans _ _ _ (h.lt (by omega)) (h.lt (by omega)) (h.lt (by have:=ha.1;omega)) e' a
     · rw[if_neg hq]
       exact eJ f _ (b+1) 0 h (by omega) (by omega) (eL O h (by omega) b1 hd e') (one h)
   | false =>
     dsimp only;rw[if_neg (by decide)];refine⟨h.lt (by omega),h.lt (by omega),?_⟩
     cases e2:c (at_ p (b-1)) (at_ p b)with
     | true=>dsimp only;rw[if_pos rfl];exact⟨h,b1,(show b<=n by omega),hd,ha⟩
     | false =>
       dsimp only;rw[if_neg (by decide)];refine eJ f _ (b+1) (q+1) h (by omega) (by omega) (eL O h (by omega) b1 hd e2) ⟨by have:=ha.1;omega,fun i j h1 h2 h3 h4=>?_⟩;have qb:=ha.1
       have to:∀i,b-(q+1)<=i->i<b->c (at_ p i) (at_ p b)=false/\c (at_ p b) (at_ p i)=false:=fun i h1 h2 =>
        ⟨O.trans _ _ _ (h.lt (by omega)) (h.lt (by omega)) (h.lt (by omega)) e2 (ha.2 i (b-1) h1 h2 (by omega) (by omega)),O.trans _ _ _ (h.lt (by omega)) (h.lt (by omega)) (h.lt (by omega)) (ha.2 (b-1) i (by omega) (by omega) h1 h2) e⟩
       by_cases ci:i=b
       · by_cases cj:j=b
         · subst ci;subst cj;exact xu O (h.lt (by omega))
         · subst ci;exact(to j (by omega) (by omega)).2
       · by_cases cj:j=b
         · subst cj;exact(to i (by omega) (by omega)).1
         · exact ha.2 i j (by omega) (by omega) (by omega) (by omega)
theorem rn{b:Nat}(h:Ok n p)(hb:b<=n)(hd:De c p b):As c (Dj p 0 b) b:=fun i j hij hj=>by
 have hs:=h.size;rw[b8 (by omega),b8 (by omega),if_pos ⟨by omega,hj⟩,if_pos ⟨by omega,by omega⟩];exact hd _ _ (by omega) (by omega)
noncomputable def Cn(n:Nat)(c:Nat->Nat->Bool)(r:Nat×Array Nat):Prop:=Ok n r.2/\1<=r.1/\r.1<=n/\As c r.2 r.1
theorem jo{b:Nat}(h:Ok n p)(b1:1<=b)(hb:b<=n)(hd:De c p b):Kp n c (kas_tail3 b n p) (Cn n c):=by
 have h':=gY h 0 b;exact Kp.bind ((ky O h' (n-b) b b1 (by omega) (rn O h hb hd)).mono fun m ⟨h1,h2,h3,_⟩=>⟨h',by show 1<=m;omega,h2,h3⟩)
theorem dk{b:Nat}(h:Ok n p)(b1:1<=b)(hb:b<n)(hd:De c p b)(hc:c (at_ p (b-1)) (at_ p b)=false):Kp n c (kas_descPart b n p) (Cn n c):=by
 refine Kp.bind ((eJ O (n-(b+1)) p (b+1) 0 h (by omega) (by omega) (eL O h hb b1 hd hc) ⟨by omega,fun i j h1 h2 h3 h4=>?_⟩).mono ?_)
 · have:i=j:=by omega
   subst this;exact xu O (h.lt (by omega))
 · rintro⟨p',b',q'⟩ ⟨h',c1,c2,hd',ha'⟩;show Kp n c (if q'>0 then kas_tail3 b' n (Dj p' (b'-(q'+1)) b')else kas_tail3 b' n p') (Cn n c);split
   · exact jo O (gY h' _ _) c1 c2 (l_ O h' c2 hd' ha')
   · exact jo O h' c1 c2 hd'
theorem lA(h:Ok n p)(h1:1<=n):Kp n c (kas_count n p) (Cn n c):=by
 have hs:=h.size;refine Kp.bind ((ky O h (n-1) 1 (y7 _) (by omega) (rq O h h1)).mono ?_);rintro m ⟨m1,mn,ha,hl⟩;by_cases e:m=n
 · subst e;rw[if_pos (by simp)];exact⟨h,m1,mn,ha⟩
 · rw[if_neg (by simpa using e)];have hl:=hl (by omega);by_cases g:m>1
   · rw[if_pos g];refine⟨h.lt (by omega),h.lt (by omega),?_⟩
     cases e2:c (at_ p 0) (at_ p (m-1))with
     | true=>dsimp only;rw[if_pos rfl];exact⟨h,m1,mn,ha⟩
     | false =>
       dsimp only;rw[if_neg (by decide)]
       have al:∀i j,i<m->j<m->c (at_ p i) (at_ p j)=false:=fun i j hi hj=>by
        have a1:=ha 0 j (by omega) hj;have a2:=ha i (m-1) (by omega) (by omega);have a3:=O.trans _ _ _ (h.lt (by omega)) (h.lt (by omega)) (h.lt (by omega)) a2 e2;have a4:=ha 0 i (by omega) hi;have a5:=O.trans (at_ p j) (at_ p (m-1)) (at_ p 0) (h.lt (by omega)) (h.lt (by omega)) (h.lt (by omega)) (ha j (m-1) (by omega) (by omega)) e2;exact O.trans (at_ p j) (at_ p 0) (at_ p i) (h.lt (by omega)) (h.lt (by omega)) (h.lt (by omega)) a5 a4
       have h':=gY h 0 m;refine dk O h' m1 (by omega) (fun i j hij hj=>?_) ?_
       · rw[b8 (by omega),b8 (by omega),if_pos ⟨by omega,by omega⟩,if_pos ⟨by omega,by omega⟩];exact al _ _ (by omega) (by omega)
       · rw[b8 (by omega),b8 (by omega),if_neg (show ¬(0<=m/\m<m) by omega),if_pos ⟨by omega,by omega⟩];have b1:=O.asym _ _ (h.lt (by omega)) (h.lt (by omega)) hl;exact O.trans _ _ _ (h.lt (by omega)) (h.lt (by omega)) (h.lt (by omega)) b1 (al _ _ (by omega) (by omega))
   · rw[if_neg g];have m1':m=1:=by omega
     subst m1'
     exact dk O h (y7 _) (by omega) (fun i j hij hj=>by
      have:i=j:=by omega
      subst this
      exact xu O (h.lt (by omega))) (O.asym _ _ (h.lt (by omega)) (h.lt (by omega)) hl)
theorem ej{p:Array Nat}{k:Nat}(h:Ok n p)(hk:k<n)(ha:As c p k):∀(f l r:Nat),l<=r->r<=k->r-l<=f->(∀i,i<l->c (at_ p k) (at_ p i)=false)->(∀i,r<=i->i<k->c (at_ p i) (at_ p k)=false) ->
 Kp n c (kas_place p k f l r) fun m=>m<=k/\(∀i,i<m->c (at_ p k) (at_ p i)=false)/\∀i,m<=i->i<k->c (at_ p i) (at_ p k)=false
 | 0,l,r,lr,rk,hf,hl,hr=>⟨by omega,hl,fun i h1 h2=>hr i (by omega) h2⟩
 | f+1,l,r,lr,rk,hf,hl,hr=>by
   unfold kas_place;by_cases g:l ≥ r
   · rw[if_pos g];exact⟨by omega,hl,fun i h1 h2=>hr i (by omega) h2⟩
   · rw[if_neg g];refine⟨h.lt (by omega),h.lt (by omega),?_⟩
     cases e:c (at_ p k) (at_ p ((l+r) / 2))with
     | true =>
       dsimp only;rw[if_pos rfl];refine ej h hk ha f l ((l+r) / 2) (by omega) (by omega) (by omega) hl fun i h1 h2=>?_
       exact O.trans _ _ _ (h.lt (by omega)) (h.lt (by omega)) (h.lt (by omega)) (O.asym _ _ (h.lt (by omega)) (h.lt (by omega)) e) (ha _ i h1 h2)
     | false =>
       dsimp only;rw[if_neg (by decide)];refine ej h hk ha f ((l+r) / 2+1) r (by omega) rk (by omega) (fun i h1=>?_) hr;exact O.trans _ _ _ (h.lt (by omega)) (h.lt (by omega)) (h.lt (by omega)) (ha i ((l+r) / 2) (by omega) (by omega)) e
theorem mh:∀(f:Nat)(p:Array Nat)(k:Nat),Ok n p->k+f=n->As c p k->Kp n c (kas_bin f p k) fun q=>Ok n q/\As c q n
 | 0,p,k,h,hf,ha=>⟨h,by rw[show n=k by omega];exact ha⟩
 | f+1,p,k,h,hf,ha=>by
   have hs:=h.size;refine Kp.bind ((ej O h (by omega) ha k 0 k (by omega) (y7 _) (by omega) (fun i h1=>by omega) (fun i h1 h2=>by omega)).mono ?_);rintro l ⟨lk,hl,hr⟩;refine mh f _ (k+1) (h.perm (bubble_perm ..)) (by omega) fun i j hij hj=>?_;rw[ma (by omega) (by omega),ma (by omega) (by omega)];rw[show k-(k-l)=l by omega];by_cases j1:j=l
   · rw[if_pos j1];by_cases i1:i=l
     · rw[if_pos i1];exact xu O (h.lt (by omega))
     · rw[if_neg i1,if_neg (by omega)];exact hl i (by omega)
   · rw[if_neg j1];by_cases i1:i=l
     · rw[if_pos i1,if_pos ⟨by omega,by omega⟩];exact hr _ (by omega) (by omega)
     · rw[if_neg i1];by_cases j2:l<j/\j<=k
       · rw[if_pos j2];by_cases i2:l<i/\i<=k
         · rw[if_pos i2];exact ha _ _ (by omega) (by omega)
         · rw[if_neg i2];exact ha _ _ (by omega) (by omega)
       · rw[if_neg j2,if_neg (by omega)];exact ha _ _ hij (by omega)
theorem mU(h2:2<=n):Kp n c (kas_sort n) fun p=>Ok n p/\As c p n:=by
 refine Kp.bind ((lA O (p:=Bc (zw n)) (by unfold Ok;simp) (by omega)).mono ?_);rintro⟨m,p⟩ ⟨h,m1,mn,ha⟩;have h:Ok n p:=h;have m1:1<=m:=m1;have mn:m<=n:=mn;have ha:As c p m:=ha;show Kp n c (if m<n then kas_bin (n-max m 1) p (max m 1)else .ret p) _;by_cases g:m<n
 · rw[if_pos g];rw[show max m 1=m by omega];exact mh O (n-m) p m h (by omega) ha
 · rw[if_neg g];exact⟨h,by rw[show n=m by omega];exact ha⟩
end
open PySem PySem.W PyProof.Rows
theorem Kp.wp{α:Type}{n:Nat}{c:Nat->Nat->Bool}{R:α->Prop}{cmp:Nat->Nat->(Bool->yH->Prop)->yH->Prop}{s:yH}(hc:∀i j,i<n->j<n->∀C:Bool->yH->Prop,C (c i j) s->cmp i j C s):∀{t:KasT α},Kp n c t R->t.kasWp cmp (fun a s'=>s'=s/\R a) s
 | .ret _,h=>⟨rfl,h⟩
 | .ask i j k,⟨h1,h2,h⟩=>hc i j h1 h2 _ (Kp.wp hc (t:=k _) h)
section
variable{prog:yT}{w:zp}{A:zd}{E:yG->yH->Prop}{s:yH}{κ:SortKind}
noncomputable def rT(h:Heap)(a:Addr)(h':Heap):Prop:=∀b o,b≠a->h.get? b=some o->h'.get? b=some o
theorem mV{vs:List yG}{c:Nat->Nat->Bool}{P:PySem.Fin->yH->Prop}(ho:s.heap.get? a=some (Ai "list" vs.toArray n))(two:2<=vs.length)(most:vs.length<64)(O:Ord vs.length c)
 (kind:∀h',rT s.heap a h'->zc (zh prog w) A (keyKind' vs.toArray) (fun k s'=>k=κ/\s'={s with heap:=h' }) (fun _ _=>False) {s with heap:=h' })
 (ask:∀h',rT s.heap a h'->∀i j,i<vs.length->j<vs.length->∀C:Bool->yH->Prop,C (c i j) {s with heap:=h' }->zc (zh prog w) A (keyLt' κ (vs.getD i zq) (vs.getD j zq)) C (fun _ _=>False) {s with heap:=h' })
 (fin:∀p:Array Nat,Ok vs.length p->As c p vs.length->P (.done (.ret .none)) {s with heap:=sortedHeap s.heap a vs (Bc (p.toList.map fun i=>vs.getD i zq))}) :
 zc (zh prog w) A (Builtin.«list.sort» ⟨[.ref a],[]⟩) P E s:=by
 have la:=yN ho;have sz:=zD;have le:vs.toArray.size<=sizeLine:=by rw[yL];omega
 obtain⟨k1,o1⟩:∃k1,(s.heap.update a (Aw fun _=>(#[]:Array yG))).get? a=some (Ai "list" #[] k1):=⟨_,AG ho fun _=>#[]⟩;generalize hH:((s.heap.update a (Aw fun _=>(#[]:Array yG))).push (Ai "tuple" vs.toArray 0)).push (Ai "list" #[] 0)=H;have o2:H.get? a=some (Ai "list" #[] k1):=by rw[<- hH];exact yI _ (yI _ o1)
 have rest:rT s.heap a H:=fun b o nb e=>by
  rw[<- hH];exact yI _ (yI _ ((ze _ _ (AC nb)).trans e))
 rw[list_sort_plain];refine yJ (listItems_at ho rfl ?_);refine yJ (BZ ho rfl ?_ le (zQ _));refine yJ (CQ o1 rfl ?_);refine yJ (wpAny_newTuple ?_ le);refine yJ (B1 ?_ (zQ _));refine Ao ?_;have gone:¬vs.toArray.size<2:=by rw[yL];omega
 rw[if_neg gone,if_neg gone];dsimp only;rw[hH];refine yJ (zG (kind H rest) ?_ fun _ _ x=>x.elim);rintro k s' ⟨rfl,rfl⟩
 have run:=kat_run (prog:=prog) (w:=w) (A:=A) (E:=E) (κ:=k) (ks:=vs) (vs:=vs) (s:={s with heap:=H})
  (Q:=fun st' s'=>s'={s with heap:=H}/\∃p:Array Nat,Ok vs.length p/\As c p vs.length/\arrOf st'=p.map (kas_item (vs.toArray.zip vs.toArray))/\failedOf st'=none)
  (G:=fun p s'=>s'={s with heap:=H}/\Ok vs.length p/\As c p vs.length) rfl two most
  (fun p st' s' _ e1 e2 ⟨e3,e4,e5⟩=>⟨e3,p,e4,e5,e1,e2⟩) (Kp.wp (fun i j hi hj C hC=>ask H rest i j hi hj C hC) (mU O two))
 refine yJ (zG run ?_ fun _ _ e=>e);rintro⟨⟨⟩,st⟩ s' ⟨rfl,p,hp,hs,har,hf⟩;have out:=kat_snds rfl har;have ln:(Bc (p.toList.map fun i=>vs.getD i zq)).size=vs.length:=by rw[yL,yV,An];exact hp.size
 dsimp only;rw[out];refine yJ (CQ o2 rfl ?_);refine yJ (BZ o2 rfl ?_ (zQ _) (by rw[ln];omega));rw[hf];simp only[bne_self_eq_false,Az,if_false];rw[<- hH];exact yX (fin p hp hs)
end
open PySem PySem.W PyProof.Rows
section
variable{prog:yT}{w:zp}{A:zd}{E:yG->yH->Prop}{s:yH}
theorem iC{vs:List yG}{P:PySem.Fin->yH->Prop}(ho:s.heap.get? a=some (Ai "list" vs.toArray n))(short:vs.length<2)
 (fin:P (.done (.ret .none)) {s with heap:=sortedHeap s.heap a vs vs.toArray}) :
 zc (zh prog w) A (Builtin.«list.sort» ⟨[.ref a],[]⟩) P E s:=by
 have la:=yN ho;have sz:=zD;have le:vs.toArray.size<=sizeLine:=by rw[yL];omega
 obtain⟨k1,o1⟩:∃k1,(s.heap.update a (Aw fun _=>(#[]:Array yG))).get? a=some (Ai "list" #[] k1):=⟨_,AG ho fun _=>#[]⟩;generalize hH:((s.heap.update a (Aw fun _=>(#[]:Array yG))).push (Ai "tuple" vs.toArray 0)).push (Ai "list" #[] 0)=H;have o2:H.get? a=some (Ai "list" #[] k1):=by rw[<- hH];exact yI _ (yI _ o1)
 rw[list_sort_plain];refine yJ (listItems_at ho rfl ?_);refine yJ (BZ ho rfl ?_ le (zQ _));refine yJ (CQ o1 rfl ?_);refine yJ (wpAny_newTuple ?_ le);refine yJ (B1 ?_ (zQ _));refine Ao ?_;have gone:vs.toArray.size<2:=by rw[yL];omega
 rw[if_pos gone,if_pos gone];dsimp only;rw[hH];refine yJ (yX ?_);refine yJ (m:=pure ((),SortSt.mk' general' (vs.toArray.zip vs.toArray) #[] 7 none)) (yX ?_)
 have out:Array.map (fun x:yG×yG=>x.2) (vs.toArray.zip vs.toArray)=vs.toArray:=by
  apply Array.ext
  · simp
  · intro i h1 h2;simp
 refine yJ (CQ o2 rfl ?_);show zc _ _ ((Builtin.List.listUpdate (zu a) fun _=>Array.map (fun x:yG×yG=>x.2) (vs.toArray.zip vs.toArray)) >>= _) _ _ _;rw[out];refine yJ (BZ o2 rfl ?_ (zQ _) (by rw[yL];omega));show zc _ _ (if(k1 != k1)=true then _ else _) _ _ _;simp only[bne_self_eq_false,Az,if_false];rw[<- hH];exact yX fin
end
open PySem PySem.W PyProof.Rows
noncomputable def lexB(x y:Int×Int):Bool:=decide (x.1<y.1\/(x.1=y.1/\x.2<y.2))
section
variable{prog:yT}{w:zp}{A:zd}{E:yG->yH->Prop}{s:yH}
noncomputable def bJ(h:Heap)(v:yG)(z:Int×Int):Prop:=∃a o t u n,v = .ref a/\h.get? a=some o/\o.cls = .type "tuple" /\ o.data = .seq #[.int z.1 t,.int z.2 u] n
theorem nS{v u:yG}{x y:Int×Int}{C:Bool->yH->Prop}(hv:bJ s.heap v x)(hu:bJ s.heap u y)(h:C (lexB x y) s):zc (zh prog w) A (keyLt' (tuples' true) v u) C E s:=by
 obtain⟨a,o,t1,t2,n,rfl,ho,_,hd⟩:=hv;obtain⟨b,o',u1,u2,m,rfl,ho',_,hd'⟩:=hu;refine kat_lt ho hd ho' hd' ?_;show KatLex prog w A true _ C [(AK x.1 t1,AK y.1 u1),(AK x.2 t2,AK y.2 u2)] 0 s;refine kat_cons (Be (kat_go (fun e=>?_) fun e=>?_))
 · have e:=of_decide_eq_true (p:=x.1=y.1) (by simpa using e);refine kat_yes (kat_cons (Be (kat_go (fun e2=>?_) fun e2=>?_)))
   · have e2:x.2=y.2:=by simpa using e2
     refine kat_yes (kat_nil ?_);have z:lexB x y=false:=decide_eq_false (by omega);rw[z]at h;exact h
   · have e2:¬x.2=y.2:=by simpa using e2
     refine kat_no (kat_one _ _ (lt_int ?_));show C (decide (x.2<y.2)) s;have z:lexB x y=decide (x.2<y.2):=decide_eq_decide.mpr ⟨fun g=>by omega,fun g=>.inr ⟨e,g⟩⟩;rw[z]at h;exact h
 · have e:¬x.1=y.1:=by simpa using e
   refine kat_no ?_;show zc (zh prog w) A (oneLt' true _ _) C _ s;refine oneLt_int ?_;have z:lexB x y=decide (x.1<y.1):=decide_eq_decide.mpr ⟨fun g=>by omega,fun g=>.inl g⟩;rw[z]at h;exact h
theorem iI{vs:List yG}{Q:SortKind->yH->Prop}(hp:zE (bJ s.heap) vs zs)(h1:0<zs.length)(h:Q (tuples' true) s):zc (zh prog w) A (keyKind' vs.toArray) Q E s:=by
 obtain⟨fs,tp,ln,ti⟩:∃fs:List yG,KatTups s.heap vs fs/\fs.length=zs.length/\∀v∈fs,∃i t,v=AK i t:=by
  clear h1
  induction hp with
  | nil=>exact⟨[],KatTups.nil,rfl,fun v mv=>nomatch mv⟩
  | @cons v z vs zs r _ ih =>
    obtain⟨fs,tp,ln,ti⟩:=ih;obtain⟨a,o,t,u,n,rfl,ho,hc,hd⟩:=r;refine⟨.int z.1 t::fs,KatTups.cons ho hc hd rfl tp,congrArg (· + 1) ln,fun v mv=>?_⟩;rcases zo.mp mv with rfl|mv
    · exact⟨_,_,rfl⟩
    · exact ti v mv
 exact kat_kind (T:=.type "int") tp (by omega) (fun v mv=>by
  obtain⟨i,t,rfl⟩:=ti v mv
  exact .now) (by decide +kernel) (by
  have:(Cz "int" != Cz "tuple")=true:=by decide +kernel
  rw[this];exact h)
theorem nW(zs:List (Int×Int)):Ord zs.length fun i j=>lexB (zs.getD i (0,0)) (zs.getD j (0,0)) where
 asym i j _ _ h:=by
  have h:=of_decide_eq_true h;exact decide_eq_false (by omega)
 trans i j k _ _ _ h1 h2:=by
  have h1:=of_decide_eq_false h1;have h2:=of_decide_eq_false h2;exact decide_eq_false (by omega)
end
open PySem PySem.W PyProof.Rows
section
variable{prog:yT}{w:zp}{A:zd}{E:yG->yH->Prop}{s:yH}
theorem bJ.keep{h':Heap}{v:yG}{z:Int×Int}(k:∀b o,h.get? b=some o->h'.get? b=some o)(x:bJ h v z):bJ h' v z:=by
 obtain⟨a,o,t,u,n,e,ho,r⟩:=x;exact⟨a,o,t,u,n,e,k _ _ ho,r⟩
theorem iJ{h':Heap}(k:∀b o,h.get? b=some o->h'.get? b=some o){vs:List yG}(hp:zE (bJ h) vs zs):zE (bJ h') vs zs:=by
 induction hp with
 | nil=>exact .nil
 | cons r _ ih=>exact .cons (r.keep k) ih
theorem pairs_at{vs:List yG}(hp:zE (bJ h) vs zs):∀i,i<vs.length->bJ h (vs.getD i zq) (zs.getD i (0,0)):=by
 induction hp with
 | nil=>intro i hi;exact absurd hi (Nat.not_lt_zero _)
 | @cons v z vs zs r _ ih =>
   intro i hi
   cases i with
   | zero=>exact r
   | succ i=>exact ih i (by simpa using hi)
theorem e9{l:Addr}{T:String}{vs:List yG}{Q:yG->yH->Prop}(hT:T = "list" \/ T = "tuple")(ho:s.heap.get? l=some o)(hc:o.cls = .type T)(hd:o.data = .seq vs.toArray n)
 (hp:zE (bJ s.heap) vs zs)(two:2<=vs.length)(most:vs.length<64)
 (h:∀(h0 h':Heap)(p:Array Nat)(c:Nat),(∀b o,s.heap.get? b=some o->h0.get? b=some o)->(∀b o,h0.get? b=some o->h'.get? b=some o)->h'.get? h0.objs.size=some (Ai "list" (Bc (p.toList.map fun i=>vs.getD i zq)) c) ->
  Ok vs.length p->As (fun i j=>lexB (zs.getD i (0,0)) (zs.getD j (0,0))) p vs.length->Q (.ref h0.objs.size) {s with heap:=h' }) :
 zc (zh prog w) A (call (.builtin "sorted") [.ref l]) Q E s:=by
 have sz:=zD;have ln:vs.length=zs.length:=hp.length;have O:Ord vs.length fun i j=>lexB (zs.getD i (0,0)) (zs.getD j (0,0)):=by rw[ln];exact nW zs
 refine BK kind_sorted plain_sorted entry_sorted (args_sorted1 (.ref l)) ?_;unfold Builtin.«sorted»;refine yJ (m:=checkCount "sorted" 1 1 _) (yX (yJ (wpAny_collect_seq l hT ho hc hd (fun h0 k0=>yJ (B1 ?_)) (by rw[yL];omega))));rw[show vs.toArray.toList=vs by simp];have oL:(h0.push (Ai "list" vs.toArray 0)).get? h0.objs.size=some (Ai "list" vs.toArray 0):=zj _ rfl;show zc _ _ _ _ _ {s with heap:=h0.push (Ai "list" vs.toArray 0)}
 have there:∀h',rT (h0.push (Ai "list" vs.toArray 0)) h0.objs.size h'->zE (bJ h') vs zs:=fun h' r=>iJ (fun b ob e=>by
  have e0:=k0 _ _ e
  exact r b ob (zn (yN e0)) (yI _ e0)) hp
 refine yJ (Ao (wpAny_call_entry slot_list_sort ⟨_,oL,rfl⟩ entry_list_sort (mV (κ:=tuples' true) (s:={s with heap:=h0.push (Ai "list" vs.toArray 0)}) oL two most O
  (fun h' r=>iI (s:={s with heap:=h' }) (there h' r) (by omega) ⟨rfl,rfl⟩)
  (fun h' r i j hi hj C hC=>nS (s:={s with heap:=h' }) (pairs_at (there h' r) i hi) (pairs_at (there h' r) j hj) hC)
  fun p h1 h2=>⟨_,rfl,?_⟩) (args_list_sort _)))
 have e1:=AG oL (fun _=>#[])
 have e2:((((h0.push (Ai "list" vs.toArray 0)).update h0.objs.size (Aw fun _=>#[])).push (Ai "tuple" vs.toArray 0)).push (Ai "list" #[] 0)).get? h0.objs.size=_ :=
  yI _ (yI _ e1)
 have e3:=AG e2 (fun _=>Bc (p.toList.map fun i=>vs.getD i zq));refine yX ⟨_,rfl,h h0 _ p _ k0 (fun b ob eb=>?_) e3 h1 h2⟩;have ne:h0.objs.size≠b:=Cc (yN eb);exact(ze _ _ ne).trans (yI _ (yI _ ((ze _ _ ne).trans (yI _ eb))))
end
open PySem PySem.W PyProof.Rows
section
variable{prog:yT}{w:zp}{A:zd}{E:yG->yH->Prop}{s:yH}
theorem e8{l:Addr}{T:String}{vs:List yG}{Q:yG->yH->Prop}(hT:T = "list" \/ T = "tuple")(ho:s.heap.get? l=some o)(hc:o.cls = .type T)(hd:o.data = .seq vs.toArray n)(short:vs.length<2)
 (h:∀(h0 h':Heap)(c:Nat),(∀b o,s.heap.get? b=some o->h0.get? b=some o)->(∀b o,h0.get? b=some o->h'.get? b=some o)->h'.get? h0.objs.size=some (Ai "list" vs.toArray c)->Q (.ref h0.objs.size) {s with heap:=h' }) :
 zc (zh prog w) A (call (.builtin "sorted") [.ref l]) Q E s:=by
 have sz:=zD;refine BK kind_sorted plain_sorted entry_sorted (args_sorted1 (.ref l)) ?_;unfold Builtin.«sorted»;refine yJ (m:=checkCount "sorted" 1 1 _) (yX (yJ (wpAny_collect_seq l hT ho hc hd (fun h0 k0=>yJ (B1 ?_)) (by rw[yL];omega))));rw[show vs.toArray.toList=vs by simp];have oL:(h0.push (Ai "list" vs.toArray 0)).get? h0.objs.size=some (Ai "list" vs.toArray 0):=zj _ rfl;show zc _ _ _ _ _ {s with heap:=h0.push (Ai "list" vs.toArray 0)};refine yJ (Ao (wpAny_call_entry slot_list_sort ⟨_,oL,rfl⟩ entry_list_sort (iC (s:={s with heap:=h0.push (Ai "list" vs.toArray 0)}) oL short ⟨_,rfl,?_⟩) (args_list_sort _)));have e1:=AG oL (fun _=>#[])
 have e2:((((h0.push (Ai "list" vs.toArray 0)).update h0.objs.size (Aw fun _=>#[])).push (Ai "tuple" vs.toArray 0)).push (Ai "list" #[] 0)).get? h0.objs.size=_ :=
  yI _ (yI _ e1)
 have e3:=AG e2 (fun _=>vs.toArray);refine yX ⟨_,rfl,h h0 _ _ k0 (fun b ob eb=>?_) e3⟩;have ne:h0.objs.size≠b:=Cc (yN eb);exact(ze _ _ ne).trans (yI _ (yI _ ((ze _ _ ne).trans (yI _ eb))))
theorem d9{l:Addr}{T:String}{vs:List yG}{Q:yG->yH->Prop}(hT:T = "list" \/ T = "tuple")(ho:s.heap.get? l=some o)(hc:o.cls = .type T)(hd:o.data = .seq vs.toArray n)
 (hp:zE (bJ s.heap) vs zs)(most:vs.length<64)
 (h:∀(h0 h':Heap)(p:Array Nat)(c:Nat),(∀b o,s.heap.get? b=some o->h0.get? b=some o)->(∀b o,h0.get? b=some o->h'.get? b=some o)->h'.get? h0.objs.size=some (Ai "list" (Bc (p.toList.map fun i=>vs.getD i zq)) c) ->
  Ok vs.length p->As (fun i j=>lexB (zs.getD i (0,0)) (zs.getD j (0,0))) p vs.length->Q (.ref h0.objs.size) {s with heap:=h' }) :
 zc (zh prog w) A (call (.builtin "sorted") [.ref l]) Q E s:=by
 by_cases two:2<=vs.length
 · exact e9 hT ho hc hd hp two most h
 · refine e8 hT ho hc hd (by omega) fun h0 h' c k0 k1 e=>h h0 h' (zw vs.length).toArray c k0 k1 ?_ ?_ ?_
   · have e2:((zw vs.length).map fun i=>vs.getD i zq)=vs:=by
       refine B6 (by simp) fun i h1 h2=>?_;simp[z7,h2]
     rw[show(zw vs.length).toArray.toList=zw vs.length from rfl,e2];exact e
   · exact List.Perm.refl _
   · intro i j hij hj;have:i=j:=by omega
     subst this;simp[lexB]
end
end L2.KS
namespace L2
open PySem PySem.Spec PyProof.Rows KS
section
variable{X:Cx}
noncomputable def ya(K:W.Frag)(H:Hp):List V->List (Int×Int)->Prop:=zE fun v z=>∃a,v = .ref a/\xW K H a [.int z.1,.int z.2]
theorem je{us:List yG}(r:br vs us):∀i,RelV (vs.getD i .non) (us.getD i zq):=by
 induction r with
 | nil=>intro i;exact rfl
 | cons h _ ih =>
   intro i
   cases i with
   | zero=>exact h
   | succ i=>exact ih i
theorem eY{vs:List V}{us:List yG}(r:br vs us):∀q:List Nat,br (q.map fun i=>vs.getD i .non) (q.map fun i=>us.getD i zq)
 | []=>.nil
 | i::q=>.cons (je r i) (eY r q)
theorem hJ{pins:List (Addr×Obj)}{σ:List (Option V)}{H:Hp}{s:yH}(I:Inv X pins σ H s):∀{vs:List V}{us:List yG}{ps:List (Int×Int)},br vs us->ya X.K H vs ps->zE (bJ s.heap) us ps
 | _,_,_,.nil,.nil=>.nil
 | _,_,_,.cons r rs,.cons h hs=>.cons (by
     obtain⟨a,rfl,sq⟩:=h;cases r;obtain⟨its,rv,⟨o,h1,h2,n,h3⟩,_⟩:=I.tuple sq
     cases rv with
     | cons r1 rv=>cases rv with
       | cons r2 rv =>
         cases rv;obtain⟨t,rfl⟩:=r1;obtain⟨u,rfl⟩:=r2
         exact⟨a,o,t,u,n,rfl,h1,h2,h3⟩) (hJ I rs hs)
noncomputable def nh(K:W.Frag):List V->Hp->(V->Hp->Prop)->Prop:=fun xs H Q=>∃(p:Addr)(vs:List V)(ps:List (Int×Int)),xs=[.ref p]/\(xW K H p vs\/xX K H p vs)/\ya K H vs ps/\vs.length<64 /\
 ∀q:Array Nat,Ok vs.length q->As (fun i j=>lexB (ps.getD i (0,0)) (ps.getD j (0,0))) q vs.length->∀l,H l=none->Q (.ref l) (upd H l (.lst (q.toList.map fun i=>vs.getD i .non)))
theorem kj:cS X (.builtin "sorted") (nh X.K):=by
 intro pins s σ H xs us Q I r ⟨p,vs,ps,ex,hq,hp,most,q⟩;subst ex;obtain⟨u,rfl,ru⟩:=vals1 r;cases ru
 have h:∃(its:List yG)(o:Obj)(T:String)(n:Nat),br vs its/\(T = "list" \/ T = "tuple")/\s.heap.get? p=some o/\o.cls = .type T/\o.data = .seq its.toArray n:=by
  rcases hq with hq|hq
  · obtain⟨its,rv,⟨o,h1,h2,n,h3⟩,_⟩:=I.tuple hq;exact⟨its,o,_,n,rv,.inr rfl,h1,h2,h3⟩
  · obtain⟨its,rv,pl,_⟩:=I.list hq;obtain⟨o,h1,h2,n,h3⟩:=pl.isList;exact⟨its,o,_,n,rv,.inl rfl,h1,h2,h3⟩
 obtain⟨its,o,T,n,rv,hT,h1,h2,h3⟩:=h;have hl:=rv.length;have sz:=zD;refine d9 hT h1 h2 h3 (hJ I rv hp) (by omega) fun h0 h' p c k0 k1 e a1 a2=>?_;have I1:Inv X pins σ H {s with heap:=h0}:=I.kept (t':=s.toks) k0;rw[<- hl]at a1 a2;refine⟨.ref h0.objs.size,_,I1.laid (t':=s.toks) (o:=.lst (p.toList.map fun i=>vs.getD i .non)) k1 (y7 _) ⟨?_,_,c,eY rv _,e⟩,rfl,q p a1 a2 _ (I1.hok.fresh (y7 _))⟩;rw[yV,An,a1.size];omega
end
end L2
namespace L2.VL
open PySem PySem.Spec PyProof.Rows KS
section
variable{X:Cx}{rl:Option Addr}{a:Expr}{fs:xR}{pos p:Pos}
abbrev xv(z:Int×Int):yF:=.tuple [.int z.1,.int z.2]
theorem fH{K:W.Frag}{F:Hp}:∀{vs:List V}{ps:List (Int×Int)},Reps K F vs (ps.map xv)->ya K F vs ps
 | _,[],h=>by cases h;exact .nil
 | _,z::ps,.cons h r=>.cons (by
     cases h with
     | @tup a us _ sq rs =>
       have e:us=[z.1,z.2].map V.int:=gZ (ns:=[z.1,z.2]) rs;subst e
       exact⟨a,rfl,sq⟩) (fH r)
theorem g_{K:W.Frag}{F H:Hp}(s:aW F H):∀{vs:List V}{ps:List (Int×Int)},ya K F vs ps->ya K H vs ps
 | _,_,.nil=>.nil
 | _,_,.cons ⟨a,e,q⟩ r=>.cons ⟨a,e,gv s q⟩ (g_ s r)
theorem fG{K:W.Frag}{F:Hp}{vs:List V}{ps:List (Int×Int)}(h:Reps K F vs (ps.map xv)):∀q:List Nat,(∀i∈q,i<ps.length)->Reps K F (q.map fun i=>vs.getD i .non) ((q.map fun i=>ps.getD i (0,0)).map xv)
 | [],_=>.nil
 | i :: q,hi=>.cons (by
     have hl:=hi i (yY ..);obtain⟨v,e,r⟩:=h.get (i:=i) (d:=xv (ps.getD i (0,0))) (by simp[z7,hl]);have e2:vs.getD i .non=v:=by rw[z7,e];rfl
     show Rep K F (vs.getD i .non) _;rw[e2]
     exact r) (fG h q fun j m=>hi j (yR _ m))
theorem jJ{ps:List (Int×Int)}{q:List Nat}(h:q.Perm (zw ps.length)):(q.map fun i=>ps.getD i (0,0)).Perm ps:=by
 have e:(zw ps.length).map (fun i=>ps.getD i (0,0))=ps:=by
  refine B6 (by simp) fun i h1 h2=>?_;simp[z7,h2]
 have:=h.map fun i=>ps.getD i (0,0)
 rwa [e]at this
theorem ni{ps:List (Int×Int)}{q:Array Nat}(ho:Ok n q)(h:As (fun i j=>lexB (ps.getD i (0,0)) (ps.getD j (0,0))) q n):(q.toList.map fun i=>ps.getD i (0,0)).Pairwise fun x y=>lexB y x=false:=by
 rw[List.pairwise_iff_getElem];intro i j h1 h2 hij;have hs:=ho.size;simp only[yV,An]at h1 h2;have:=h i j (Ca hij) (by omega);simp only[at_,zZ,AO h1,AO h2,Option.getD_some]at this;simpa using this
noncomputable def lp:List W->(W->Prop)->Prop:=fun ws Q=>∃ps:List (Int×Int),(ws=[.d (.list (ps.map xv))]\/ws=[.d (.tuple (ps.map xv))])/\ps.length<64/\∀qs:List (Int×Int),qs.Perm ps->qs.Pairwise (fun x y=>lexB y x=false)->Q (.ml (qs.map xv))
theorem mG:eQ X rl (nh X.K) lp:=fun{F H vs ws} Qd Q s ra r ⟨ps,ew,most,q⟩ k=>by
 have go:∀{p:Addr}{us:List V},(xW X.K H p us\/xX X.K H p us)->Reps X.K F us (ps.map xv)->nh X.K [.ref p] H Q:=fun{p us} sq rs=>by
  have hl:us.length=ps.length:=by rw[rs.length,yV]
  refine⟨p,us,ps,rfl,sq,g_ s (fH rs),by omega,fun qa h1 h2 l hl2=>?_⟩;rw[hl]at h1 h2;refine k _ (.ml _) _ _ (Grow.laid s ra hl2) (eA s ra hl2 (fG rs qa.toList fun i m=>?_)) (fun a ea=>by cases ea;exact hl2) (q _ (jJ h1) (ni h1 h2));have:=h1.mem_iff.1 m;simpa using this
 rcases ew with rfl|rfl
 · obtain⟨v,rfl,r1⟩:=lT r
   cases(show Rep X.K F v (.list (ps.map xv))from r1)with
   | @lst a us _ sq rs=>exact go (.inr (js s (.inl (.inl sq)))) rs
 · obtain⟨v,rfl,r1⟩:=lT r
   cases(show Rep X.K F v (.tuple (ps.map xv))from r1)with
   | @tup a us _ sq rs=>exact go (.inl (gv s sq)) rs
theorem jf(hm:X.mg "sorted" = none)(ha:yb X rl [a] fs)(hg:autoParam (Gl X "sorted") æa._auto_1)(he:autoParam (yM [a] X.env=(false,eval a X.env)::yM [] X.env) æa._auto_1)(hpl:autoParam ((Ae pos (yM [] X.env)).any (·.1)=false) æa._auto_1) :
 PV X rl (.Call (.Name "sorted" p) [a] [] pos) (cY lp fs):=bQ kj mG hm (by rfl) ha hg (by decide) (by decide) he hpl
end
open PySem PySem.Spec PyProof.Rows KS
noncomputable def pairD:yF->Option (Int×Int)
 | .tuple [.int a,.int b]=>some (a,b)
 | _=>none
theorem kY{d:yF}{z:Int×Int}(h:pairD d=some z):d=xv z:=by
 unfold pairD at h;split at h
 · cases h;rfl
 · cases h
noncomputable def dP:List yF->Option (List (Int×Int))
 | []=>some []
 | d::ds=>(pairD d).bind fun z=>(dP ds).map (z :: ·)
theorem cD:∀ps:List (Int×Int),dP (ps.map xv)=some ps
 | []=>rfl
 | z::ps=>by
   show(pairD (xv z)).bind _=_;rw[cD ps];rfl
theorem c_:∀{ds:List yF}{ps:List (Int×Int)},dP ds=some ps->ds=ps.map xv
 | [],ps,h=>by cases h;rfl
 | d::ds,ps,h=>by
   simp only[dP,Option.bind_eq_some_iff,A7]at h;obtain⟨z,h1,qs,h2,rfl⟩:=h;rw[kY h1,c_ h2];rfl
noncomputable def rS:W->Option (List (Int×Int))
 | .d (.list ds)=>dP ds
 | .d (.tuple ds)=>dP ds
 | _=>none
theorem oB{ps:List (Int×Int)}:rS w=some ps↔w = .d (.list (ps.map xv))\/w = .d (.tuple (ps.map xv)):=by
 constructor
 · intro h;unfold rS at h;split at h
   · exact .inl (by rw[c_ h])
   · exact .inr (by rw[c_ h])
   · cases h
 · rintro(rfl|rfl)<;>exact cD ps
theorem kz(ps:List (Int×Int)):rS (.d (.list (ps.map xv)))=some ps:=cD ps
theorem nQ(w:W):lp [w]=ar (rS w) fun ps=>xA (ps.length<64) (xH (anyM fun qs:List (Int×Int)=>qs.Perm ps/\qs.Pairwise fun x y=>lexB y x=false) fun qs=>ret (.ml (qs.map xv))):=by
 refine ae fun Q=>?_;simp only[lp,af,ret,xA,xH,anyM,yS,and_true,oB];constructor
 · rintro⟨ps,e,a,q⟩;exact⟨ps,e,a,fun n' ⟨h1,h2⟩=>q n' h1 h2⟩
 · rintro⟨ps,e,a,q⟩;exact⟨ps,e,a,fun n' h1 h2=>q n' ⟨h1,h2⟩⟩
theorem bV(a b:Str):(a++b).cps.toList=a.cps.toList++b.cps.toList:=by
 show(a.cps++b.cps).toList=_;rw[Array.toList_append]
theorem gX(a b:yF):(y8 [a,b]).shown.cps.toList=40::(a.shown.cps.toList++44::32::(b.shown.cps.toList++[41])):=by
 rw[yF.shown_tuple,shownAll_eq_map,bV,bV];show _++(a.shown++Aa ", " ++ b.shown).cps.toList++(Aa ")").cps.toList=_;rw[bV,bV,signs_lparen,signs_sep,Ax];simp
theorem ke{k:Nat}:∀{xs xs' ys ys':List Nat},k∉xs->k∉xs'->xs++k::ys=xs'++k::ys'->xs=xs'/\ys=ys'
 | [],[],ys,ys',_,_,e=>⟨rfl,by simpa using e⟩
 | [],x::xs',ys,ys',_,h,e=>by
   simp only[Cm,AR,yS]at e
   exact absurd (by rw[e.1];exact yY) h
 | x::xs,[],ys,ys',h,_,e=>by
   simp only[Cm,AR,yS]at e
   exact absurd (by rw[e.1];exact yY) h
 | x::xs,y::xs',ys,ys',h,h',e=>by
   simp only[AR,yS]at e;obtain⟨e1,e2⟩:=ke (fun m=>h (yR _ m)) (fun m=>h' (yR _ m)) e.2;exact⟨by rw[e.1,e1],e2⟩
theorem nO{s t:String}(h:(Aa s).cps.toList=(Aa t).cps.toList):s=t:=by
 rw[Ax,Ax]at h
 have inj:∀a b:Char,a.toNat=b.toNat->a=b:=fun a b e=>by
  have:a.val=b.val:=UInt32.toNat_inj.mp e;exact Char.ext this
 exact String.ext (by
  have:=List.map_inj_right (f:=Char.toNat) (fun a b e=>inj a b e) |>.mp h
  exact this)
theorem jY{a:Int}(h:(zC a).shown.cps.toList=(zC b).shown.cps.toList):a=b:=by
 rw[Bg,Bg]at h;exact Int.repr_inj.mp (nO h)
theorem qA(a:Int):44∉(zC a).shown.cps.toList:=fun h=>(shown_int_free_44 a).mp h
theorem jq{a V:Int}{y:yF}(hy:(y8 [.int a,y]).shown=(y8 [.int U,.int V]).shown):a=U/\y.shown=(zC V).shown:=by
 have e:=congrArg (fun s:Str=>s.cps.toList) hy;simp only[gX,yS,true_and]at e;obtain⟨e1,e2⟩:=ke (qA a) (qA U) e;refine⟨jY e1,?_⟩;simp only[yS,true_and]at e2;have e3:=List.append_cancel_right e2
 cases h1:y.shown with
 | mk c1 =>
   cases h2:(zC V).shown with
   | mk c2 =>
     rw[h1,h2]at e3;have:c1=c2:=Array.toList_inj.mp e3;rw[this]
theorem m6{a V:Int}:(y8 [.int a,.int b]).shown=(y8 [.int U,.int V]).shown↔a=U/\b=V:=by
 constructor
 · intro h;obtain⟨e,e2⟩:=jq h;exact⟨e,jY (by rw[e2])⟩
 · rintro⟨rfl,rfl⟩;rfl
theorem gn{d:yF}{V:Int}(h:d.shown.cps.toList.head?≠some 40):d.shown≠(y8 [.int U,.int V]).shown:=fun e=>h (by rw[e,gX];rfl)
theorem m5{xs:List yF}{V:Int}:(BX xs).shown≠(y8 [.int U,.int V]).shown:=gn (by
 rw[yF.shown_list,bV,bV,signs_lbrack]
 simp)
theorem mZ{V:Int}:yF.none.shown≠(y8 [.int U,.int V]).shown:=gn (by rw[yF.shown_none,signs_None];decide)
theorem pS{a V:Int}:(zC a).shown≠(y8 [.int U,.int V]).shown:=gn fun h=>by
 have:40∈(zC a).shown.cps.toList:=List.mem_of_mem_head? (by rw[h];rfl);rw[Bg]at this;exact(intText_free_40 a).mp this
theorem pR{V:Int}:(y8 []).shown≠(y8 [.int U,.int V]).shown:=fun e=>by
 have h:=congrArg (fun s:Str=>s.cps.toList.getLast?.map fun _=>s.cps.toList.length) e;have h2:=congrArg (fun s:Str=>s.cps.toList) e;rw[gX]at h2
 have e0:(y8 []).shown.cps.toList=[40,41]:=by
  rw[yF.shown_tuple,shownAll_eq_map,bV,bV,signs_lparen];show [40]++(Aa "").cps.toList++(Aa ")").cps.toList=_;rw[Ax,Ax];rfl
 have:=congrArg List.length h2;rw[e0]at this;simp at this;omega
theorem ot:∀l:List Nat,k∈l->cnt k l≠0:=by
 have key:∀l:List Nat,0<=cnt k l/\(k∈l->1<=cnt k l):=by
  intro l
  induction l with
  | nil=>exact⟨by rw[cnt_nil];decide,fun h=>absurd h z9⟩
  | cons x r ih =>
    rw[cnt_cons];refine⟨by have:=ih.1;split<;>omega,fun h=>?_⟩;rcases zo.mp h with rfl|h
    · have:=ih.1;rw[if_pos rfl];omega
    · have:=ih.2 h;split<;>omega
 intro l h z;have:=(key l).2 h;omega
theorem m7{b:Bool}{y:yF}{V:Int}:(y8 [.bool b,y]).shown≠(y8 [.int U,.int V]).shown:=fun e=>by
 have e:=congrArg (fun s:Str=>s.cps.toList) e;simp only[gX,yS,true_and]at e;obtain⟨e1,e2⟩:=ke (fun h=>by have:=(mem_shown_bool 44 b).mp h;cases b<;>simp at this) (qA U) e;have m:(if b=true then 84 else 70)∈(Br b).shown.cps.toList:=(mem_shown_bool _ b).mpr (by cases b<;>simp);rw[e1,Bg,Ax]at m;have f:cnt (if b=true then 84 else 70) (Aa (toString U)).cps.toList=0:=cnt_intText_free _ (by cases b<;>decide) U;rw[Ax]at f;exact ot _ m f
theorem vG(a:Int):39∉(zC a).shown.cps.toList:=fun h=>(shown_int_free_39 a).mp h
theorem mY{a V:Int}{y:yF}(h:39∈y.shown.cps.toList):(y8 [.int a,y]).shown≠(y8 [.int U,.int V]).shown:=fun e=>by
 obtain⟨_,e2⟩:=jq e;rw[e2]at h;exact vG V h
theorem kM{a c V:Int}:(y8 [.int a,.int b,.int c]).shown≠(y8 [.int U,.int V]).shown:=fun e=>by
 have h:=congrArg (fun s:Str=>cnt 44 s.cps.toList) e
 have h1:cnt 44 (y8 [.int a,.int b,.int c]).shown.cps.toList=2:=Cq (xs:=[.int a,.int b,.int c]) (by
  intro x mx;simp only[zo,z9,or_false]at mx
  rcases mx with rfl|rfl|rfl<;>exact qA _)
 have h2:cnt 44 (y8 [.int U,.int V]).shown.cps.toList=1:=Cq (xs:=[.int U,.int V]) (by
  intro x mx;simp only[zo,z9,or_false]at mx
  rcases mx with rfl|rfl<;>exact qA _)
 simp only[h1,h2]at h;exact absurd h (by decide)
end L2.VL
namespace L2
noncomputable def yD(h:Heap)(a:Addr)(C:yG)(d:Option Addr)(T:Addr)(fl:yG):Prop :=
 ∃oe vs oT ts,h.get? a=some oe/\oe.cls=C/\oe.dict=d/\oe.data = .fields vs/\vs[1]?=some (.ref T)/\T≠a/\h.get? T=some oT/\oT.data = .fields ts/\ts[3]?=some fl
noncomputable def u7(h:Heap)(a:Addr)(C:yG)(d:Option Addr):Prop:=∃oe vs,h.get? a=some oe/\oe.cls=C/\oe.dict=d/\oe.data = .fields vs/\vs[1]?=some .none
structure But (fs l:List Addr) (h h':Heap):Prop where
 keep:∀b o,b∉l->b∉fs->h.get? b=some o->h'.get? b=some o
 slot:∀b o,b∉l->b∈fs->h.get? b=some o->∃sl,h'.get? b=some {o with slots:=sl}
 there:∀b o,h.get? b=some o->∃o',h'.get? b=some o'
theorem But.trans{fs l:List Addr}{h1 h2:Heap}(x:But fs l h h1)(y:But fs l h1 h2):But fs l h h2 :=
 ⟨fun b o n m e=>y.keep b o n m (x.keep b o n m e),fun b o n m e=>by
  obtain⟨s1,e1⟩:=x.slot b o n m e;obtain⟨s2,e2⟩:=y.slot b _ n m e1
  exact⟨s2,e2⟩,fun b o e=>by obtain⟨o1,e1⟩:=x.there b o e;exact y.there b o1 e1⟩
theorem But.more{fs l l':List Addr}{h':Heap}(x:But fs l h h')(s:∀b,b∈l->b∈l'):But fs l' h h' :=
 ⟨fun b o n m e=>x.keep b o (fun z=>n (s b z)) m e,fun b o n m e=>x.slot b o (fun z=>n (s b z)) m e,x.there⟩
section
variable{M:Dl}{A:zd}{E:yG->yH->Prop}{s:yH}{base:Heap}{env:Env}{outer:List Env}{L a T:Addr}{C:yG}{d:Option Addr}{Q:Unit->yH->Prop}
theorem ka(f:Array yG->Array yG)(o:Obj):(Ar f o).dict=o.dict:=by
 obtain⟨_,_,dt,_⟩:=o;cases dt<;>rfl
theorem l9{oe:Obj}{vs:Array yG}{head:yG}{hadNext:Bool}(hfr:A.frames=some (env::outer))(hl:s.heap.FunFrames base (env::outer))(hf:env.frame=some L)(he:s.heap.get? a=some oe)(hd:oe.data = .fields vs)(hz:1<vs.size)
 (h:∀h' T,s.heap.get? T=none->yD h' a oe.cls oe.dict T (C0 L)->But (frs (env::outer)) [a] s.heap h'->Q () {s with heap:=h' }) :
 zc M A (do let f <- frameOf env;let pl <- entryPlaceOf L hadNext;let b <- CS head f .none (C0 L) .none pl;setField (.ref a) 1 b) Q E s:=by
 have na:a∉frs (env::outer):=fun hm=>by
  obtain⟨_,o,ho,hn⟩:=hl.mem hm;rw[he]at ho;cases ho;exact hn vs hd
 refine yJ (wpAny_frameOf_fun hfr hl hf fun h1 z1=>yJ (wpAny_entryPlaceOf fun pl hpl=>?_));unfold CS newFields;refine yJ (BN ?_ (hpl.sizeOk5 _ _ _ _ _));have e1:h1.get? a=some oe:=(z1.2.1 a na).trans he;generalize hob:({cls:=.type "traceback", dict:=none,data:=.fields ([head,.ref L,.none,C0 L,.none]++(if pl.isEmpty then zt 6 zq else pl)).toArray}:Obj)=ob;have e2:(h1.push ob).get? a=some oe:=yI _ e1;refine CH e2 hd hz (h _ h1.objs.size ?_ ?_ ?_)
 · cases q:s.heap.get? h1.objs.size with
   | none=>rfl
   | some o =>
     obtain⟨sl,e⟩:=z1.2.2 _ o q;exact absurd (yN e) (zM _)
 · have ne:h1.objs.size≠a:=Cc (yN e1);have d3:=AA hd (·.setIfInBounds 1 (zu h1.objs.size));have e3:=zR (Ar (·.setIfInBounds 1 (zu h1.objs.size))) e2 (AH d3)
   have e4:((h1.push ob).update a (Ar (·.setIfInBounds 1 (zu h1.objs.size)))).get? h1.objs.size=some ob :=
    (ze _ _ (AC ne)).trans (zj h1 (by rw[<- hob];rfl))
   refine⟨_,_,ob,_,e3,Obj.cls_mapFields _ _,ka _ _,d3,by simp[hz],ne,e4,by rw[<- hob],?_⟩
   first|(simp;done)|(rcases hpl with rfl|⟨_,_,_,_,_,_,_,rfl⟩<;>simp)
 · have kk:∀b o,b≠a->h1.get? b=some o->((h1.push ob).update a (Ar (·.setIfInBounds 1 (zu h1.objs.size)))).get? b=some o:=fun b o nb e=>by
     rw[ze _ _ (AC nb)];exact yI _ e
   refine⟨fun b o n m e=>kk b o (by simpa using n) ((z1.2.1 b m).trans e),fun b o n m e=>?_,fun b o e=>?_⟩
   · obtain⟨sl,q⟩:=z1.2.2 b o e;exact⟨sl,kk b _ (by simpa using n) q⟩
   · by_cases hb:b=a
     · subst hb;exact⟨_,zR _ e2 (AH (AA hd _))⟩
     · obtain⟨sl,q⟩:=z1.2.2 b o e;exact⟨_,kk b _ hb q⟩
theorem qz(hfr:A.frames=some (env::outer))(hl:s.heap.FunFrames base (env::outer))(hf:env.frame=some L)(b:u7 s.heap a C d)
 (h:∀h' T,s.heap.get? T=none->yD h' a C d T (C0 L)->But (frs (env::outer)) [a] s.heap h'->Q () {s with heap:=h' }):zc M A (Ch (.ref a) env) Q E s:=by
 obtain⟨oe,vs,he,rfl,rfl,hd,h1⟩:=b;unfold Ch;simp only[hf];refine yJ (CT he hd h1 ?_);rw[if_neg (by decide)];exact l9 hfr hl hf he hd (z8.mp h1).1 h
theorem qy(hfr:A.frames=some (env::outer))(hl:s.heap.FunFrames base (env::outer))(hf:env.frame=some L)(b:yD s.heap a C d T .none)
 (h:∀h' T',s.heap.get? T'=none->yD h' a C d T' (C0 L)->But (frs (env::outer)) [a,T] s.heap h'->Q () {s with heap:=h' }):zc M A (Ch (.ref a) env) Q E s:=by
 obtain⟨oe,vs,oT,ts,he,rfl,rfl,hd,h1,nT,hT,dT,h3⟩:=b;unfold Ch;simp only[hf];refine yJ (CT he hd h1 ?_);rw[if_pos (show(zu T != zq)=true from by simp)];refine yJ (CT hT dT h3 ?_);rw[if_neg (show ¬((zq==C0 L)=true)from by simp[C0])];refine yJ (CH hT dT (z8.mp h3).1 ?_);have oth:∀b,b≠T->(s.heap.update T (Ar (·.setIfInBounds 3 zq))).get? b=s.heap.get? b:=fun b n=>ze _ _ (AC n)
 have ntT:∀b o,s.heap.get? b=some o->(∀vs,o.data ≠ .fields vs)->b≠T:=fun b o e n q=>by
  rw[q,hT]at e;cases e;exact n ts dT
 have B0:But (frs (env::outer)) [a,T] s.heap (s.heap.update T (Ar (·.setIfInBounds 3 zq))):=⟨fun b o n _ e=>(oth b (fun z=>n (by simp[z]))).trans e,fun b o n _ e=>⟨o.slots,(oth b (fun z=>n (by simp[z]))).trans e⟩,fun b o e=>by
  by_cases q:b=T
  · subst q;exact⟨_,zR _ e (by rw[hT]at e;cases e;exact AH (AA dT _))⟩
  · exact⟨o,(oth b q).trans e⟩⟩
 refine l9 (s:={s with heap:=_}) hfr (hl.of_keeps fun b o e n=>⟨o,(oth b (ntT b o e n)).trans e,rfl⟩) hf ((oth a (AC nT)).trans he) hd (z8.mp h1).1 fun h' T' n' air bt=>?_;refine h h' T' ?_ air (B0.trans (bt.more fun b z=>by simp at z;simp[z]))
 cases q:s.heap.get? T' with
 | none=>rfl
 | some o=>obtain⟨o',e'⟩:=B0.there _ o q;rw[n']at e';cases e'
theorem tE{fl:yG}(b:yD s.heap a C d T fl)(h:∀h',yD h' a C d T .none->(∀b,b≠T->h'.get? b=s.heap.get? b)->(∃o,h'.get? T=some o)->Q () {s with heap:=h' }):zc M A (setFlight (.ref a) none) Q E s:=by
 obtain⟨oe,vs,oT,ts,he,rfl,rfl,hd,h1,nT,hT,dT,h3⟩:=b;have z3:3<ts.size:=(z8.mp h3).1;unfold setFlight;refine yJ (CT he hd h1 ?_);rw[if_pos (show(zu T != zq)=true from by simp)];have oth:∀b,b≠T->(s.heap.update T (Ar (·.setIfInBounds 3 ((none:Option Addr).elim zq fun f=>C0 f)))).get? b=s.heap.get? b:=fun b n=>ze _ _ (AC n);have eT:=zR (Ar (·.setIfInBounds 3 ((none:Option Addr).elim zq fun f=>C0 f))) hT (AH (AA dT _));exact CH hT dT z3 (h _ ⟨oe,vs,_,_,(oth a (AC nT)).trans he,rfl,rfl,hd,h1,nT,eT,AA dT _,by simp[z3]⟩ oth ⟨_,eT⟩)
theorem gC{fs:List Addr}{h':Heap}(k:∀b,b≠T->h'.get? b=h.get? b)(t:∃o,h'.get? T=some o):But fs [T] h h' :=
 ⟨fun b o n _ e=>(k b (by simpa using n)).trans e,fun b o n _ e=>⟨o.slots,(k b (by simpa using n)).trans e⟩,fun b o e=>by
  by_cases q:b=T
  · subst q;exact t
  · exact⟨o,(k b q).trans e⟩⟩
theorem nY(hfr:A.frames=some (env::outer))(hl:s.heap.FunFrames base (env::outer))(hf:env.frame=some L)(b:u7 s.heap a C d)
 (h:∀h' T,s.heap.get? T=none->yD h' a C d T .none->But (frs (env::outer)) [a] s.heap h'->Q () {s with heap:=h' }):zc M A (leaving env (.ref a)) Q E s:=by
 unfold leaving;refine yJ (qz hfr hl hf b fun h1 T n1 air bt=>?_);refine tE air fun h2 air2 k2 t2=>h h2 T n1 air2 ?_;have b2:But (frs (env::outer)) [T] h1 h2:=gC k2 t2;refine⟨fun c o n m e=>b2.keep c o ?_ m (bt.keep c o n m e),fun c o n m e=>?_,fun c o e=>by obtain⟨o1,e1⟩:=bt.there c o e;exact b2.there c o1 e1⟩
 · intro z;have:c=T:=by simpa using z
   subst this;rw[n1]at e;cases e
 · obtain⟨sl,e1⟩:=bt.slot c o n m e;refine b2.slot c _ ?_ m e1 |>.imp fun sl' e2=>e2;intro z;have:c=T:=by simpa using z
   subst this;rw[n1]at e;cases e
end
noncomputable def xI:List yG:=[.type "ValueError", .type "Exception", .type "BaseException", .type "object"]
noncomputable def kD(K:W.Frag)(C:Addr):Bool:=match K.lookup C with
 | some ⟨.type "type", _,.cls cd,sl⟩=>(match cd.mro,sl.toList with
   | .ref C'::bm,[_,_,_,_,some (.builtin n),_]=>C'==C&&n == "ValueError.__new__" && !cd.hasDel&&cd.hasDict&&W.tailIn K xI bm&&W.nsOkIn K cd.ns
   | _,_=>false)
 | _=>false
theorem gN{K:W.Frag}(X:K.In h)(q:kD K C=true):∃nm qn N bs bm sn sub ab col dd k0 k1 k2 k3 k5,
 K.lookup C=some (excClassObj nm qn C N bs bm true sn sub ab col dd k0 k1 k2 k3 k5 "ValueError.__new__")/\OwnTail h xI bm:=by
 unfold kD at q;split at q
 · rename_i dd cd sl ho;split at q
   · rename_i C' bm k0 k1 k2 k3 n k5 hm hs;simp only[AU,beq_iff_eq,Bool.not_eq_true']at q;obtain⟨⟨⟨⟨⟨c1,c2⟩,c3⟩,c4⟩,c5⟩,c6⟩:=q;obtain⟨nm,bs,mro,ns,qn,hd,sn,sub,ab,col,del⟩:=cd;dsimp only at hm c3 c4 c6
     have hsl:sl = #[k0,k1,k2,k3,some (.builtin n),k5]:=by
      obtain⟨l⟩:=sl;simp only at hs;rw[hs]
     subst hsl hm c1 c2 c3 c4;exact⟨nm,qn,ns,bs,bm,sn,sub,ab,col,dd,k0,k1,k2,k3,k5,ho,W.tail_of_in X c5⟩
   · cases q
 · cases q
abbrev bN(C t:Addr)(d:Option Addr):Obj:={cls:=.ref C,dict:=d,data:=.fields #[.ref t,.none,.none,.none,.bool false,.none]}
abbrev bh(h:Heap)(C:Addr)(us:List yG):Heap:=(h.push {cls:=.type "tuple", data:=.seq us.toArray}).push (bN C h.objs.size none)
section
variable{prog:yT}{w:zp}{A:zd}{E:yG->yH->Prop}{s:yH}{K:W.Frag}{C f:Addr}{us:List yG}
theorem iY{Q:yG->yH->Prop}(X:K.In s.heap)(q:kD K C=true)(hi:W.findIn K (.ref C) "__init__" = some (some (.ref f)))(hf:W.typeIn K (.ref f)=some (.type "function"))(hz:us.length<=sizeLine)
 (h:zc (zh prog w) (A.under (.builtin "type.__call__" ⟨.ref C::us,[]⟩)) (call (.ref f) (.ref (s.heap.objs.size+1)::us)) (fun r s'=>r = .none/\Q (.ref (s.heap.objs.size+1)) s') E {s with heap:=bh s.heap C us}) :
 zc (zh prog w) A (call (.ref C) us) Q E s:=by
 obtain⟨nm,qn,N,bs,bm,sn,sub,ab,col,dd,k0,k1,k2,k3,k5,lk,T⟩:=gN X q;obtain⟨hp,g,d,t,os⟩:=s;have hC:=X _ _ lk;have F:=By;have f1:=tc_lookup;have f2:=tc_bind (.ref C);have hT:(⟨hp,g,d,t,os⟩:yH).TypeIs (.ref C) "type" := ⟨_,hC,rfl⟩;refine wpAny_call (codeAny_of_tree ?_);show zc _ _ (callAny (.ref C) _) _ _ _
 repeat (any_goals (first|assumption|(with_reducible refine Aj hC ?_)|wp_step))
 refine⟨rfl,?_⟩;refine codeAny_call_builtin_at (Code.quiet_builtin _ (by decide +kernel)) entry_typeCall (wpAny_check_type_call_sub hC ?_)
 repeat (first|(with_reducible refine Aj hC ?_)|(with_reducible refine wpAny_madeBy_exc hC ?_)|wp_step)
 refine codeAny_call_builtin_code (Code.quiet_builtin _ F.quiet) (wpAny_check_new_subT F T hC ?_);refine codeAny_exc_new_subT F T hC ?_ hz;show zc _ _ _ _ _ _;have kk:∀b o,hp.get? b=some o->(bh hp C us).get? b=some o:=fun b o e=>yI _ (yI _ e);have hC1:=kk _ _ hC;have X1:K.In (bh hp C us):=X.keeps kk;have hg:(bh hp C us).get? (hp.objs.size+1)=some (bN C hp.objs.size none):=by heap_get
 have hcC:(zu C::bm).contains (.ref C)=true:=by simp
 unfold C2
 repeat (first|(with_reducible refine Aj hg ?_)|((with_reducible refine Bt hC1 ?_);rw[hcC])|wp_step)
 refine Bt hC1 ?_;rw[hcC]
 repeat (first|(with_reducible refine Aj hg ?_)|wp_step)
 show zc _ _ (typeLookup (.ref C) _) _ _ _;refine W.Looks.here (s:=⟨bh hp C us,g,d,t,os⟩) (W.looks_findIn X1 hi) ?_;refine Ao (yJ (W.Looks.here (s:=⟨bh hp C us,g,d,t,os⟩) (W.bind_fn X1 _ hf) ?_));refine yJ (zG h (fun r s' hr=>?_) fun _ _ x=>x);obtain⟨rfl,hQ⟩:=hr
 wp_walk
 exact hQ
end
open Builtin Builtin.ObjectAttr
theorem kP(self:yG){l:List yG}(T:OwnTail h xI l):refuseLoop self "__setattr__" l=pure ():=by
 induction T with
 | base=>exact BO.passes self
 | own _ _ _ _ ih=>rw[refuseLoop_ref];exact ih
section
variable{prog:yT}{w:zp}{A:zd}{E:yG->yH->Prop}{s:yH}{K:W.Frag}{C a t:Addr}{d:Option Addr}{name:Str}{v:yG}{mA:Str->Option yG}{ns:List Str}
theorem pU{Q:Unit->yH->Prop}(X:K.In s.heap)(q:kD K C=true)(hs:W.findIn K (.ref C) "__setattr__" = some (some (.builtin "object.__setattr__")))(hn:W.findIn K (.ref C) name=some none)
 (ha:s.heap.get? a=some (bN C t d))(hm:(d=none/\∀n,mA n=none)\/∃dx,d=some dx/\dx≠a/\s.heap.Ns1 dx mA)(hw:C4 mA ns)(hz:ns.length<=sizeLine)
 (h:∀h' tk dx,h'.get? a=some (bN C t (some dx))->h'.Ns1 dx (fun y=>if y=name then some v else mA y)->dx≠a->(d=some dx\/(d=none/\s.heap.objs.size<=dx)) ->
  (∀b o,b≠a->b≠dx->s.heap.get? b=some o->h'.get? b=some o)->Q () {s with heap:=h',toks:=tk}):zc (zh prog w) A (setAttr (.ref a) name v) Q E s:=by
 obtain⟨nm,qn,N,bs,bm,sn,sub,ab,col,dd,k0,k1,k2,k3,k5,lk,T⟩:=gN X q;have hC:=X _ _ lk;have SF:=BO
 obtain⟨od,I⟩:∃od,W.InstAt s.heap a (bN C t d) C od:=by
  rcases hm with⟨rfl,_⟩|⟨dx,rfl,_,⟨o,es,ep,ho,_⟩⟩
  · exact⟨none,ha,rfl,rfl,trivial⟩
  · exact⟨some o,ha,rfl,rfl,ho⟩
 refine W.set_plain X I hs ?_;obtain⟨hp,g,dr,tk,os⟩:=s
 have hc:W.clsIn K C=some {name:=nm,bases:=bs,mro:=.ref C::bm,ns:=N,qualname:=qn,hasDict:=true,slotNames:=sn,subclasses:=sub,abstract:=ab,collection:=col,hasDel:=false}:=by
  unfold W.clsIn;rw[lk]
 have hmr:W.Looks (zh prog w) hp (mroOf (.ref C)) (.ref C::bm):=(W.looks_clsIn X hc).andThen .now
 have sb:W.Looks (zh prog w) hp (C2 (.ref a) (.type "object")) true:=I.type.andThen (W.looks_mroIn X (by
  unfold W.mroIn
  rw[hc,B8,if_neg (by simp),BF,T.hasType (X := "object") (b:=true) (by decide +kernel),C8]))
 refine CD SF.slot.plain SF.entry (@W.check_slot (zh prog w) _ _ ⟨hp,g,dr,tk+1,os⟩ "object.__setattr__" "object" "__setattr__" (.ref a) [.str name tk,v] [] _ SF.kind SF.split sb (SF.args (.ref a) (.str name tk) v) ?_);rw[W.osa_eq,refuse_eq];refine yJ (yJ (W.Looks.here (s:=⟨hp,g,dr,tk+1,os⟩) I.type (yJ (W.Looks.here (s:=⟨hp,g,dr,tk+1,os⟩) hmr ?_))));rw[refuseLoop_ref,kP _ T];refine yX (yJ (W.Looks.here (s:=⟨hp,g,dr,tk+1,os⟩) I.type (yJ (W.Looks.here (s:=⟨hp,g,dr,tk+1,os⟩) (W.looks_findIn X hn) ?_))));refine yJ (yX ?_);show zc _ _ (storeInOwnDict _ _ _ _ _ _) _ _ _;rcases hm with⟨rfl,hmA⟩|⟨dx,rfl,hne,hns⟩
 · have hC':=hC;refine yJ (yX (yJ (yJ (CI (s:=⟨hp,g,dr,tk+1,os⟩) ha (yJ (W.Looks.here (s:=⟨hp,g,dr,tk+1,os⟩) (W.looks_clsIn X hc) ?_))))));have ha1:(hp.push {cls:=.type "dict", data:=.dict #[]}).get? a=some (bN C t none):=yI _ ha;have nas:a≠hp.objs.size:=zn (yN ha);refine yJ (wpAny_alloc' ?_);refine yJ (wpAny_update' ha1 (yX ?_))
   have hgd:((hp.push {cls:=.type "dict", data:=.dict #[]}).update a fun o=>{o with dict:=some hp.objs.size}).get? hp.objs.size=some {cls:=.type "dict", data:=.dict #[]} :=
    (CU _ _ _ _ nas.symm).trans (Heap.get?_push_at rfl rfl)
   have hnd:((hp.push {cls:=.type "dict", data:=.dict #[]}).update a fun o=>{o with dict:=some hp.objs.size}).Ns hp.objs.size (fun _=>none):=⟨_,#[],_,hgd,rfl,fun e he=>absurd he (by simp),fun _=>rfl⟩;have hga:((hp.push {cls:=.type "dict", data:=.dict #[]}).update a fun o=>{o with dict:=some hp.objs.size}).get? a=some (bN C t (some hp.objs.size)):=zR _ ha1 rfl;show zc _ _ (storeInDict hp.objs.size (.str name tk) name v) _ _ _;unfold storeInDict newKeyGuard;refine yJ (yX (yJ (wpAny_nsSet1 (Heap.Ns1.of_empty hnd) fun h' hn' hs'=>?_)));obtain⟨oD,esD,epD,hoD,hdD,hcD⟩:=hn'.count (Within.cons name v Within.nil);refine yJ (wpAny_lookBehind hoD (by rw[hdD];exact pastItsLine_dict (zx hcD (by rw[AS,List.length_nil,CL];omega))) (yX ?_));refine h h' _ hp.objs.size ((hs'.2 a nas).trans hga) ?_ nas.symm (.inr ⟨rfl,y7 _⟩) fun b o n1 n2 e=>(hs'.2 b n2).trans ((CU _ _ _ _ n1).trans (yI _ e));obtain⟨o',es,ep,e1,e2,e3,eu,e4⟩:=hn';exact⟨o',es,ep,e1,e2,e3,eu,fun y=>by rw[e4 y];by_cases hy:y=name<;>simp[hy,hmA]⟩
 · refine yJ (yX (yJ (yJ (CI (s:=⟨hp,g,dr,tk+1,os⟩) ha (yJ (W.Looks.here (s:=⟨hp,g,dr,tk+1,os⟩) (W.looks_clsIn X hc) ?_))))));refine yX (a:=some dx) ?_;show zc _ _ (storeInDict dx (.str name tk) name v) _ _ _;unfold storeInDict newKeyGuard;refine yJ (yX (yJ (wpAny_nsSet1 (s:=⟨hp,g,dr,tk+1,os⟩) hns fun h' hn' hs'=>?_)));obtain⟨oD,esD,epD,hoD,hdD,hcD⟩:=hn'.count (Within.cons name v hw);refine yJ (wpAny_lookBehind hoD (by rw[hdD];exact pastItsLine_dict (zx hcD (by rw[AS];omega))) (yX ?_));exact h h' _ dx ((hs'.2 a hne.symm).trans ha) hn' hne (.inl rfl) fun b o n1 n2 e=>(hs'.2 b n2).trans e
end
open Builtin Builtin.ObjectAttr
theorem di{M:Dl}{A:zd}{E:yG->yH->Prop}{g:Array GenState}{d:Drawn}{tk:Nat}{os:OsState}{t:Sem α}{r:α}{Q:α->yH->Prop}(x:W.Looks M h t r)(q:Q r ⟨h,g,d,tk,os⟩):zc M A t Q E ⟨h,g,d,tk,os⟩:=x.here (s:=⟨h,g,d,tk,os⟩) q
section
variable{prog:yT}{w:zp}{A:zd}{E:yG->yH->Prop}{s:yH}{K:W.Frag}{C a dx:Addr}{name:Str}{v:yG}{mA:Str->Option yG}{oe:Obj}{vs:Array yG}
theorem tm{expr:Bool}{Q:yG->yH->Prop}(X:K.In s.heap)(q:kD K C=true)(hg:W.findIn K (.ref C) "__getattribute__" = some (some (.builtin "BaseException.__getattribute__")))(hh:W.findIn K (.ref C) "__getattr__" = some none)
 (hn:W.findIn K (.ref C) name=some none)(ha:s.heap.get? a=some oe)(hc:oe.cls = .ref C)(hd:oe.dict=some dx)(hv:oe.data = .fields vs)(ns:s.heap.Ns1 dx mA)(hm:mA name=some v)(hv':W.handedIn v=true)
 (h:Q v {s with toks:=s.toks+1}):zc (zh prog w) A (getAttr (.ref a) name expr) Q E s:=by
 obtain⟨nm,qn,N,bs,bm,sn,sub,ab,col,dd,k0,k1,k2,k3,k5,lk,T⟩:=gN X q;have hC:=X _ _ lk;have F:=By;have FB:=PySem.F.attrBase_ValueError;obtain⟨od,ho,hl⟩:=jS ns;have I:W.InstAt s.heap a oe C (some od):=⟨ha,hc,by unfold W.notCls;rw[hv],by rw[hd];exact ho⟩
 have hc':W.clsIn K C=some {name:=nm,bases:=bs,mro:=.ref C::bm,ns:=N,qualname:=qn,hasDict:=true,slotNames:=sn,subclasses:=sub,abstract:=ab,collection:=col,hasDel:=false}:=by
  unfold W.clsIn;rw[lk]
 have hf:W.findObj K C (some od) name=some (.value v):=W.findObj_own (by unfold W.hasDictIn;rw[hc'];rfl) hn rfl (by rw[hl,hm]);obtain⟨hp,g,dr,tk,os⟩:=s;have L0:=I.type (M:=zh prog w);have L1:=W.looks_find (M:=zh prog w) X I hf;have L2:=W.looks_findIn (M:=zh prog w) X hg;have L3:=W.looks_findIn (M:=zh prog w) X hh;have f3:=FB.ga.bind (.ref a);have hx0:(expr&&onTheHeap (Bl "BaseException.__getattribute__"))=false:=by cases expr<;>rfl
 have hx2:(Bl "BaseException.__getattribute__" == Bl "object.__getattribute__")=false:=by decide +kernel
 have hx1:(onTheHeap (zu C)&&Bl "BaseException.__getattribute__" == Bl "object.__getattribute__")=false:=by rw[hx2];rfl
 have sb:W.Looks (zh prog w) hp (C2 (.ref a) (.type "BaseException")) true:=I.type.andThen (W.looks_mroIn X (by
  unfold W.mroIn
  rw[hc',B8,if_neg (by simp),BF,T.hasType (X := "BaseException") (b:=true) (by decide +kernel),C8]))
 have hk:builtinKind "BaseException.__getattribute__" = some .slot:=by decide +kernel
 have hsplit:splitId "BaseException.__getattribute__" = some ("BaseException", "__getattribute__"):=by decide +kernel
 unfold getAttr getAttrBy
 repeat (any_goals (first|assumption|(with_reducible refine di L0 ?_)|(with_reducible refine di L2 ?_)|(with_reducible refine di L3 ?_)|wp_step))
 refine CD FB.ga.plain PySem.F.entry_bexc_ga (@W.check_slot (zh prog w) _ _ ⟨hp,g,dr,tk+1,os⟩ "BaseException.__getattribute__" "BaseException" "__getattribute__" (.ref a) [.str name tk] [] _ hk hsplit sb (PySem.F.args_bexc_ga (.ref a) (.str name tk)) ?_);unfold Builtin.«object.__getattribute__»
 repeat (any_goals (first|assumption|(with_reducible refine di L0 ?_)|(with_reducible refine di L1 ?_)|wp_step))
 refine di (r:=v) (.of_pure (W.handedOut_of hv')) ?_;exact h
end
open Builtin Builtin.ObjectAttr
structure XCls (K:W.Frag) (C:Addr):Prop where
 xc:kD K C=true
 sa:W.findIn K (.ref C) "__setattr__" = some (some (.builtin "object.__setattr__"))
 ga:W.findIn K (.ref C) "__getattribute__" = some (some (.builtin "BaseException.__getattribute__"))
 gh:W.findIn K (.ref C) "__getattr__" = some none
 ca:W.findIn K (.ref C) "__class__" = some (some (.builtin "object.__class__"))
 cg:W.specialIn K (.builtin "object.__class__") "__get__" = some (some (.builtin "getset_descriptor.__get__"))
 ct:W.takesIn K (.builtin "object.__class__")=some true
 ob:W.mroIn K C (.type "object")=some true
section
variable{prog:yT}{w:zp}{A:zd}{E:yG->yH->Prop}{s:yH}{K:W.Frag}{C a dx:Addr}{ox od:Obj}
end
abbrev aE(a C:Addr)(d:Option Addr):Heap->Prop:=fun h=>∃t,h.get? a=some (bN C t d)
theorem gJ{P:yT}{w:zp}{t:Addr}{d:Option Addr}(e:h.get? a=some (bN C t d)):bC P w H h a (.ext (aE a C d)) :=
 ⟨⟨t,e⟩,⟨_,e⟩,fun _ _ ⟨u,z⟩ k=>⟨u,k _ z⟩⟩
section
variable{X:Cx}{pins:List (Addr×Obj)}{σ:St}{H:Hp}{s:yH}{a C dx:Addr}{f:Str}{v:V}{A:zd}{E:yG->yH->Prop}
theorem m8{u:yG}{Q:Unit->yH->Prop}(I:Inv X pins σ H s)(e:H a=some (.ext (aE a C none)))(c:XCls X.K C)(n:bi X.K C f)(r:RelV v u)
 (h:∀s' dx,H dx=none->dx≠a->Inv X pins σ (upd (upd H a (.ext (aE a C (some dx)))) dx (.xd [(f,v)])) s'->Q () s'):zc (zh X.prog X.w) A (setAttr (.ref a) f u) Q E s:=by
 obtain⟨⟨t,ea⟩,_,_⟩:=(show bC X.prog X.w H s.heap a (.ext (aE a C none))from I.hok a _ e);refine pU (mA:=fun _=>none) (ns:=[]) I.kIn c.xc c.sa n ea (.inl ⟨rfl,fun _=>rfl⟩) Within.nil (zQ _) fun h' tk dx e1 e2 ne hdx kk=>?_
 obtain hz:s.heap.objs.size<=dx:=by
  rcases hdx with z|⟨_,z⟩
  · cases z
  · exact z
 have fr:H dx=none:=I.hok.fresh hz;have lt:∀b o,s.heap.get? b=some o->b≠dx:=fun b o q=>zn (yK (yN q) hz);have ltH:∀b o,H b=some o->b≠dx:=fun b o q=>aj q fr;have nea:∀b,H b=none->b≠a:=fun b q z=>by rw[z,e]at q;cases q
 have up:∀b o,b≠a->H b=some o->upd (upd H a (.ext (aE a C (some dx)))) dx (.xd [(f,v)]) b=some o:=fun b o n q=>by
  rw[upd_ne (ltH b o q),upd_ne n];exact q
 refine h _ dx fr ne (I.un (h':=h') (t':=tk) ⟨fun b o q n _ _=>kk b o (nea b n) (lt b o q) q,fun b o q n _ _=>⟨o.slots,kk b o (nea b n) (lt b o q) q⟩,fun b o q n _=>?_,fun b o q _=>?_,fun b xs q=>up b _ ?_ q,fun b o u q=>up b _ ?_ q,fun b ps q=>⟨#[],by rw[up b _ (bL q e (fun z=>nomatch z)) q];simp⟩⟩ fun b o q=>?_)
 · rw[upd_ne (lt b o q),upd_ne (nea b n)];exact n
 · by_cases hb:b=a
   · subst hb;exact⟨_,e1⟩
   · exact⟨o,kk b o hb (lt b o q) q⟩
 · exact bL q e (fun z=>nomatch z)
 · exact bL q e (fun z=>nomatch z)
 · by_cases hd:b=dx
   · subst hd;rw[ai]at q;cases q;refine⟨_,e2,fun g=>?_⟩;by_cases hg:g=f
     · subst hg;have hb:(g==g)=true:=by simp
       simp only[Bu,hb,if_true];exact r
     · have hb:(g==f)=false:=beq_eq_false_iff_ne.mpr hg;simp only[Bu,hb,if_neg hg];exact CA
   · rw[upd_ne hd]at q;by_cases hb:b=a
     · subst hb;rw[ai]at q;cases q;exact gJ e1
     · rw[upd_ne hb]at q;refine(I.hok b o q).stay (fun c u hc z=>kk c u ?_ (lt c u z) z) (fun c z=>up c _ (bL z e (fun y=>nomatch y)) z) fun c xs z=>up c _ (bL z e (fun y=>nomatch y)) z;rcases hc with rfl|hc
       · exact hb
       · exact bL hc e (fun y=>nomatch y)
end
section
variable{M:Dl}{A:zd}{E:yG->yH->Prop}{s:yH}{env:Env}{K:W.Frag}
theorem ng{x:Sem yG}{Q:Flow->yH->Prop}(hh:A.handled=none)
 (h:zc M A x (fun v s1=>∃a C t d,v = .ref a/\K.In s1.heap/\kD K C=true/\s1.heap.get? a=some (bN C t d)/\E (.ref a) s1) E s):zc M A (raiseStmt env (some x) none) Q E s:=by
 unfold raiseStmt;refine yJ (zG h (fun v s1 ⟨a,C,t,d,ev,X,q,ea,z⟩=>?_) fun _ _ y=>y);subst ev;obtain⟨nm,qn,N,bs,bm,sn,sub,ab,col,dd,k0,k1,k2,k3,k5,lk,T⟩:=gN X q;have hC:=X _ _ lk;have hcB:(zu C::bm).contains (.type "BaseException")=true:=by rw[BF,T.hasType (X := "BaseException") (b:=true) (by decide +kernel),C8]
 obtain⟨hp,g,dr,tk,os⟩:=s1;have hx:hp.get? a=some {cls:=.ref C,dict:=d,data:=.fields #[.ref t,.none,.none,.none,.bool false,.none]}:=ea
 repeat (first|(with_reducible refine Aj hx ?_)|(with_reducible refine Aj hC ?_)|((with_reducible refine Bt hC ?_);rw[hcB])|wp_step)
 exact wpAny_raiseNew_none hh z
end
structure XMk (K:W.Frag) (C f:Addr):Prop where
 cl:XCls K C
 init:W.findIn K (.ref C) "__init__" = some (some (.ref f))
 fn:W.isFn K (.ref f)=true
 kp:W.keepIn K (.ref C)=true
noncomputable def wU(K:W.Frag)(ta tv:TE)(n:Str):TS:=fun D σ H=>tv σ H fun y H1=>ta σ H1 fun x H2=>∃a C,x = .ref a/\XCls K C/\bi K C n/\H2 a=some (.ext (aE a C none)) /\
 ∀dx,H2 dx=none->dx≠a->D.nx σ (upd (upd H2 a (.ext (aE a C (some dx)))) dx (.xd [(n,y)]))
section
variable{X:Cx}{o value:Expr}{n:Str}{pos pos':Pos}{ta tv:TE}
theorem sR(ha:PE X o ta)(hv:PE X value tv)(hs:autoParam (AL value (some (.Attribute o n pos')) pos.line X.env=pure false) æa._auto_1):PS X (.Assign [.Attribute o n pos'] value pos) (wU X.K ta tv n):=by
 intro pins s σ H D I h;refine A_ (wE (hv pins s σ H _ I h) fun u s1 ⟨y,H1,I1,ry,q⟩=>wE (ha pins s1 σ H1 _ I1 q) fun ov s2 ⟨x,H2,I2,rx,a,C,ex,c,na,ea,q2⟩=>?_) hs;subst ex;obtain rfl:ov=zu a:=rx;exact m8 I2 ea c na ry fun s3 dx hd ne I3=>⟨σ,_,I3,q2 dx hd ne⟩
end
section
variable{X:Cx}{k:Nat}{f C:Addr}{fd:z5}{ps:List Str}{x n:Str}{p pos rpos:Pos}{e:Expr}{t:TA}
end
theorem dg{P:yT}{w:zp}{o:HO}(x:bC P w H h a o):∃ob,h.get? a=some ob:=by
 cases o with
 | lst xs=>obtain⟨_,_,_,_,e⟩:=x;exact⟨_,e⟩
 | tup xs=>obtain⟨_,_,_,⟨_,e,_⟩⟩:=x;exact⟨_,e⟩
 | dK kvs=>obtain⟨_,_,_,_,o,_,_,e,_⟩:=x;exact⟨_,e⟩
 | dT kvs=>obtain⟨_,_,_,_,o,_,_,e,_⟩:=x;exact⟨_,e⟩
 | set S n=>obtain⟨o,_,_,_,e,_⟩:=x;exact⟨_,e⟩
 | ins C dx fs=>obtain⟨_,_,_,e,_⟩:=x;exact⟨_,e⟩
 | own y=>exact x
 | xd fs=>obtain⟨_,⟨_,_,_,e,_⟩,_⟩:=x;exact⟨_,e⟩
 | rng lo hi=>obtain⟨_,_,_,e⟩:=x;exact⟨_,e⟩
 | frz ob u=>obtain⟨e,_⟩:=x;exact⟨_,e⟩
 | tbl ps=>exact⟨_,(show h.get? a=some _ from x)⟩
 | met f y=>exact⟨_,(show h.get? a=some _ from x)⟩
 | ext φ=>obtain⟨_,e,_⟩:=x;exact e
noncomputable def cQ(H:Hp)(a:Addr):Hp:=fun b=>if b=a then none else H b
theorem b5:cQ H a a=none:=by unfold cQ;rw[if_pos rfl]
theorem ig{b:Addr}(n:b≠a):cQ H a b=H b:=by unfold cQ;rw[if_neg n]
noncomputable def yz(P:yT)(w:zp):yy:=fun outer H s E e s'=>∃a C dx T H',e = .ref a/\s'.os=s.os/\BR s'.gens/\Un (frs outer) [] H H' s.heap s'.heap/\yx P w H' s'.heap/\yD s'.heap a (.ref C) (some dx) T .none /\
 H' a=none/\H' T=none/\s.heap.get? a=none/\s.heap.get? T=none/\E (.ref C) (some dx) H'
section
variable{P:yT}{w:zp}{K:W.Frag}{mg:Str->Option yG}{base:Heap}{N:List Str}{qual:Str}{scope:Scope}{f:Addr}{cd:yG}{A:zd}{outer:List Env}{s s1:yH}{H H1:Hp}{E:XK}{pins:List (Addr×Obj)}{σ:St}{a C dx:Addr}
theorem mr(I:Inv (gE (yz P w) P w K mg base N qual scope f cd A outer s H E) pins σ H1 s1)(sz:s.heap.objs.size<=a)(ne:dx≠a)(ea:H1 a=some (.ext (aE a C (some dx))))(q:E (.ref C) (some dx) (cQ H1 a)) :
 (gE (yz P w) P w K mg base N qual scope f cd A outer s H E).xe (.ref a) s1:=by
 obtain⟨⟨t,e1⟩,_,_⟩:=(show bC P w H1 s1.heap a (.ext (aE a C (some dx)))from I.hok a _ ea);refine nY I.ok.frames I.stack rfl ⟨_,_,e1,rfl,rfl,rfl,rfl⟩ fun h' T nT air bt=>?_;have B:=I.base;have fra:s.heap.get? a=none:=CB sz;have nea:∀b o,s.heap.get? b=some o->b≠a:=fun b o e z=>by rw[z,fra]at e;cases e
 have nfr:∀b o,s.heap.get? b=some o->b∉frs outer->b∉frs (Bp qual scope s.heap.objs.size f cd::outer):=fun b o e n z=>by
  unfold frs at z;rw[Am]at z;rcases zo.mp z with y|y
  · exact absurd (yN e) (by rw[y];exact zM _)
  · exact n y
 have infr:∀b,b∈frs outer->b∈frs (Bp qual scope s.heap.objs.size f cd::outer):=fun b z=>by
  unfold frs;rw[Am];exact yR _ z
 have un1:∀b,b≠a->cQ H1 a b=H1 b:=fun b n=>ig n;refine⟨a,C,dx,T,cQ H1 a,rfl,I.os,I.bare,⟨fun b o e n m _=>?_,fun b o e n m _=>?_,fun b o e n _=>?_,fun b o e _=>?_,fun b xs e=>?_,fun b o u e=>?_,fun b ps e=>?_⟩,fun b o e=>?_,air,b5,?_,fra,?_,q⟩
 · exact bt.keep b o (by simpa using nea b o e) (nfr b o e m) (B.keep b o e n m (fun z=>nomatch z))
 · obtain⟨sl,e2⟩:=B.slot b o e n m (fun z=>nomatch z);obtain⟨sl',e3⟩:=bt.slot b _ (by simpa using nea b o e) (infr b m) e2;exact⟨sl',e3⟩
 · rw[un1 b (nea b o e)];exact B.free b o e n (fun z=>nomatch z)
 · obtain⟨o1,e2⟩:=B.there b o e (fun z=>nomatch z);exact bt.there b o1 e2
 · have z:=B.tups b xs e;rw[un1 b (bL z ea (fun y=>nomatch y))];exact z
 · have z:=B.frzs b o u e;rw[un1 b (bL z ea (fun y=>nomatch y))];exact z
 · obtain⟨m,z⟩:=B.tbls b ps e;exact⟨m,by rw[un1 b (bL z ea (fun y=>nomatch y))];exact z⟩
 · have hb:b≠a:=fun z=>by rw[z,b5]at e;cases e
   rw[un1 b hb]at e;refine(I.hok b o e).stay (fun c u hc z=>?_) (fun c z=>by rw[un1 c (bL z ea (fun y=>nomatch y))];exact z) fun c xs z=>by rw[un1 c (bL z ea (fun y=>nomatch y))];exact z
   have hH:∃o',H1 c=some o':=by
    rcases hc with rfl|hc
    · exact⟨_,e⟩
    · exact⟨_,hc⟩
   have hca:c≠a:=by
    rcases hc with rfl|hc
    · exact hb
    · exact bL hc ea (fun y=>nomatch y)
   refine bt.keep c u (by simpa using hca) (fun m=>?_) z;obtain⟨o',hH⟩:=hH;rw[I.stkFree c m]at hH;cases hH
 · by_cases hT:T=a
   · rw[hT];exact b5
   · rw[un1 T hT]
     cases z:H1 T with
     | none=>rfl
     | some o =>
       obtain⟨o',e'⟩:=dg (I.hok T o z);rw[nT]at e';cases e'
 · cases z:s.heap.get? T with
   | none=>rfl
   | some o =>
     obtain⟨o1,e2⟩:=B.there T o z (fun y=>nomatch y);rw[nT]at e2;cases e2
end
theorem PS.nox{st:Stmt}{t:TS}(h:PS X.nox st t):PS X st t:=fun pins s σ H D I hw =>
 zG (h pins s σ H D (I.wish _) hw) (fun _ _ q=>q.unwish) fun _ _ z=>zl z
theorem PA.nox{es:List Expr}{t:TA}(h:PA X.nox es t):PA X es t:=fun pos pins s σ H Q I hw =>
 zG (h pos pins s σ H Q (I.wish _) hw) (fun _ _ ⟨v,H',I',r,q⟩=>⟨v,H',I'.unwish,r,q⟩) fun _ _ z=>zl z
namespace VL
abbrev XQ:=Str->List (Str×yF)->Prop
abbrev xN(K:W.Frag)(rl:Option Addr)(F H Fs:Hp)(E:XK)(c:Str)(fs:List (Str×yF)):Prop:=∀C dx F' H' us,Grow rl F H F' H'->aW Fs F'->W.nsIn K yW c=some (some (.ref C))->H' dx=some (.xd us)->H dx=none->F' dx=none->yp K F' us fs->E (.ref C) (some dx) H'
abbrev oE(K:W.Frag)(rl:Option Addr)(F H Fs:Hp)(E:XK)(QE:XQ):Prop:=∀c fs,QE c fs->xN K rl F H Fs E c fs
theorem oE.on{K:W.Frag}{Fs Fs':Hp}{E:XK}{QE:XQ}(l:oE K rl F H Fs E QE)(s:aW Fs Fs'):oE K rl F H Fs' E QE:=fun c fs z C dx F' H' us g m=>l c fs z C dx F' H' us g (s.trans m)
noncomputable def vd(K:W.Frag)(rl:Option Addr)(P:List W->(yF->Prop)->XQ->Prop):Sp:=fun vs H Q E=>∃F ws,aW F H/\x_ rl F H/\cI K rl F H vs ws/\ws.all b7=true/\P ws (fun d=>∀v F' H',Grow rl F H F' H'->Rep K F' v d->Q v H') (xN K rl F H F E)
noncomputable def mq(X:Cx)(rl:Option Addr)(E:XK)(body:List Stmt)(t:VEnds->XQ->En->Prop):Prop:=∃T,yd X body T/\∀{F₀ H₀ F H:Hp}{σ:St}{ρ:En},VR X.K rl F₀ H₀ F H σ ρ->∀Dv D QE,EndsOk X.K rl F₀ H₀ F Dv D->oE X.K rl F₀ H₀ F E QE->t Dv QE ρ->T D σ H
section
variable{X:Cx}{rl:Option Addr}{E:XK}{st:Stmt}{rest body:List Stmt}{t:xS}{u:VEnds->XQ->En->Prop}{c e:Expr}{f:TB}{fs:xR}{pos:Pos}
theorem PB.nox(h:PB X.nox rl c f):PB X rl c f:=let ⟨t,p,k⟩:=h;⟨t,p.nox,k⟩
theorem ye.nox(h:ye X.nox rl st t):ye X rl st t:=let ⟨T,p,k⟩:=h;⟨T,p.nox,k⟩
theorem gk.nox(h:gk X.nox rl body t):gk X rl body t:=let ⟨T,p,k⟩:=h;⟨T,p.nox,k⟩
theorem yb.nox{es:List Expr}(h:yb X.nox rl es fs):yb X rl es fs:=let ⟨T,p,k⟩:=h;⟨T,p.nox,k⟩
noncomputable def wj(t:xS):VEnds->XQ->En->Prop:=fun Dv _ ρ=>t Dv ρ
theorem vQ(h:gk X.nox rl body t):mq X rl E body (wj t):=by
 obtain⟨T,p,k⟩:=h.nox;exact⟨T,p,fun R Dv D _ ok _ q=>k R Dv D ok q⟩
noncomputable def ut(t:xS)(u:VEnds->XQ->En->Prop):VEnds->XQ->En->Prop:=fun Dv QE ρ=>t {Dv with nx:=u Dv QE} ρ
theorem rh(h:ye X.nox rl st t)(h2:mq X rl E rest u):mq X rl E (st::rest) (ut t u):=by
 obtain⟨T,p,k⟩:=h.nox;obtain⟨T2,p2,k2⟩:=h2;exact⟨_,aF p p2,fun R Dv D QE ok l q=>k R {Dv with nx:=u Dv QE} {D with nx:=T2 D} ⟨fun F H σ ρ s' R' q'=>k2 R' Dv D QE (ok.on s') (oE.on l s') q',ok.rt,ok.bk,ok.ct⟩ q⟩
end
structure DfnE (P:yT) (w:zp) (K:W.Frag) (mg:Str->Option yG) (base:Heap) (rl:Option Addr) (x:Str) (ps:List Str) (k:Nat) (Pd:List W->(yF->Prop)->XQ->Prop):Prop where
 mono:∀ws Q Q' R R',(∀d,Q d->Q' d)->(∀c fs,R c fs->R' c fs)->Pd ws Q R->Pd ws Q' R'
 ex:∃f fd,mg x=some (.ref f)/\W.keepIn K (.ref f)=true/\Binds K fd ps []/\FnOk P w K mg base (yz P w) k f fd ps (vd K rl Pd)
section
variable{P:yT}{w:zp}{K:W.Frag}{mg:Str->Option yG}{base:Heap}{rl:Option Addr}{x:Str}{st:Stmt}{N ps:List Str}{k:Nat}{Pd:List W->(yF->Prop)->XQ->Prop}{t:VEnds->XQ->En->Prop}
theorem DfnE.of(Fn:FnIn K mg x st ps)(S:FnScope N ps (defScope st))(mono:∀ws Q Q' R R',(∀d,Q d->Q' d)->(∀c fs,R c fs->R' c fs)->Pd ws Q R->Pd ws Q' R')(len:∀ws Q R,Pd ws Q R->ws.length=ps.length)
 (hbody:∀{f:Addr}(cdv:yG)(A:zd)(outer:List Env)(s:yH)(H:Hp)(E:XK),Room k (A.deeper (Bp x (defScope st) s.heap.objs.size f cdv)) ->
  (∀pins σ H1 s1 a C dx,Inv (gE (yz P w) P w K mg base N x (defScope st) f cdv A outer s H E) pins σ H1 s1->s.heap.objs.size<=a->dx≠a->H1 a=some (.ext (aE a C (some dx)))->E (.ref C) (some dx) (cQ H1 a) ->
   (gE (yz P w) P w K mg base N x (defScope st) f cdv A outer s H E).xe (.ref a) s1) ->
  mq (gE (yz P w) P w K mg base N x (defScope st) f cdv A outer s H E) rl E (defBody st) t)
 (hread:∀ws Q R,Pd ws Q R->t (iz Q) R (bS N ws)):DfnE P w K mg base rl x ps (k+1) Pd:=by
 obtain⟨f,fd,hm,F,hb⟩:=Fn.ex;refine⟨mono,f,fd,hm,F.kp,hb,?_⟩;obtain⟨oc,od,kV,doc,pm,an,cdv,ct,osl,rfl,lk,hcd⟩:=F.ex;refine q9 lk hcd S (fun vs H Q E ⟨F,ws,_,_,r,_,q⟩=>(AW r).trans (len ws _ _ q)) fun A outer s H vs Q E hr h=>?_;obtain⟨F,ws,sm,ra,r,ok,q⟩:=h;obtain⟨T,p,kk⟩:=hbody cdv A outer s H E hr (fun pins σ H1 s1 a C dx I sz ne ea q=>mr I sz ne ea q);refine⟨T,p,kk (d7 sm ra r ok) (iz _) _ _ ⟨?_,?_,fun _ _ _ _ _ _ z=>zl z,fun _ _ _ _ _ _ z=>zl z⟩ (fun c fs z=>z) (hread ws _ _ q)⟩
 · intro F1 H1 σ1 ρ1 _ R1 q1;exact q1 .non F1 H1 R1.g .non
 · rintro v w1 F1 H1 g1 r1 n1 ⟨d,ed,q1⟩;obtain⟨F2,g2,s2,r2⟩:=cu.fz g1 r1 n1;rw[ed]at r2;exact q1 v F2 H1 g2 r2
end
end VL
theorem lN{fs l:List Addr}{h1 h2:Heap}(u:Un fs [] H H' h h1)(bt:But fs l h1 h2)(fr:∀b∈l,h.get? b=none):Un fs [] H H' h h2:=by
 have nl:∀b o,h.get? b=some o->b∉l:=fun b o e z=>by rw[fr b z]at e;cases e
 refine⟨fun b o e n m x=>bt.keep b o (nl b o e) m (u.keep b o e n m x),fun b o e n m x=>?_,u.free,fun b o e x=>?_,u.tups,u.frzs,u.tbls⟩
 · obtain⟨sl,e1⟩:=u.slot b o e n m x;obtain⟨sl',e2⟩:=bt.slot b _ (nl b o e) m e1;exact⟨sl',e2⟩
 · obtain⟨o1,e1⟩:=u.there b o e x;exact bt.there b o1 e1
theorem j5{P:yT}{w:zp}{fs l:List Addr}{h1 h2:Heap}(ok:yx P w H h1)(bt:But fs l h1 h2)(fr:∀b∈l,H b=none)(ff:∀b∈fs,H b=none):yx P w H h2:=fun b o e=>by
 have nt:∀c u,H c=some u->c∉l/\c∉fs:=fun c u q=>⟨fun z=>(by rw[fr c z]at q;cases q),fun z=>(by rw[ff c z]at q;cases q)⟩;refine(ok b o e).stay (fun c u hc z=>?_) (fun _ q=>q) fun _ _ q=>q;rcases hc with rfl|hc
 · exact bt.keep c u (nt c _ e).1 (nt c _ e).2 z
 · exact bt.keep c u (nt c _ hc).1 (nt c _ hc).2 z
theorem pB{fs:List Addr}{h1:Heap}{o:HO}(u:Un fs [] H H' h h1)(na:H' a=none)(fa:h.get? a=none):Un fs [] H (upd H' a o) h h1:=by
 have nea:∀b o,h.get? b=some o->b≠a:=fun b o e z=>by rw[z,fa]at e;cases e
 refine⟨u.keep,u.slot,fun b o e n x=>?_,u.there,fun b xs e=>?_,fun b o u' e=>?_,fun b ps e=>?_⟩
 · rw[upd_ne (nea b o e)];exact u.free b o e n x
 · have z:=u.tups b xs e;rw[upd_ne (aj z na)];exact z
 · have z:=u.frzs b o u' e;rw[upd_ne (aj z na)];exact z
 · obtain⟨m,z⟩:=u.tbls b ps e;exact⟨m,by rw[upd_ne (aj z na)];exact z⟩
theorem n9{P:yT}{w:zp}{o:HO}(ok:yx P w H h)(na:H a=none)(new:bC P w (upd H a o) h a o):yx P w (upd H a o) h:=fun b u e=>by
 by_cases hb:b=a
 · subst hb;rw[ai]at e;cases e;exact new
 · rw[upd_ne hb]at e;exact(ok b u e).stay (fun _ _ _ z=>z) (fun c q=>by rw[upd_ne (aj q na)];exact q) fun c xs q=>by rw[upd_ne (aj q na)];exact q
section
variable{X:Cx}{pins:List (Addr×Obj)}{σ:St}{H:Hp}{s:yH}
theorem j8{M:Dl}{A:zd}{E:yG->yH->Prop}{n:Str}{Q:Unit->yH->Prop}(I:Inv X pins σ H s)(hN:X.N.Nodup)(hi:X.N[i]?=some n)(hk:X.env.scope.names.lookup n=some .local)
 (h:∀s',Inv X pins (σ.set i none) H s'->Q () s'):zc M A (do Db X.env n .none;unbindBehindTheSuite X.env n pos) Q E s:=by
 obtain⟨m,hn,hl⟩:=id I.loc;obtain⟨oL,_,_,hoL,_⟩:=id hn;refine wpAny_nameGoes_keeps hk hn (by rw[I.ok.kind];rfl) fun h' v hn' hs=>?_;have low:∀b o,X.s₀.heap.get? b=some o->b≠X.env.locals:=fun b o e=>zn (yK (yN e) I.ok.above);refine h _ ⟨I.ok,I.os,I.bare,⟨fun b o e n hb hx=>(hs.2 b (low b o e)).trans (I.base.keep b o e n hb hx),fun b o e n hb hx=>?_,I.base.free,fun b o e hx=>?_,I.base.tups,I.base.frzs,I.base.tbls⟩,⟨_,hn',fun j y v' e1 e2 e3=>?_⟩,fun y c e=>?_,I.free,I.freeC,fun p hp=>?_,fun b o e=>?_,by simpa using I.len⟩
 · obtain⟨sl,e1⟩:=I.base.slot b o e n hb hx;exact⟨sl,(hs.2 b (low b o e)).trans e1⟩
 · obtain⟨o',e1⟩:=I.base.there b o e hx;exact⟨o',(hs.2 b (low b o e)).trans e1⟩
 · have hj:i≠j:=fun z=>by
     subst z;rw[zm]at e2;split at e2
     · split at e2<;>cases e2
     · rename_i q;exact q rfl
   rw[yO hj]at e2
   have hy:y≠n:=fun z=>by
    subst z;exact hj (eB hN hi e1)
   obtain⟨u,ru,l⟩:=hl j y v' e1 e2 e3;refine⟨u,ru,?_⟩;rcases l with⟨k,z⟩|⟨k,c,e,o,ho,hd⟩
   · exact .inl ⟨k,by show(if y=n then v else m y)=_;rw[if_neg hy];exact z⟩
   · exact .inr ⟨k,c,e,o,(hs.2 c (I.cne y c e)).trans ho,hd⟩
 · obtain⟨v',o,ho,hd⟩:=I.cell y c e;exact⟨v',o,(hs.2 c (I.cne y c e)).trans ho,hd⟩
 · obtain⟨e,z,ne,nf,d⟩:=I.pin p hp;exact⟨(hs.2 p.1 ne).trans e,z,ne,nf,d⟩
 · refine(I.hok b o e).stay (fun c w' hc q=>(hs.2 c ?_).trans q) (fun _ q=>q) fun _ _ q=>q;rintro rfl;rcases hc with rfl|hc
   · rw[I.free]at e;cases e
   · rw[I.free]at hc;cases hc
end
structure XOver (K:W.Frag) (C B:Addr):Prop where
 sub:W.mroIn K C (.ref B)=some true
 exc:W.mroIn K B (.type "BaseException")=some true
 ty:W.typeIn K (.ref B)=some (.type "type")
section
variable{M:Dl}{A:zd}{E:yG->yH->Prop}{s:yH}{K:W.Frag}{C B a:Addr}{oe:Obj}
theorem re{Q:Bool->yH->Prop}(X:K.In s.heap)(o:XOver K C B)(ha:s.heap.get? a=some oe)(hc:oe.cls = .ref C)(h:Q true s):zc M A (excMatches (.ref a) (.ref B)) Q E s:=by
 have L1:W.Looks M s.heap (C2 (.ref B) (.type "tuple")) false:=(W.looks_typeIn X o.ty).andThen (.of_pure (by rw[isSubtype_type];kernel_rfl))
 have hcl:∃cd,W.clsIn K B=some cd:=by
  have z:=o.exc;unfold W.mroIn at z
  cases q:W.clsIn K B with
  | none=>rw[q]at z;cases z
  | some cd=>exact⟨cd,rfl⟩
 obtain⟨cd,hcd⟩:=hcl;have L2:W.Looks M s.heap (isSubtype (.ref B) (.type "BaseException")) true:=W.looks_mroIn X o.exc;have L3:W.Looks M s.heap (isSubtype (.ref C) (.ref B)) true:=W.looks_mroIn X o.sub
 have L4:W.Looks M s.heap (isType (.ref B)) true:=by
  unfold W.clsIn at hcd;split at hcd
  · rename_i ho;intro A' Q' E' s' k q;unfold isType loadHead;exact yJ (CI (k _ _ (X _ _ ho)) (yX q))
  · cases hcd
 have L5:W.Looks M s.heap (typeOf (.ref a)) (.ref C):=hc▸(W.Looks.ld ha).andThen .now;obtain⟨hp,g,d,tk,os⟩:=s;unfold excMatches isExcClass
 repeat (first|(with_reducible refine di L1 ?_)|(with_reducible refine di L2 ?_)|(with_reducible refine di L3 ?_)|(with_reducible refine di L4 ?_)|(with_reducible refine di L5 ?_)|wp_step)
 exact h
end
end L2
namespace L2.VL
theorem rf{P:yT}{w:zp}{dx T:Addr}{fl:yG}(z:yD h a (.ref C) (some dx) T fl):bC P w H h a (.ext (cR a C dx)):=by
 obtain⟨oe,vs,_,_,e,c,d,f,_⟩:=z;exact⟨⟨oe,vs,e,c,d,f⟩,⟨_,e⟩,fun _ _ ⟨oe,vs,e,q⟩ k=>⟨oe,vs,k _ e,q⟩⟩
theorem sL{us:List (Str×V)}(h:RO F (.xd us)):False:=by
 unfold RO at h;simp at h
section
variable{X:Cx}{rl:Option Addr}{E:XK}{e:Expr}{es:List Expr}{fs:xR}{pos p:Pos}
end
theorem VR.unset{K:W.Frag}(r:VR K rl F₀ H₀ F H σ ρ)(i:Nat):VR K rl F₀ H₀ F H (σ.set i none) (ρ.set i none):=by
 have nd:∀(j:Nat)(y:W),(ρ.set i none)[j]?=some (some y)->i≠j/\ρ[j]?=some (some y):=fun j y z=>by
  by_cases hj:i=j
  · subst hj;rw[zm]at z;split at z
    · split at z<;>cases z
    · rename_i q;exact absurd rfl q
  · rw[yO hj]at z;exact⟨hj,z⟩
 refine⟨r.g,fun j w z=>?_,fun j k x y v hjk e1 e2 o1 o2 s1 s2=>?_,fun j xs z=>r.np j xs (nd j _ z).2,by simp[r.len]⟩
 · obtain⟨hj,z'⟩:=nd j w z;obtain⟨v,h1,h2⟩:=r.sl j w z';exact⟨v,by rw[yO hj];exact h1,h2⟩
 · obtain⟨hj,z1⟩:=nd j x e1;obtain⟨hk,z2⟩:=nd k y e2;rw[yO hj]at s1;rw[yO hk]at s2;exact r.ap j k x y v hjk z1 z2 o1 o2 s1 s2
noncomputable def uv(i:Nat)(cs:List Str)(tb:VEnds->XQ->En->Prop)(ts:xS):xS:=fun Dv ρ=>tb Dv (fun c fs=>c∈cs/\ts ⟨fun ρ'=>Dv.nx (ρ'.set i none),Dv.rt,fun _=>False,fun _=>False⟩ ((zt ρ.length none).set i (some (.xc c fs)))) ρ
section
variable{X:Cx}{rl:Option Addr}{tb:VEnds->XQ->En->Prop}{ts:xS}{st b₀:Stmt}{suite:List Stmt}{cb n:Str}{cs:List Str}{B:Addr}{np hpos pos:Pos}
abbrev Cx.caughtIn(X:Cx)(a:Addr):Cx:={X with A:=X.A.mark (some (.ref a)),calm:=false,xe:=fun _ _=>False}
theorem Cx.Ok.caughtIn{X:Cx}(ok:X.Ok)(a:Addr):(Cx.caughtIn X a).Ok :=
 ⟨ok.mod,ok.kind,ok.glob,ok.blt,ok.above,ok.inj,ok.has,ok.cab,(fun z=>nomatch z),ok.frames,ok.stk,ok.exf,ok.bs,ok.bsz,ok.noex,ok.exfs,ok.funs,ok.frf⟩
theorem Inv.caughtIn{pins:List (Addr×Obj)}{σ:St}{H:Hp}{s:yH}(I:Inv X pins σ H s)(a:Addr):Inv (Cx.caughtIn X a) pins σ H s:=⟨Cx.Ok.caughtIn I.ok a,I.os,I.bare,I.base,I.loc,I.cell,I.free,I.freeC,I.pin,I.hok,I.len⟩
theorem Inv.uncaught{s:yH}(ok:X.Ok)(I:Inv (Cx.caughtIn X a) pins σ H s):Inv X pins σ H s:=⟨ok,I.os,I.bare,I.base,I.loc,I.cell,I.free,I.freeC,I.pin,I.hok,I.len⟩
abbrev Cx.held(X:Cx)(pn:List (Addr×Obj))(XE:yG->yH->Prop):Cx:={X with pn:=pn,xe:=XE}
theorem Inv.held{s:yH}(I:Inv X pins σ H s)(XE:yG->yH->Prop):Inv (Cx.held X (X.pn++pins) XE) [] σ H s:=by
 have ok:=I.ok;exact⟨⟨ok.mod,ok.kind,ok.glob,ok.blt,ok.above,ok.inj,ok.has,ok.cab,ok.hd,ok.frames,ok.stk,ok.exf,ok.bs,ok.bsz,ok.noex,ok.exfs,ok.funs,ok.frf⟩,I.os,I.bare,I.base,I.loc,I.cell,I.free,I.freeC,fun p hp=>I.pin p (by simpa using hp),I.hok,I.len⟩
theorem Inv.unheld{pins':List (Addr×Obj)}{s:yH}{XE:yG->yH->Prop}(ok:X.Ok)(I:Inv (Cx.held X (X.pn++pins) XE) pins' σ H s):Inv X pins σ H s :=
 ⟨ok,I.os,I.bare,I.base,I.loc,I.cell,I.free,I.freeC,fun p hp=>I.pin p (Bi _ hp),I.hok,I.len⟩
theorem oR(i:Nat)(hst:X.stack=X.env::X.outer)(hfl:X.env.frame=some X.env.locals)(hN:X.N.Nodup)(hi:X.N[i]?=some n)(hn:X.env.scope.names.lookup n=some .local)(hmb:X.mg cb=some (.ref B))
 (hcs:∀c∈cs,∀C,W.nsIn X.K yW c=some (some (.ref C))->XOver X.K C B)
 (hb:∀pn XE E,d0 (yz X.prog X.w) (Cx.held X pn XE) E->mq (Cx.held X pn XE) rl E [st] tb)
 (hs:∀a:Addr,gk (Cx.caughtIn X a) rl (b₀::suite) ts)(hg:autoParam (Gl X cb) æa._auto_1)(hdb:autoParam ((cb==("__debug__" : Str))=false) æb._auto_1) :
 ye X rl (.Try [st] [.ExceptHandler (some (.Name cb np)) (some n) (b₀::suite) hpos] [] [] pos) (uv i cs tb ts):=by
 refine⟨fun D σ H=>∀pins s,Inv X pins σ H s->zc (zh X.prog X.w) X.A (exec (.Try [st] [.ExceptHandler (some (.Name cb np)) (some n) (b₀::suite) hpos] [] [] pos) X.env) (SP X pins D) X.xe s,fun pins s σ H D I h=>h pins s I,fun{F₀ H₀ F H σ ρ} R Dv D ok q pins s I=>?_⟩;refine wpAny_Try_except ?_;generalize hXE:(fun e s₁=>zc (zh X.prog X.w) X.A (Ch e X.env) (fun _ s₂=>zc (zh X.prog X.w) X.A (setFlight e none) (fun _ s₃=>zc (zh X.prog X.w) X.A (handleBy e X.env [.ExceptHandler (some (.Name cb np)) (some n) (b₀::suite) hpos]) (SP X pins D) X.xe s₃) X.xe s₂) X.xe s₁:yG->yH->Prop)=XE;have I':=Inv.held I XE;generalize hQE:(fun c fs=>c∈cs/\ts ⟨fun ρ'=>Dv.nx (ρ'.set i none),Dv.rt,fun _=>False,fun _=>False⟩ ((zt ρ.length none).set i (some (.xc c fs))):XQ)=QE;have q:tb Dv QE ρ:=by rw[<- hQE];exact q
 let E:XK:=fun cls d H'=>∃C dx F' us c fs,cls = .ref C/\d=some dx/\Grow rl F₀ H₀ F' H'/\aW F F'/\W.nsIn X.K yW c=some (some (.ref C))/\H' dx=some (.xd us)/\H₀ dx=none/\F' dx=none/\yp X.K F' us fs/\QE c fs
 have pass:d0 (yz X.prog X.w) (Cx.held X (X.pn++pins) XE) E:=by
  rintro pins2 σ2 H2 s2 e s' J ⟨a,C,dx,T,H',rfl,hos,bare,un,hok,air,na,nT,fa,fT,⟨C',dx',F',us,c,fs,eC,ed,g,smF,ns,hxd,hd0,fd0,kd,qe⟩⟩;cases eC;cases ed;have okX:=I.ok;have J0:Inv X pins σ2 H2 s2:=Inv.unheld okX J;have J1:Inv X pins σ2 H' s':=J0.call' hos un hok bare (fun _ z=>nomatch z);have hfr:X.A.frames=some (X.env::X.outer):=by rw[<- hst];exact okX.frames
  have hst1:s'.heap.FunFrames X.base (X.env::X.outer):=by rw[<- hst];exact J1.stack
  show XE (.ref a) s';rw[<- hXE];refine qy hfr hst1 hfl air fun h3 T' nT' air3 bt3=>tE (s:={s' with heap:=h3}) air3 fun h4 air4 k4 t4=>?_;rw[<- hst]at bt3;have bt4:But (frs X.stack) [a,T,T'] s'.heap h4:=(bt3.more fun b z=>by simp at z;rcases z with z|z<;>simp[z]).trans ((gC k4 t4).more fun b z=>by simp at z;simp[z])
  have sT':s2.heap.get? T'=none:=by
   cases z:s2.heap.get? T' with
   | none=>rfl
   | some o=>obtain⟨o',e'⟩:=un.there T' o z (fun y=>nomatch y);rw[nT']at e';cases e'
  have hT':H' T'=none:=by
   cases z:H' T' with
   | none=>rfl
   | some o=>obtain⟨o',e'⟩:=dg (hok T' o z);rw[nT']at e';cases e'
  have f1:∀b∈[a,T,T'],s2.heap.get? b=none:=fun b z=>by
   simp at z;rcases z with rfl|rfl|rfl
   · exact fa
   · exact fT
   · exact sT'
  have f2:∀b∈[a,T,T'],H' b=none:=fun b z=>by
   simp at z;rcases z with rfl|rfl|rfl
   · exact na
   · exact nT
   · exact hT'
  have J4:Inv X pins σ2 H' {s' with heap:=h4}:=J0.call' hos (lN un bt4 f1) (j5 hok bt4 f2 J1.stkFree) bare (fun _ z=>nomatch z);have hq:c∈cs/\ts ⟨fun ρ'=>Dv.nx (ρ'.set i none),Dv.rt,fun _=>False,fun _=>False⟩ ((zt ρ.length none).set i (some (.xc c fs))):=by rw[<- hQE]at qe;exact qe
  obtain⟨oe,vs,oT,tts,ea,ec,edx,ef,_⟩:=id air4;refine wpAny_handleBy_cons (codeAny_handlers_test (eF (Inv.caughtIn J4 a) hg hmb ?_ hdb)) (by intro z;cases z);refine re J4.kIn (hcs c hq.1 C ns) ea ec ?_;refine codeAny_handlers_suite_as (tE (s:={s' with heap:=h4}) air4 fun h5 air5 k5 t5=>?_);have bt5:But (frs X.stack) [a,T,T'] s'.heap h5:=bt4.trans ((gC k5 t5).more fun b z=>by simp at z;simp[z])
  have J5:Inv X pins σ2 (upd H' a (.ext (cR a C dx))) {s' with heap:=h5} :=
   J0.call' hos (pB (lN un bt5 f1) na fa) (n9 (j5 hok bt5 f2 J1.stkFree) na (rf air5)) bare (fun _ z=>nomatch z)
  have J6:Inv X pins (zt σ2.length none) (upd H' a (.ext (cR a C dx))) {s' with heap:=h5}:=J5.weak (by simp) fun j v z=>by
   rw[zN]at z;split at z<;>cases z
  refine cw J6 hN hi (.inl hn) (show RelV (.ref a) (.ref a)from rfl) (fun s7 J7=>?_) (.inr hn);obtain⟨Ts,ps,ks⟩:=hs a;have ned:dx≠a:=fun z=>by rw[z,na]at hxd;cases hxd
  have hla:H₀ a=none:=g.freeB na;have Fa:F' a=none:=g.sub.free na
  have rld:rl≠some dx:=fun z=>by
   obtain⟨_,⟨o2,e2,e3⟩⟩:=g.reel dx z;rw[hxd]at e2;cases e2;exact sL e3
  have g1:Grow rl F₀ H₀ (upd F' dx (.xd us)) H':=g.freeze hd0 hxd fd0 rld;have g2:Grow rl F₀ H₀ (upd (upd F' dx (.xd us)) a (.ext (cR a C dx))) (upd H' a (.ext (cR a C dx))):=g1.trans (Grow.data g1.sub g1.reel na)
  have sm:aW F' (upd (upd F' dx (.xd us)) a (.ext (cR a C dx))):=fun b o z=>by
   rw[upd_ne (aj z Fa),upd_ne (aj z fd0)];exact z
  have hlen:ρ.length=σ2.length:=by rw[R.len,I.len];exact J0.len.symm
  have rx:cu X.K rl (upd (upd F' dx (.xd us)) a (.ext (cR a C dx))) (upd H' a (.ext (cR a C dx))) (.ref a) (.xc c fs) :=
   ⟨a,dx,us,C,rfl,ns,ai,by rw[upd_ne ned,ai],zE.mapP kd fun _ _ z=>⟨z.1,z.2.mono sm⟩⟩
  have R0:VR X.K rl F₀ H₀ (upd (upd F' dx (.xd us)) a (.ext (cR a C dx))) (upd H' a (.ext (cR a C dx))) (zt σ2.length none) (zt ρ.length none) :=
   ⟨g2,fun j w z=>(by rw[zN]at z;split at z<;>cases z),fun j k x y v _ z=>(by rw[zN]at z;split at z<;>cases z),fun j xs z=>(by rw[zN]at z;split at z<;>cases z),by simp[hlen]⟩
  have R7:=R0.set (Grow.refl R0.sub R0.reel) rx trivial (fun xs z=>nomatch z) i;refine zG (ps pins s7 _ _ ⟨fun σ' H6=>D.nx (σ'.set i none) H6,D.rt,fun _ _=>False,fun _ _=>False⟩ (Inv.caughtIn J7 a) (ks R7 ⟨fun ρ'=>Dv.nx (ρ'.set i none),Dv.rt,fun _=>False,fun _=>False⟩ _ ⟨fun F6 H6 σ6 ρ6 s6 R6 z=>ok.nx F6 H6 _ _ ((smF.trans sm).trans s6) (R6.unset i) z,ok.rt,fun _ _ _ _ _ _ z=>z,fun _ _ _ _ _ _ z=>z⟩ hq.2)) (fun fl s8 h8=>?_) fun _ _ z=>z.elim
  cases fl with
  | next =>
    obtain⟨σ8,H8,J8,z⟩:=h8
    exact j8 (Inv.uncaught okX J8) hN hi hn fun s9 J9=>⟨_,H8,J9,z⟩
  | ret u =>
    obtain⟨v,σ8,H8,J8,r8,z⟩:=h8
    exact j8 (Inv.uncaught okX J8) hN hi hn fun s9 J9=>⟨v,_,H8,J9,r8,z⟩
  | brk=>obtain⟨_,_,_,z⟩:=h8;exact zl z
  | cont=>obtain⟨_,_,_,z⟩:=h8;exact zl z
 obtain⟨T',p',k'⟩:=hb (X.pn++pins) XE E pass;refine zG (p' [] s σ H D I' (k' R Dv D QE ok (fun c fs z C dx F' H' us g sm n hx hd fd kd=>⟨C,dx,F',us,c,fs,rfl,rfl,g,sm,n,hx,hd,fd,kd,z⟩) q)) (fun fl s1 h1=>?_) (fun e s1 z=>?_)
 · cases fl with
   | next =>
     obtain⟨σ1,H1,J1,z⟩:=h1
     exact AY ⟨σ1,H1,Inv.unheld I.ok J1,z⟩
   | ret u =>
     obtain⟨v,σ1,H1,J1,r1,z⟩:=h1
     exact⟨v,σ1,H1,Inv.unheld I.ok J1,r1,z⟩
   | brk=>obtain⟨σ1,H1,J1,z⟩:=h1;exact⟨σ1,H1,Inv.unheld I.ok J1,z⟩
   | cont=>obtain⟨σ1,H1,J1,z⟩:=h1;exact⟨σ1,H1,Inv.unheld I.ok J1,z⟩
 · exact z
end
theorem n6{K:W.Frag}{us:List (Str×V)}{fs:List (Str×yF)}(r:yp K F us fs){n:Str}{d:yF}(e:fs.lookup n=some d):∃v,us.lookup n=some v/\Rep K F v d:=by
 induction r with
 | nil=>cases e
 | @cons p q us fs h _ ih =>
   obtain⟨k,v⟩:=p;obtain⟨k',d'⟩:=q;obtain⟨h1,h2⟩:=h;dsimp only at h1 h2;subst h1;by_cases hk:(n==k)=true
   · simp only[Bu,hk]at e ⊢;cases e;exact⟨v,rfl,h2⟩
   · simp only[Bu,Bool.not_eq_true _▸hk]at e ⊢;exact ih e
section
variable{X:Cx}{rl:Option Addr}{pos p p1:Pos}{c n x:Str}
noncomputable def wn(i:Nat)(c n:Str):TV:=fun ρ Q=>∃fs d,ρ[i]?=some (some (.xc c fs))/\fs.lookup n=some d/\Q (.d d)
theorem lI(i:Nat)(hx:∀C,W.nsIn X.K yW c=some (some (.ref C))->XCls X.K C/\bi X.K C n)(hN:autoParam (X.N[i]?=some x) æa._auto_1)(hv:autoParam (xO X.env.scope x) æd._auto_1)
 (hd:autoParam ((x==("__debug__" : Str))=false) æb._auto_1)(hcd:autoParam ((x==("__classdict__" : Str))=false) æb._auto_1)(hb:autoParam (A1 (.Name x p1) n X.env (eval (.Name x p1) X.env)=eval (.Name x p1) X.env) æa._auto_1) :
 PV X rl (.Attribute (.Name x p1) n pos) (wn i c n):=by
 refine⟨fun σ H Q=>∀pins s,Inv X pins σ H s->zc (zh X.prog X.w) X.A (eval (.Attribute (.Name x p1) n pos) X.env) (EP X pins σ Q) X.xe s,fun pins s σ H Q I h=>h pins s I,fun{F₀ H₀ F H σ ρ} R Qd Q ⟨fs,d,e,l,q⟩ k pins s I=>?_⟩;obtain⟨v,s1,⟨a,dx,us,C,ev,ns,h1,h2,kd⟩,_⟩:=R.sl i _ e;subst ev;obtain⟨xc,na⟩:=hx C ns;obtain⟨v,lv,rv⟩:=n6 kd l;refine oz hb (wE (cK hN hv hd hcd pins s σ H (fun y H1=>y = .ref a/\H1=H) I ⟨_,s1,rfl,rfl⟩) fun u s2 ⟨y,H1,I1,ry,ey,eH⟩=>?_);subst ey eH;obtain rfl:u=zu a:=ry;obtain⟨⟨oe,vs,z1,z2,z3,z4⟩,_⟩:=(show bC X.prog X.w H1 s2.heap a (.ext (cR a C dx))from I1.hok a _ (R.sub _ _ h1));obtain⟨mA,hns,hr⟩:=(show bC X.prog X.w H1 s2.heap dx (.xd us)from I1.hok dx _ (R.sub _ _ h2));obtain⟨u,hu,ru⟩:=tJ.some_of (v:=v) (o:=mA n) (by rw[<- lv];exact hr n);exact tm I1.kIn xc.xc xc.ga xc.gh na z1 z2 z3 z4 hns hu (j7 ru) ⟨v,H1,I1.tok _,ru,k v (.d d) F H1 (Grow.refl R.sub R.reel) rv trivial q⟩
end
noncomputable def r0(K:W.Frag)(C B f:Addr)(n:Str)(Cs:List Addr):Bool :=
 kD K C&&(W.findIn K (.ref C) "__setattr__" == some (some (.builtin "object.__setattr__")))&&(W.findIn K (.ref C) "__getattribute__" == some (some (.builtin "BaseException.__getattribute__"))) &&
 (W.findIn K (.ref C) "__getattr__" == some none)&&(W.findIn K (.ref C) "__class__" == some (some (.builtin "object.__class__")))&&(W.specialIn K (.builtin "object.__class__") "__get__" == some (some (.builtin "getset_descriptor.__get__"))) &&
 (W.takesIn K (.builtin "object.__class__")==some true)&&(W.mroIn K C (.type "object")==some true)&&W.isFn K (.ref f)&&W.keepIn K (.ref C)&&(W.findIn K (.ref C) n==some none) &&
 (W.mroIn K C (.ref B)==some true)&&(W.mroIn K B (.type "BaseException")==some true)&&(W.typeIn K (.ref B)==some (.type "type")) &&
 (W.kitAny K (.ref C) (Cs.map zu)==some false)&&(W.kitOne K (.ref C) (.ref C)==some true)&&(W.kitOne K (.ref C) (.type "ValueError")==some true)
section
variable{X:Cx}{rl:Option Addr}{E:XK}{rest body:List Stmt}{t u:VEnds->XQ->En->Prop}{pos:Pos}
end
theorem oO{t:xS}{D:VEnds}{R:XQ}(h:t D ρ):wj t D R ρ:=h
section
variable{X:Cx}{rl:Option Addr}
end
end L2.VL
namespace L2
section
variable{M:Dl}{A:zd}{env:Env}{outer:List Env}{base:Heap}{s:yH}{L a T:Addr}{C:yG}{d:Option Addr}{Q:Unit->yH->Prop}{E:yG->yH->Prop}
end
section
variable{P:yT}{w:zp}{K:W.Frag}{mg:Str->Option yG}{base:Heap}{N:List Str}{qual:Str}{scope:Scope}{f:Addr}{cd:yG}{A:zd}{outer:List Env}{s:yH}{H:Hp}{E:XK}
end
namespace VL
section
variable{X:Cx}{rl:Option Addr}{E:XK}{e a b c:Expr}{es:List Expr}{fs:xR}{fa:TV}{f:En->XQ->Prop}{fb:TB}{t u:VEnds->XQ->En->Prop}{pos p:Pos}{rest A B body:List Stmt}
end
section
variable{t:xS}{u v:VEnds->XQ->En->Prop}{D:VEnds}{R:XQ}{ρ ρ':En}{fs:xR}{fa:TV}{fb:TB}{f:En->XQ->Prop}{ws:List W}
theorem oN(h:mS t ρ=VL.ret (.nx ρ'))(q:u D R ρ'):ut t u D R ρ:=by
 have e:mS t ρ (fun fl=>match fl with | .nx ρ=>u D R ρ | .rt w=>D.rt w | .bk ρ=>D.bk ρ | .ct ρ=>D.ct ρ):=by rw[h];exact q
 exact e
end
end VL
section
variable{X:Cx}{pins:List (Addr×Obj)}{σ:St}{H:Hp}{s:yH}{a C dx:Addr}{f:Str}{v:V}{A:zd}{E:yG->yH->Prop}
theorem kN{u:yG}{us:List (Str×V)}{Q:Unit->yH->Prop}(I:Inv X pins σ H s)(e:H a=some (.ext (aE a C (some dx))))(ed:H dx=some (.xd us))(ne:dx≠a)(hl:us.length<=10)(c:XCls X.K C)(n:bi X.K C f)(r:RelV v u)
 (h:∀s',Inv X pins σ (upd H dx (.xd ((f,v)::us))) s'->Q () s'):zc (zh X.prog X.w) A (setAttr (.ref a) f u) Q E s:=by
 obtain⟨⟨t,ea⟩,_,_⟩:=(show bC X.prog X.w H s.heap a (.ext (aE a C (some dx)))from I.hok a _ e);obtain⟨mA,hns,hlk⟩:=(show bC X.prog X.w H s.heap dx (.xd us)from I.hok dx _ ed)
 have hw:C4 mA (us.map (·.1)):=fun y hy=>by
  have z:=hlk y
  cases q:us.lookup y with
  | none=>rw[q]at z;cases m:mA y with
    | none=>exact absurd m hy
    | some x=>rw[m]at z;exact z.elim
  | some x =>
    obtain⟨l1,l2,e',_⟩:=List.lookup_eq_some_iff.mp q;rw[e'];simp
 refine pU (mA:=mA) (ns:=us.map (·.1)) I.kIn c.xc c.sa n ea (.inr ⟨dx,rfl,ne,hns⟩) hw (by rw[yV,CL];omega) fun h' tk dx' e1 e2 ne' hdx kk=>?_
 obtain rfl:dx'=dx:=by
  rcases hdx with z|⟨z,_⟩
  · cases z;rfl
  · cases z
 have nea:∀b,H b=none->b≠a:=fun b q z=>by rw[z,e]at q;cases q
 have ned:∀b,H b=none->b≠dx':=fun b q z=>by rw[z,ed]at q;cases q
 have up:∀b o,b≠dx'->H b=some o->upd H dx' (.xd ((f,v)::us)) b=some o:=fun b o m q=>by rw[upd_ne m];exact q
 refine h _ (I.un (h':=h') (t':=tk) ⟨fun b o q m _ _=>kk b o (nea b m) (ned b m) q,fun b o q m _ _=>⟨o.slots,kk b o (nea b m) (ned b m) q⟩,fun b o q m _=>by rw[upd_ne (ned b m)];exact m,fun b o q _=>?_,fun b xs q=>up b _ (bL q ed (fun z=>nomatch z)) q,fun b o u q=>up b _ (bL q ed (fun z=>nomatch z)) q,fun b ps q=>⟨#[],by rw[up b _ (bL q ed (fun z=>nomatch z)) q];simp⟩⟩ fun b o q=>?_)
 · by_cases hb:b=a
   · subst hb;exact⟨_,e1⟩
   · by_cases hd:b=dx'
     · subst hd;obtain⟨o',_,_,z,_⟩:=e2;exact⟨o',z⟩
     · exact⟨o,kk b o hb hd q⟩
 · by_cases hd:b=dx'
   · subst hd;rw[ai]at q;cases q;refine⟨_,e2,fun g=>?_⟩;by_cases hg:g=f
     · subst hg;have hb:(g==g)=true:=by simp
       simp only[Bu,hb,if_true];exact r
     · have hb:(g==f)=false:=beq_eq_false_iff_ne.mpr hg;simp only[Bu,hb,if_neg hg];exact hlk g
   · rw[upd_ne hd]at q;by_cases hb:b=a
     · subst hb;rw[e]at q;cases q;exact gJ e1
     · refine(I.hok b o q).stay (fun c u hc z=>kk c u ?_ ?_ z) (fun c z=>up c _ (bL z ed (fun y=>nomatch y)) z) fun c xs z=>up c _ (bL z ed (fun y=>nomatch y)) z
       · rcases hc with rfl|hc
         · exact hb
         · exact bL hc e (fun y=>nomatch y)
       · rcases hc with rfl|hc
         · exact hd
         · exact bL hc ed (fun y=>nomatch y)
end
noncomputable def oF(K:W.Frag)(n m:Str):Sp:=fun vs H Q _=>∃a C y z,vs=[.ref a,y,z]/\XCls K C/\bi K C n/\bi K C m/\H a=some (.ext (aE a C none))/\∀dx,H dx=none->dx≠a->Q .non (upd (upd H a (.ext (aE a C (some dx)))) dx (.xd [(m,z),(n,y)]))
noncomputable def wT(K:W.Frag)(ta tv:TE)(n:Str):TS:=fun D σ H=>tv σ H fun y H1=>ta σ H1 fun x H2=>∃a C dx us,x = .ref a/\XCls K C/\bi K C n/\H2 a=some (.ext (aE a C (some dx)))/\H2 dx=some (.xd us)/\dx≠a/\us.length<=10/\D.nx σ (upd H2 dx (.xd ((n,y)::us)))
section
variable{X:Cx}{o value:Expr}{n:Str}{pos pos':Pos}{ta tv:TE}
theorem sQ(ha:PE X o ta)(hv:PE X value tv)(hs:autoParam (AL value (some (.Attribute o n pos')) pos.line X.env=pure false) æa._auto_1):PS X (.Assign [.Attribute o n pos'] value pos) (wT X.K ta tv n):=by
 intro pins s σ H D I h;refine A_ (wE (hv pins s σ H _ I h) fun u s1 ⟨y,H1,I1,ry,q⟩=>wE (ha pins s1 σ H1 _ I1 q) fun ov s2 ⟨x,H2,I2,rx,a,C,dx,us,ex,c,na,ea,ed,ne,hl,q2⟩=>?_) hs;subst ex;obtain rfl:ov=zu a:=rx;exact kN I2 ea ed ne hl c na ry fun s3 I3=>⟨σ,_,I3,q2⟩
end
section
variable{X:Cx}{k:Nat}{f C:Addr}{fd:z5}{ps:List Str}{x n m:Str}{p pos rpos:Pos}{e e':Expr}{t:TA}
theorem iF{s:yH}{Q:yG->yH->Prop}{u u':yG}{v':V}(M:XMk X.K C f)(na:bi X.K C n)(nb:bi X.K C m)(F:FnOk X.prog X.w X.K X.mg X.base yA k f fd ps (oF X.K n m))(hr:Room (k+1) X.A)(hb:Binds X.K fd ps [])
 (I:Inv X pins σ H s)(r:RelV v u)(r':RelV v' u')
 (h:∀s' a dx,H a=none->H dx=none->dx≠a->X.s₀.heap.objs.size<=a->Inv X pins σ (upd (upd H a (.ext (aE a C (some dx)))) dx (.xd [(m,v'),(n,v)])) s'->Q (.ref a) s') :
 zc (zh X.prog X.w) X.A (call (.ref C) [u,u']) Q X.xe s:=by
 refine iY I.kIn M.cl.xc M.init (beq_iff_eq.mp M.fn) (by size_fits) ?_;have kk:∀b o,s.heap.get? b=some o->(bh s.heap C [u,u']).get? b=some o:=fun b o e=>yI _ (yI _ e);have hg:(bh s.heap C [u,u']).get? (s.heap.objs.size+1)=some (bN C s.heap.objs.size none):=by heap_get
 have I2:Inv X pins σ (upd H (s.heap.objs.size+1) (.ext (aE (s.heap.objs.size+1) C none))) {s with heap:=bh s.heap C [u,u']}:=I.laid (t':=s.toks) kk (Dk _) (gJ hg);have fa:H (s.heap.objs.size+1)=none:=I.hok.fresh (Dk _);have r2:br [V.ref (s.heap.objs.size+1),v,v'] [zu (s.heap.objs.size+1),u,u']:=.cons rfl (.cons r (.cons r' .nil))
 have hq:oF X.K n m [V.ref (s.heap.objs.size+1),v,v'] (upd H (s.heap.objs.size+1) (.ext (aE (s.heap.objs.size+1) C none))) (fun y H'=>y = .non/\∃dx,H dx=none/\dx≠s.heap.objs.size+1/\H'=upd (upd H (s.heap.objs.size+1) (.ext (aE (s.heap.objs.size+1) C (some dx)))) dx (.xd [(m,v'),(n,v)])) E0 :=
  ⟨_,C,v,v',rfl,M.cl,na,nb,ai,fun dx hd ne=>⟨rfl,dx,by rw[upd_ne ne]at hd;exact hd,ne,by rw[ck]⟩⟩
 have hl:([zu (s.heap.objs.size+1),u,u']++([]:List yG)).length=ps.length:=by
  have z:=r2.length;rw[F.len _ _ _ _ hq]at z;exact z.symm
 have hb2:=hb {s with heap:=bh s.heap C [u,u']} [zu (s.heap.objs.size+1),u,u'] I2.kIn hl;rw[Ag]at hb2;refine wpAny_call (BD (F.run _ X.stack _ _ ⟨[zu (s.heap.objs.size+1),u,u'],[]⟩ [zu (s.heap.objs.size+1),u,u'] _ _ E0 (hr.make C [u,u'] []) (I2.env0.make C [u,u'] []) hb2 r2 hq) fun r s' hq'=>?_)
 cases r with
 | error e=>exact hq'.elim
 | ok fl =>
   cases fl with
   | ret y =>
     obtain⟨z,H',I3,rv,ev,dx,hd,ne,eH⟩:=I2.after hq';subst ev eH;have ey:y=zq:=rv
     exact⟨ey,h _ _ dx fa hd ne (zx I.sz (Dk _)) I3⟩
   | next=>exact zl hq'
   | brk=>exact zl hq'
   | cont=>exact zl hq'
noncomputable def mQ(C:Addr)(n m:Str)(XE:Addr->Addr->V->V->Hp->Prop)(t:TA):TS:=fun _ σ H=>t σ H fun vs H1=>∃v v',vs=[v,v']/\∀a dx,H1 a=none->H1 dx=none->dx≠a->XE a dx v v' (upd (upd H1 a (.ext (aE a C (some dx)))) dx (.xd [(m,v'),(n,v)]))
theorem jD{XE:Addr->Addr->V->V->Hp->Prop}(M:XMk X.K C f)(na:bi X.K C n)(nb:bi X.K C m)(F:FnOk X.prog X.w X.K X.mg X.base yA k f fd ps (oF X.K n m))(hr:Room (k+1) X.A)(hb:Binds X.K fd ps [])(hg:Gl X x)(hm:X.mg x=some (.ref C))
 (pa:PA X [e,e'] t)(hx:∀pins σ H s a dx v v',Inv X pins σ H s->X.s₀.heap.objs.size<=a->dx≠a->H a=some (.ext (aE a C (some dx)))->H dx=some (.xd [(m,v'),(n,v)])->XE a dx v v' H->X.xe (.ref a) s)
 (hdb:autoParam ((x==("__debug__" : Str))=false) æb._auto_1)(hs:autoParam (yM [e,e'] X.env=(false,eval e X.env)::yM [e'] X.env) æa._auto_1)(hpl:autoParam ((Ae pos (yM [e'] X.env)).any (·.1)=false) æa._auto_1):PS X (.Raise (some (.Call (.Name x p) [e,e'] [] pos)) none rpos) (mQ C n m XE t):=by
 intro pins s σ H D I h;rw[arm_exec_Raise];refine yJ (Bj (ng (K:=X.K) hr.hd ?_));refine yJ (zG (A2 (eF I hg hm ?_ hdb)) (fun v s3 (h3:∃a C t d,v = .ref a/\X.K.In s3.heap/\kD X.K C=true/\s3.heap.get? a=some (bN C t d)/\X.xe (.ref a) s3)=>yJ (Bj (yX h3))) fun _ _ y=>y);refine W.callWith_K (h₀:=X.base) I.ok.mod.kin M.kp (wE (pa pos pins s σ H _ I h) fun us s1 ⟨vs,H1,I1,r,v,v',ev,q⟩=>⟨I1.kIn,?_⟩) hs hpl;subst ev
 cases r with
 | cons r1 r2 =>
   cases r2 with
   | cons r2 r3 =>
     cases r3;refine iF M na nb F hr hb I1 r1 r2 fun s' a dx ha hd ne sz I3=>?_;have ea:upd (upd H1 a (.ext (aE a C (some dx)))) dx (.xd [(m,v'),(n,v)]) a=some (.ext (aE a C (some dx))):=by rw[upd_ne (AC ne),ai]
     obtain⟨⟨t,e3⟩,_,_⟩:=(show bC X.prog X.w _ s'.heap a (.ext (aE a C (some dx)))from I3.hok a _ ea);exact⟨a,C,t,some dx,rfl,I3.kIn,M.cl.xc,e3,hx pins σ _ s' a dx v v' I3 sz ne ea ai (q a dx ha hd ne)⟩
end
end L2
namespace L2.VL
section
variable{X:Cx}{rl:Option Addr}{E:XK}{c e e':Expr}{es:List Expr}{rest:List Stmt}{f:TB}{fs:xR}{u:VEnds->XQ->En->Prop}{pos p:Pos}
structure XTwo (P:yT) (w:zp) (K:W.Frag) (mg:Str->Option yG) (base:Heap) (x n m:Str) (C:Addr):Prop where
 at_:W.nsIn K yW x=some (some (.ref C))
 mg_:mg x=some (.ref C)
 no:bi K C n
 no':bi K C m
 ex:∃f fd ps,XMk K C f/\Binds K fd ps []/\FnOk P w K mg base yA 1 f fd ps (oF K n m)
noncomputable def rZ(f:TB)(x n m:Str)(fs:xR)(u:VEnds->XQ->En->Prop):VEnds->XQ->En->Prop:=fun Dv QE ρ=>f ρ fun b=>if b=true then fs ρ fun ws=>∃d d',ws=[.d d,.d d']/\QE x [(m,d'),(n,d)]else u Dv QE ρ
theorem ol{n m:Str}{cpos rpos:Pos}(hxe:∀pins σ H s a C dx,Inv X pins σ H s->X.s₀.heap.objs.size<=a->dx≠a->H a=some (.ext (aE a C (some dx)))->E (.ref C) (some dx) (cQ H a)->X.xe (.ref a) s)
 (hr:Room 2 X.A)(xo:XTwo X.prog X.w X.K X.mg X.base x n m C)(hc:PB X.nox rl c f)(ha:yb X.nox rl [e,e'] fs)(h2:mq X rl E rest u)(hg:autoParam (Gl X x) æa._auto_1)(hdb:autoParam ((x==("__debug__" : Str))=false) æb._auto_1)
 (hs:autoParam (yM [e,e'] X.env=(false,eval e X.env)::yM [e'] X.env) æa._auto_1)(hpl:autoParam ((Ae cpos (yM [e'] X.env)).any (·.1)=false) æa._auto_1) :
 mq X rl E (.If c [.Raise (some (.Call (.Name x p) [e,e'] [] cpos)) none rpos] [] pos::rest) (rZ f x n m fs u):=by
 obtain⟨t0,p0,k0⟩:=hc.nox;obtain⟨t1,p1,k1⟩:=ha.nox;obtain⟨T2,p2,k2⟩:=h2;obtain⟨fa,fd,ps,M,hb,F⟩:=xo.ex;have pr:=jD (p:=p) (pos:=cpos) (rpos:=rpos) (XE:=fun a dx _ _ H=>E (.ref C) (some dx) (cQ H a)) M xo.no xo.no' F hr hb hg xo.mg_ p1 (fun pins σ H s a dx v v' I sz ne ea _ q=>hxe pins σ H s a C dx I sz ne ea q) hdb hs hpl;refine⟨_,aF (jE p0 (bF pr) c9) p2,fun{F₀ H₀ F H σ ρ} R Dv D QE ok l q=>k0 R _ _ q fun b F1 H1 g1 q1=>?_⟩
 cases b with
 | true =>
   have q1:fs ρ fun ws=>∃d d',ws=[.d d,.d d']/\QE x [(m,d'),(n,d)]:=q1;refine k1 (R.grow g1) _ _ q1 fun vs ws F2 H2 g2 r2 ⟨d,d',ew,qe⟩=>?_;subst ew
   cases r2 with
   | @cons v _ vs' _ r r' =>
     cases r' with
     | @cons v' _ vs'' _ r' r'' =>
       cases r'';refine⟨v,v',rfl,fun a dx na nd ne=>?_⟩
       have eh:cQ (upd (upd H2 a (.ext (aE a C (some dx)))) dx (.xd [(m,v'),(n,v)])) a=upd H2 dx (.xd [(m,v'),(n,v)]):=by
        funext b;by_cases hb:b=a
        · subst hb;rw[b5,upd_ne (AC ne)];exact na.symm
        · rw[ig hb];by_cases hd:b=dx
          · subst hd;rw[ai,ai]
          · rw[upd_ne hd,upd_ne hb,upd_ne hd]
       show E _ _ (cQ _ _);rw[eh];have g3:=(R.g.trans g1).trans g2
       exact l x _ qe C dx F2 _ [(m,v'),(n,v)] (g3.trans (Grow.laid g2.sub g2.reel nd)) (g1.fs.trans g2.fs) xo.at_ ai (g3.freeB nd) (g2.sub.free nd) (.cons ⟨rfl,r'⟩ (.cons ⟨rfl,r⟩ .nil))
 | false=>exact k2 (R.grow g1) Dv D QE (ok.on g1.fs) (oE.on l g1.fs) q1
theorem i5{n m:Str}{D:VEnds}{R:XQ}(d d':yF)(h:f ρ=VL.ret true)(hf:fs ρ=VL.ret [.d d,.d d'])(q:R x [(m,d'),(n,d)]):rZ f x n m fs u D R ρ:=by
 show f ρ _;rw[h];show fs ρ _;rw[hf];exact⟨d,d',rfl,q⟩
theorem i6{n m:Str}{D:VEnds}{R:XQ}(h:f ρ=VL.ret false)(q:u D R ρ):rZ f x n m fs u D R ρ:=by
 show f ρ _;rw[h];exact q
end
structure XCl2 (K:W.Frag) (mg:Str->Option yG) (c n m b qual:Str) (st:Stmt) (ps os:List Str):Prop where
 ex:∃C B f fd Cs,W.nsIn K yW c=some (some (.ref C))/\mg c=some (.ref C)/\mg b=some (.ref B)/\XMk K C f/\bi K C n/\bi K C m/\XOver K C B/\Fun K "__init__" qual st f fd/\Binds K fd ps []/\zE (fun x D=>mg x=some (.ref D)) os Cs /\
  W.kitAny K (.ref C) (Cs.map zu)=some false/\W.kitOne K (.ref C) (.ref C)=some true/\W.kitOne K (.ref C) (.type "ValueError")=some true/\mg "ValueError" = none
theorem XCl2.two{P:yT}{w:zp}{K:W.Frag}{mg:Str->Option yG}{c n m b:Str}{st:Stmt}{os:List Str}(x:XCl2 K mg c n m b qual st ps os)(hi:∀f fd,Fun K "__init__" qual st f fd->FnOk P w K mg base yA 1 f fd ps (oF K n m)):∃C,XTwo P w K mg base c n m C:=by
 obtain⟨C,B,f,fd,Cs,h1,h2,h3,h4,h5,h5',h6,h7,h8,_⟩:=x.ex;exact⟨C,h1,h2,h5,h5',f,fd,ps,h4,h8,hi f fd h7⟩
theorem XCl2.mk'{K:W.Frag}{mg:Str->Option yG}{c n m b:Str}{st:Stmt}{os:List Str}{B:Addr}{fd:z5}{Cs:List Addr}(h1:W.nsIn K yW c=some (some (.ref C)))(h2:mg c=some (.ref C))(h3:mg b=some (.ref B))
 (hi:W.findIn K (.ref C) "__init__" = some (some (.ref f)))(hf:Fun K "__init__" qual st f fd)(hb:Binds K fd ps [])(ho:zE (fun x D=>mg x=some (.ref D)) os Cs)(hv:mg "ValueError" = none)(hx:(r0 K C B f n Cs&&(W.findIn K (.ref C) m==some none))=true):XCl2 K mg c n m b qual st ps os:=by
 rw[AU]at hx;obtain⟨hx,hm⟩:=hx;unfold r0 at hx;simp only[AU,beq_iff_eq]at hx hm;obtain⟨⟨⟨⟨⟨⟨⟨⟨⟨⟨⟨⟨⟨⟨⟨⟨x1,x2⟩,x3⟩,x4⟩,x5⟩,x6⟩,x7⟩,x8⟩,x9⟩,x10⟩,x11⟩,x12⟩,x13⟩,x14⟩,x15⟩,x16⟩,x17⟩:=hx;exact⟨C,B,f,fd,Cs,h1,h2,h3,⟨⟨x1,x2,x3,x4,x5,x6,x7,x8⟩,hi,x9,x10⟩,x11,hm,⟨x12,x13,x14⟩,hf,hb,ho,x15,x16,x17,hv⟩
section
variable{X:Cx}{rl:Option Addr}{tb:VEnds->XQ->En->Prop}{ts:xS}{st b₀:Stmt}{suite:List Stmt}{cb:Str}{cs:List Str}{B:Addr}{np hpos pos:Pos}
end
section
variable{X:Cx}{rl:Option Addr}{E:XK}{e:Expr}{es:List Expr}{fs:xR}{pos p mpos:Pos}
end
section
variable{D:VEnds}{R:XQ}{ρ:En}{fs:xR}{ws:List W}
end
noncomputable def gO(i:Nat)(Pd:List W->(yF->Prop)->XQ->Prop)(fs:xR)(da db:yF):VEnds->XQ->En->Prop:=fun Dv QE ρ=>fs ρ fun ws=>ws.all b7=true/\Pd ws (fun d=>∃b,d = .bool b/\Dv.nx (ρ.set i (some (.d (if b=true then da else db))))) QE
section
variable{X:Cx}{rl:Option Addr}{E:XK}{e:Expr}{es:List Expr}{fs:xR}{p pos mpos:Pos}
theorem oj(i:Nat){y:Str}{Pd:List W->(yF->Prop)->XQ->Prop}{ipos pos' apos cpos:Pos}{j}{ea eb:Expr}{va vb:V}{da db:yF}(pa:PE X ea (tC va))(ra:∀F,Rep X.K F va da)(pb:PE X eb (tC vb))(rb:∀F,Rep X.K F vb db)
 (hx:d0 (yz X.prog X.w) X E)(hN:X.N.Nodup)(D:DfnE X.prog X.w X.K X.mg X.base rl x ps k Pd)(hr:Room k X.A)(ha:yb X rl (e::es) fs)(hg:autoParam (Gl X x) æa._auto_1)
 (hi:autoParam (X.N[i]?=some y) æa._auto_1)(hy:autoParam (Loc X.env.scope y) æe._auto_1)(hdb:autoParam ((x==("__debug__" : Str))=false) æb._auto_1)
 (he:autoParam (yM (e::es) X.env=(false,eval e X.env)::yM es X.env) æa._auto_1)(hpl:autoParam ((Ae pos (yM es X.env)).any (·.1)=false) æa._auto_1)
 (hs:autoParam (AL (.IfExp (.Compare (.Call (.Name x p) (e::es) [] pos) [.Is] [.Constant (.bool true) j cpos] mpos) ea eb ipos) (some (.Name y pos')) apos.line X.env=pure false) æa._auto_1)(hf:autoParam (X.fn y=true\/X.env.scope.names.lookup y=some .local) æf._auto_1) :
 mq X rl E [.Assign [.Name y pos'] (.IfExp (.Compare (.Call (.Name x p) (e::es) [] pos) [.Is] [.Constant (.bool true) j cpos] mpos) ea eb ipos) apos] (gO i Pd fs da db):=by
 obtain⟨f,fd,hm,hk,hb,F⟩:=D.ex;obtain⟨t,p1,kk⟩:=ha;refine⟨_,bF (cz hN hi hy (hG (cp qu (gz (ds:=[]) (dvs:=[]) F hr hg hm hk hb .nil hx p1 hdb he hpl) qo (by rfl)) pa pb) hs hf),fun{F₀ H₀ F H σ ρ} R Dv D' QE ok l q=>kk R _ _ q fun vs ws F1 H1 g1 r1 ⟨ao,q1⟩=>?_⟩;refine⟨F1,ws,g1.sub,g1.reel,by rw[Ag];exact r1,ao,?_⟩;refine D.mono ws _ _ _ _ (fun d qd v F2 H2 g2 r2=>?_) (fun c fs z C dx F' H' us g sm n hd nd fd kd=>?_) q1
 · obtain⟨b,rfl,qn⟩:=qd;refine⟨b,true,c7 r2,rfl,_,rfl,?_⟩
   cases b with
   | true=>exact ok.nx _ _ _ _ (g1.fs.trans g2.fs) (R.set (g1.trans g2) (w:=.d da) (ra _) trivial (fun xs z=>by cases z) i) qn
   | false=>exact ok.nx _ _ _ _ (g1.fs.trans g2.fs) (R.set (g1.trans g2) (w:=.d db) (rb _) trivial (fun xs z=>by cases z) i) qn
 · exact l c fs z C dx F' H' us ((R.g.trans g1).trans g) (g1.fs.trans sm) n hd ((R.g.trans g1).freeB nd) fd kd
end
section
variable{D:VEnds}{R:XQ}{ρ:En}{fs:xR}{ws:List W}
theorem kE{da db:yF}{Pd:List W->(yF->Prop)->XQ->Prop}(h:fs ρ=VL.ret ws)(ao:ws.all b7=true)(q:Pd ws (fun d=>∃b,d = .bool b/\D.nx (ρ.set i (some (.d (if b=true then da else db))))) R):gO i Pd fs da db D R ρ:=by
 unfold gO;rw[h];exact⟨ao,q⟩
end
end L2.VL
namespace K50
open PySem PySem.Spec PyProof.Rows L2 L2.VL
set_option bootstrap.genMatcherCode true in
local macro_rules | `(tactic| simp_arith only [$xs,*])=>`(tactic| simp (maxSteps:=2000000) (disch:=(first | assumption | omega | decide)) only [tU,tX,t7,t6,tZ,tM,tL,tQ,tP,tO,tW,tV,tT,tS,tR,rY,wQ,wP,cF,bS,iZ,W.cap,xm,List.replicate,id,↓reduceIte,if_true,Nat.reduceAdd,Nat.reduceSub,Nat.reduceLeDiff,Int.cast_ofNat_Int,Int.reduceBEq,Int.reduceSub,Int.reduceAdd,Int.reduceLT,Int.reduceLE,Int.reduceMul,Int.reduceNeg,reduceCtorEq,dW,$xs,*])
set_option bootstrap.genMatcherCode true in
local macro_rules | `(tactic| simp_arith only [$xs,*] at $h:ident)=>`(tactic| simp only [List.cons.injEq,W.d.injEq,PyData.int.injEq,PyData.bool.injEq,PyData.str.injEq,PyData.list.injEq,PyData.tuple.injEq,gW,k8,kL,cq,and_true,true_and,reduceCtorEq,$xs,*] at $h:ident)
section
variable{P:yT}{w:zp}{K:zY}{mg:Str->Option yG}{base:Heap}{rl:Option Addr}
noncomputable def rH(ws:List W):Prop:=∃ns:List Int,ws=[.sc ns]/\ns.length<=63
theorem rH.eq{ns:List Int}(h:ns.length<=63):rH [.sc ns]=True:=propext ⟨fun _=>trivial,fun _=>⟨ns,rfl,h⟩⟩
theorem fC:FnScope ["_law_script"] ["_law_script"] (defScope (top 23)):=⟨rfl,rfl,rfl,by decide +kernel,rfl,by decide +kernel,by decide +kernel⟩
theorem d__law_feed(Fn:FnIn K mg "_law_feed" (top 23) ["_law_script"])(Z:Bz mg):DfnR P w K mg base "_law_feed" ["_law_script"] 1 rH:=by
 obtain⟨f,fd,hm,Ff,hb⟩:=Fn.ex;refine⟨f,fd,hm,Ff.kp,hb,?_⟩;refine Ff.ok fC (fun vs H Q E h=>?_) (fun cdv A outer s H vs Q E hr h=>?_)
 · obtain⟨F,ws,_,r,_,⟨ns,rfl,_⟩,_⟩:=h;have:=AW r;simpa using this
 · obtain⟨F,ws,sm,r,ao,⟨ns,rfl,hl⟩,k⟩:=h;obtain⟨v,rfl,⟨a,rfl,hS⟩⟩:=lT r;refine⟨_,bF (g9 (l0 (bw (jK gb rfl Z.list_ (by rfl) (bw (kU mX (pv 0) nB (nA aq)) cL)) (bw aq (bw aq (bw aq cL)))))),?_⟩;refine⟨_,rfl,63,rfl,a,ns.map V.int,rfl,js sm hS,fun q hq=>?_⟩;refine⟨q,_,rfl,.inl (.inl (.inl ai)),fun c hc=>?_⟩;refine⟨(by show 4<=sizeLine;decide),fun p hp=>?_⟩;rw[lz hl]at *;have hcq:c≠q:=fun z=>by rw[z,ai]at hc;cases hc
   have hpc:p≠c:=fun z=>by rw[z,ai]at hp;cases hp
   have hpq:p≠q:=fun z=>by rw[z,upd_ne hcq.symm,ai]at hp;cases hp
   have hp0:H p=none:=by
    have:=hp;rw[upd_ne hpc,upd_ne hpq]at this;exact this
   have hc0:H c=none:=by
    have:=hc;rw[upd_ne hcq]at this;exact this
   have fc:F c=none:=sm.free hc0;have fp:F p=none:=sm.free hp0;have fq:F q=none:=sm.free hq;have nF:∀b u,F b=some u->b≠c/\b≠p/\b≠q:=fun b u e=>⟨(fun z=>by subst z;rw[fc]at e;cases e),(fun z=>by subst z;rw[fp]at e;cases e),(fun z=>by subst z;rw[fq]at e;cases e)⟩;have nH:∀b u,H b=some u->b≠c/\b≠p/\b≠q:=fun b u e=>⟨aj e hc0,aj e hp0,aj e hq⟩;refine k p (upd F c (.lst (ns.map V.int))) _ hp0 ⟨fun b o e _=>?_,fun b o e=>?_,fun b o e=>?_,fun b o e=>?_,fun _ z=>by cases z⟩ (fun r e=>?_)
   · obtain⟨n1,n2,n3⟩:=nH b o e;rw[upd_ne n2,upd_ne n1,upd_ne n3];exact e
   · rw[upd_ne (nF b o e).1];exact e
   · by_cases hb:b=c
     · subst hb;rw[ai]at e;rw[upd_ne hpc.symm,ai];exact e
     · rw[upd_ne hb]at e;obtain⟨n1,n2,n3⟩:=nF b o e;rw[upd_ne n2,upd_ne n1,upd_ne n3];exact sm b o e
   · rw[upd_ne (nH b o e).1]
   · cases e;exact⟨by rw[upd_ne hpc];exact fp,⟨_,ai,c,ns,0,0,0,rfl,ai,hl,by decide,by decide,by decide⟩⟩
theorem et.eq(m:Int)(hm:0<m)(hb:m<2^60):et [.reel,.d (.int m)]=xH (anyM fun k:Int=>0<=k/\k<m) fun k=>VL.ret (.int k:yF):=by
 refine ae fun Q=>⟨?_,fun q_=>⟨m,rfl,hm,hb,fun k a b=>q_ k ⟨a,b⟩⟩⟩;rintro⟨m',e_,_,_,q_⟩;simp only[yS,W.d.injEq,AT,and_true,true_and]at e_;subst e_;exact fun k h=>q_ k h.1 h.2
theorem p__law_draw.eq(m:Int)(hm:0<m)(hb:m<2^60):et [.reel,.d (.int m)]=xH (anyM fun k:Int=>0<=k/\k<m) fun k=>VL.ret (.int k:yF):=et.eq m hm hb
theorem fE:FnScope ["_law_feed_here", "_law_many", "_law_found", "_law_cell", "_law_stirred"] ["_law_feed_here", "_law_many"] (defScope (top 24)):=⟨rfl,rfl,rfl,by decide +kernel,rfl,by decide +kernel,by decide +kernel⟩
theorem d__law_draw(Fn:FnIn K mg "_law_draw" (top 24) ["_law_feed_here", "_law_many"])(Z:Bz mg):Dfn P w K mg base rl "_law_draw" ["_law_feed_here", "_law_many"] 2 et:=by
 have sc:=fE;refine Dfn.hand Fn sc et.mono et.len ?_;intro f cdv A outer s H E vs ws F Q Qv hr sm ra rw' hq fin;obtain⟨m,rfl,hm,hb,q⟩:=hq;have hm0:m≠0:=by omega
 have hmd:∀i:Int,dC i m:=fun i=>dC.of hm0 (by omega);obtain⟨v,u,rfl,⟨r,er,ev⟩,r2⟩:=rG rw';subst ev er;have eu:=aC r2;subst eu;obtain⟨fr,⟨o,ho,c,ns,a,l,t,rfl,hc,hl,ha,hl0,ht⟩⟩:=ra r rfl;have hcr:c≠r:=fun z=>by rw[z,fr]at hc;cases hc
 have hcH:H c=some (.lst (ns.map V.int)):=sm _ _ hc
 have out:∀(k a l t:Int),0<=k->k<m->0<=a->0<=l->0<=t->Qv (.int k) (upd H r (xG c a l t)):=fun k a l t h1 h2 h3 h4 h5 =>
  fin _ F _ (.int k) (Grow.turn sm ra ⟨c,ns,a,l,t,rfl,hc,hl,h3,h4,h5⟩) (.int k) (q k h1 h2)
 have g0:∀{a l t:Int},(upd H r (xG c a l t)) r=some (.lst [.ref c,.int a,.int l,.int t]):=ai;have gc:∀{a l t:Int},(upd H r (xG c a l t)) c=some (.lst (ns.map V.int)):=by intro a l t;rw[upd_ne hcr];exact hcH
 have i0:∀{x0 x1 x2 x3:V},L2.atI [x0,x1,x2,x3] 0=some x0:=rfl;have i1:∀{x0 x1 x2 x3:V},L2.atI [x0,x1,x2,x3] 1=some x1:=rfl;have i2:∀{x0 x1 x2 x3:V},L2.atI [x0,x1,x2,x3] 2=some x2:=rfl;have i3:∀{x0 x1 x2 x3:V},L2.atI [x0,x1,x2,x3] 3=some x3:=rfl;have fm:∀i:Int,0<=i.fmod m/\i.fmod m<m:=fun i=>⟨zI _ hm,z_ _ hm⟩
 refine⟨_,(aF (fL (bK dQ (bG aP (pv 0) aq (fun _ _=>rfl)) aq) (hE (pv 0) aq cV))
  (aF (g8 Ak (p9 (cp qv (bG aP (pv 0) aq (fun _ _=>rfl)) aq (aL _)) (nj (cp fO (bG aP (pv 0) aq (fun _ _=>rfl)) (bZ bE (by rfl) Z.len_ (by rfl) (bw (bG aP (pv 0) aq (fun _ _=>rfl)) cL)) (aL _)))).pt (aF (jE (cp sW (bZ eN (by rfl) Z.abs_ (by rfl) (bw (bG aP (bG aP (pv 0) aq (fun _ _=>rfl)) (bG aP (pv 0) aq (fun _ _=>rfl)) (fun _ _=>rfl)) cL)) (bK l4 aq aq) (aL _)) (bF (fL (bZ eN (by rfl) Z.abs_ (by rfl) (bw (bG aP (bG aP (pv 0) aq (fun _ _=>rfl)) (bG aP (pv 0) aq (fun _ _=>rfl)) (fun _ _=>rfl)) cL)) (hE (pv 0) aq cV))) c9)
  (bF (fL (bK dQ (bG aP (pv 0) aq (fun _ _=>rfl)) aq) (hE (pv 0) aq cV)))))
  (aF (jE (cp kZ (bG aP (pv 0) aq (fun _ _=>rfl)) aq (aL _)) (aF (cz (i:=2) sc.nd rfl (AN rfl) (bK bU (bG aP (pv 0) aq (fun _ _=>rfl)) (pv 1)))
  (aF (fL (bK hU (bG aP (pv 0) aq (fun _ _=>rfl)) (pv 1)) (hE (pv 0) aq cV))
  (bF (g9 (pv 2))))) c9)
  (aF (cz (i:=3) sc.nd rfl (AN rfl) aq)
  (aF (jE (cp kZ (bZ bE (by rfl) Z.len_ (by rfl) (bw (bG aP (pv 0) aq (fun _ _=>rfl)) cL)) aq (aL _)) (bF (cz (i:=3) sc.nd rfl (AN rfl) (bG aP (bG aP (pv 0) aq (fun _ _=>rfl)) (bK bU (bG aP (pv 0) aq (fun _ _=>rfl)) (bZ bE (by rfl) Z.len_ (by rfl) (bw (bG aP (pv 0) aq (fun _ _=>rfl)) cL))) (fun _ _=>rfl)))) c9)
  (aF (cz (i:=4) sc.nd rfl (AN rfl) (bK bU (bK dQ (bK dQ (bK df (bK bU (pv 3) aq) aq) (bK df aq (bG aP (pv 0) aq (fun _ _=>rfl)))) aq) aq))
  (aF (cz (i:=4) sc.nd rfl (AN rfl) (bK bU (bK df (pv 4) (bK dQ (pv 4) aq)) aq))
  (bF (g9 (bK bU (bK bU (bK df (pv 4) aq) aq) (pv 1))))))))))),?_⟩
 refine⟨_,rfl,ce ho i1 ⟨a,1,rfl,rfl,?_⟩⟩;refine⟨_,rfl,iS ho rfl ?_⟩;show uJ _ _ _ _ (upd H r (xG c (a+1) l t));refine⟨fun n σ' H'=>∃l t,σ'=[some (.ref r),some (.int m),none,none,none]/\H'=upd H r (xG c (a+1) l t)/\0<=l/\0<=t/\n=ns.length-t.toNat,⟨_,l,t,rfl,rfl,hl0,ht,rfl⟩,?_⟩;rintro n σ' H' ⟨l,t,rfl,rfl,hl0,ht,rfl⟩;refine⟨_,rfl,ce g0 i2 ⟨rfl,_,rfl,?_⟩⟩;by_cases hz:l=0
 · subst hz;refine xq (by simp) ?_;refine⟨_,rfl,ce g0 i3 ⟨_,rfl,ce g0 i0 ⟨c,_,rfl,.inl (.inl (.inl gc)),⟨t,_,rfl,rfl,_,rfl,?_⟩⟩⟩⟩;by_cases hlt:t<((ns.map V.int).length:Int)
   · refine xq (decide_eq_true hlt) ?_;have hlt':t.toNat<ns.length:=by rw[yV]at hlt;omega
     have at_:L2.atI (ns.map V.int) t=some (.int ns[t.toNat]):=eO ht hlt'
     refine⟨fun σ' H'=>∃l t',σ'=[some (.ref r),some (.int m),none,none,none]/\H'=upd H r (xG c (a+1) l t')/\0<=l/\0<=t'/\ns.length-t'.toNat<ns.length-t.toNat,fun σ' H' ⟨l,t',h1,h2,h3,h4,h5⟩=>⟨_,h5,l,t',h1,h2,h3,h4,rfl⟩,?_⟩;refine⟨_,rfl,ce g0 i0 ⟨_,rfl,ce g0 i3 (ce gc at_ ⟨_,rfl,10,18,rfl,rfl,⟨by decide,by decide,by decide⟩,⟨_,_,rfl,rfl,_,rfl,?_⟩⟩)⟩⟩;by_cases hbig:(10:Int)^Int.toNat 18<=(if ns[t.toNat]<0 then -ns[t.toNat]else ns[t.toNat])
     · refine xq (decide_eq_true hbig) ?_;refine⟨_,rfl,ce g0 i0 ⟨_,rfl,ce g0 i3 (ce gc at_ ⟨_,rfl,?_⟩)⟩⟩;refine⟨_,rfl,iS g0 rfl ?_⟩;rw[ck];refine⟨_,rfl,ce g0 i3 ⟨_,_,rfl,rfl,?_⟩⟩;refine⟨_,rfl,iS g0 rfl ?_⟩;rw[ck];exact⟨_,_,rfl,rfl,by split<;>omega,by omega,by omega⟩
     · refine xt (decide_eq_false hbig) ?_;refine⟨_,rfl,ce g0 i3 ⟨_,_,rfl,rfl,?_⟩⟩;refine⟨_,rfl,iS g0 rfl ?_⟩;rw[ck];exact⟨_,_,rfl,rfl,by omega,by omega,by omega⟩
   · refine xt (decide_eq_false hlt) ?_;refine⟨_,rfl,ce g0 i2 ⟨_,_,rfl,rfl,_,rfl,?_⟩⟩;by_cases hp:0<(0:Int)
     · refine xq (decide_eq_true hp) ?_;refine⟨_,rfl,ce g0 i2 ⟨_,rfl,_,_,rfl,rfl,hm0,?_⟩⟩;refine⟨_,rfl,ce g0 i2 ⟨_,rfl,_,_,rfl,rfl,hmd _,?_⟩⟩;refine⟨_,rfl,iS g0 rfl ?_⟩;rw[ck];refine⟨_,rfl,?_⟩;exact out _ _ _ _ (fm _).1 (fm _).2 (by omega) (Int.fdiv_nonneg (by omega) (by omega)) ht
     · refine xt (decide_eq_false hp) ?_;refine⟨_,rfl,ce g0 i0 ⟨c,_,rfl,.inl (.inl (.inl gc)),⟨_,_,rfl,rfl,_,rfl,?_⟩⟩⟩;by_cases hn:(0:Int)<((ns.map V.int).length:Int)
       · refine xq (decide_eq_true hn) ?_;have hnn:(0:Int)<(ns.length:Int):=by rw[yV]at hn;exact hn
         have b1:=zI (a+1) hnn;have b2:=z_ (a+1) hnn;have hk:((a+1).fmod (ns.length:Int)).toNat<ns.length:=by omega
         have at2:L2.atI (ns.map V.int) ((a+1).fmod ((ns.map V.int).length:Int))=some (.int ns[((a+1).fmod (ns.length:Int)).toNat]):=by simpa only[yV]using eO b1 hk
         refine⟨_,rfl,ce g0 i0 ⟨_,rfl,ce g0 i1 ⟨_,rfl,ce g0 i0 ⟨c,_,rfl,.inl (.inl (.inl gc)),_,_,rfl,rfl,by omega,ce gc at2 ?_⟩⟩⟩⟩;refine⟨_,rfl,_,_,rfl,rfl,(show(2147483647:Int)≠0 by decide),_,_,rfl,rfl,bp.rt (by decide),_,rfl,ce g0 i1 ⟨_,_,rfl,rfl,bp.lt (by decide),_,_,rfl,rfl,_,_,rfl,rfl,_,_,rfl,rfl,(show(2147483629:Int)≠0 by decide),?_⟩⟩;refine⟨_,rfl,_,rfl,_,_,rfl,rfl,_,_,rfl,rfl,bp.lt (bY (by decide) (by decide)),_,_,rfl,rfl,(show(2147483587:Int)≠0 by decide),?_⟩;refine⟨_,rfl,_,_,rfl,rfl,bp.rt (by decide),_,_,rfl,rfl,(show(2147483563:Int)≠0 by decide),_,rfl,_,_,rfl,rfl,hm0,?_⟩;exact out _ _ _ _ (fm _).1 (fm _).2 (by omega) (by omega) ht
       · refine xt (decide_eq_false hn) ?_;refine⟨_,rfl,_,_,rfl,rfl,(show(2147483647:Int)≠0 by decide),_,_,rfl,rfl,bp.rt (by decide),_,rfl,ce g0 i1 ⟨_,_,rfl,rfl,bp.lt (by decide),_,_,rfl,rfl,_,_,rfl,rfl,_,_,rfl,rfl,(show(2147483629:Int)≠0 by decide),?_⟩⟩;refine⟨_,rfl,_,rfl,_,_,rfl,rfl,_,_,rfl,rfl,bp.lt (bY (by decide) (by decide)),_,_,rfl,rfl,(show(2147483587:Int)≠0 by decide),?_⟩;refine⟨_,rfl,_,_,rfl,rfl,bp.rt (by decide),_,_,rfl,rfl,(show(2147483563:Int)≠0 by decide),_,rfl,_,_,rfl,rfl,hm0,?_⟩;exact out _ _ _ _ (fm _).1 (fm _).2 (by omega) (by omega) ht
 · refine xt (sf hz) ?_;refine⟨_,rfl,ce g0 i2 ⟨_,_,rfl,rfl,_,rfl,?_⟩⟩;by_cases hp:0<l
   · refine xq (decide_eq_true hp) ?_;refine⟨_,rfl,ce g0 i2 ⟨_,rfl,_,_,rfl,rfl,hm0,?_⟩⟩;refine⟨_,rfl,ce g0 i2 ⟨_,rfl,_,_,rfl,rfl,hmd _,?_⟩⟩;refine⟨_,rfl,iS g0 rfl ?_⟩;rw[ck];refine⟨_,rfl,?_⟩;exact out _ _ _ _ (fm _).1 (fm _).2 (by omega) (Int.fdiv_nonneg (by omega) (by omega)) ht
   · refine xt (decide_eq_false hp) ?_;refine⟨_,rfl,ce g0 i0 ⟨c,_,rfl,.inl (.inl (.inl gc)),⟨_,_,rfl,rfl,_,rfl,?_⟩⟩⟩;by_cases hn:(0:Int)<((ns.map V.int).length:Int)
     · refine xq (decide_eq_true hn) ?_;have hnn:(0:Int)<(ns.length:Int):=by rw[yV]at hn;exact hn
       have b1:=zI (a+1) hnn;have b2:=z_ (a+1) hnn;have hk:((a+1).fmod (ns.length:Int)).toNat<ns.length:=by omega
       have at2:L2.atI (ns.map V.int) ((a+1).fmod ((ns.map V.int).length:Int))=some (.int ns[((a+1).fmod (ns.length:Int)).toNat]):=by simpa only[yV]using eO b1 hk
       refine⟨_,rfl,ce g0 i0 ⟨_,rfl,ce g0 i1 ⟨_,rfl,ce g0 i0 ⟨c,_,rfl,.inl (.inl (.inl gc)),_,_,rfl,rfl,by omega,ce gc at2 ?_⟩⟩⟩⟩;refine⟨_,rfl,_,_,rfl,rfl,(show(2147483647:Int)≠0 by decide),_,_,rfl,rfl,bp.rt (by decide),_,rfl,ce g0 i1 ⟨_,_,rfl,rfl,bp.lt (by decide),_,_,rfl,rfl,_,_,rfl,rfl,_,_,rfl,rfl,(show(2147483629:Int)≠0 by decide),?_⟩⟩;refine⟨_,rfl,_,rfl,_,_,rfl,rfl,_,_,rfl,rfl,bp.lt (bY (by decide) (by decide)),_,_,rfl,rfl,(show(2147483587:Int)≠0 by decide),?_⟩;refine⟨_,rfl,_,_,rfl,rfl,bp.rt (by decide),_,_,rfl,rfl,(show(2147483563:Int)≠0 by decide),_,rfl,_,_,rfl,rfl,hm0,?_⟩;exact out _ _ _ _ (fm _).1 (fm _).2 (by omega) (by omega) ht
     · refine xt (decide_eq_false hn) ?_;refine⟨_,rfl,_,_,rfl,rfl,(show(2147483647:Int)≠0 by decide),_,_,rfl,rfl,bp.rt (by decide),_,rfl,ce g0 i1 ⟨_,_,rfl,rfl,bp.lt (by decide),_,_,rfl,rfl,_,_,rfl,rfl,_,_,rfl,rfl,(show(2147483629:Int)≠0 by decide),?_⟩⟩;refine⟨_,rfl,_,rfl,_,_,rfl,rfl,_,_,rfl,rfl,bp.lt (bY (by decide) (by decide)),_,_,rfl,rfl,(show(2147483587:Int)≠0 by decide),?_⟩;refine⟨_,rfl,_,_,rfl,rfl,bp.rt (by decide),_,_,rfl,rfl,(show(2147483563:Int)≠0 by decide),_,rfl,_,_,rfl,rfl,hm0,?_⟩;exact out _ _ _ _ (fm _).1 (fm _).2 (by omega) (by omega) ht
namespace Gap
noncomputable def pt(p q n:Int):Int:=(n*p)%q
theorem pt_eq(p q n:Int):pt p q n=n*p-(n*p / q)*q:=by
 unfold pt;have:=Cr (n*p) q;rw[Ct q]at this;omega
theorem pt_bd{p q n:Int}(hq:0<q):0<=pt p q n/\pt p q n<q:=⟨Int.emod_nonneg _ (by omega),Int.emod_lt_of_pos _ hq⟩
theorem nv{p q n m:Int}(h0:0<=n*p-m*q)(h1:n*p-m*q<q):pt p q n=n*p-m*q:=by
 unfold pt;have e:n*p=(n*p-m*q)+q*m:=by rw[Ct q];omega
 rw[e,Int.add_mul_emod_self_left,Int.emod_eq_of_lt (by omega) (by omega)];rw[<- e]
theorem fK{p q n:Int}(hq:0<q)(hg:zk p q=1)(h1:0<n)(h2:n<q):0<pt p q n:=by
 rcases Int.lt_or_eq_of_le (pt_bd (p:=p) (n:=n) hq).1 with h|h
 · exact h
 · exfalso;have d:q∣n*p:=zX h.symm
   have d2:q∣n:=by
    have a:q.natAbs∣n.natAbs*p.natAbs:=by rw[<- Bb];exact Cu.mpr d
    have c:Nat.Coprime q.natAbs p.natAbs:=by show Nat.gcd _ _=1;rw[Nat.gcd_comm];exact hg
    exact Cu.mp (c.dvd_of_dvd_mul_right a)
   have:=Int.le_of_dvd h1 d2;omega
structure Nb (p q N u v:Int):Prop where
 u0:0<u
 uN:u<N
 v0:0<v
 vN:v<N
 few:N<=u+v
 round:v*pt p q u+u*(q-pt p q v)=q
structure Ex (p q N u v:Int):Prop where
 u0:0<u
 uN:u<N
 v0:0<v
 vN:v<N
 lo:∀n,0<n->n<N->pt p q u<=pt p q n
 hi:∀n,0<n->n<N->pt p q n<=pt p q v
section
variable{p q N:Int}
theorem lW(hq:0<q)(hg:zk p q=1)(hN:N<=q){m n:Int}(m0:0<m)(mN:m<N)(n0:0<n)(nN:n<N)(e:pt p q m=pt p q n):m=n:=by
 have key:∀{m n:Int},0<m->n<N->m<n->pt p q m=pt p q n->False:=fun{m n} m0 nN h e=>by
  have z:pt p q (n-m)=0:=by
   have e1:=pt_eq p q m;have e2:=pt_eq p q n;have x:(n-m)*p-(n*p / q-m*p / q)*q=0:=by rw[B2,B2];omega
   rw[nv (m:=n*p / q-m*p / q) (by omega) (by omega),x]
  have:=fK (p:=p) (n:=n-m) hq hg (by omega) (by omega);omega
 rcases BP m n with h|h|h
 · exact(key m0 nN h e).elim
 · exact h
 · exact(key n0 mN h e.symm).elim
theorem iK{u v:Int}(hq:0<q)(hg:zk p q=1)(hN:N<=q)(h:Ex p q N u v){n m:Int}(n0:0<n)(nN:n<N)(h1:n*p-m*q<pt p q u)(h2 : -(q-pt p q v)<n*p-m*q):False:=by
 obtain⟨_,bu⟩:=pt_bd (p:=p) (n:=u) hq;obtain⟨bv,_⟩:=pt_bd (p:=p) (n:=v) hq;have lo:=h.lo n n0 nN;have hi:=h.hi n n0 nN;have ps:=fK (p:=p) hq hg n0 (show n<q by omega);by_cases c:0<=n*p-m*q
 · have:=nv (p:=p) (q:=q) c (by omega);omega
 · have e:n*p-(m-1)*q=n*p-m*q+q:=by rw[B2];omega
   have:=nv (p:=p) (q:=q) (n:=n) (m:=m-1) (by omega) (by omega);omega
theorem ly(hq:0<q)(hg:zk p q=1)(hN:N<=q){u v:Int}(h:Nb p q N u v):Ex p q N u v:=by
 obtain⟨u0,uN,v0,vN,few,rd⟩:=h;have a0:=fK (p:=p) hq hg u0 (by omega);have b0:0<q-pt p q v:=by have:=(pt_bd (p:=p) (n:=v) hq).2;omega
 have ea:=pt_eq p q u;have eb:=pt_eq p q v;generalize ha:pt p q u=a at rd a0 ea;generalize hb:q-pt p q v=b at rd b0;have eb:b=(v*p / q+1)*q-v*p:=by rw[At];omega
 generalize u*p / q=k at ea;generalize v*p / q+1=l at eb
 have det:u*l-v*k=1:=by
  have e:(u*l-v*k)*q=q:=by
   have:v*a+u*b=(u*l-v*k)*q:=by
    rw[ea,eb];rw[CV,CV,B2];have x1:v*(u*p)=u*(v*p):=by rw[<- B3,<- B3,Ct v u]
    have x2:v*(k*q)=v*k*q:=by rw[B3]
    have x3:u*(l*q)=u*l*q:=by rw[B3]
    rw[x1,x2,x3];omega
   rw[<- this];exact rd
  have:(u*l-v*k)*q=1*q:=by omega
  exact Int.eq_of_mul_eq_mul_right (by omega) this
 have rep:∀n m:Int,∃i j:Int,n=i*u+j*v/\n*p-m*q=i*a-j*b:=fun n m=>by
  refine⟨n*l-m*v,m*u-n*k,?_,?_⟩
  · have x:(n*l-m*v)*u+(m*u-n*k)*v=n*(u*l-v*k):=by grind
    rw[x,det];omega
  · have x:(n*l-m*v)*a-(m*u-n*k)*b=(u*l-v*k)*(n*p-m*q):=by rw[ea,eb];grind
    rw[x,det];omega
 have pos:∀{x y:Int},0<x->0<y->0<x*y:=fun h1 h2=>Bs h1 h2;have ge:∀{x y:Int},1<=x->0<y->y<=x*y:=fun{x y} h1 h2=>by have:=zb h1 (zU h2);omega
 have le0:∀{x y:Int},x<=0->0<y->x*y<=0:=fun{x y} h1 h2=>by have:=zb h1 (zU h2);omega
 have lem1:∀{x y:Int},x <= -1->0<y->x*y <= -y:=fun{x y} h1 h2=>by have:=zb h1 (zU h2);omega
 refine⟨u0,uN,v0,vN,fun n n0 nN=>?_,fun n n0 nN=>?_⟩
 · have pn:=fK (p:=p) hq hg n0 (show n<q by omega);rw[ha];rw[pt_eq p q n]at pn ⊢;obtain⟨i,j,e1,e2⟩:=rep n (n*p / q);rw[e2]at pn ⊢;rcases Bd i 1 with hi|hi
   · have x1:=le0 (show i<=0 by omega) a0;have x2:=le0 (show i<=0 by omega) u0;rcases Bd j 0 with hj|hj
     · have:=lem1 (show j <= -1 by omega) v0;omega
     · have:=AQ hj (zU b0);omega
   · have x1:=ge hi a0;have x2:=ge hi u0;rcases BP j 0 with hj|hj|hj
     · have:=lem1 (show j <= -1 by omega) b0;omega
     · subst hj;omega
     · have:=ge (show 1<=j by omega) v0;omega
 · have pn:=(pt_bd (p:=p) (n:=n) hq).2;have hv:pt p q v=q-b:=by omega
   rw[hv];obtain⟨i,j,e1,e2⟩:=rep n (n*p / q+1);have e3:=pt_eq p q n;rw[At]at e2;generalize pt p q n=r at pn e3 ⊢;rcases Bd j 1 with hj|hj
   · have x1:=le0 (show j<=0 by omega) b0;have x2:=le0 (show j<=0 by omega) v0;rcases Bd i 0 with hi|hi
     · have:=lem1 (show i <= -1 by omega) u0;omega
     · have:=AQ hi (zU a0);omega
   · have x1:=ge hj b0;have x2:=ge hj v0;rcases BP i 0 with hi|hi|hi
     · have:=lem1 (show i <= -1 by omega) a0;omega
     · subst hi;omega
     · have:=ge (show 1<=i by omega) u0;omega
theorem nb_of_ex(hq:0<q)(hg:zk p q=1)(hN:N<=q){u v:Int}(h:Ex p q N u v):Nb p q N u v:=by
 have no:=fun{n m:Int} n0 nN h1 h2=>iK (p:=p) (q:=q) (N:=N) hq hg hN h (n:=n) (m:=m) n0 nN h1 h2;obtain⟨u0,uN,v0,vN,lo,hi⟩:=h;have a0:=fK (p:=p) hq hg u0 (by omega);have b0:0<q-pt p q v:=by have:=(pt_bd (p:=p) (n:=v) hq).2;omega
 have ea:=pt_eq p q u;have eb:=pt_eq p q v
 have few:N<=u+v:=by
  rcases Bd (u+v) N with c|c
  · exfalso;refine no (n:=u+v) (m:=u*p / q+(v*p / q+1)) (by omega) c ?_ ?_
    · rw[At,At,At];omega
    · rw[At,At,At];omega
  · exact c
 refine⟨u0,uN,v0,vN,few,?_⟩;generalize pt p q u=a at a0 ea no ⊢;generalize hb:q-pt p q v=b at b0 no ⊢;have eb:b=(v*p / q+1)*q-v*p:=by rw[At];omega
 generalize u*p / q=k at ea;generalize v*p / q+1=l at eb;have eD:v*a+u*b=(u*l-v*k)*q:=by rw[ea,eb];grind
 rw[eD];generalize hd:u*l-v*k=d at eD
 have d1:0<d:=by
  rcases Bd 0 d with c|c
  · exact c
  · have:=zb c (zU hq);have x1:=Bs v0 a0;have x2:=Bs u0 b0;omega
 suffices d=1 by rw[this];omega
 rcases Int.lt_or_eq_of_le (show 1<=d by omega)with d2|d2
 · exfalso
   have key:∀i j n m:Int,0<=i->i<d->0<=j->j<d->(0<i\/0<j)->d*n=i*u+j*v->d*m=i*k+j*l->False:=fun i j n m i0 id j0 jd ij e1 e2=>by
    have val:∀{i j n m:Int},d*n=i*u+j*v->d*m=i*k+j*l->d*(n*p-m*q)=i*a-j*b:=fun{i j n m} e1 e2=>by
     have:d*(n*p-m*q)=(d*n)*p-(d*m)*q:=by grind
     rw[this,e1,e2,ea,eb];grind
    have go:∀{i j n m:Int},0<=i->i<d->0<=j->j<d->(0<i\/0<j)->i+j<=d->d*n=i*u+j*v->d*m=i*k+j*l->False:=fun{i j n m} i0 id j0 jd ij s e1 e2=>by
     have vl:=val e1 e2;have iu:=AQ i0 (zU u0);have jv:=AQ j0 (zU v0)
     have dn:0<d*n:=by
      rcases ij with h|h
      · have:=Bs h u0;omega
      · have:=Bs h v0;omega
     have n0:0<n:=Ad (show d*0<d*n by omega) (by omega)
     have nN:n<N:=by
      have x1:i*u<=i*(N-1):=Bh (by omega) i0;have x2:j*v<=j*(N-1):=Bh (by omega) j0;have x3:(i+j)*(N-1)<=d*(N-1):=zb s (by omega);rw[At]at x3;have x4:d*n<=d*(N-1):=by omega
      have:=Int.le_of_mul_le_mul_left x4 (by omega);omega
     have ia:i*a<=(d-1)*a:=zb (by omega) (zU a0);have jb:j*b<=(d-1)*b:=zb (by omega) (zU b0);have ia0:=AQ i0 (zU a0);have jb0:=AQ j0 (zU b0);rw[B2]at ia jb;refine no (n:=n) (m:=m) n0 nN ?_ ?_
     · have:d*(n*p-m*q)<d*a:=by omega
       exact Ad this (by omega)
     · have:d*(-b)<d*(n*p-m*q):=by rw[Int.mul_neg];omega
       exact Ad this (by omega)
    by_cases s:i+j<=d
    · exact go i0 id j0 jd ij s e1 e2
    · refine go (i:=d-i) (j:=d-j) (n:=u+v-n) (m:=k+l-m) (by omega) (by omega) (by omega) (by omega) (by omega) (by omega) ?_ ?_
      · rw[CV,e1];grind
      · rw[CV,e2];grind
   have md:∀x:Int,0<=x%d/\x%d<d/\x%d=x-d*(x / d):=fun x=>⟨Int.emod_nonneg _ (by omega),Int.emod_lt_of_pos _ d1,by have:=Cr x d;omega⟩
   have z1:l%d=0/\(-k)%d=0:=by
    obtain⟨a1,a2,a3⟩:=md l;obtain⟨b1,b2,b3⟩:=md (-k);by_cases c:0<l%d\/0<(-k)%d
    · exact(key (l%d) ((-k)%d) (1-(l / d)*u-((-k) / d)*v) (0-(l / d)*k-((-k) / d)*l) a1 a2 b1 b2 c (by rw[a3,b3];grind) (by rw[a3,b3];grind)).elim
    · omega
   have z2:(-v)%d=0/\u%d=0:=by
    obtain⟨a1,a2,a3⟩:=md (-v);obtain⟨b1,b2,b3⟩:=md u;by_cases c:0<(-v)%d\/0<u%d
    · exact(key ((-v)%d) (u%d) (0-((-v) / d)*u-(u / d)*v) (1-((-v) / d)*k-(u / d)*l) a1 a2 b1 b2 c (by rw[a3,b3];grind) (by rw[a3,b3];grind)).elim
    · omega
   obtain⟨x,ex⟩:=zX z1.1;obtain⟨y,ey⟩:=zX z2.2;obtain⟨z,ez⟩:=zX z2.1
   have e:d*(y*l+z*k)=d*1:=by
    have:u*l-v*k=d*(y*l+z*k):=by
     have ev:v = -(d*z):=by omega
     rw[ey,ev];grind
    omega
   have e1:=Int.eq_of_mul_eq_mul_left (show d≠0 by omega) e
   have e2:d∣1:=by
    obtain⟨w,ew⟩:=zX z1.2;refine⟨y*x-z*w,?_⟩;have:k = -(d*w):=by omega
    rw[<- e1,ex,this];grind
   have:=Int.le_of_dvd (by omega) e2;omega
 · exact d2.symm
theorem nb_one(hq:0<q)(hg:zk p q=1)(hN:N<=q){u v V:Int}(h:Ex p q N U V):Nb p q N u v↔u=U/\v=V:=by
 constructor
 · intro hn;have he:=ly hq hg hN hn;have a1:=he.lo U h.u0 h.uN;have a2:=h.lo u he.u0 he.uN;have b1:=he.hi V h.v0 h.vN;have b2:=h.hi v he.v0 he.vN;exact⟨lW hq hg hN he.u0 he.uN h.u0 h.uN (by omega),lW hq hg hN he.v0 he.vN h.v0 h.vN (by omega)⟩
 · rintro⟨rfl,rfl⟩;exact nb_of_ex hq hg hN h
end
end Gap
theorem vE(h:wZ 2000 q):(q.den:Int).natAbs<2^2000:=by rw[zV];exact h.2
noncomputable def ay:List W->(yF->Prop)->Prop:=fun ws Q=>∃(i j:Int),ws=[.d (.int i),.d (.int j)]/\(True)/\Q (.int (zk i j:Nat))
theorem ay.mono:∀ws (Q Q':yF->Prop),(∀d,Q d->Q' d)->ay ws Q->ay ws Q':=fun _ _ _ h_=>y9 fun _=>y9 fun _=>yP (yP (h_ _))
theorem ay.len:∀ws (Q:yF->Prop),ay ws Q->ws.length=2:=fun _ _ h_=>by obtain⟨_,_,e_,_⟩:=h_;subst e_;rfl
theorem ay.eq(i j:Int)  : ay [.d (.int i),.d (.int j)]=VL.ret (.int (zk i j:Nat):yF):=by
 refine ae fun Q=>⟨?_,fun q_=>⟨i,j,rfl,trivial,q_⟩⟩;rintro⟨i',j',e_,_,q_⟩;simp_arith only[and_true]at e_;obtain⟨rfl,rfl⟩:=e_;exact q_
theorem cC:FnScope ["one", "other"] ["one", "other"] (defScope (top 9)):=⟨rfl,rfl,rfl,by decide +kernel,rfl,by decide +kernel,by decide +kernel⟩
theorem d_common_divisor(Fn:FnIn K mg "common_divisor" (top 9) ["one", "other"])(Z:Bz mg)    : Dfn P w K mg base rl "common_divisor" ["one", "other"] 1 ay:=by
 have sc:=cC
 refine Dfn.of Fn sc (ay.mono) (ay.len) (fun cdv A outer s H E hr=>(am (eS [] Ak (bj (cN hr.units) bP (aL _) (vn 1) ag) (av (lF 0 1 rfl sc.nd (aa (vn 1) (aa (v_mod (vn 0) (vn 1)) ac)))))
  (av (aD (pe Z.abs_ (aa (vn 0) ac)))))) ?_
 rintro ws Q ⟨i,j,rfl,_,hQ⟩;refine aK ?_;simp_arith only[ah];refine gP (σ:=Int×Int) (fun s=>[some (.d (.int s.1)),some (.d (.int s.2))]) (fun s=>!(s.2==0)) (fun s=>(s.2,s.1.fmod s.2)) (fun s=>s.2.natAbs) (fun s=>zk s.1 s.2=zk i j) (i,j) rfl rfl ?_ ?_ ?_
 · intro s _;simp_arith only[ah]
 · intro s e c;have hc:s.2≠0:=by simpa using c
   refine⟨by rw[eG];exact e,cr hc,_,?_,rfl⟩;simp_arith only[ak,ah]
 · intro s e c;have hc:s.2=0:=by simpa using c
   simp_arith only[ah];rw[hc,Int.gcd_zero_right]at e;refine aI ?_;have:(if s.1<0 then -s.1 else s.1)=((zk i j:Nat):Int):=by rw[<- e];split<;>omega
   rw[this];exact hQ
noncomputable def aN:List W->(yF->Prop)->Prop:=fun ws Q=>∃(a b:Int),ws=[.d (.int a),.d (.int b)]/\((0<b)/\(b.natAbs<2^8000))/\Q (fr (qd a b))
theorem aN.mono:∀ws (Q Q':yF->Prop),(∀d,Q d->Q' d)->aN ws Q->aN ws Q':=fun _ _ _ h_=>y9 fun _=>y9 fun _=>yP (yP (h_ _))
theorem aN.len:∀ws (Q:yF->Prop),aN ws Q->ws.length=2:=fun _ _ h_=>by obtain⟨_,_,e_,_⟩:=h_;subst e_;rfl
theorem aN.eq(a b:Int)(hb:0<b)(hz:b.natAbs<2^8000):aN [.d (.int a),.d (.int b)]=VL.ret (fr (qd a b):yF):=by
 refine ae fun Q=>⟨?_,fun q_=>⟨a,b,rfl,⟨hb,hz⟩,q_⟩⟩;rintro⟨a',b',e_,_,q_⟩;simp_arith only[and_true]at e_;obtain⟨rfl,rfl⟩:=e_;exact q_
theorem gt:FnScope ["top", "bottom", "divisor"] ["top", "bottom"] (defScope (top 10)):=⟨rfl,rfl,rfl,by decide +kernel,rfl,by decide +kernel,by decide +kernel⟩
theorem d_fraction(Fn:FnIn K mg "fraction" (top 10) ["top", "bottom"])(Z:Bz mg)(d_common_divisor:∀rl,Dfn P w K mg base rl "common_divisor" ["one", "other"] 1 ay)   : Dfn P w K mg base rl "fraction" ["top", "bottom"] 2 aN:=by
 have sc:=gt
 refine Dfn.of Fn sc (aN.mono) (aN.len) (fun cdv A outer s H E hr=>(am (d4 (bj (jL hr.units) bP (aL _) (vn 1) ag) (av kG) cv)
  (am (aR 2 sc.nd (aw (d_common_divisor _) (hr.mono (by decide)) (aa (vn 0) (aa (vn 1) ac))))
  (am (d4 (bj fO kI (aL _) (vn 1) ag) (av (aR 2 sc.nd (o8 (vn 2)))) cv)
  (av (aD (ba (aa (v_div (vn 0) (vn 2)) (aa (v_div (vn 1) (vn 2)) ac))))))))) ?_
 rintro ws Q ⟨a,b,rfl,⟨hb,hz⟩,hQ⟩;refine aK ?_;have c1:dC a (zk a b:Int):=eI hb hz _;have c2:dC b (zk a b:Int):=eI hb hz _;have h0:(b==0)=false:=by simp;omega
 have h1:decide (b<0)=false:=by simp;omega
 simp_arith only[ak,ah,ay.eq,h0,h1];rw[ib hb];exact aI hQ
noncomputable def cM:List W->(yF->Prop)->Prop:=fun ws Q=>∃(q r:Rat),ws=[.d (fr q),.d (fr r)]/\((wZ 2000 q)/\(wZ 2000 r))/\Q (fr (q+r))
theorem cM.mono:∀ws (Q Q':yF->Prop),(∀d,Q d->Q' d)->cM ws Q->cM ws Q':=fun _ _ _ h_=>y9 fun _=>y9 fun _=>yP (yP (h_ _))
theorem cM.len:∀ws (Q:yF->Prop),cM ws Q->ws.length=2:=fun _ _ h_=>by obtain⟨_,_,e_,_⟩:=h_;subst e_;rfl
theorem cM.eq(q r:Rat)(h1:wZ 2000 q)(h2:wZ 2000 r):cM [.d (fr q),.d (fr r)]=VL.ret (fr (q+r):yF):=by
 refine ae fun Q=>⟨?_,fun q_=>⟨q,r,rfl,⟨h1,h2⟩,q_⟩⟩;rintro⟨q',r',e_,_,q_⟩;simp_arith only[iW,cZ,c8,cf,cc,dH]at e_;obtain⟨rfl,rfl⟩:=e_;exact q_
theorem m9:FnScope ["one", "other"] ["one", "other"] (defScope (top 11)):=⟨rfl,rfl,rfl,by decide +kernel,rfl,by decide +kernel,by decide +kernel⟩
theorem d_plus(Fn:FnIn K mg "plus" (top 11) ["one", "other"])(Z:Bz mg)(d_fraction:∀rl,Dfn P w K mg base rl "fraction" ["top", "bottom"] 2 aN)   : Dfn P w K mg base rl "plus" ["one", "other"] 3 cM:=by
 have sc:=m9;refine Dfn.of Fn sc (cM.mono) (cM.len) (fun cdv A outer s H E hr=>(av (aD (aw (d_fraction _) (hr.mono (by decide)) (aa (v_add (v_mul (bX (vn 0) ag) (bX (vn 1) ag)) (v_mul (bX (vn 1) ag) (bX (vn 0) ag))) (aa (v_mul (bX (vn 0) ag) (bX (vn 1) ag)) ac)))))) ?_;rintro ws Q ⟨q,r,rfl,⟨h1,h2⟩,hQ⟩;refine aK ?_;have m1:bp q.num r.den:=.bb h1.bn h2.bd;have m2:bp r.num q.den:=.bb h2.bn h1.bd;have m3:bp q.den r.den:=.bb h1.bd h2.bd;have m4:bp q.num r.num:=.bb h1.bn h2.bn;have d1:=cG q r;have d2:=dq h1 h2;simp_arith only[ak,ah,aN.eq,yC,p7];exact aI hQ
noncomputable def de:List W->(yF->Prop)->Prop:=fun ws Q=>∃(q r:Rat),ws=[.d (fr q),.d (fr r)]/\((wZ 2000 q)/\(wZ 2000 r))/\Q (fr (q-r))
theorem de.mono:∀ws (Q Q':yF->Prop),(∀d,Q d->Q' d)->de ws Q->de ws Q':=fun _ _ _ h_=>y9 fun _=>y9 fun _=>yP (yP (h_ _))
theorem de.len:∀ws (Q:yF->Prop),de ws Q->ws.length=2:=fun _ _ h_=>by obtain⟨_,_,e_,_⟩:=h_;subst e_;rfl
theorem de.eq(q r:Rat)(h1:wZ 2000 q)(h2:wZ 2000 r):de [.d (fr q),.d (fr r)]=VL.ret (fr (q-r):yF):=by
 refine ae fun Q=>⟨?_,fun q_=>⟨q,r,rfl,⟨h1,h2⟩,q_⟩⟩;rintro⟨q',r',e_,_,q_⟩;simp_arith only[iW,cZ,c8,cf,cc,dH]at e_;obtain⟨rfl,rfl⟩:=e_;exact q_
theorem m_:FnScope ["one", "other"] ["one", "other"] (defScope (top 12)):=⟨rfl,rfl,rfl,by decide +kernel,rfl,by decide +kernel,by decide +kernel⟩
theorem d_less(Fn:FnIn K mg "less" (top 12) ["one", "other"])(Z:Bz mg)(d_fraction:∀rl,Dfn P w K mg base rl "fraction" ["top", "bottom"] 2 aN)   : Dfn P w K mg base rl "less" ["one", "other"] 3 de:=by
 have sc:=m_;refine Dfn.of Fn sc (de.mono) (de.len) (fun cdv A outer s H E hr=>(av (aD (aw (d_fraction _) (hr.mono (by decide)) (aa (v_sub (v_mul (bX (vn 0) ag) (bX (vn 1) ag)) (v_mul (bX (vn 1) ag) (bX (vn 0) ag))) (aa (v_mul (bX (vn 0) ag) (bX (vn 1) ag)) ac)))))) ?_;rintro ws Q ⟨q,r,rfl,⟨h1,h2⟩,hQ⟩;refine aK ?_;have m1:bp q.num r.den:=.bb h1.bn h2.bd;have m2:bp r.num q.den:=.bb h2.bn h1.bd;have m3:bp q.den r.den:=.bb h1.bd h2.bd;have m4:bp q.num r.num:=.bb h1.bn h2.bn;have d1:=cG q r;have d2:=dq h1 h2;simp_arith only[ak,ah,aN.eq,yC,p4];exact aI hQ
noncomputable def bT:List W->(yF->Prop)->Prop:=fun ws Q=>∃(q r:Rat),ws=[.d (fr q),.d (fr r)]/\((wZ 2000 q)/\(wZ 2000 r))/\Q (fr (q*r))
theorem bT.mono:∀ws (Q Q':yF->Prop),(∀d,Q d->Q' d)->bT ws Q->bT ws Q':=fun _ _ _ h_=>y9 fun _=>y9 fun _=>yP (yP (h_ _))
theorem bT.len:∀ws (Q:yF->Prop),bT ws Q->ws.length=2:=fun _ _ h_=>by obtain⟨_,_,e_,_⟩:=h_;subst e_;rfl
theorem bT.eq(q r:Rat)(h1:wZ 2000 q)(h2:wZ 2000 r):bT [.d (fr q),.d (fr r)]=VL.ret (fr (q*r):yF):=by
 refine ae fun Q=>⟨?_,fun q_=>⟨q,r,rfl,⟨h1,h2⟩,q_⟩⟩;rintro⟨q',r',e_,_,q_⟩;simp_arith only[iW,cZ,c8,cf,cc,dH]at e_;obtain⟨rfl,rfl⟩:=e_;exact q_
theorem kO:FnScope ["one", "other"] ["one", "other"] (defScope (top 13)):=⟨rfl,rfl,rfl,by decide +kernel,rfl,by decide +kernel,by decide +kernel⟩
theorem d_times(Fn:FnIn K mg "times" (top 13) ["one", "other"])(Z:Bz mg)(d_fraction:∀rl,Dfn P w K mg base rl "fraction" ["top", "bottom"] 2 aN)   : Dfn P w K mg base rl "times" ["one", "other"] 3 bT:=by
 have sc:=kO;refine Dfn.of Fn sc (bT.mono) (bT.len) (fun cdv A outer s H E hr=>(av (aD (aw (d_fraction _) (hr.mono (by decide)) (aa (v_mul (bX (vn 0) ag) (bX (vn 1) ag)) (aa (v_mul (bX (vn 0) ag) (bX (vn 1) ag)) ac)))))) ?_;rintro ws Q ⟨q,r,rfl,⟨h1,h2⟩,hQ⟩;refine aK ?_;have m1:bp q.num r.den:=.bb h1.bn h2.bd;have m2:bp r.num q.den:=.bb h2.bn h1.bd;have m3:bp q.den r.den:=.bb h1.bd h2.bd;have m4:bp q.num r.num:=.bb h1.bn h2.bn;have d1:=cG q r;have d2:=dq h1 h2;simp_arith only[ak,ah,aN.eq,yC,p6];exact aI hQ
noncomputable def wk(q:Rat):Rat:=qd (q.num.fmod q.den) q.den
theorem tD(q:Rat):y8 [.int (q.num.fmod q.den),.int q.den]=fr (wk q):=by
 have hd:=eK q
 have g:zk (q.num.fmod q.den) q.den=1:=by
  rw[Int.gcd_comm,eG];exact l7 q
 unfold wk;rw[<- ib hd,g];simp
noncomputable def bx:List W->(yF->Prop)->Prop:=fun ws Q=>∃(q:Rat),ws=[.d (fr q)]/\((wZ 2000 q))/\Q (fr (wk q))
theorem bx.mono:∀ws (Q Q':yF->Prop),(∀d,Q d->Q' d)->bx ws Q->bx ws Q':=fun _ _ _ h_=>y9 fun _=>yP (yP (h_ _))
theorem bx.len:∀ws (Q:yF->Prop),bx ws Q->ws.length=1:=fun _ _ h_=>by obtain⟨_,e_,_⟩:=h_;subst e_;rfl
theorem bx.eq(q:Rat)(h:wZ 2000 q):bx [.d (fr q)]=VL.ret (fr (wk q):yF):=by
 refine ae fun Q=>⟨?_,fun q_=>⟨q,rfl,h,q_⟩⟩;rintro⟨q',e_,_,q_⟩;simp_arith only[iW,cZ,c8,cf,cc,dH]at e_;obtain rfl:=e_;exact q_
theorem iD:FnScope ["one"] ["one"] (defScope (top 14)):=⟨rfl,rfl,rfl,by decide +kernel,rfl,by decide +kernel,by decide +kernel⟩
theorem d_wrapped(Fn:FnIn K mg "wrapped" (top 14) ["one"])(Z:Bz mg)    : Dfn P w K mg base rl "wrapped" ["one"] 1 bx:=by
 have sc:=iD;refine Dfn.of Fn sc (bx.mono) (bx.len) (fun cdv A outer s H E hr=>(av (aD (ba (aa (v_mod (bX (vn 0) ag) (bX (vn 0) ag)) (aa (bX (vn 0) ag) ac)))))) ?_;rintro ws Q ⟨q,rfl,h,hQ⟩;refine aK ?_;have cd:dC q.num q.den:=⟨by have:=eK q;omega,yK (vE h) (za (by decide) (by decide))⟩;have dz:(q.den:Int)≠0:=by have:=eK q;omega
 simp_arith only[ak,ah,yC,tD];exact aI hQ
theorem lV{n d k:Int}(h:d≠0):qd (n-d*k) d=qd n d-k:=by
 have hd:(d:Rat)≠0:=by intro z;exact h (by exact_mod_cast z)
 unfold qd;rw[Rat.intCast_sub,Bv];generalize (d:Rat)=D at *;generalize (n:Rat)=N;generalize (k:Rat)=K
 grind
theorem sd(q:Rat):(∃n:Int,wk q=q-n)/\0<=wk q/\wk q<1:=by
 have hd:=eK q;have e1:=Int.mul_fdiv_add_fmod q.num q.den;refine⟨⟨q.num.fdiv q.den,?_⟩,p5 hd (zI _ hd),lU hd (z_ _ hd)⟩;have e2:q.num.fmod q.den=q.num-q.den*q.num.fdiv q.den:=by omega
 show qd (q.num.fmod q.den) q.den=_;rw[e2,lV (by omega),jB]
theorem vK{n:Int}(h1:(-1:Rat)<n)(h2:(n:Rat)<1):n=0:=by
 have a:(0:Int)<n+1:=by
  have:((0:Int):Rat)<((n+1:Int):Rat):=by rw[Cv];have:((0:Int):Rat)=0:=rfl;have:((1:Int):Rat)=1:=rfl;grind
  exact_mod_cast this
 have b:n<1:=by exact_mod_cast h2
 omega
theorem r_{y:Rat}(n:Int)(e:y=q+n)(h0:0<=y)(h1:y<1):wk q=y:=by
 obtain⟨⟨m,em⟩,a0,a1⟩:=sd q;have k:((m+n:Int):Rat)=y-wk q:=by rw[Cv,em,e];grind
 have z:=vK (n:=m+n) (by rw[k];grind) (by rw[k];grind);rw[z]at k;have:((0:Int):Rat)=0:=rfl
 grind
noncomputable def dZ(s:Rat)(B:Int):Prop:=0<s.num/\s.num<(s.den:Int)/\(s.den:Int)<=B
theorem dZ.sm{B:Int}(h:dZ s B)(hB:B<=10^9):wZ 30 s:=by
 obtain⟨h1,h2,h3⟩:=h;exact⟨by omega,by omega⟩
abbrev ptQ(s:Rat)(n:Int):Int:=Gap.pt s.num s.den n
theorem oh(i:Int)(d:Nat):i.fmod (d:Int)=i%(d:Int):=Int.fmod_eq_emod_of_nonneg _ (by omega)
theorem oP(s:Rat)(n:Int):wk (0+(n:Rat)*s)=qd (ptQ s n) s.den:=by
 have hd:=eK s;obtain⟨b0,b1⟩:=Gap.pt_bd (p:=s.num) (n:=n) hd;have e:=Gap.pt_eq s.num s.den n;refine r_ (-(n*s.num / (s.den:Int))) ?_ (p5 hd b0) (lU hd b1);show qd (Gap.pt s.num s.den n) s.den=_;rw[e,show n*s.num-n*s.num / (s.den:Int)*(s.den:Int)=n*s.num-(s.den:Int)*(n*s.num / (s.den:Int)) by rw[Ct (s.den:Int)],lV (by omega),Rat.intCast_neg]
 have e2:qd (n*s.num) s.den=(n:Rat)*s:=by
  have e3:s=qd s.num s.den:=(jB s).symm;unfold qd;rw[Bv];have:((s.num:Int):Rat) / ((s.den:Int):Rat)=s:=e3.symm;rw[Di,Rat.mul_assoc,<- Di,this]
 rw[e2];grind
noncomputable def xC(s:Rat)(n:Int):Rat:=qd (ptQ s n) s.den
theorem lm{B:Int}(h:dZ s B)(hB:B<=10^9)(n:Int):wZ 31 (xC s n):=by
 have hd:=eK s;obtain⟨b0,b1⟩:=Gap.pt_bd (p:=s.num) (n:=n) hd;obtain⟨h1,h2,h3⟩:=h;have b0:0<=ptQ s n:=b0;have b1:ptQ s n<s.den:=b1;exact sO hd (by omega) (by omega)
theorem fX{n:Int}(h:n.natAbs<2^k)(hk:0<k):wZ k (n:Rat):=⟨by rw[Rat.num_intCast];exact h,by rw[Rat.den_intCast];exact Nat.one_lt_two_pow (by omega)⟩
theorem fF(s:Rat)(u v:Int):((v:Rat)*xC s u+(u:Rat)*(1-xC s v)=1)↔v*ptQ s u+u*((s.den:Int)-ptQ s v)=s.den:=by
 have hd:=eK s
 have hz:((s.den:Int):Rat)≠0:=fun z=>by
  have z2:(s.den:Int)=0:=by exact_mod_cast z
  omega
 have e:((v*ptQ s u+u*((s.den:Int)-ptQ s v):Int):Rat)=((v:Rat)*xC s u+(u:Rat)*(1-xC s v))*((s.den:Int):Rat):=by
  unfold xC qd;rw[Cv,Bv,Bv,Rat.intCast_sub];generalize ((s.den:Int):Rat)=D at *;generalize ((ptQ s u:Int):Rat)=A;generalize ((ptQ s v:Int):Rat)=C;generalize (u:Rat)=U;generalize (v:Rat)=V
  grind
 constructor
 · intro h;rw[h,Rat.one_mul]at e
   exact_mod_cast e
 · intro h;rw[h]at e;have e:((s.den:Int):Rat)*1=((s.den:Int):Rat)*((v:Rat)*xC s u+(u:Rat)*(1-xC s v)):=by rw[Rat.mul_one,Rat.mul_comm];exact e
   generalize ((s.den:Int):Rat)=D at *;generalize (v:Rat)*xC s u+(u:Rat)*(1-xC s v)=x at *
   grind
noncomputable def xf(N:Int):yF->Bool
 | .int i=>decide (0<i)&&decide (i<N)
 | _=>false
noncomputable def xb(N:Int):yF->Bool
 | .tuple [x,y]=>xf N x&&xf N y
 | _=>false
noncomputable def xj(s:Rat)(N:Int)(d:yF):Option Str:=match d with
 | .tuple [.int u,.int v]=>if xb N (.tuple [.int u,.int v])=true then(if u+v<N then some ("few" : Str)else if v*ptQ s u+u*((s.den:Int)-ptQ s v)=s.den then none else some ("round" : Str))else some ("shape" : Str)
 | _=>some ("shape" : Str)
noncomputable def fD:Option Str->yF
 | none=>.none
 | some z=>.str z
theorem el{N:Int}{d:yF}:xf N d=true↔∃i,d = .int i/\0<i/\i<N:=by
 cases d<;>simp[xf]
theorem sS{N:Int}{d:yF}:xb N d=true↔∃u v,d = .tuple [.int u,.int v]/\0<u/\u<N/\0<v/\v<N:=by
 constructor
 · intro h;unfold xb at h;split at h
   · rw[AU,el,el]at h;obtain⟨⟨u,rfl,u0,u1⟩,v,rfl,v0,v1⟩:=h;exact⟨u,v,rfl,u0,u1,v0,v1⟩
   · cases h
 · rintro⟨u,v,rfl,u0,u1,v0,v1⟩;unfold xb;rw[AU,el,el];exact⟨⟨u,rfl,u0,u1⟩,v,rfl,v0,v1⟩
theorem lX{N:Int}{d:yF}(h:dE d "tuple" = false):xb N d=false:=by
 cases d with
 | tuple xs=>exact absurd h (by unfold dE;simp[wB])
 | _=>rfl
theorem jF{N:Int}{xs:List yF}(h:xs.length≠2):xb N (.tuple xs)=false:=by
 rcases xs with _|⟨a,_|⟨b,_|⟨c,xs⟩⟩⟩
 · rfl
 · rfl
 · exact absurd rfl h
 · rfl
theorem dR{N:Int}{d:yF}(h:xb N d=false):xj s N d=some ("shape" : Str):=by
 unfold xj;split
 · rw[if_neg (by rw[h];decide)]
 · rfl
theorem hV{N u v:Int}(h:xb N (.tuple [.int u,.int v])=true):xj s N (.tuple [.int u,.int v])=if u+v<N then some ("few" : Str)else if v*ptQ s u+u*((s.den:Int)-ptQ s v)=s.den then none else some ("round" : Str):=if_pos h
theorem k6{N:Int}{d:yF}:xj s N d=none↔∃u v,d = .tuple [.int u,.int v]/\Gap.Nb s.num s.den N u v:=by
 cases h:xb N d with
 | false =>
   rw[dR h];constructor
   · intro e;cases e
   · rintro⟨u,v,rfl,a⟩;rw[sS.mpr ⟨u,v,rfl,a.u0,a.uN,a.v0,a.vN⟩]at h
     cases h
 | true =>
   obtain⟨u,v,rfl,u0,u1,v0,v1⟩:=sS.mp h;rw[hV h];constructor
   · intro e;split at e
     · cases e
     · rename_i g;split at e
       · rename_i g2;exact⟨u,v,rfl,u0,u1,v0,v1,by omega,g2⟩
       · cases e
   · rintro⟨u',v',e,a⟩;simp only[zz,yS,AT,and_true]at e;obtain⟨rfl,rfl⟩:=e;rw[if_neg (by have:=a.few;omega),if_pos a.round]
noncomputable def be:List W->(yF->Prop)->Prop:=fun ws Q=>∃(d:yF),ws=[.d d]/\(True)/\Q (.bool (bD d))
theorem be.mono:∀ws (Q Q':yF->Prop),(∀d,Q d->Q' d)->be ws Q->be ws Q':=fun _ _ _ h_=>y9 fun _=>yP (yP (h_ _))
theorem be.len:∀ws (Q:yF->Prop),be ws Q->ws.length=1:=fun _ _ h_=>by obtain⟨_,e_,_⟩:=h_;subst e_;rfl
theorem be.eq(d:yF)  : be [.d d]=VL.ret (.bool (bD d):yF):=by
 refine ae fun Q=>⟨?_,fun q_=>⟨d,rfl,trivial,q_⟩⟩;rintro⟨d',e_,_,q_⟩;simp_arith only[and_true]at e_;obtain rfl:=e_;exact q_
theorem gq:FnScope ["thing"] ["thing"] (defScope (top 7)):=⟨rfl,rfl,rfl,by decide +kernel,rfl,by decide +kernel,by decide +kernel⟩
theorem d_is_whole(Fn:FnIn K mg "is_whole" (top 7) ["thing"])(Z:Bz mg)    : Dfn P w K mg base rl "is_whole" ["thing"] 1 be:=by
 have sc:=gq;refine Dfn.of Fn sc (be.mono) (be.len) (fun cdv A outer s H E hr=>(av (aD (v_and (ix Z.isinstance_ (aa (vn 0) (aa (iG Z.int_ (by rfl)) ac))) (mI (v_not (ix Z.isinstance_ (aa (vn 0) (aa (iG Z.bool_ (by rfl)) ac))))))))) ?_;rintro ws Q ⟨d,rfl,_,hQ⟩;refine aK ?_;have tb:=gU;have ti:=gT;simp_arith only[ak,ah,gU,gT];unfold bD at hQ;cases h:dE d "int" <;> rw[h]at hQ<;>exact aI hQ
noncomputable def bf:List W->(yF->Prop)->Prop:=fun ws Q=>∃(d:yF)(m:Int),ws=[.d d,.d (.int m)]/\(True)/\Q (.bool (fV d m))
theorem bf.mono:∀ws (Q Q':yF->Prop),(∀d,Q d->Q' d)->bf ws Q->bf ws Q':=fun _ _ _ h_=>y9 fun _=>y9 fun _=>yP (yP (h_ _))
theorem bf.len:∀ws (Q:yF->Prop),bf ws Q->ws.length=2:=fun _ _ h_=>by obtain⟨_,_,e_,_⟩:=h_;subst e_;rfl
theorem bf.eq(d:yF)(m:Int)  : bf [.d d,.d (.int m)]=VL.ret (.bool (fV d m):yF):=by
 refine ae fun Q=>⟨?_,fun q_=>⟨d,m,rfl,trivial,q_⟩⟩;rintro⟨d',m',e_,_,q_⟩;simp_arith only[and_true]at e_;obtain⟨rfl,rfl⟩:=e_;exact q_
theorem gr:FnScope ["thing", "many"] ["thing", "many"] (defScope (top 8)):=⟨rfl,rfl,rfl,by decide +kernel,rfl,by decide +kernel,by decide +kernel⟩
theorem d_is_place(Fn:FnIn K mg "is_place" (top 8) ["thing", "many"])(Z:Bz mg)(d_is_whole:∀rl,Dfn P w K mg base rl "is_whole" ["thing"] 1 be)   : Dfn P w K mg base rl "is_place" ["thing", "many"] 2 bf:=by
 have sc:=gr;refine Dfn.of Fn sc (bf.mono) (bf.len) (fun cdv A outer s H E hr=>(av (aD (v_and (aw (d_is_whole _) (hr.mono (by decide)) (aa (vn 0) ac)) (mI (mK sV fO ag (vn 0) (vn 1))))))) ?_;rintro ws Q ⟨d,m,rfl,_,hQ⟩;refine aK ?_;simp_arith only[ak,ah,be.eq]
 cases h:bD d with
 | false=>rw[lh h]at hQ;exact aI hQ
 | true =>
   obtain⟨i,rfl⟩:=l5.mp h;simp_arith only[ak,ah,be.eq];exact aI hQ
noncomputable def aA:List W->(yF->Prop)->Prop:=fun ws Q=>∃(s t:Rat)(n:Int),ws=[.d (fr s),.d (fr t),.d (.int n)]/\((wZ 600 s)/\(wZ 600 t)/\(n.natAbs<2^600))/\Q (fr (wk (s+(n:Rat)*t)))
theorem aA.mono:∀ws (Q Q':yF->Prop),(∀d,Q d->Q' d)->aA ws Q->aA ws Q':=fun _ _ _ h_=>y9 fun _=>y9 fun _=>y9 fun _=>yP (yP (h_ _))
theorem aA.len:∀ws (Q:yF->Prop),aA ws Q->ws.length=3:=fun _ _ h_=>by obtain⟨_,_,_,e_,_⟩:=h_;subst e_;rfl
theorem aA.eq(s t:Rat)(n:Int)(h1:wZ 600 s)(h2:wZ 600 t)(h3:n.natAbs<2^600):aA [.d (fr s),.d (fr t),.d (.int n)]=VL.ret (fr (wk (s+(n:Rat)*t)):yF):=by
 refine ae fun Q=>⟨?_,fun q_=>⟨s,t,n,rfl,⟨h1,h2,h3⟩,q_⟩⟩;rintro⟨s',t',n',e_,_,q_⟩;simp_arith only[iW,cZ,c8,cf,cc,dH]at e_;obtain⟨rfl,rfl,rfl⟩:=e_;exact q_
theorem dG:FnScope ["start", "step", "n"] ["start", "step", "n"] (defScope (top 16)):=⟨rfl,rfl,rfl,by decide +kernel,rfl,by decide +kernel,by decide +kernel⟩
theorem d_step_number(Fn:FnIn K mg "step_number" (top 16) ["start", "step", "n"])(Z:Bz mg)(d_wrapped:∀rl,Dfn P w K mg base rl "wrapped" ["one"] 1 bx)(d_plus:∀rl,Dfn P w K mg base rl "plus" ["one", "other"] 3 cM)(d_times:∀rl,Dfn P w K mg base rl "times" ["one", "other"] 3 bT)   : Dfn P w K mg base rl "step_number" ["start", "step", "n"] 4 aA:=by
 have sc:=dG;refine Dfn.of Fn sc (aA.mono) (aA.len) (fun cdv A outer s H E hr=>(av (aD (aw (d_wrapped _) (hr.mono (by decide)) (aa (aw (d_plus _) (hr.mono (by decide)) (aa (vn 0) (aa (aw (d_times _) (hr.mono (by decide)) (aa (ba (aa (vn 2) (aa ag ac))) (aa (vn 1) ac))) ac))) ac))))) ?_;rintro ws Q ⟨s,t,n,rfl,⟨h1,h2,h3⟩,hQ⟩;refine aK ?_;have e:y8 [.int n,.int 1]=fr (n:Rat):=rfl;have s1:wZ 2000 (n:Rat):=(fX h3 (by decide)).mono (by decide);have s2:wZ 2000 t:=h2.mono (by decide);have s3:wZ 2000 ((n:Rat)*t):=(hX (fX h3 (by decide)) h2).mono (by decide);have s4:wZ 2000 s:=h1.mono (by decide);have s5:wZ 2000 (s+(n:Rat)*t):=(mm h1 (hX (fX h3 (by decide)) h2)).mono (by decide);simp_arith only[ak,ah,bx.eq,cM.eq,bT.eq,yC,e];exact aI hQ
noncomputable def aT:List W->(yF->Prop)->Prop:=fun ws Q=>∃(s:Rat)(n:Int),ws=[.d (fr s),.d (.int n)]/\((∃B,dZ s B/\B<=10^9)/\(n.natAbs<2^600))/\Q (fr (xC s n))
theorem aT.mono:∀ws (Q Q':yF->Prop),(∀d,Q d->Q' d)->aT ws Q->aT ws Q':=fun _ _ _ h_=>y9 fun _=>y9 fun _=>yP (yP (h_ _))
theorem aT.len:∀ws (Q:yF->Prop),aT ws Q->ws.length=2:=fun _ _ h_=>by obtain⟨_,_,e_,_⟩:=h_;subst e_;rfl
theorem aT.eq(s:Rat)(n:Int)(h1:∃B,dZ s B/\B<=10^9)(h3:n.natAbs<2^600):aT [.d (fr s),.d (.int n)]=VL.ret (fr (xC s n):yF):=by
 refine ae fun Q=>⟨?_,fun q_=>⟨s,n,rfl,⟨h1,h3⟩,q_⟩⟩;rintro⟨s',n',e_,_,q_⟩;simp_arith only[iW,cZ,c8,cf,cc,dH]at e_;obtain⟨rfl,rfl⟩:=e_;exact q_
theorem fy:FnScope ["step", "u"] ["step", "u"] (defScope (top 19)):=⟨rfl,rfl,rfl,by decide +kernel,rfl,by decide +kernel,by decide +kernel⟩
theorem d_gap_above(Fn:FnIn K mg "gap_above" (top 19) ["step", "u"])(Z:Bz mg)(d_step_number:∀rl,Dfn P w K mg base rl "step_number" ["start", "step", "n"] 4 aA)(gl_ZERO:GlD K mg "ZERO" (pr 0 1))  : Dfn P w K mg base rl "gap_above" ["step", "u"] 5 aT:=by
 have sc:=fy;refine Dfn.of Fn sc (aT.mono) (aT.len) (fun cdv A outer s H E hr=>(av (aD (aw (d_step_number _) (hr.mono (by decide)) (aa (gS gl_ZERO) (aa (vn 0) (aa (vn 1) ac))))))) ?_;rintro ws Q ⟨s,n,rfl,⟨h1,h3⟩,hQ⟩;refine aK ?_;obtain⟨B,h1,hB⟩:=h1;have s1:wZ 600 s:=(h1.sm hB).mono (by decide);have s2:wZ 600 (0:Rat):=vS.mono (by decide);have s3:wZ 2000 (xC s n):=(lm h1 hB n).mono (by decide);have s4:wZ 2000 (1:Rat):=vF.up;have e:fr (wk (0+(n:Rat)*s))=fr (xC s n):=congrArg fr (oP s n);simp_arith only[ak,ah,aA.eq,yC,e];exact aI hQ
noncomputable def aS:List W->(yF->Prop)->Prop:=fun ws Q=>∃(s:Rat)(n:Int),ws=[.d (fr s),.d (.int n)]/\((∃B,dZ s B/\B<=10^9)/\(n.natAbs<2^600))/\Q (fr (1-xC s n))
theorem aS.mono:∀ws (Q Q':yF->Prop),(∀d,Q d->Q' d)->aS ws Q->aS ws Q':=fun _ _ _ h_=>y9 fun _=>y9 fun _=>yP (yP (h_ _))
theorem aS.len:∀ws (Q:yF->Prop),aS ws Q->ws.length=2:=fun _ _ h_=>by obtain⟨_,_,e_,_⟩:=h_;subst e_;rfl
theorem aS.eq(s:Rat)(n:Int)(h1:∃B,dZ s B/\B<=10^9)(h3:n.natAbs<2^600):aS [.d (fr s),.d (.int n)]=VL.ret (fr (1-xC s n):yF):=by
 refine ae fun Q=>⟨?_,fun q_=>⟨s,n,rfl,⟨h1,h3⟩,q_⟩⟩;rintro⟨s',n',e_,_,q_⟩;simp_arith only[iW,cZ,c8,cf,cc,dH]at e_;obtain⟨rfl,rfl⟩:=e_;exact q_
theorem fx:FnScope ["step", "v"] ["step", "v"] (defScope (top 20)):=⟨rfl,rfl,rfl,by decide +kernel,rfl,by decide +kernel,by decide +kernel⟩
theorem d_gap_below(Fn:FnIn K mg "gap_below" (top 20) ["step", "v"])(Z:Bz mg)(d_less:∀rl,Dfn P w K mg base rl "less" ["one", "other"] 3 de)(d_step_number:∀rl,Dfn P w K mg base rl "step_number" ["start", "step", "n"] 4 aA)(gl_ONE:GlD K mg "ONE" (pr 1 1))(gl_ZERO:GlD K mg "ZERO" (pr 0 1))  : Dfn P w K mg base rl "gap_below" ["step", "v"] 5 aS:=by
 have sc:=fx;refine Dfn.of Fn sc (aS.mono) (aS.len) (fun cdv A outer s H E hr=>(av (aD (aw (d_less _) (hr.mono (by decide)) (aa (gS gl_ONE) (aa (aw (d_step_number _) (hr.mono (by decide)) (aa (gS gl_ZERO) (aa (vn 0) (aa (vn 1) ac)))) ac)))))) ?_;rintro ws Q ⟨s,n,rfl,⟨h1,h3⟩,hQ⟩;refine aK ?_;obtain⟨B,h1,hB⟩:=h1;have s1:wZ 600 s:=(h1.sm hB).mono (by decide);have s2:wZ 600 (0:Rat):=vS.mono (by decide);have s3:wZ 2000 (xC s n):=(lm h1 hB n).mono (by decide);have s4:wZ 2000 (1:Rat):=vF.up;have e:fr (wk (0+(n:Rat)*s))=fr (xC s n):=congrArg fr (oP s n);simp_arith only[ak,ah,de.eq,aA.eq,yC,e];exact aI hQ
noncomputable def bA:List W->(yF->Prop)->Prop:=fun ws Q=>∃(N:Int)(d:yF),ws=[.d (.int N),.d d]/\(True)/\Q (.bool (xb N d))
theorem bA.mono:∀ws (Q Q':yF->Prop),(∀d,Q d->Q' d)->bA ws Q->bA ws Q':=fun _ _ _ h_=>y9 fun _=>y9 fun _=>yP (yP (h_ _))
theorem bA.len:∀ws (Q:yF->Prop),bA ws Q->ws.length=2:=fun _ _ h_=>by obtain⟨_,_,e_,_⟩:=h_;subst e_;rfl
theorem bA.eq(N:Int)(d:yF)  : bA [.d (.int N),.d d]=VL.ret (.bool (xb N d):yF):=by
 refine ae fun Q=>⟨?_,fun q_=>⟨N,d,rfl,trivial,q_⟩⟩;rintro⟨N',d',e_,_,q_⟩;simp_arith only[and_true]at e_;obtain⟨rfl,rfl⟩:=e_;exact q_
theorem iE:FnScope ["many", "thing"] ["many", "thing"] (defScope (top 18)):=⟨rfl,rfl,rfl,by decide +kernel,rfl,by decide +kernel,by decide +kernel⟩
theorem d_is_pair(Fn:FnIn K mg "is_pair" (top 18) ["many", "thing"])(Z:Bz mg)(d_is_place:∀rl,Dfn P w K mg base rl "is_place" ["thing", "many"] 2 bf)   : Dfn P w K mg base rl "is_pair" ["many", "thing"] 3 bA:=by
 have sc:=iE
 refine Dfn.of Fn sc (bA.mono) (bA.len) (fun cdv A outer s H E hr=>(am (d4 (yj.pb (jc (eX (eW (ix Z.isinstance_ (aa (vn 1) (aa (iG Z.tuple_ (by rfl)) ac))))) (gR (bj (cN hr.units) bP (aL _) (pc Z.len_ (aa (vn 1) ac)) ag)))) (av (aD iH)) cv)
  (av (aD (v_all Z.all_ (aa (cU ["n", "many"] [none,some 0] rfl (lH (vn 1)) (fun _=>(aY 0 (show C3 (["n", "many"]:List Str) by decide +kernel))) (fun _=>i8) (fun _=>(v_and (aw (d_is_place _) (hr.mono (by decide)) (aa (vn 0) (aa (vn 1) ac))) (mI (mJ kZ oX (aL _) (vn 0) ag))))) ac)))))) ?_
 rintro ws Q ⟨N,d,rfl,_,hQ⟩;refine aK ?_;simp_arith only[ak,ah,bf.eq,lO]
 cases ht:dE d "tuple" with
 | false=>rw[lX ht]at hQ;exact aI hQ
 | true =>
   obtain⟨xs,rfl⟩:=fS ht;by_cases hl:xs.length=2
   · obtain⟨x,y,rfl⟩:=dJ hl;have sz:=zD;have one:∀x:yF,(if fV x N=true then(VL.ret (zC 0):Mo yF)else VL.ret (zC 0))=VL.ret (zC 0):=fun x=>by split<;>rfl
     simp_arith only[ak,ah,bf.eq];refine ou (xs:=[x,y]) (enc:=id) (fun z=>.bool (xf N z)) rfl ?_ (by show 2<=sizeLine;omega) ?_
     · intro z mz;simp_arith only[ak,ah,xr,bf.eq,id_eq]
       cases hz:fV z N with
       | false =>
         have:xf N z=false:=by
          cases h:xf N z with
          | false=>rfl
          | true=>obtain⟨i,rfl,i0,i1⟩:=el.mp h;simp[fV]at hz;omega
         simp_arith only[ak,ah,this]
       | true =>
         obtain⟨k,rfl,k0,k9⟩:=jU hz;have:xf N (.int k)=decide (0<k):=by simp[xf,k9]
         simp_arith only[ak,ah,this]
     · simp_arith only[ak,ah];refine aI ?_;have e:xb N (.tuple [x,y])=(xf N x&&(xf N y&&true)):=by simp[xb]
       rw[e]at hQ;exact hQ
   · have t:((xs.length:Int)==2)=false:=by simp;omega
     rw[jF hl]at hQ;simp_arith only[ak,ah,bf.eq,t];exact aI hQ
theorem jZ:∀f fd,Fun K "__init__" "NoPaper.__init__" (inClass (top 3) 0) f fd->FnOk P w K mg base yA 1 f fd ["self", "path", "word"] (oF K "path" "word"):=by
 intro f fd F;refine F.ok (k:=0) (N:=["self", "path", "word"]) ⟨rfl,rfl,rfl,by decide +kernel,rfl,by decide +kernel,by decide +kernel⟩ (fun vs H Q E h=>?_) fun cdv A outer s H vs Q E hr h=>⟨_,aF (sR (cK (i:=0) rfl (.inl rfl)) (cK (i:=1) rfl (.inl rfl)) rfl) (bF (sQ (cK (i:=0) rfl (.inl rfl)) (cK (i:=2) rfl (.inl rfl)) rfl)),?_⟩
 · obtain⟨a,C,y,z,e,_⟩:=h;subst e;rfl
 · obtain⟨a,C,y,z,e,xc,na,nb,ea,k⟩:=h;subst e;exact⟨y,rfl,.ref a,rfl,a,C,rfl,xc,na,ea,fun dx hd ne=>⟨z,rfl,.ref a,rfl,a,C,dx,_,rfl,xc,nb,by rw[upd_ne (AC ne),ai],ai,ne,(by show 1<=10;decide),by rw[ck];exact k dx hd ne⟩⟩
noncomputable def ax:List W->(yF->Prop)->XQ->Prop:=fun ws Q R=>∃(s:Rat)(N:Int)(d:yF),ws=[.d (fr s),.d (.int N),.d d]/\(∃B,dZ s B/\B<=10^9/\N<=10^9)/\(∀z,xj s N d=some z->R "NoPaper" [("word", .str z),("path", .tuple [])])/\(xj s N d=none->Q (.bool true))
theorem ax.mono:∀ws (Q Q':yF->Prop) (R R':XQ),(∀d,Q d->Q' d)->(∀c fs,R c fs->R' c fs)->ax ws Q R->ax ws Q' R':=fun _ _ _ _ _ h1 h2 ⟨s,N,d,e_,p_,a_,b_⟩=>⟨s,N,d,e_,p_,fun z h=>h2 _ _ (a_ z h),fun h=>h1 _ (b_ h)⟩
theorem ax.len:∀ws (Q:yF->Prop) (R:XQ),ax ws Q R->ws.length=3:=fun _ _ _ ⟨_,_,_,e_,_⟩=>by subst e_;rfl
theorem cn:FnScope ["step", "many", "thing", "u", "v"] ["step", "many", "thing"] (defScope (top 21)):=⟨rfl,rfl,rfl,by decide +kernel,rfl,by decide +kernel,by decide +kernel⟩
theorem dE_lets_neighbours(Fn:FnIn K mg "lets_neighbours" (top 21) ["step", "many", "thing"])(Z:Bz mg)(d_is_pair:∀rl,Dfn P w K mg base rl "is_pair" ["many", "thing"] 3 bA)(d_plus:∀rl,Dfn P w K mg base rl "plus" ["one", "other"] 3 cM)(d_times:∀rl,Dfn P w K mg base rl "times" ["one", "other"] 3 bT)(d_gap_above:∀rl,Dfn P w K mg base rl "gap_above" ["step", "u"] 5 aT)(d_gap_below:∀rl,Dfn P w K mg base rl "gap_below" ["step", "v"] 5 aS)(gl_ONE:GlD K mg "ONE" (pr 1 1))(xo_:∃C,XTwo P w K mg base "NoPaper" "path" "word" C):DfnE P w K mg base rl "lets_neighbours" ["step", "many", "thing"] 6 ax:=by
 have sc:=cn;obtain⟨C_,xo⟩:=xo_;refine DfnE.of Fn sc ax.mono ax.len (fun cdv A outer s H E hr hxe=>ol hxe (hr.mono (by decide)) xo (eX (eW (aw (d_is_pair _) (hr.mono (by decide)) (aa (vn 1) (aa (vn 2) ac))))) (aa (ba ac) (aa b9 ac)) (rh (i9 (vn 2) (ja (n:=2) rfl (bW (aY 3 sc.nd) (bW (aY 4 sc.nd) gl)))) (ol hxe (hr.mono (by decide)) xo (bj fO kI (aL _) (v_add (vn 3) (vn 4)) (vn 1)) (aa (ba ac) (aa b9 ac)) (ol hxe (hr.mono (by decide)) xo (bj (cN hr.units) bP (aL _) (aw (d_plus _) (hr.mono (by decide)) (aa (aw (d_times _) (hr.mono (by decide)) (aa (ba (aa (vn 4) (aa ag ac))) (aa (aw (d_gap_above _) (hr.mono (by decide)) (aa (vn 0) (aa (vn 3) ac))) ac))) (aa (aw (d_times _) (hr.mono (by decide)) (aa (ba (aa (vn 3) (aa ag ac))) (aa (aw (d_gap_below _) (hr.mono (by decide)) (aa (vn 0) (aa (vn 4) ac))) ac))) ac))) (gS gl_ONE)) (aa (ba ac) (aa b9 ac)) (vQ (av (aD iH))))))) ?_;rintro ws Q R ⟨s,N,d,rfl,⟨B,h1,hB,hN⟩,hR,hQ⟩
 cases hp:xb N d with
 | false=>exact i5 (.tuple []) (.str "shape") (by simp_arith only[ak,ah,bA.eq,cM.eq,bT.eq,aT.eq,aS.eq,hp]) (by simp_arith only[ak,ah]) (hR _ (dR hp))
 | true =>
   obtain⟨u,v,rfl,u0,u1,v0,v1⟩:=sS.mp hp;rw[hV hp]at hR hQ;refine i6 (by simp_arith only[ak,ah,bA.eq,cM.eq,bT.eq,aT.eq,aS.eq,hp]) (oN (ρ':=[some (.d (fr s)),some (.d (.int N)),some (.d (.tuple [.int u,.int v])),some (.d (.int u)),some (.d (.int v))]) (by(simp_arith only[ak,ah])<;>rfl) ?_);by_cases c1:u+v<N
   · rw[if_pos c1]at hR;exact i5 (.tuple []) (.str "few") (by simp_arith only[ak,ah,c1]) (by simp_arith only[ak,ah]) (hR _ rfl)
   · rw[if_neg c1]at hR hQ;refine i6 (by simp_arith only[ak,ah,c1]) ?_;have hs:∃B,dZ s B/\B<=10^9:=⟨B,h1,hB⟩;have hu:u.natAbs<2^600:=yK (show u.natAbs<2^30 by omega) (za (by decide) (by decide));have hv:v.natAbs<2^600:=yK (show v.natAbs<2^30 by omega) (za (by decide) (by decide));have iu:wZ 30 (u:Rat):=fX (by omega) (by decide);have iv:wZ 30 (v:Rat):=fX (by omega) (by decide);have eu:y8 [.int u,.int 1]=fr (u:Rat):=rfl;have ev:y8 [.int v,.int 1]=fr (v:Rat):=rfl;have g1:=lm h1 hB u;have g2:wZ 100 (1-xC s v):=(pL vF (lm h1 hB v)).mono (by decide);have m1:=hX iv g1;have m2:=hX iu g2;have s1:wZ 2000 (u:Rat):=iu.mono (by decide);have s2:wZ 2000 (v:Rat):=iv.mono (by decide);have s3:wZ 2000 (xC s u):=g1.mono (by decide);have s4:wZ 2000 (1-xC s v):=g2.mono (by decide);have s5:wZ 2000 ((v:Rat)*xC s u):=m1.mono (by decide);have s6:wZ 2000 ((u:Rat)*(1-xC s v)):=m2.mono (by decide);by_cases c2:v*ptQ s u+u*((s.den:Int)-ptQ s v)=s.den
     · rw[if_pos c2]at hQ;have e:decide ((v:Rat)*xC s u+(u:Rat)*(1-xC s v)=1)=true:=decide_eq_true ((fF s u v).mpr c2);refine i6 (by simp_arith only[ak,ah,yC,bA.eq,cM.eq,bT.eq,aT.eq,aS.eq,eu,ev,e,l8,fv]) (oO (aK ?_));simp_arith only[ak,ah];exact aI (hQ rfl)
     · rw[if_neg c2]at hR;have e:decide ((v:Rat)*xC s u+(u:Rat)*(1-xC s v)=1)=false:=decide_eq_false (mt (fF s u v).mp c2);exact i5 (.tuple []) (.str "round") (by simp_arith only[ak,ah,yC,bA.eq,cM.eq,bT.eq,aT.eq,aS.eq,eu,ev,e,l8,fv]) (by simp_arith only[ak,ah]) (hR _ rfl)
theorem sN{a m:Int}(h1:0<a)(h2:a<b)(h3:b<=m):dZ (qd a b) m:=by
 have hb:0<b:=by omega
 have e:=ib hb (a:=a)
 have hg:0<(zk a b:Int):=by
  have:=Bk a (show b≠0 by omega);omega
 unfold nV at e;unfold fr at e;simp only[zz,yS,AT,and_true]at e;obtain⟨e1,e2⟩:=e;rw[z6 _ (by omega)]at e1 e2;have da:(zk a b:Int)∣a:=Int.gcd_dvd_left ..;have db:(zk a b:Int)∣b:=Int.gcd_dvd_right ..;generalize (zk a b:Int)=g at *;obtain⟨x,rfl⟩:=da;obtain⟨y,rfl⟩:=db;rw[Int.mul_ediv_cancel_left _ (by omega)]at e1 e2;have x0:0<x:=BQ h1 hg;have y0:0<y:=BQ hb hg;have xy:x<y:=Ad h2 (by omega);refine⟨by omega,by omega,?_⟩;have:1*y<=g*y:=zb (by omega) (by omega);omega
noncomputable def bg:List W->(yF->Prop)->Prop:=fun ws Q=>∃(i j:Int),ws=[.d (.int i),.d (.int j)]/\((0<=i)/\(0<=j))/\Q (.int (zk i j:Nat))
theorem bg.mono:∀ws (Q Q':yF->Prop),(∀d,Q d->Q' d)->bg ws Q->bg ws Q':=fun _ _ _ h_=>y9 fun _=>y9 fun _=>yP (yP (h_ _))
theorem bg.len:∀ws (Q:yF->Prop),bg ws Q->ws.length=2:=fun _ _ h_=>by obtain⟨_,_,e_,_⟩:=h_;subst e_;rfl
theorem bg.eq(i j:Int)(hi:0<=i)(hj:0<=j):bg [.d (.int i),.d (.int j)]=VL.ret (.int (zk i j:Nat):yF):=by
 refine ae fun Q=>⟨?_,fun q_=>⟨i,j,rfl,⟨hi,hj⟩,q_⟩⟩;rintro⟨i',j',e_,_,q_⟩;simp_arith only[and_true]at e_;obtain⟨rfl,rfl⟩:=e_;exact q_
theorem gu:FnScope ["_law_one", "_law_other"] ["_law_one", "_law_other"] (defScope (top 25)):=⟨rfl,rfl,rfl,by decide +kernel,rfl,by decide +kernel,by decide +kernel⟩
theorem d__law_gcd(Fn:FnIn K mg "_law_gcd" (top 25) ["_law_one", "_law_other"])(Z:Bz mg)    : Dfn P w K mg base rl "_law_gcd" ["_law_one", "_law_other"] 1 bg:=by
 have sc:=gu
 refine Dfn.of Fn sc (bg.mono) (bg.len) (fun cdv A outer s H E hr=>(am (eS [] Ak (bj kZ oX (aL _) (vn 1) ag) (av (lF 0 1 rfl sc.nd (aa (vn 1) (aa (v_mod (vn 0) (vn 1)) ac)))))
  (av (aD (vn 0))))) ?_
 rintro ws Q ⟨i,j,rfl,⟨hi,hj⟩,hQ⟩;refine aK ?_;simp_arith only[ah];refine gP (σ:=Int×Int) (fun s=>[some (.d (.int s.1)),some (.d (.int s.2))]) (fun s=>decide (0<s.2)) (fun s=>(s.2,s.1.fmod s.2)) (fun s=>s.2.natAbs) (fun s=>0<=s.1/\0<=s.2/\zk s.1 s.2=zk i j) (i,j) rfl ⟨hi,hj,rfl⟩ ?_ ?_ ?_
 · intro s _;simp_arith only[ah]
 · rintro⟨x,y⟩ ⟨x0,y0,e⟩ c;have c1:0<y:=by simpa using c
   have hc:y≠0:=by omega
   refine⟨⟨y0,zI _ c1,by rw[eG];exact e⟩,cr hc,_,by(simp_arith only[ak,ah])<;>rfl,rfl⟩
 · rintro⟨x,y⟩ ⟨x0,y0,e⟩ c
   have c1 : y = 0 := by have:¬0<y:=by simpa using c
                         have:0<=y:=y0;omega
   subst c1;have x0:0<=x:=x0;have e:zk x 0=zk i j:=e;simp_arith only[ah];rw[Int.gcd_zero_right]at e;have:x=((zk i j:Nat):Int):=by omega
   rw[this];exact aI hQ
noncomputable def aV:List W->(yF->Prop)->Prop:=fun ws Q=>∃(a b:Int),ws=[.d (.int a),.d (.int b)]/\((0<b)/\(b.natAbs<2^8000))/\Q (fr (qd a b))
theorem aV.mono:∀ws (Q Q':yF->Prop),(∀d,Q d->Q' d)->aV ws Q->aV ws Q':=fun _ _ _ h_=>y9 fun _=>y9 fun _=>yP (yP (h_ _))
theorem aV.len:∀ws (Q:yF->Prop),aV ws Q->ws.length=2:=fun _ _ h_=>by obtain⟨_,_,e_,_⟩:=h_;subst e_;rfl
theorem aV.eq(a b:Int)(hb:0<b)(hz:b.natAbs<2^8000):aV [.d (.int a),.d (.int b)]=VL.ret (fr (qd a b):yF):=by
 refine ae fun Q=>⟨?_,fun q_=>⟨a,b,rfl,⟨hb,hz⟩,q_⟩⟩;rintro⟨a',b',e_,_,q_⟩;simp_arith only[and_true]at e_;obtain⟨rfl,rfl⟩:=e_;exact q_
theorem fB:FnScope ["_law_top", "_law_bottom", "_law_common"] ["_law_top", "_law_bottom"] (defScope (top 26)):=⟨rfl,rfl,rfl,by decide +kernel,rfl,by decide +kernel,by decide +kernel⟩
theorem d__law_frac(Fn:FnIn K mg "_law_frac" (top 26) ["_law_top", "_law_bottom"])(Z:Bz mg)(d__law_gcd:∀rl,Dfn P w K mg base rl "_law_gcd" ["_law_one", "_law_other"] 1 bg)   : Dfn P w K mg base rl "_law_frac" ["_law_top", "_law_bottom"] 2 aV:=by
 have sc:=fB
 refine Dfn.of Fn sc (aV.mono) (aV.len) (fun cdv A outer s H E hr=>(am (aR 2 sc.nd (aw (d__law_gcd _) (hr.mono (by decide)) (aa (pe Z.abs_ (aa (vn 0) ac)) (aa (vn 1) ac))))
  (av (aD (ba (aa (v_div (vn 0) (vn 2)) (aa (v_div (vn 1) (vn 2)) ac))))))) ?_
 rintro ws Q ⟨a,b,rfl,⟨hb,hz⟩,hQ⟩;refine aK ?_;have e:zk (if a<0 then -a else a) b=zk a b:=by split<;>simp[zk]
 have c1:dC a (zk a b:Int):=eI hb hz _;have c2:dC b (zk a b:Int):=eI hb hz _;have a0:0<=(if a<0 then -a else a):=by split<;>omega
 simp_arith only[ak,ah,bg.eq,e];rw[ib hb];exact aI hQ
noncomputable def aB:List W->(yF->Prop)->Prop:=fun ws Q=>∃(m:Int),ws=[.reel,.d (.int m)]/\((2<=m)/\(m<=10^9))/\∀s:Rat,(dZ s m)->Q (fr s)
theorem aB.mono:∀ws (Q Q':yF->Prop),(∀d,Q d->Q' d)->aB ws Q->aB ws Q':=fun _ _ _ h_=>y9 fun _=>yP (yP fun q_ o_ ho_=>h_ _ (q_ o_ ho_))
theorem aB.len:∀ws (Q:yF->Prop),aB ws Q->ws.length=2:=fun _ _ h_=>by obtain⟨_,e_,_⟩:=h_;subst e_;rfl
theorem aB.eq(m:Int)(h2:2<=m)(h9:m<=10^9):aB [.reel,.d (.int m)]=xH (anyM fun s:Rat=>dZ s m) fun s=>VL.ret (fr s:yF):=by
 refine ae fun Q=>⟨?_,fun q_=>⟨m,rfl,⟨h2,h9⟩,q_⟩⟩;rintro⟨m',e_,_,q_⟩;simp_arith only[and_true]at e_;obtain rfl:=e_;exact q_
theorem c0:FnScope ["_law_feed_here", "_law_most", "_law_bottom", "_law_near"] ["_law_feed_here", "_law_most"] (defScope (top 27)):=⟨rfl,rfl,rfl,by decide +kernel,rfl,by decide +kernel,by decide +kernel⟩
theorem d__law_step_of(Fn:FnIn K mg "_law_step_of" (top 27) ["_law_feed_here", "_law_most"])(Z:Bz mg)(d__law_frac:∀rl,Dfn P w K mg base rl "_law_frac" ["_law_top", "_law_bottom"] 2 aV)(d__law_draw:∀rl,Dfn P w K mg base rl "_law_draw" ["_law_feed_here", "_law_many"] 2 et)   : Dfn P w K mg base rl "_law_step_of" ["_law_feed_here", "_law_most"] 3 aB:=by
 have sc:=c0
 refine Dfn.of Fn sc (aB.mono) (aB.len) (fun cdv A outer s H E hr=>(am (aR 2 sc.nd (v_add ag (aw (d__law_draw _) (hr.mono (by decide)) (aa (vn 0) (aa (v_sub (vn 1) ag) ac)))))
  (am (aR 3 sc.nd (bX (iw (aa (v_add ag (aw (d__law_draw _) (hr.mono (by decide)) (aa (vn 0) (aa (v_sub (vn 2) ag) ac)))) (aa (v_div (v_mul (vn 2) ag) ag) (aa (v_sub (vn 2) ag) (aa ag ac))))) (aw (d__law_draw _) (hr.mono (by decide)) (aa (vn 0) (aa ag ac)))))
  (av (aD (aw (d__law_frac _) (hr.mono (by decide)) (aa (o9 Z.max_ (aa ag (aa (vn 3) ac))) (aa (vn 2) ac)))))))) ?_
 rintro ws Q ⟨m,rfl,⟨h2,h9⟩,hQ⟩;refine aK ?_;simp_arith only[ak,ah,p__law_draw.eq]
 (with_reducible (first|refine aO fun b hb=>?_|refine bc fun b hb=>?_))
 try simp_arith only[ak,ah,p__law_draw.eq]
 (with_reducible (first|refine aO fun a ha=>?_|refine bc fun a ha=>?_))
 have cm:bp (2+b) 377:=.rt (by decide);have cd:dC ((2+b)*377) 610:=dC.of (by decide) (by decide)
 try simp_arith only[ak,ah,p__law_draw.eq]
 (with_reducible (first|refine aO fun k hk=>?_|refine bc fun k hk=>?_))
 refine wM (dU (xs:=[1+a,((2+b)*377).fdiv 610,2+b-1,1]) (enc:=zC) (fun z:Int=>z<2+b) rfl hk.1 (by simpa using hk.2) ?_ fun z hz=>?_)
 · intro z mz;have:((2+b)*377).fdiv 610=((2+b)*377) / 610:=z6 _ (by decide);simp only[zo,z9,or_false]at mz;omega
 have hz0:max 1 z<2+b:=by omega
 have hz1:0<max 1 z:=by omega
 have hb1:(2+b).natAbs<2^8000:=yK (show(2+b).natAbs<2^31 by omega) (za (by decide) (by decide));simp_arith only[ak,ah,aV.eq];exact aI (hQ _ (sN hz1 hz0 (by omega)))
noncomputable def aM:List W->(yF->Prop)->Prop:=fun ws Q=>∃(s:Rat)(N:Int)(d:yF),ws=[.d (fr s),.d (.int N),.d d]/\((∃B,dZ s B/\B<=10^9/\N<=10^9)/\(xZ d))/\Q (fD (xj s N d))
theorem aM.mono:∀ws (Q Q':yF->Prop),(∀d,Q d->Q' d)->aM ws Q->aM ws Q':=fun _ _ _ h_=>y9 fun _=>y9 fun _=>y9 fun _=>yP (yP (h_ _))
theorem aM.len:∀ws (Q:yF->Prop),aM ws Q->ws.length=3:=fun _ _ h_=>by obtain⟨_,_,_,e_,_⟩:=h_;subst e_;rfl
theorem aM.eq(s:Rat)(N:Int)(d:yF)(hs:∃B,dZ s B/\B<=10^9/\N<=10^9)(hw:xZ d):aM [.d (fr s),.d (.int N),.d d]=VL.ret (fD (xj s N d):yF):=by
 refine ae fun Q=>⟨?_,fun q_=>⟨s,N,d,rfl,⟨hs,hw⟩,q_⟩⟩;rintro⟨s',N',d',e_,_,q_⟩;simp_arith only[iW,cZ,c8,cf,cc,dH]at e_;obtain⟨rfl,rfl,rfl⟩:=e_;exact q_
theorem ee:FnScope ["_law_step", "_law_many", "_law_thing", "_law_u", "_law_v", "_law_above", "_law_below", "_law_due"] ["_law_step", "_law_many", "_law_thing"] (defScope (top 28)):=⟨rfl,rfl,rfl,by decide +kernel,rfl,by decide +kernel,by decide +kernel⟩
theorem d__law_fault(Fn:FnIn K mg "_law_fault" (top 28) ["_law_step", "_law_many", "_law_thing"])(Z:Bz mg)    : Dfn P w K mg base rl "_law_fault" ["_law_step", "_law_many", "_law_thing"] 1 aM:=by
 have sc:=ee
 refine Dfn.of Fn sc (aM.mono) (aM.len) (fun cdv A outer s H E hr=>(am (d4 (yj.pb (jc (eX (eW (ix Z.isinstance_ (aa (vn 2) (aa (iG Z.tuple_ (by rfl)) ac))))) (gR (bj (cN hr.units) bP (aL _) (pc Z.len_ (aa (vn 2) ac)) ag)))) (av (aD b9)) cv)
  (am (d4 (bj (cN hr.units) bP (aL _) (cU ["_law_one", "_law_many"] [none,some 1] rfl (lH (vn 2)) (fun _=>(aY 0 (show C3 (["_law_one", "_law_many"]:List Str) by decide +kernel))) (fun _=>oQ (yj.pb (jc (eW (ix Z.isinstance_ (aa (vn 0) (aa (iG Z.bool_ (by rfl)) ac)))) (jc (eX (eW (ix Z.isinstance_ (aa (vn 0) (aa (iG Z.int_ (by rfl)) ac))))) (gR (eX (kK fO fO ag (vn 0) (vn 1)))))))) (fun _=>(vn 0))) (iw ac)) (av (aD b9)) cv)
  (am (i9 (vn 2) (ja (n:=2) rfl (bW (aY 3 sc.nd) (bW (aY 4 sc.nd) gl))))
  (am (d4 (bj fO kI (aL _) (v_add (vn 3) (vn 4)) (vn 1)) (av (aD b9)) cv)
  (am (aR 5 sc.nd (v_mod (v_mul (vn 3) (bX (vn 0) ag)) (bX (vn 0) ag)))
  (am (aR 6 sc.nd (v_sub (bX (vn 0) ag) (v_mod (v_mul (vn 4) (bX (vn 0) ag)) (bX (vn 0) ag))))
  (am (aR 7 sc.nd (v_add (v_mul (vn 4) (vn 5)) (v_mul (vn 3) (vn 6))))
  (av (aD (jg (bj (jL hr.units) bP (aL _) (vn 7) (bX (vn 0) ag)) jC b9))))))))))) ?_
 rintro ws Q ⟨s,N,d,rfl,⟨hs,hw⟩,hQ⟩;refine aK ?_;obtain⟨B,h1,hB,hN⟩:=hs;have sz:=zD;simp_arith only[ak,ah,lO]
 cases ht:dE d "tuple" with
 | false=>rw[dR (lX ht)]at hQ;exact aI hQ
 | true =>
   obtain⟨xs,rfl⟩:=fS ht;by_cases hl:xs.length=2
   · obtain⟨x,y,rfl⟩:=dJ hl;simp_arith only[ak,ah];refine wN (rm (xs:=[x,y]) (enc:=id) (fun z=>if xf N z=true then none else some z) rfl ?_ (by show 2<=sizeLine;omega) ?_)
     · intro z mz;have tb:=gU;have ti:=gT;simp_arith only[ak,ah,xr,id_eq,gU,gT]
       cases z with
       | int i =>
         have e1:dE (.int i) "bool" = false:=by unfold dE;simp[wB]
         have e2:dE (.int i) "int" = true:=by unfold dE;simp[wB]
         rw[e1,e2];simp_arith only[ak,ah]
         by_cases c1:0<i<;>by_cases c2:i<N<;>simp[xf,c1,c2]
       | bool b=>rw[show dE (.bool b) "bool" = true by unfold dE;simp[wB]];rfl
       | _=>unfold dE;simp[wB,xf]
     · have shp:=mT hw (fun z=>if xf N z=true then none else some z) (fun x y e=>by split at e<;>cases e;rfl)
       cases hp:xb N (.tuple [x,y])with
       | false =>
         rw[dR hp]at hQ
         have ne:zH (.list (List.filterMap (fun z=>if xf N z=true then none else some z) [x,y])) (.list [])=false:=by
          have hp:(xf N x&&xf N y)=false:=by simpa[xb]using hp
          cases hx:xf N x<;>cases hy:xf N y<;>rw[hx,hy]at hp<;>simp[hx,hy,zH,yF.eqvAll]at hp ⊢
         simp_arith only[ak,ah,shp,ne]
         exact aI hQ
       | true =>
         obtain⟨u,v,e,u0,u1,v0,v1⟩:=sS.mp hp;simp only[zz,yS,and_true]at e;obtain⟨rfl,rfl⟩:=e;rw[hV hp]at hQ;have px:xf N (.int u)=true:=el.mpr ⟨u,rfl,u0,u1⟩;have py:xf N (.int v)=true:=el.mpr ⟨v,rfl,v0,v1⟩;have e0:List.filterMap (fun z=>if xf N z=true then none else some z) [.int u,.int v]=[]:=by simp[px,py]
         rw[e0]at shp ⊢;have en:zH (.list []) (.list [])=true:=rfl;by_cases c1:u+v<N
         · rw[if_pos c1]at hQ;simp_arith only[ak,ah,shp,en,c1];exact aI hQ
         · rw[if_neg c1]at hQ;obtain⟨h2,h3,h4⟩:=h1;have hd:=eK s;have b1:=Gap.pt_bd (p:=s.num) (n:=u) hd;have b2:=Gap.pt_bd (p:=s.num) (n:=v) hd;have dz:(s.den:Int)≠0:=by omega
           have cm1:bp u s.num:=.rt (by omega);have cm2:bp v s.num:=.rt (by omega);have cm3:bp v (ptQ s u):=.rt (by show(ptQ s u).natAbs<_;have:ptQ s u=Gap.pt s.num s.den u:=rfl;omega);have cm4:bp u ((s.den:Int)-ptQ s v):=.rt (by have:ptQ s v=Gap.pt s.num s.den v:=rfl;omega);have e1:(u*s.num).fmod (s.den:Int)=ptQ s u:=oh _ _;have e2:(v*s.num).fmod (s.den:Int)=ptQ s v:=oh _ _;simp_arith only[ak,ah,yC,shp,en,c1,e1,e2];refine aI ?_;by_cases c2:v*ptQ s u+u*((s.den:Int)-ptQ s v)=s.den
           · rw[if_pos c2]at hQ;simp only[c2,beq_self_eq_true,if_true];exact hQ
           · rw[if_neg c2]at hQ;simp only[beq_eq_false_iff_ne.mpr c2,Az,if_false];exact hQ
   · have t:((xs.length:Int)==2)=false:=by simp;omega
     rw[dR (jF hl)]at hQ;simp_arith only[ak,ah,t];exact aI hQ
noncomputable def wV:xS:=si 3 (wv (iy (wr (rN false) (wn 4 "NoPaper" "path") (rE ji))) (wn 4 "NoPaper" "word") (vC (.str "none")))
theorem vH(d e:yF):[(("word" : Str),d),(("path" : Str),e)].lookup ("path" : Str)=some e/\[(("word" : Str),d),(("path" : Str),e)].lookup ("word" : Str)=some d:=by
 have h1:((("path" : Str))==("word" : Str))=false:=by decide +kernel
 have h2:((("path" : Str))==("path" : Str))=true:=by decide +kernel
 have h3:((("word" : Str))==("word" : Str))=true:=by decide +kernel
 constructor
 · rw[zf,h1];dsimp only;rw[zf,h2]
 · rw[zf,h3]
theorem jt{D:VEnds}{d:yF}(q:D.nx [none,none,none,some (.d d),some (.xc "NoPaper" [("word", d),("path", .tuple [])])]):wV D ((zt 5 none).set 4 (some (.xc "NoPaper" [("word", d),("path", .tuple [])]))):=by
 obtain⟨l1,l2⟩:=vH d (.tuple []);refine⟨_,.tuple [],rfl,l1,[],rfl,(by rw[CL];exact zQ _),.tuple [],.tuple [],rfl,rfl,rfl,rfl,true,rfl,?_⟩;exact⟨_,d,rfl,l2,rfl,q⟩
noncomputable def aU:List W->(yF->Prop)->Prop:=fun ws Q=>∃(s:Rat)(N:Int)(d:yF),ws=[.d (fr s),.d (.int N),.d d]/\((∃B,dZ s B/\B<=10^9/\N<=10^9))/\Q (fD (xj s N d))
theorem aU.mono:∀ws (Q Q':yF->Prop),(∀d,Q d->Q' d)->aU ws Q->aU ws Q':=fun _ _ _ h_=>y9 fun _=>y9 fun _=>y9 fun _=>yP (yP (h_ _))
theorem aU.len:∀ws (Q:yF->Prop),aU ws Q->ws.length=3:=fun _ _ h_=>by obtain⟨_,_,_,e_,_⟩:=h_;subst e_;rfl
theorem aU.eq(s:Rat)(N:Int)(d:yF)(hs:∃B,dZ s B/\B<=10^9/\N<=10^9):aU [.d (fr s),.d (.int N),.d d]=VL.ret (fD (xj s N d):yF):=by
 refine ae fun Q=>⟨?_,fun q_=>⟨s,N,d,rfl,hs,q_⟩⟩;rintro⟨s',N',d',e_,_,q_⟩;simp_arith only[iW,cZ,c8,cf,cc,dH]at e_;obtain⟨rfl,rfl,rfl⟩:=e_;exact q_
theorem fA:FnScope ["_law_step", "_law_many", "_law_thing", "_law_told_here", "e"] ["_law_step", "_law_many", "_law_thing"] (defScope (top 29)):=⟨rfl,rfl,rfl,by decide +kernel,rfl,by decide +kernel,by decide +kernel⟩
theorem d__law_told(Fn:FnIn K mg "_law_told" (top 29) ["_law_step", "_law_many", "_law_thing"])(Z:Bz mg)(dE_lets_neighbours:∀rl,DfnE P w K mg base rl "lets_neighbours" ["step", "many", "thing"] 6 ax)(xc_:XCl2 K mg "NoPaper" "path" "word" "NoPaper" "NoPaper.__init__" (inClass (top 3) 0) ["self", "path", "word"] []):Dfn P w K mg base rl "_law_told" ["_law_step", "_law_many", "_law_thing"] 7 aU:=by
 have sc:=fA;obtain⟨C,B,f,fd,Cs,ns,mC,mB,M,na,nb,ov,_⟩:=xc_.ex;have un:∀C',Ab K yW "NoPaper" = some (some (.ref C'))->C'=C:=fun C' e=>by rw[ns]at e;cases e;rfl
 have x3:∀C',Ab K yW "NoPaper" = some (some (.ref C'))->XCls K C'/\bi K C' "path" := fun C' e=>by cases un C' e;exact⟨M.cl,na⟩
 have x6:∀C',Ab K yW "NoPaper" = some (some (.ref C'))->XCls K C'/\bi K C' "word" := fun C' e=>by cases un C' e;exact⟨M.cl,nb⟩
 have x4:∀c'∈(["NoPaper"]:List Str),∀C',Ab K yW c'=some (some (.ref C'))->XOver K C' B:=fun c' hc C' e=>by
  cases A5.mp hc;cases un C' e;exact ov
 refine Dfn.of Fn sc aU.mono aU.len (fun cdv A outer s H E hr=>am (gQ 3 sc.nd b9) (am (oR (B:=B) (ts:=wV) 4 rfl rfl sc.nd rfl rfl mB x4
  (fun pn XE E' hx=>oj 3 lZ (fun _=>.non) lY (fun _=>.str _) hx sc.nd (dE_lets_neighbours _) (hr.mono (by decide)) (aa (vn 0) (aa (vn 1) (aa (vn 2) ac))))
  (fun a=>av (gQ 3 sc.nd (jg (bj (jL hr.units) bP (aL _) (lI 4 x3) (ba ac)) (lI 4 x6) b9))))
  (av (aD (vn 3))))) ?_
 rintro ws Q ⟨s,N,d,rfl,hs,hQ⟩;refine⟨rfl,?_⟩;dsimp only[sj,uv];show gO _ _ _ _ _ _ _ _;refine kE (ws:=[.d (fr s),.d (.int N),.d d]) ?_ rfl ⟨s,N,d,rfl,hs,fun z e=>⟨A5.mpr rfl,jt ⟨_,rfl,_,rfl,?_⟩⟩,fun e=>⟨true,rfl,_,rfl,_,rfl,?_⟩⟩
 · simp_arith only[ak,ah]
 · rw[e]at hQ;exact hQ
 · rw[e]at hQ;exact hQ
theorem pM{N:Int}(hn:(n:Int)=N-1)(h2:2<=N){qs:List (Int×Int)}(hp:qs.Perm ((zw n).map fun j:Nat=>(ptQ s (1+(j:Int)),1+(j:Int))))(hs:qs.Pairwise fun x y=>KS.lexB y x=false):∃z0 z1:Int×Int,L2.atI qs 0=some z0/\L2.atI qs (-1)=some z1/\Gap.Ex s.num s.den N z0.2 z1.2:=by
 have mem:∀z,z∈qs↔0<z.2/\z.2<N/\z.1=ptQ s z.2:=fun z=>by
  rw[hp.mem_iff,Ck];constructor
  · rintro⟨j,mj,rfl⟩;have:=Au.mp mj;exact⟨by show 0<1+(j:Int);omega,by show 1+(j:Int)<N;omega,rfl⟩
  · rintro⟨a,b,c⟩;refine⟨(z.2-1).toNat,Au.mpr (by omega),?_⟩;have e:1+(((z.2-1).toNat:Nat):Int)=z.2:=by omega
    rw[e,<- c]
 have ne:qs≠[]:=by
  intro e;have:=hp.length_eq;rw[e,yV,Ba]at this;simp at this;omega
 cases qs with
 | nil=>exact absurd rfl ne
 | cons z0 r =>
   have e:=List.dropLast_concat_getLast ne;generalize (z0::r).dropLast=ini at e;generalize (z0::r).getLast ne=z1 at e;have m0:=(mem z0).mp yY;have m1:=(mem z1).mp (by rw[<- e];exact zi _ yY)
   have lx:∀{x y:Int×Int},KS.lexB y x=false->x.1<=y.1:=fun{x y} h=>by
    simp only[KS.lexB,decide_eq_false_iff_not,not_or]at h;omega
   refine⟨z0,z1,eP (j:=0) rfl,by rw[<- e];exact lD _ _,m0.1,m0.2.1,m1.1,m1.2.1,fun n n0 nN=>?_,fun n n0 nN=>?_⟩
   · have mn:(ptQ s n,n)∈z0::r:=(mem _).mpr ⟨n0,nN,rfl⟩
     have k:z0.1<=ptQ s n:=by
      rcases zo.mp mn with h|h
      · rw[<- h];exact Int.le_refl _
      · exact lx ((List.pairwise_cons.mp hs).1 _ h)
     rw[m0.2.2]at k;exact k
   · have mn:(ptQ s n,n)∈z0::r:=(mem _).mpr ⟨n0,nN,rfl⟩
     have k:ptQ s n<=z1.1:=by
      rw[<- e]at mn hs;rcases AX.mp mn with h|h
      · exact lx ((List.pairwise_append.mp hs).2.2 _ h _ yY)
      · exact Int.le_of_eq (congrArg Prod.fst (A5.mp h))
     rw[m1.2.2]at k;exact k
noncomputable def au:List W->(yF->Prop)->Prop:=fun ws Q=>∃(s:Rat)(N:Int),ws=[.d (fr s),.d (.int N)]/\((∃B,dZ s B/\B<=10^9)/\(2<=N)/\(N<=61)/\(N<=s.den))/\∀z:Int×Int,(Gap.Ex s.num s.den N z.1 z.2)->Q (.tuple [.int z.1,.int z.2])
theorem au.mono:∀ws (Q Q':yF->Prop),(∀d,Q d->Q' d)->au ws Q->au ws Q':=fun _ _ _ h_=>y9 fun _=>y9 fun _=>yP (yP fun q_ o_ ho_=>h_ _ (q_ o_ ho_))
theorem au.len:∀ws (Q:yF->Prop),au ws Q->ws.length=2:=fun _ _ h_=>by obtain⟨_,_,e_,_⟩:=h_;subst e_;rfl
theorem au.eq(s:Rat)(N:Int)(hs:∃B,dZ s B/\B<=10^9)(h2:2<=N)(h60:N<=61)(hN:N<=s.den):au [.d (fr s),.d (.int N)]=xH (anyM fun z:Int×Int=>Gap.Ex s.num s.den N z.1 z.2) fun z=>VL.ret (.tuple [.int z.1,.int z.2]:yF):=by
 refine ae fun Q=>⟨?_,fun q_=>⟨s,N,rfl,⟨hs,h2,h60,hN⟩,q_⟩⟩;rintro⟨s',N',e_,_,q_⟩;simp_arith only[iW,cZ,c8,cf,cc,dH]at e_;obtain⟨rfl,rfl⟩:=e_;exact q_
theorem cx:FnScope ["_law_step", "_law_many", "_law_some"] ["_law_step", "_law_many"] (defScope (top 30)):=⟨rfl,rfl,rfl,by decide +kernel,rfl,by decide +kernel,by decide +kernel⟩
theorem d__law_neighbours(Fn:FnIn K mg "_law_neighbours" (top 30) ["_law_step", "_law_many"])(Z:Bz mg)    : Dfn P w K mg base rl "_law_neighbours" ["_law_step", "_law_many"] 1 au:=by
 have sc:=cx
 refine Dfn.of Fn sc (au.mono) (au.len) (fun cdv A outer s H E hr=>(am (aR 2 sc.nd (jf Z.sorted_ (aa (cU ["_law_n", "_law_step"] [none,some 0] rfl (cX Z.range_ (aa ag (aa (vn 1) ac))) (fun _=>(aY 0 (show C3 (["_law_n", "_law_step"]:List Str) by decide +kernel))) (fun _=>i8) (fun _=>(ba (aa (v_mod (v_mul (vn 0) (bX (vn 1) ag)) (bX (vn 1) ag)) (aa (vn 0) ac))))) ac)))
  (av (aD (ba (aa (bX (bX (vn 2) ag) ag) (aa (bX (bX (vn 2) (o8 ag)) ag) ac))))))) ?_
 rintro ws Q ⟨s,N,rfl,⟨hs,h2,h60,hN⟩,hQ⟩;refine aK ?_;have sz:=zD;obtain⟨B,⟨h3,h4,h5⟩,hB⟩:=hs;have nz:(s.den:Int)≠0:=by omega
 have g1 : -(2^62)<=N/\N<2^62:=by omega
 simp_arith only[ak,ah,yC];refine wN (im (fun j:Nat=>xv (ptQ s (1+(j:Int)),1+(j:Int))) ?_ (by omega) ?_)
 · intro j hj;have c1:bp (1+(j:Int)) s.num:=.rt (by omega);have e1:((1+(j:Int))*s.num).fmod (s.den:Int)=ptQ s (1+(j:Int)):=oh _ _;simp_arith only[ak,ah,xr,yC,e1]
 · have em:(zw (N-1).toNat).map (fun j:Nat=>xv (ptQ s (1+(j:Int)),1+(j:Int)))=((zw (N-1).toNat).map fun j:Nat=>(ptQ s (1+(j:Int)),1+(j:Int))).map xv:=by rw[List.map_map];rfl
   rw[em];simp_arith only[ak,ah,yC,nQ,kz];refine ik (by rw[Ba];omega) ?_
   (with_reducible (first|refine aO fun qs hqs=>?_|refine bc fun qs hqs=>?_))
   obtain⟨hp,hq⟩:=hqs;obtain⟨z0,z1,i0,i1,ex⟩:=pM (by omega) h2 hp hq;have i0:L2.atI (qs.map xv) 0=some (xv z0):=by rw[dv,i0];rfl
   have i1:L2.atI (qs.map xv) (-1)=some (xv z1):=by rw[dv,i1];rfl
   simp_arith only[ak,ah,yC,i0,i1,xv];exact aI (hQ (z0.2,z1.2) ex)
theorem pO{m:Mo Fl}{k:En->Mo Fl}{Q:Fl->Prop}(P:α->Prop)(g:α->Fl)(h:∀Q':Fl->Prop,(∀a,P a->Q' (g a))->m Q')(fin:∀a,P a->sq (VL.ret (g a)) k Q):sq m k Q:=h _ fun a ha=>fin a ha
noncomputable def Tg(U V:Int)(d:yF):Prop:=xZ d/\(d.shown=(y8 [.int U,.int V]).shown↔d = .tuple [.int U,.int V])
theorem oG{i:Int}(h:i.natAbs<2^40):Sm 0 30 (.int i):=(Sm.int (yK h (za (by decide) (by decide)))).mono (by decide) (by decide)
theorem dM{xs:List yF}(h:∀d∈xs,Sm 0 30 d)(hl:xs.length<=3):xZ (.tuple xs)/\xZ (.list xs):=⟨(Sm.seq h hl).1.shw (by decide) (by decide),(Sm.seq h hl).2.shw (by decide) (by decide)⟩
theorem fg{a b:yF}(ha:Sm 0 30 a)(hb:Sm 0 30 b):∀d∈[a,b],Sm 0 30 d:=fun d m=>by
 rcases zo.mp m with rfl|m
 · exact ha
 · cases A5.mp m;exact hb
theorem gm{V:Int}{d:yF}(h:xZ d)(h1:d.shown≠(y8 [.int U,.int V]).shown):Tg U V d:=⟨h,fun e=>absurd e h1,fun e=>absurd (by rw[e]) h1⟩
theorem bH{V a:Int}(ha:a.natAbs<2^40)(hb:b.natAbs<2^40):Tg U V (.tuple [.int a,.int b]):=⟨(dM (fg (oG ha) (oG hb)) (by simp)).1,by rw[m6];simp⟩
theorem pP:Sm 0 30 (.str "1"):=⟨dF _,by decide +kernel,by decide +kernel⟩
theorem mP{V N a:Int}(u0:0<=U)(v0:0<=V)(uN:U<2^30)(vN:V<2^30)(n0:0<=N)(nN:N<2^30)(ha:0<=a/\a<N)(hb:0<=b/\b<N):∀d∈[y8 [.int U,.int V],.tuple [.int V,.int U],.tuple [.int (U+1),.int V],.tuple [.int U,.int (V-1)],.tuple [.int (U+V),.int V],.tuple [.int N,.int 1],.tuple [.int 0,.int V],.list [.int U,.int V],.tuple [.int U,.int V,.int 1],.tuple [.bool true,.int V],.none,.tuple [.int U,.str "1"],.tuple [],.int 0,.tuple [.int (N-1),.int (N-1)],.tuple [.int 1,.int 1],.tuple [.int (1+a),.int (1+b)]],Tg U V d:=by
 have iU:=oG (i:=U) (by omega);have iV:=oG (i:=V) (by omega);have i1:=oG (i:=1) (by omega);intro d m;simp only[zo,z9,or_false]at m;rcases m with rfl|rfl|rfl|rfl|rfl|rfl|rfl|rfl|rfl|rfl|rfl|rfl|rfl|rfl|rfl|rfl|rfl
 · exact bH (by omega) (by omega)
 · exact bH (by omega) (by omega)
 · exact bH (by omega) (by omega)
 · exact bH (by omega) (by omega)
 · exact bH (by omega) (by omega)
 · exact bH (by omega) (by omega)
 · exact bH (by omega) (by omega)
 · exact gm (dM (fg iU iV) (by simp)).2 m5
 · exact gm (dM (xs:=[.int U,.int V,.int 1]) (fun d m=>by
     simp only[zo,z9,or_false]at m
     rcases m with rfl|rfl|rfl<;>assumption) (by simp)).1 kM
 · exact gm (dM (fg (Sm.bool.mono (by decide) (by decide)) iV) (by simp)).1 m7
 · exact gm (Sm.none.shw (by decide) (by decide)) mZ
 · refine gm (dM (fg iU pP) (by simp)).1 (mY ?_);decide +kernel
 · exact gm (dM (xs:=[]) (fun d m=>by cases m) (by simp)).1 pR
 · exact gm ((oG (i:=0) (by decide)).shw (by decide) (by decide)) pS
 · exact bH (by omega) (by omega)
 · exact bH (by omega) (by omega)
 · exact bH (by omega) (by omega)
theorem f_(s:Rat)(N:Int)(d:yF):zF (fD (xj s N d))=true/\(fD (xj s N d)).eqv (fD (xj s N d))=true:=by
 have h:xj s N d=none\/xj s N d=some ("shape" : Str)\/xj s N d=some ("few" : Str)\/xj s N d=some ("round" : Str):=by
  cases h:xb N d with
  | false=>exact .inr (.inl (dR h))
  | true =>
    obtain⟨u,v,rfl,_⟩:=sS.mp h;rw[hV h];split
    · exact .inr (.inr (.inl rfl))
    · split
      · exact .inl rfl
      · exact .inr (.inr (.inr rfl))
 rcases h with e|e|e|e<;>rw[e]<;>exact⟨by decide +kernel,by decide +kernel⟩
theorem sC{N V:Int}(hq:0<(s.den:Int))(hg:zk s.num s.den=1)(hN:N<=s.den)(hz:Gap.Ex s.num s.den N U V){d:yF}(h:Tg U V d):(xj s N d).isNone=decide (d.shown=(y8 [.int U,.int V]).shown):=by
 rw[AZ,Option.isNone_iff_eq_none,k6,decide_eq_true_iff,h.2];constructor
 · rintro⟨u,v,rfl,nb⟩;obtain⟨rfl,rfl⟩:=(Gap.nb_one hq hg hN hz).mp nb;rfl
 · rintro rfl;exact⟨U,V,rfl,Gap.nb_of_ex hq hg hN hz⟩
theorem pV:FnScope ["_law_script", "_law_feed_here", "_law_turn", "_law_step", "_law_many", "_law_few", "_law_right", "_law_u", "_law_v", "_law_some", "_law_a", "_law_thing", "_law_word", "_law_k"] ["_law_script"] (defScope (top 31)):=⟨rfl,rfl,rfl,by decide +kernel,rfl,by decide +kernel,by decide +kernel⟩
theorem lf(Z:Bz mg)(d__law_feed:DfnR P w K mg base "_law_feed" ["_law_script"] 1 rH)(d__law_step_of:∀rl,Dfn P w K mg base rl "_law_step_of" ["_law_feed_here", "_law_most"] 3 aB)(d__law_neighbours:∀rl,Dfn P w K mg base rl "_law_neighbours" ["_law_step", "_law_many"] 1 au)(d__law_draw:∀rl,Dfn P w K mg base rl "_law_draw" ["_law_feed_here", "_law_many"] 2 et)(d__law_told:∀rl,Dfn P w K mg base rl "_law_told" ["_law_step", "_law_many", "_law_thing"] 7 aU)(d__law_fault:∀rl,Dfn P w K mg base rl "_law_fault" ["_law_step", "_law_many", "_law_thing"] 1 aM){fd:z5}(F:Fun K "law" "law" (top 31) f fd):FnOk P w K mg base yA 9 f fd ["_law_script"] (dL K):=by
 have sc:=pV
 refine nL F sc (fun cdv A outer s H E hr=>(mD 1 d__law_feed (hr.mono (by decide)) sc.nd (aa (vn 0) ac) (fun r=>(am (d6 [2,3,4,5,6,7,8,9,10,11,12,13] Ak rfl (eV Z.range_ (aa ag ac)) (aY 2 sc.nd) (am (aR 3 sc.nd (aw (d__law_step_of _) (hr.mono (by decide)) (aa (vn 1) (aa (bX (iw (aa ag (aa ag (aa (v_pow ag ag) ac)))) (aw (d__law_draw _) (hr.mono (by decide)) (aa (vn 1) (aa ag ac)))) ac))))
  (am (aR 4 sc.nd (v_add ag (aw (d__law_draw _) (hr.mono (by decide)) (aa (vn 1) (aa (v_sub (lK Z.min_ (aa (bX (vn 3) ag) (aa (v_pow ag ag) ac))) ag) ac)))))
  (am (aR 5 sc.nd (lK Z.min_ (aa (vn 4) (aa (v_add ag (aw (d__law_draw _) (hr.mono (by decide)) (aa (vn 1) (aa ag ac)))) ac))))
  (am (aR 6 sc.nd (aw (d__law_neighbours _) (hr.mono (by decide)) (aa (vn 3) (aa (vn 5) ac))))
  (am (i9 (vn 6) (ja (n:=2) rfl (bW (aY 7 sc.nd) (bW (aY 8 sc.nd) gl))))
  (am (gQ 9 sc.nd (iw (aa (vn 6) (aa (ba (aa (vn 8) (aa (vn 7) ac))) (aa (ba (aa (v_add (vn 7) ag) (aa (vn 8) ac))) (aa (ba (aa (vn 7) (aa (v_sub (vn 8) ag) ac))) (aa (ba (aa (v_add (vn 7) (vn 8)) (aa (vn 8) ac))) (aa (ba (aa (vn 5) (aa ag ac))) (aa (ba (aa ag (aa (vn 8) ac))) (aa (iw (aa (vn 7) (aa (vn 8) ac))) (aa (ba (aa (vn 7) (aa (vn 8) (aa ag ac)))) ac)))))))))))
  (am (gQ 9 sc.nd (pd (vn 9) (iw (aa (ba (aa iH (aa (vn 8) ac))) (aa jC (aa (ba (aa (vn 7) (aa b9 ac))) (aa (ba ac) (aa ag (aa (ba (aa (v_sub (vn 5) ag) (aa (v_sub (vn 5) ag) ac))) (aa (ba (aa ag (aa ag ac))) ac))))))))))
  (am (oV 9 (aa (ba (aa (v_add ag (aw (d__law_draw _) (hr.mono (by decide)) (aa (vn 1) (aa (vn 5) ac)))) (aa (v_add ag (aw (d__law_draw _) (hr.mono (by decide)) (aa (vn 1) (aa (vn 5) ac)))) ac))) ac))
  (am (d4 (bj fO kI (aL _) (vn 5) ag) (av (d6 [10] Ak rfl (cX Z.range_ (aa ag (aa (vn 5) ac))) (aY 10 sc.nd) (av (oU 9 (aa (cU ["_law_b", "_law_a"] [none,some 10] rfl (cX Z.range_ (aa ag (aa (vn 5) ac))) (fun _=>(aY 0 (show C3 (["_law_b", "_law_a"]:List Str) by decide +kernel))) (fun _=>i8) (fun _=>(ba (aa (vn 1) (aa (vn 0) ac))))) ac))))) cv)
  (am (oS 9 (d6 [11,12] Ak rfl (mF (vn 9)) (aY 11 sc.nd) (am (aR 12 sc.nd (aw (d__law_told _) (hr.mono (by decide)) (aa (vn 3) (aa (vn 5) (aa (vn 11) ac)))))
  (av (d4 (yj.pb (jc (bj (cN hr.units) bP (aL _) (vn 12) (aw (d__law_fault _) (hr.mono (by decide)) (aa (vn 3) (aa (vn 5) (aa (vn 11) ac))))) (gR (bj (cN hr.units) bP (aL _) (mJ qt oW (aL _) (vn 12) jC) (mJ qv oY (aL _) (lJ (hr.mono (zQ _)) Z.repr_ (aa (vn 11) ac)) (lJ (hr.mono (zQ _)) Z.repr_ (aa (vn 6) ac))))))) (av (aD iH)) cv)))))
  (av (d6 [11,13] Ak rfl (eV Z.range_ (aa ag ac)) (aY 13 sc.nd) (am (aR 11 sc.nd (ba (aa (v_add ag (aw (d__law_draw _) (hr.mono (by decide)) (aa (vn 1) (aa (vn 4) ac)))) (aa (v_add ag (aw (d__law_draw _) (hr.mono (by decide)) (aa (vn 1) (aa (vn 4) ac)))) ac))))
  (av (d4 (bj (cN hr.units) bP (aL _) (aw (d__law_told _) (hr.mono (by decide)) (aa (vn 3) (aa (vn 4) (aa (vn 11) ac)))) (aw (d__law_fault _) (hr.mono (by decide)) (aa (vn 3) (aa (vn 4) (aa (vn 11) ac))))) (av (aD iH)) cv))))))))))))))))
  (av (aD iH)))))) ?_
 intro ns hn;have ps:=rH.eq hn;have sz:=zD;have cp6:tN 10 6:=⟨by decide,by decide,by decide⟩;have e6:(10:Int)^Int.toNat 6=1000000:=by decide
 simp_arith only[ak,ah,ps];refine il ?_ ?_
 · intro i hi K hK;simp_arith only[ak,ah,p__law_draw.eq,cp6,e6]
   (with_reducible (first|refine aO fun a ha=>?_|refine bc fun a ha=>?_))
   refine wM (dU (xs:=[12,60,1000000]) (enc:=zC) (fun m:Int=>2<=m/\m<=10^6) rfl ha.1 ha.2 (by decide) ?_);rintro mo ⟨mo2,mo6⟩;have mo9:mo<=10^9:=by omega
   simp_arith only[ak,ah,p__law_draw.eq,aB.eq,cp6,e6]
   (with_reducible (first|refine aO fun s hs=>?_|refine bc fun s hs=>?_))
   obtain⟨h1,h2,h3⟩:=hs;have dm1:0<min (s.den:Int) 1000000-1:=by omega
   have dm2:min (s.den:Int) 1000000-1<2^60:=by omega
   simp_arith only[ak,ah,p__law_draw.eq,yC,cp6,e6]
   (with_reducible (first|refine aO fun b hb=>?_|refine bc fun b hb=>?_))
   simp_arith only[ak,ah,p__law_draw.eq,yC,cp6,e6]
   (with_reducible (first|refine aO fun c hc=>?_|refine bc fun c hc=>?_))
   have st:∃B,dZ s B/\B<=10^9:=⟨mo,⟨h1,h2,h3⟩,mo9⟩;have f2:2<=min (2+b) (2+c):=by omega
   have f6:min (2+b) (2+c)<=61:=by omega
   have fN:min (2+b) (2+c)<=s.den:=by omega
   generalize hw:min (2+b) (2+c)=few at f2 f6 fN;simp_arith only[ak,ah,au.eq,yC,hw]
   (with_reducible (first|refine aO fun z hz=>?_|refine bc fun z hz=>?_))
   obtain⟨U,V⟩:=z;have hz:Gap.Ex s.num s.den few U V:=hz;have u0:=hz.u0;have v0:=hz.v0;have uN:=hz.uN;have vN:=hz.vN;simp_arith only[ak,ah,p__law_draw.eq,yC]
   (with_reducible (first|refine aO fun x hx=>?_|refine bc fun x hx=>?_))
   try simp_arith only[ak,ah]
   (with_reducible (first|refine aO fun y hy=>?_|refine bc fun y hy=>?_))
   have tl:=mP (N:=few) (U:=U) (V:=V) (a:=x) (b:=y) (by omega) (by omega) (by omega) (by omega) (by omega) (by omega) hx hy;rw[sq_nx,s_seq];refine pO (fun xs:List yF=>(∀d∈xs,Tg U V d)/\xs.length<=200) (fun xs=>.nx [some (.sc ns),some .reel,some (.d (.int (0+i))),some (.d (fr s)),some (.d (.int (2+b))),some (.d (.int few)),some (.d (.tuple [.int U,.int V])),some (.d (.int U)),some (.d (.int V)),some (.ml xs),none,none,none,none]) ?_ ?_
   · intro Q' hQ';simp_arith only[ak,ah];refine lg (fun hf=>uZ (jW (fun j ρ=>∃ys:List yF,(∀d∈ys,Tg U V d)/\ys.length<=17+12*j/\ρ=[some (.sc ns),some .reel,some (.d (.int (0+i))),some (.d (fr s)),some (.d (.int (2+b))),some (.d (.int few)),some (.d (.tuple [.int U,.int V])),some (.d (.int U)),some (.d (.int V)),some (.ml ys),none,none,none,none]) ⟨_,tl,by simp,rfl⟩ ?_ ?_)) fun _=>hQ' _ ⟨tl,by simp⟩
     · have f13:few<13:=by simpa using hf
       rintro j hj ρ ⟨ys,t1,t2,rfl⟩ K2 hK2;have g1 : -(2^62)<=few/\few<2^62:=by omega
       simp_arith only[ak,ah];refine im (fun k:Nat=>.tuple [.int (1+(j:Int)),.int (1+(k:Int))]) ?_ (by omega) ?_
       · intro k hk;simp_arith only[ak,ah,xr]
       · refine ik (by rw[yV,Ba];omega) (hK2 _ (hZ ⟨_,?_,?_,rfl⟩))
         · intro d md;rcases AX.mp md with m|m
           · exact t1 d m
           · obtain⟨k,mk,rfl⟩:=Ck.mp m;have:=Au.mp mk;exact bH (by omega) (by omega)
         · rw[Ay,yV,Ba];omega
     · have f13:few<13:=by simpa using hf
       rintro ρ ⟨ys,t1,t2,rfl⟩;exact hQ' ys ⟨t1,by omega⟩
   rintro xs ⟨hxs,lxs⟩;simp_arith only[ak,ah];have stF:∃B,dZ s B/\B<=10^9/\few<=10^9:=⟨mo,⟨h1,h2,h3⟩,mo9,by omega⟩;have stM:∃B,dZ s B/\B<=10^9/\2+b<=10^9:=⟨mo,⟨h1,h2,h3⟩,mo9,by omega⟩;refine oi (xs:=xs) (enc:=id) (by rw[List.map_id]) ?_ ?_
   · intro d md K2 hK2;have td:=hxs d md;have hw:=td.1;obtain⟨fs,fe⟩:=f_ s few d;have tn:=sC (eK s) (l7 s) fN hz td;have wR:xZ (.tuple [.int U,.int V]):=(bH (U:=U) (V:=V) (by omega) (by omega)).1;simp_arith only[ak,ah,aU.eq,aM.eq,fs,fe];rw[<- tn];cases xj s few d<;>exact hK2 _ (hZ rfl)
   · simp_arith only[ak,ah];refine uZ (il ?_ ?_)
     · intro k hk K2 hK2;simp_arith only[ak,ah,p__law_draw.eq]
       (with_reducible (first|refine aO fun p hp=>?_|refine bc fun p hp=>?_))
       try simp_arith only[ak,ah,p__law_draw.eq]
       (with_reducible (first|refine aO fun r hr=>?_|refine bc fun r hr=>?_))
       have tq:=bH (U:=U) (V:=V) (a:=1+p) (b:=1+r) (by omega) (by omega);have hw:=tq.1;obtain⟨fs,fe⟩:=f_ s (2+b) (.tuple [.int (1+p),.int (1+r)]);simp_arith only[ak,ah,aU.eq,aM.eq,fs,fe];exact hK2 _ (hZ rfl)
     · exact hK _ (hZ rfl)
 · simp_arith only[ak,ah];exact nZ
structure Txt (K:zY) (mg:Str->Option yG):Prop where
 bz:Bz mg
 f__law_feed:FnIn K mg "_law_feed" (top 23) ["_law_script"]
 f__law_draw:FnIn K mg "_law_draw" (top 24) ["_law_feed_here", "_law_many"]
 f_common_divisor:FnIn K mg "common_divisor" (top 9) ["one", "other"]
 f_fraction:FnIn K mg "fraction" (top 10) ["top", "bottom"]
 f_plus:FnIn K mg "plus" (top 11) ["one", "other"]
 f_less:FnIn K mg "less" (top 12) ["one", "other"]
 f_times:FnIn K mg "times" (top 13) ["one", "other"]
 f_wrapped:FnIn K mg "wrapped" (top 14) ["one"]
 f_is_whole:FnIn K mg "is_whole" (top 7) ["thing"]
 f_is_place:FnIn K mg "is_place" (top 8) ["thing", "many"]
 f_step_number:FnIn K mg "step_number" (top 16) ["start", "step", "n"]
 f_gap_above:FnIn K mg "gap_above" (top 19) ["step", "u"]
 f_gap_below:FnIn K mg "gap_below" (top 20) ["step", "v"]
 f_is_pair:FnIn K mg "is_pair" (top 18) ["many", "thing"]
 f__law_gcd:FnIn K mg "_law_gcd" (top 25) ["_law_one", "_law_other"]
 f__law_frac:FnIn K mg "_law_frac" (top 26) ["_law_top", "_law_bottom"]
 f__law_step_of:FnIn K mg "_law_step_of" (top 27) ["_law_feed_here", "_law_most"]
 f__law_fault:FnIn K mg "_law_fault" (top 28) ["_law_step", "_law_many", "_law_thing"]
 f__law_told:FnIn K mg "_law_told" (top 29) ["_law_step", "_law_many", "_law_thing"]
 f__law_neighbours:FnIn K mg "_law_neighbours" (top 30) ["_law_step", "_law_many"]
 f_lets_neighbours:FnIn K mg "lets_neighbours" (top 21) ["step", "many", "thing"]
 g_ZERO:GlD K mg "ZERO" (pr 0 1)
 g_ONE:GlD K mg "ONE" (pr 1 1)
 x_NoPaper:XCl2 K mg "NoPaper" "path" "word" "NoPaper" "NoPaper.__init__" (inClass (top 3) 0) ["self", "path", "word"] []
theorem qx{fd:z5}(F:Fun K "law" "law" (top 31) f fd)(T:Txt K mg)  : FnOk P w K mg base yA 9 f fd ["_law_script"] (dL K):=by
 have d__law_feed:DfnR P w K mg base "_law_feed" ["_law_script"] 1 rH:=K50.d__law_feed T.f__law_feed T.bz   ;have d__law_draw:∀rl,Dfn P w K mg base rl "_law_draw" ["_law_feed_here", "_law_many"] 2 et:=fun rl=>K50.d__law_draw T.f__law_draw T.bz   ;have d_common_divisor:∀rl,Dfn P w K mg base rl "common_divisor" ["one", "other"] 1 ay:=fun rl=>K50.d_common_divisor T.f_common_divisor T.bz   ;have d_fraction:∀rl,Dfn P w K mg base rl "fraction" ["top", "bottom"] 2 aN:=fun rl=>K50.d_fraction T.f_fraction T.bz d_common_divisor  ;have d_plus:∀rl,Dfn P w K mg base rl "plus" ["one", "other"] 3 cM:=fun rl=>K50.d_plus T.f_plus T.bz d_fraction  ;have d_less:∀rl,Dfn P w K mg base rl "less" ["one", "other"] 3 de:=fun rl=>K50.d_less T.f_less T.bz d_fraction  ;have d_times:∀rl,Dfn P w K mg base rl "times" ["one", "other"] 3 bT:=fun rl=>K50.d_times T.f_times T.bz d_fraction  ;have d_wrapped:∀rl,Dfn P w K mg base rl "wrapped" ["one"] 1 bx:=fun rl=>K50.d_wrapped T.f_wrapped T.bz   ;have d_is_whole:∀rl,Dfn P w K mg base rl "is_whole" ["thing"] 1 be:=fun rl=>K50.d_is_whole T.f_is_whole T.bz   ;have d_is_place:∀rl,Dfn P w K mg base rl "is_place" ["thing", "many"] 2 bf:=fun rl=>K50.d_is_place T.f_is_place T.bz d_is_whole  ;have d_step_number:∀rl,Dfn P w K mg base rl "step_number" ["start", "step", "n"] 4 aA:=fun rl=>K50.d_step_number T.f_step_number T.bz d_wrapped d_plus d_times  ;have d_gap_above:∀rl,Dfn P w K mg base rl "gap_above" ["step", "u"] 5 aT:=fun rl=>K50.d_gap_above T.f_gap_above T.bz d_step_number T.g_ZERO ;have d_gap_below:∀rl,Dfn P w K mg base rl "gap_below" ["step", "v"] 5 aS:=fun rl=>K50.d_gap_below T.f_gap_below T.bz d_less d_step_number T.g_ONE T.g_ZERO ;have d_is_pair:∀rl,Dfn P w K mg base rl "is_pair" ["many", "thing"] 3 bA:=fun rl=>K50.d_is_pair T.f_is_pair T.bz d_is_place  ;have d__law_gcd:∀rl,Dfn P w K mg base rl "_law_gcd" ["_law_one", "_law_other"] 1 bg:=fun rl=>K50.d__law_gcd T.f__law_gcd T.bz   ;have d__law_frac:∀rl,Dfn P w K mg base rl "_law_frac" ["_law_top", "_law_bottom"] 2 aV:=fun rl=>K50.d__law_frac T.f__law_frac T.bz d__law_gcd  ;have d__law_step_of:∀rl,Dfn P w K mg base rl "_law_step_of" ["_law_feed_here", "_law_most"] 3 aB:=fun rl=>K50.d__law_step_of T.f__law_step_of T.bz d__law_frac d__law_draw  ;have d__law_fault:∀rl,Dfn P w K mg base rl "_law_fault" ["_law_step", "_law_many", "_law_thing"] 1 aM:=fun rl=>K50.d__law_fault T.f__law_fault T.bz   ;have dE_lets_neighbours:∀rl,DfnE P w K mg base rl "lets_neighbours" ["step", "many", "thing"] 6 ax:=fun rl=>K50.dE_lets_neighbours T.f_lets_neighbours T.bz d_is_pair d_plus d_times d_gap_above d_gap_below T.g_ONE  (T.x_NoPaper.two jZ);have d__law_told:∀rl,Dfn P w K mg base rl "_law_told" ["_law_step", "_law_many", "_law_thing"] 7 aU:=fun rl=>K50.d__law_told T.f__law_told T.bz dE_lets_neighbours T.x_NoPaper;have d__law_neighbours:∀rl,Dfn P w K mg base rl "_law_neighbours" ["_law_step", "_law_many"] 1 au:=fun rl=>K50.d__law_neighbours T.f__law_neighbours T.bz   ;exact lf T.bz d__law_feed d__law_step_of d__law_neighbours d__law_draw d__law_told d__law_fault   F
end
theorem us_0{us:List yG}(hl:us.length=0):us=[]:=List.eq_nil_of_length_eq_zero hl
theorem uH{us:List yG}(hl:us.length=1):∃a0,us=[a0]:=by
 cases us with
 | nil=>cases hl
 | cons a0 t=>cases us_0 (C9 hl);exact⟨a0,rfl⟩
theorem uG{us:List yG}(hl:us.length=2):∃a0 a1,us=[a0,a1]:=by
 cases us with
 | nil=>cases hl
 | cons a0 t=>obtain⟨a1,rfl⟩:=uH (C9 hl);exact⟨a0,a1,rfl⟩
theorem uF{us:List yG}(hl:us.length=3):∃a0 a1 a2,us=[a0,a1,a2]:=by
 cases us with
 | nil=>cases hl
 | cons a0 t=>obtain⟨a1,a2,rfl⟩:=uG (C9 hl);exact⟨a0,a1,a2,rfl⟩
noncomputable def FF(K:zY)(x:Str)(st:Stmt):Prop:=∃(f:Addr)(oc kV dc pm cd ct:yG)(od an:Option Addr)(sl:Array (Option yG)),Ab K yW x=some (some (.ref f))/\K.lookup f=some ⟨oc,od,.func (BG x x (defArgs st) (defBody st) (defScope st) .none kV dc pm an cd ct),sl⟩/\BL K cd x=true/\BM K (.ref f)=true
theorem ff_mk{K:zY}{st:Stmt}{oc kV dc pm cd ct:yG}{od an:Option Addr}{sl:Array (Option yG)}(a:Ab K yW x=some (some (.ref f)))(l:K.lookup f=some ⟨oc,od,.func (BG x x (defArgs st) (defBody st) (defScope st) .none kV dc pm an cd ct),sl⟩)(c:BL K cd x=true)(k:BM K (.ref f)=true):FF K x st:=⟨f,oc,kV,dc,pm,cd,ct,od,an,sl,a,l,c,k⟩
theorem aQ{K:zY}{mg:Str->Option yG}(X:K.In h)(G:h.Ns yW mg){st:Stmt}(q:FF K x st)(hb:∀(kV doc pm:yG)(an:Option Addr)(cdv ct:yG)(us:List yG),us.length=ps.length->bindArgs (BG x x (defArgs st) (defBody st) (defScope st) .none kV doc pm an cdv ct) ⟨us,[]⟩=pure (ps.zip us):=by intro _ _ _ _ _ _ us hl;first|(cases us_0 hl;exact rfl)|(obtain⟨_,rfl⟩:=uH hl;exact rfl)|(obtain⟨_,_,rfl⟩:=uG hl;exact rfl)|(obtain⟨_,_,_,rfl⟩:=uF hl;exact rfl)):FnIn K mg x st ps:=by
 obtain⟨f,_,_,_,_,_,_,_,_,_,a,l,c,k⟩:=q;exact⟨⟨f,_,B4 X G a,fY l c k,(fY l c k).binds hb⟩⟩
abbrev NI(K:zY)(x:Str)(f:Addr):Prop:=Ab K yW x=some (some (.ref f))
abbrev NZ(K:zY)(x:Str):Prop:=Ab K yW x=some none
abbrev LK(K:zY)(x:Str)(st:Stmt)(f:Addr)(oc:yG)(od:Option Addr)(kV dc pm:yG)(an:Option Addr)(cd ct:yG)(sl:Array (Option yG)):Prop:=K.lookup f=some ⟨oc,od,.func (BG x x (defArgs st) (defBody st) (defScope st) .none kV dc pm an cd ct),sl⟩
theorem all_mk{l:Cw}{w:zp}{K:zY}{mg:Str->Option yG}{fa:Addr}(X:K.In h)(G:h.Ns yW mg)(hfa:mg "law" = some (.ref fa))
 {f22:Addr}{od22 an22:Option Addr}{sl22:Array (Option yG)}{oc22 kV22 dc22 pm22 cd22 ct22:yG}{xC_NoPaper xB_NoPaper xF_NoPaper  : Addr}{xod_NoPaper xan_NoPaper:Option Addr}{xsl_NoPaper:Array (Option yG)}{xoc_NoPaper xkV_NoPaper xdc_NoPaper xpm_NoPaper xcd_NoPaper xct_NoPaper:yG}
 (f1:FF K "_law_feed" (top 23))(f2:FF K "_law_draw" (top 24))(f3:FF K "common_divisor" (top 9))(f4:FF K "fraction" (top 10))(f5:FF K "plus" (top 11))(f6:FF K "less" (top 12))(f7:FF K "times" (top 13))(f8:FF K "wrapped" (top 14))(f9:FF K "is_whole" (top 7))(f10:FF K "is_place" (top 8))(f11:FF K "step_number" (top 16))(f12:FF K "gap_above" (top 19))(f13:FF K "gap_below" (top 20))(f14:FF K "is_pair" (top 18))(f15:FF K "_law_gcd" (top 25))(f16:FF K "_law_frac" (top 26))(f17:FF K "_law_step_of" (top 27))(f18:FF K "_law_fault" (top 28))(f19:FF K "_law_told" (top 29))(f20:FF K "_law_neighbours" (top 30))(f21:FF K "lets_neighbours" (top 21))(a22:NI K "law" f22)(l22:LK K "law" (top 31) f22 oc22 od22 kV22 dc22 pm22 an22 cd22 ct22 sl22)(c22:BL K cd22 "law" = true)(k22:BM K (.ref f22)=true)
 (z_int:NZ K "int")(z_bool:NZ K "bool")(z_str:NZ K "str")(z_list:NZ K "list")(z_tuple:NZ K "tuple")(z_dict:NZ K "dict")(z_isinstance:NZ K "isinstance")(z_len:NZ K "len")(z_abs:NZ K "abs")(z_repr:NZ K "repr")(z_range:NZ K "range")(z_all:NZ K "all")(z_any:NZ K "any")(z_sum:NZ K "sum")(z_min:NZ K "min")(z_max:NZ K "max")(z_sorted:NZ K "sorted")(z_zip:NZ K "zip")(z_enumerate:NZ K "enumerate")(z_reversed:NZ K "reversed")(z_divmod:NZ K "divmod")(z_set:NZ K "set")(g_ZERO:GlK K "ZERO" (pr 0 1))(g_ONE:GlK K "ONE" (pr 1 1))(xa_NoPaper:Ab K yW "NoPaper" = some (some (.ref xC_NoPaper)))(xb_NoPaper:Ab K yW "NoPaper" = some (some (.ref xB_NoPaper)))(xi_NoPaper:PySem.W.findIn K (.ref xC_NoPaper) "__init__" = some (some (.ref xF_NoPaper)))(xl_NoPaper:K.lookup xF_NoPaper=some ⟨xoc_NoPaper,xod_NoPaper,.func (BG "__init__" "NoPaper.__init__" (defArgs (inClass (top 3) 0)) (defBody (inClass (top 3) 0)) (defScope (inClass (top 3) 0)) .none xkV_NoPaper xdc_NoPaper xpm_NoPaper xan_NoPaper xcd_NoPaper xct_NoPaper),xsl_NoPaper⟩)(xd_NoPaper:BL K xcd_NoPaper "NoPaper.__init__" = true)(xk_NoPaper:BM K (.ref xF_NoPaper)=true)(xv_NoPaper:NZ K "ValueError")(xx_NoPaper:(r0 K xC_NoPaper xB_NoPaper xF_NoPaper "path" []&&(PySem.W.findIn K (.ref xC_NoPaper) "word" == some none))=true) :
 ∃fd:z5,(∀(s:yH)(v:yG),Df s fd ⟨[v],[]⟩ [("_law_script", v)])/\∀base:Heap,K.In base->base.Ns yW mg->FnOk l.prog w K mg base yA 9 fa fd ["_law_script"] (dL K):=by
 have e:=hfa.symm.trans (B4 X G a22);cases e;have B:Bz mg:=⟨yQ X G z_int,yQ X G z_bool,yQ X G z_str,yQ X G z_list,yQ X G z_tuple,yQ X G z_dict,yQ X G z_isinstance,yQ X G z_len,yQ X G z_abs,yQ X G z_repr,yQ X G z_range,yQ X G z_all,yQ X G z_any,yQ X G z_sum,yQ X G z_min,yQ X G z_max,yQ X G z_sorted,yQ X G z_zip,yQ X G z_enumerate,yQ X G z_reversed,yQ X G z_divmod,yQ X G z_set⟩;have T:Txt K mg:=⟨B,(aQ X G f1),(aQ X G f2),(aQ X G f3),(aQ X G f4),(aQ X G f5),(aQ X G f6),(aQ X G f7),(aQ X G f8),(aQ X G f9),(aQ X G f10),(aQ X G f11),(aQ X G f12),(aQ X G f13),(aQ X G f14),(aQ X G f15),(aQ X G f16),(aQ X G f17),(aQ X G f18),(aQ X G f19),(aQ X G f20),(aQ X G f21),g_ZERO.of X G,g_ONE.of X G,.mk' xa_NoPaper (B4 X G xa_NoPaper) (B4 X G xb_NoPaper) xi_NoPaper (fY (st:=(inClass (top 3) 0)) xl_NoPaper xd_NoPaper xk_NoPaper) ((fY (st:=(inClass (top 3) 0)) xl_NoPaper xd_NoPaper xk_NoPaper).binds (ps:=["self", "path", "word"]) fun _ _ _ _ _ _ us hl=>(by obtain⟨_,_,_,rfl⟩:=uF hl;exact rfl)) .nil (yQ X G xv_NoPaper) xx_NoPaper⟩;have FL:=fY (st:=top 31) l22 c22 k22;exact⟨_,fun s v=>.of_eq rfl,fun base _ _=>qx FL T ⟩
theorem walk{l:Cw}{q:yT}{XP:(Str->Option yG)->Heap->Prop}{YP:zp->Heap->Prop}{d:DefRec}{K:Dn->zY}(hn:l.most=some 63)(hdf:d.params.defaults=[])
 (hY:∀(w:zp)(h:Heap),YP w h->(K w.params).In h)
 (F:∀(w:zp)(mg:Str->Option yG)(fa:Addr)(h:Heap),(K w.params).In h->h.Ns yW mg->mg d.name=some (.ref fa) ->
  ∃fd:z5,(∀(s:yH)(u:yG),Df s fd ⟨[u],[]⟩ [("_law_script", u)])/\∀base:Heap,(K w.params).In base->base.Ns yW mg->FnOk l.prog w (K w.params) mg base yA 9 fa fd ["_law_script"] (dL (K w.params))) :
 PySem.W.WalkO q loose XP YP l.row.toRowW d [] (fun f vs=>PySem.call f vs) :=
 L2.walk_of (n:=63) (k:=9) (x := "_law_script") (CX:=fun _=>yA) (sp:=fun w=>dL (K w.params)) hn (by decide) hdf ⟨rfl,by decide,by decide,rfl⟩ hY F (fun _ _ a ns hl _ hS=>⟨a,ns,rfl,hS,hl,fun _=>rfl⟩) fun _ _ _ _ _ z=>z
end K50
noncomputable def PySem.W.Fast.tw5560328905122622769:PySem.Params->zY:=K50.heapK
theorem PySem.W.Fast.te5560328905122622769:K50.heapK=PySem.W.Fast.tw5560328905122622769:=rfl
open PySem PySem.W PyProof.Rows
set_option maxRecDepth 100000 in
set_option maxHeartbeats 0 in
theorem PySem.Challenge.cw_evenpoints_k50_neighbours_let_by_or_not_holds : PySem.Challenge.rw_evenpoints_k50_neighbours_let_by_or_not.Holds := by
 refine(congrArg Cw.Holds K50.rw_eq).mpr ?_
 w_on;o_law
 refine holds_open (loose:=[]) (XP:=XL K50.zview []) (YP:=Hook.says (kHook K50.heapK K50.heapA K50.heapE)) K50.zleft
  (Hook.of _) (Hook.keeps _) (fun s e=>xl_of s (y_.mp e).1)
  XL.keeps (by rfl) (by rfl) (by rfl) (fun s e=>recFacts_of (y_.mp e).2) (by rfl)
  (by first|assumption|decide +kernel) (by decide +kernel) ⟨rfl,rfl,rfl,rfl,rfl,by decide +kernel⟩ ?hw ?hc
 (case hw=>w_witness2)
 k_fill
 refine K50.walk (l:=K50.rwN) rfl rfl (fun w h Y=>PySem.W.kIn_of (as:=K50.heapA) (e:=K50.heapE) Y) ?F
 case F =>
  intro w mg fa h KX G hmg
  refine' K50.all_mk KX G hmg ?f1 ?f2 ?f3 ?f4 ?f5 ?f6 ?f7 ?f8 ?f9 ?f10 ?f11 ?f12 ?f13 ?f14 ?f15 ?f16 ?f17 ?f18 ?f19 ?f20 ?f21 ?a22 ?l22 ?c22 ?k22 ?zint ?zbool ?zstr ?zlist ?ztuple ?zdict ?zisinstance ?zlen ?zabs ?zrepr ?zrange ?zall ?zany ?zsum ?zmin ?zmax ?zsorted ?zzip ?zenumerate ?zreversed ?zdivmod ?zset ?gZERO ?gONE  ?xa_NoPaper ?xb_NoPaper ?xi_NoPaper ?xl_NoPaper ?xd_NoPaper ?xk_NoPaper ?xv_NoPaper ?xx_NoPaper
  all_goals (try (refine' K50.ff_mk ?a ?l ?c ?k;(case a=>k_is);(case l=>k_is);(case c=>k_is);(case k=>k_is)))
  all_goals (try change _=_)
  (case a22=>k_is);(case l22=>k_is);(case c22=>k_is);(case k22=>k_is)
  (case zint=>k_is)
  (case zbool=>k_is)
  (case zstr=>k_is)
  (case zlist=>k_is)
  (case ztuple=>k_is)
  (case zdict=>k_is)
  (case zisinstance=>k_is)
  (case zlen=>k_is)
  (case zabs=>k_is)
  (case zrepr=>k_is)
  (case zrange=>k_is)
  (case zall=>k_is)
  (case zany=>k_is)
  (case zsum=>k_is)
  (case zmin=>k_is)
  (case zmax=>k_is)
  (case zsorted=>k_is)
  (case zzip=>k_is)
  (case zenumerate=>k_is)
  (case zreversed=>k_is)
  (case zdivmod=>k_is)
  (case zset=>k_is)
  (case gZERO=>refine' L2.VL.GlK.pair ?h1 ?h2;(case h1=>k_is);(case h2=>k_is))
  (case gONE=>refine' L2.VL.GlK.pair ?h1 ?h2;(case h1=>k_is);(case h2=>k_is))
  (case xa_NoPaper=>k_is)
  (case xb_NoPaper=>k_is)
  (case xi_NoPaper=>k_is)
  (case xl_NoPaper=>k_is)
  (case xd_NoPaper=>k_is)
  (case xk_NoPaper=>k_is)
  (case xv_NoPaper=>k_is)
  (case xx_NoPaper=>kernel_rfl)
