import PyProof.Rows.All
import Wide.All
import OpenK.AllK
import Wide.FinOn
import Lean
import PyProof.EqAt
import PyProof.EqKinds
import PyProof.TupleCall
import KE.KDictSum
import KE.KMinKey
import PyProof.Rows.CallKwBuiltin
import PyProof.SumWalkG
import PyProof.WalksMore
import PyProof.AutoSeq1
import PySem.Challenge.RW_evenpoints_k66_beginnings
set_option Elab.async false
set_option linter.all false
set_option maxRecDepth 100000
set_option maxHeartbeats 4000000
noncomputable section
namespace L2
open PySem
noncomputable def inClass (s:Stmt) (j:Nat):Stmt:=match s with
  | .ClassDef _ _ _ body _ _ _ _ _ _ _=>body.getD j (.Pass ⟨0,0,0,0⟩)
  | _=>.Pass ⟨0,0,0,0⟩
noncomputable def defArgs (s:Stmt):Arguments:=match s with
  | .FunctionDef _ a _ _ _ _ _ _ _ _=>a
  | _=>{ posonlyargs:=[],args:=[],vararg:=none,kwonlyargs:=[],kw_defaults:=[],kwarg:=none,defaults:=[] }
noncomputable def defBody (s:Stmt):List Stmt:=match s with
  | .FunctionDef _ _ b _ _ _ _ _ _ _=>b
  | _=>[]
noncomputable def defScope (s:Stmt):Scope:=match s with
  | .FunctionDef _ _ _ _ _ _ sc _ _ _=>sc
  | _=>{ kind:=.function,names:=[],isGenerator:=false,isCoroutine:=false }
end L2
namespace L2.TT
open PySem PySem.W
noncomputable def goT (tb:String -> Option Builtin) (p:Program) (w:World) (m:Nat) (ann:Option Value):Nat -> SharedT -> Thread -> Option SharedT
  | 0,_,_=>none
  | n + 1,s,t=>match through t with
    | true=>some s
    | false=>match stepOk m ann t with
      | false=>none
      | true=>match stepT (denote tb) p w s t with
        | some r=>goT tb p w m ann n r.1 r.2
        | none=>none
theorem goT_of {tb:String -> Option Builtin} {p:Program} {w:World} {m:Nat} {ann:Option Value}:∀ {n:Nat} {s s':SharedT} {t:Thread},goT tb p w m ann n s t = some s' -> topRun tb p w m ann n s.abs t = some s'.abs
  | 0,_,_,_,h=>by cases h
  | n + 1,s,s',t,h=>by
    unfold goT at h
    unfold topRun
    cases he:through t with
    | true=>rw [he] at h; cases h; rfl
    | false =>
      rw [he] at h
      cases hk:stepOk m ann t with
      | false=>rw [hk] at h; cases h
      | true =>
        rw [hk] at h
        cases hs:stepT (denote tb) p w s t with
        | none=>rw [hs] at h; cases h
        | some r=>rw [hs] at h; rw [stepT_spec hs]; exact goT_of h
noncomputable def bt (os:List Obj):Nat -> Nat -> Nat -> BT
  | 0,_,_=>.nil
  | f + 1,a,b=>match os[b]? with
    | some o=>.node o (bt os f (2 * a) (a + b)) (bt os f (2 * a) (2 * a + b))
    | none=>.nil
theorem boot_abs (P:Params):absHeap (bt (boot_heap P).objs.toList 12 1 0) (boot_heap P).objs.size (boot_heap P).life = boot_heap P:=by kernel_rfl
abbrev looks (p q:Program) (loose:List Str) (Xt:Shared -> Bool) {α:Type} (Yf:Shared -> α) (h₀:Heap) (s:Shared) :=
  (staticsOk (importedModules p.main.body) h₀ s.heap && namesBound p s.heap && gensDone s && laidKept h₀ s.heap,openSeen q loose (importedModules p.main.body) Xt true s,Yf s)
theorem left_of {p q:Program} {loose:List Str} {Xt:Shared -> Bool} {α:Type} {Yf:Shared -> α} {Ya:World -> α} {N m M:Nat} {ann:Option Value}
    (e:opening p = plainProg p.main.scope.names) (hN:Nat.ble 600 N = true) (f:∀ s,fenceModules? p s = some s) (le:Nat.ble M N = true)
    (size:∀ w:World,((boot_heap w.params).isNs mainGlobals,(boot_heap w.params).objs.size,(boot_heap w.params).nsMap mainGlobals "__annotations__") = (true,m,ann))
    (run:∀ (w:World) (os:OsState),(goT treeTable p w m ann M ⟨bt (boot_heap w.params).objs.toList 12 1 0,(boot_heap w.params).objs.size,(boot_heap w.params).life,Array.mk [],boot_drawn,boot_toks,os⟩ (topStub p)).map (fun s=>looks p q loose Xt Yf (boot_heap w.params) s.abs) = some (true,openGood q loose,Ya w)) :
    LeftO p q loose Xt Yf Ya N:=fun w=>by
  obtain ⟨⟨h,gs,d,k,os⟩,eo,e'⟩:=Option.map_eq_some_iff.mp (boot_open e hN f w)
  obtain ⟨rfl,rfl,rfl,rfl⟩:h = boot_heap w.params /\ gs = Array.mk [] /\ d = boot_drawn /\ k = boot_toks:=by simpa using e'
  obtain ⟨z1,z2,z3⟩:_ /\ _ /\ _:=by simpa only [Prod.mk.injEq] using size w
  obtain ⟨s',r,l⟩:=Option.map_eq_some_iff.mp (run w os)
  obtain ⟨l1,l2,l3⟩:_ /\ _ /\ _:=by simpa only [looks,Prod.mk.injEq] using l
  have r:=goT_of r
  have hb:SharedT.abs ⟨bt (boot_heap w.params).objs.toList 12 1 0,(boot_heap w.params).objs.size,(boot_heap w.params).life,Array.mk [],boot_drawn,boot_toks,os⟩ = ⟨boot_heap w.params,Array.mk [],boot_drawn,boot_toks,os⟩:=by
    show Shared.mk (absHeap _ _ _) _ _ _ _ = _
    rw [boot_abs]
  rw [hb] at r
  have r:=topRun_mono (N - M) _ _ _ _ r
  rw [show M + (N - M) = N by have:=Nat.le_of_ble_eq_true le; omega] at r
  have t:topFrom treeTable p w N ⟨boot_heap w.params,Array.mk [],boot_drawn,boot_toks,os⟩ = some s'.abs:=by
    unfold topFrom
    dsimp only
    rw [z1,z2,z3,r]
    show (match staticsOk (importedModules p.main.body) (boot_heap w.params) s'.abs.heap && namesBound p s'.abs.heap && gensDone s'.abs && laidKept (boot_heap w.params) s'.abs.heap with | true=>_ | false=>_) = _
    rw [l1]
  unfold openEnds
  rw [eo]
  show (topFrom treeTable p w N _).map _ = _
  rw [t]
  exact congrArg some (Prod.ext l2 l3)
end L2.TT
namespace K66
open PySem
def top (i:Nat):Stmt:=PySem.Challenge.pw_evenpoints_k66_beginnings.main.body.getD i (.Pass ⟨0,0,0,0⟩)
end K66
noncomputable def PySem.W.Fast.tw724346984651400485:PySem.Program:=PySem.Challenge.pw_evenpoints_k66_beginnings
theorem PySem.W.Fast.te724346984651400485:PySem.Challenge.pw_evenpoints_k66_beginnings = PySem.W.Fast.tw724346984651400485:=rfl
namespace K66
open PySem PySem.W L2
def zs0:Stmt:=top 0
def zs1:Stmt:=top 1
def zs2:Stmt:=top 2
def zs3:Stmt:=top 3
def zs4:Stmt:=top 4
def zs5:Stmt:=top 5
def zs6:Stmt:=top 6
def zs7:Stmt:=top 7
def zs8:Stmt:=top 8
def zs9:Stmt:=top 9
def zs10:Stmt:=top 10
def zs11:Stmt:=top 11
def zs12:Stmt:=top 12
def zs13:Stmt:=top 13
def zs14:Stmt:=top 14
def zs15:Stmt:=top 15
def zs16:Stmt:=top 16
def zs17:Stmt:=top 17
def zs18:Stmt:=top 18
def zs19:Stmt:=top 19
def zs20:Stmt:=top 20
def zs21:Stmt:=top 21
def zs22:Stmt:=top 22
def zs23:Stmt:=top 23
def zs24:Stmt:=top 24
def zs25:Stmt:=top 25
def zs26:Stmt:=top 26
def zs27:Stmt:=top 27
def zs28:Stmt:=top 28
def zs29:Stmt:=top 29
def zs30:Stmt:=top 30
def zs31:Stmt:=top 31
def zs32:Stmt:=top 32
def zs33:Stmt:=top 33
def zs34:Stmt:=top 34
def zs35:Stmt:=top 35
def zs36:Stmt:=top 36
def zs37:Stmt:=top 37
def zs38:Stmt:=top 38
def pwN:Program:={ PySem.Challenge.pw_evenpoints_k66_beginnings with main:={ PySem.Challenge.pw_evenpoints_k66_beginnings.main with body:=[zs0,zs1,zs2,zs3,zs4,zs5,zs6,zs7,zs8,zs9,zs10,zs11,zs12,zs13,zs14,zs15,zs16,zs17,zs18,zs19,zs20,zs21,zs22,zs23,zs24,zs25,zs26,zs27,zs28,zs29,zs30,zs31,zs32,zs33,zs34,zs35,zs36,zs37,zs38] } }
def rwN:OpenLaw:={ PySem.Challenge.rw_evenpoints_k66_beginnings with prog:=pwN }
noncomputable def zview:Program:={ PySem.Challenge.pw_evenpoints_k66_beginnings with main:={ PySem.Challenge.pw_evenpoints_k66_beginnings.main with body:=[zs1,zs2,zs3,zs4,zs5,zs6,zs7,zs8,zs9,zs10,zs12,zs13,zs15,zs16,zs17,zs18,zs20,zs21,zs23,zs24,zs26,zs27,zs29,zs30,zs31,zs32,zs33,zs34,zs35,zs36,zs37,zs38] } }
theorem rw_eq:PySem.Challenge.rw_evenpoints_k66_beginnings = rwN:=rfl
noncomputable def zen (P:Params) (x:Str) (t:Nat) (v:Value):DictEntry:=⟨PyData.keyHash P x,.str x t,v⟩
noncomputable def zfo (n q:Str) (s:Stmt) (pm cd:Value):Obj:=⟨.type "function", none,.func (fnOf n q (defArgs s) (defBody s) (defScope s) .none .none .none pm none cd .none),#[]⟩
noncomputable def zco (n q:Str) (a b c:Nat) (l x y:Int) (r:Nat) (z:Int) (r2:Nat) (v1 v2 v3:Value) (r3:Nat) (u:Int) (c2:Nat):Obj:=⟨.type "code", none,.fields #[.str n a,.str q b,.str "/claim/cut.py" c,.int l 0,.int x 0,.int 0 0,.int 0 0,.int y 0,.ref r,.bool true,.int z 0,.ref r2,v1,v2,v3,.ref r3,.int u 0,.int l 0,.str "/claim/cut.py" c2],#[]⟩
noncomputable def zm0:Value:=.str "evenpoints.errors" 187
noncomputable def zm1:Value:=.str "evenpoints.fractions" 436
noncomputable def zm2:Value:=.str "evenpoints.figures" 455
noncomputable def zm3:Value:=.str "evenpoints.tables" 497
noncomputable def zm4:Value:=.str "evenpoints.nets" 511
noncomputable def zm5:Value:=.str "evenpoints.strength" 529
noncomputable def zm6:Value:=.str "law_evenpoints_k66_beginnings" 543
abbrev zfp (n:Str):=zfo n n
abbrev zcp (n:Str):=zco n n
noncomputable def heapK (P:Params):Frag :=
  (nat_lit 2,(.mk .none none (.dict #[] 0) #[])) ::
  (nat_lit 3,(.mk (.type "dict") none (.dict #[zen P "__name__" 165 (.str "law_evenpoints_k66_beginnings" 543),zen P "__doc__" 166 .none,zen P "__package__" 167 .none,zen P "__loader__" 168 (.builtin "__main__.__loader__#opaque"),zen P "__spec__" 169 .none,zen P "__annotations__" 170 (.ref 6),zen P "__builtins__" 171 (.ref 4),zen P "__file__" 173 (.str "/claim/cut.py" 172),zen P "__cached__" 174 .none,zen P "EvenError" 206 (.ref 24),zen P "Nought" 231 (.ref 44),zen P "NoRoom" 256 (.ref 63),zen P "TooMany" 281 (.ref 82),zen P "NoText" 306 (.ref 101),zen P "NoPaper" 333 (.ref 120),zen P "NoNet" 360 (.ref 139),zen P "NoUpper" 385 (.ref 158),zen P "NoDeed" 410 (.ref 177),zen P "NoRow" 435 (.ref 196),zen P "common_divisor" 445 (.ref 205),zen P "fraction" 454 (.ref 212),zen P "power" 466 (.ref 219),zen P "figures_of" 476 (.ref 226),zen P "figures_in" 486 (.ref 233),zen P "number_of" 496 (.ref 240),zen P "product_sum" 504 (.ref 245),zen P "applied" 510 (.ref 250),zen P "table_number" 522 (.ref 257),zen P "points_of_tables" 528 (.ref 262),zen P "is_upper" 536 (.ref 267),zen P "beginning" 542 (.ref 272),zen P "_law_tape" 553 (.ref 279),zen P "_law_pick" 564 (.ref 286),zen P "_law_size" 572 (.ref 293),zen P "_law_power" 582 (.ref 300),zen P "_law_sum_table" 588 (.ref 305),zen P "_law_upper" 594 (.ref 310),zen P "_law_lowered" 606 (.ref 317),zen P "_law_told" 618 (.ref 324),zen P "_law_first_lower" 627 (.ref 331),zen P "law" 633 (.ref 336)] 41) #[])) ::
  (nat_lit 6,(.mk (.type "dict") none (.dict #[] 0) #[])) ::
  (nat_lit 15,(.mk (.type "tuple") none (.seq #[(.type "ValueError")] 0) #[])) ::
  (nat_lit 22,(.mk (.type "tuple") none (.seq #[] 0) #[])) ::
  (nat_lit 23,(.mk (.type "dict") none (.dict #[zen P "__module__" 196 (.str "evenpoints.errors" 187),zen P "__firstlineno__" 200 (.int 2 199),zen P "__static_attributes__" 201 (.ref 22),zen P "__weakref__" 203 (.ref 25),zen P "__doc__" 204 .none] 3) #[])) ::
  (nat_lit 24,(.mk (.type "type") none (.cls (.mk "EvenError" [(.type "ValueError")] [(.ref 24),(.type "ValueError"),(.type "Exception"),(.type "BaseException"),(.type "object")] 23 "EvenError" true [] [(.ref 44),(.ref 63),(.ref 82),(.ref 101),(.ref 120),(.ref 139),(.ref 158),(.ref 177),(.ref 196)] false none false)) #[(some (.ref 15)),none,(some (.str "EvenError" 189)),(some (.str "EvenError" 197)),(some (.builtin "ValueError.__new__")),(some (.bool true))])) ::
  (nat_lit 25,(.mk (.type "getset_descriptor") none (.fields #[(.str "__weakref__" 202),(.ref 24),(.builtin "ExceptionGroup.__weakref__"),.none]) #[])) ::
  (nat_lit 28,(.mk (.type "tuple") none (.seq #[(.ref 24)] 0) #[])) ::
  (nat_lit 40,zco "__init__" "Nought.__init__" 219 220 221 6 2 3 35 181 36 .none (.ref 37) (.ref 38) 39 224 225) ::
  (nat_lit 41,zfo "__init__" "Nought.__init__" (inClass (top 2) 0) zm0 (.ref 40)) ::
  (nat_lit 42,(.mk (.type "tuple") none (.seq #[(.str "word" 227)] 0) #[])) ::
  (nat_lit 43,(.mk (.type "dict") none (.dict #[zen P "__module__" 214 (.str "evenpoints.errors" 187),zen P "__firstlineno__" 218 (.int 4 217),zen P "__init__" 226 (.ref 41),zen P "__static_attributes__" 228 (.ref 42),zen P "__doc__" 229 .none] 2) #[])) ::
  (nat_lit 44,(.mk (.type "type") none (.cls (.mk "Nought" [(.ref 24)] [(.ref 44),(.ref 24),(.type "ValueError"),(.type "Exception"),(.type "BaseException"),(.type "object")] 43 "Nought" true [] [] false none false)) #[(some (.ref 28)),none,(some (.str "Nought" 207)),(some (.str "Nought" 215)),(some (.builtin "ValueError.__new__")),(some (.bool true))])) ::
  (nat_lit 47,(.mk (.type "tuple") none (.seq #[(.ref 24)] 0) #[])) ::
  (nat_lit 59,zco "__init__" "NoRoom.__init__" 244 245 246 10 2 3 54 181 55 .none (.ref 56) (.ref 57) 58 249 250) ::
  (nat_lit 60,zfo "__init__" "NoRoom.__init__" (inClass (top 3) 0) zm0 (.ref 59)) ::
  (nat_lit 61,(.mk (.type "tuple") none (.seq #[(.str "word" 252)] 0) #[])) ::
  (nat_lit 62,(.mk (.type "dict") none (.dict #[zen P "__module__" 239 (.str "evenpoints.errors" 187),zen P "__firstlineno__" 243 (.int 8 242),zen P "__init__" 251 (.ref 60),zen P "__static_attributes__" 253 (.ref 61),zen P "__doc__" 254 .none] 2) #[])) ::
  (nat_lit 63,(.mk (.type "type") none (.cls (.mk "NoRoom" [(.ref 24)] [(.ref 63),(.ref 24),(.type "ValueError"),(.type "Exception"),(.type "BaseException"),(.type "object")] 62 "NoRoom" true [] [] false none false)) #[(some (.ref 47)),none,(some (.str "NoRoom" 232)),(some (.str "NoRoom" 240)),(some (.builtin "ValueError.__new__")),(some (.bool true))])) ::
  (nat_lit 66,(.mk (.type "tuple") none (.seq #[(.ref 24)] 0) #[])) ::
  (nat_lit 78,zco "__init__" "TooMany.__init__" 269 270 271 14 2 3 73 181 74 .none (.ref 75) (.ref 76) 77 274 275) ::
  (nat_lit 79,zfo "__init__" "TooMany.__init__" (inClass (top 4) 0) zm0 (.ref 78)) ::
  (nat_lit 80,(.mk (.type "tuple") none (.seq #[(.str "word" 277)] 0) #[])) ::
  (nat_lit 81,(.mk (.type "dict") none (.dict #[zen P "__module__" 264 (.str "evenpoints.errors" 187),zen P "__firstlineno__" 268 (.int 12 267),zen P "__init__" 276 (.ref 79),zen P "__static_attributes__" 278 (.ref 80),zen P "__doc__" 279 .none] 2) #[])) ::
  (nat_lit 82,(.mk (.type "type") none (.cls (.mk "TooMany" [(.ref 24)] [(.ref 82),(.ref 24),(.type "ValueError"),(.type "Exception"),(.type "BaseException"),(.type "object")] 81 "TooMany" true [] [] false none false)) #[(some (.ref 66)),none,(some (.str "TooMany" 257)),(some (.str "TooMany" 265)),(some (.builtin "ValueError.__new__")),(some (.bool true))])) ::
  (nat_lit 85,(.mk (.type "tuple") none (.seq #[(.ref 24)] 0) #[])) ::
  (nat_lit 97,zco "__init__" "NoText.__init__" 294 295 296 18 2 3 92 181 93 .none (.ref 94) (.ref 95) 96 299 300) ::
  (nat_lit 98,zfo "__init__" "NoText.__init__" (inClass (top 5) 0) zm0 (.ref 97)) ::
  (nat_lit 99,(.mk (.type "tuple") none (.seq #[(.str "place" 302)] 0) #[])) ::
  (nat_lit 100,(.mk (.type "dict") none (.dict #[zen P "__module__" 289 (.str "evenpoints.errors" 187),zen P "__firstlineno__" 293 (.int 16 292),zen P "__init__" 301 (.ref 98),zen P "__static_attributes__" 303 (.ref 99),zen P "__doc__" 304 .none] 2) #[])) ::
  (nat_lit 101,(.mk (.type "type") none (.cls (.mk "NoText" [(.ref 24)] [(.ref 101),(.ref 24),(.type "ValueError"),(.type "Exception"),(.type "BaseException"),(.type "object")] 100 "NoText" true [] [] false none false)) #[(some (.ref 85)),none,(some (.str "NoText" 282)),(some (.str "NoText" 290)),(some (.builtin "ValueError.__new__")),(some (.bool true))])) ::
  (nat_lit 104,(.mk (.type "tuple") none (.seq #[(.ref 24)] 0) #[])) ::
  (nat_lit 116,zco "__init__" "NoPaper.__init__" 319 320 321 22 3 3 111 181 112 .none (.ref 113) (.ref 114) 115 325 326) ::
  (nat_lit 117,zfo "__init__" "NoPaper.__init__" (inClass (top 6) 0) zm0 (.ref 116)) ::
  (nat_lit 118,(.mk (.type "tuple") none (.seq #[(.str "path" 328),(.str "word" 329)] 0) #[])) ::
  (nat_lit 119,(.mk (.type "dict") none (.dict #[zen P "__module__" 314 (.str "evenpoints.errors" 187),zen P "__firstlineno__" 318 (.int 20 317),zen P "__init__" 327 (.ref 117),zen P "__static_attributes__" 330 (.ref 118),zen P "__doc__" 331 .none] 2) #[])) ::
  (nat_lit 120,(.mk (.type "type") none (.cls (.mk "NoPaper" [(.ref 24)] [(.ref 120),(.ref 24),(.type "ValueError"),(.type "Exception"),(.type "BaseException"),(.type "object")] 119 "NoPaper" true [] [] false none false)) #[(some (.ref 104)),none,(some (.str "NoPaper" 307)),(some (.str "NoPaper" 315)),(some (.builtin "ValueError.__new__")),(some (.bool true))])) ::
  (nat_lit 123,(.mk (.type "tuple") none (.seq #[(.ref 24)] 0) #[])) ::
  (nat_lit 135,zco "__init__" "NoNet.__init__" 346 347 348 27 3 3 130 181 131 .none (.ref 132) (.ref 133) 134 352 353) ::
  (nat_lit 136,zfo "__init__" "NoNet.__init__" (inClass (top 7) 0) zm0 (.ref 135)) ::
  (nat_lit 137,(.mk (.type "tuple") none (.seq #[(.str "number" 355),(.str "word" 356)] 0) #[])) ::
  (nat_lit 138,(.mk (.type "dict") none (.dict #[zen P "__module__" 341 (.str "evenpoints.errors" 187),zen P "__firstlineno__" 345 (.int 25 344),zen P "__init__" 354 (.ref 136),zen P "__static_attributes__" 357 (.ref 137),zen P "__doc__" 358 .none] 2) #[])) ::
  (nat_lit 139,(.mk (.type "type") none (.cls (.mk "NoNet" [(.ref 24)] [(.ref 139),(.ref 24),(.type "ValueError"),(.type "Exception"),(.type "BaseException"),(.type "object")] 138 "NoNet" true [] [] false none false)) #[(some (.ref 123)),none,(some (.str "NoNet" 334)),(some (.str "NoNet" 342)),(some (.builtin "ValueError.__new__")),(some (.bool true))])) ::
  (nat_lit 142,(.mk (.type "tuple") none (.seq #[(.ref 24)] 0) #[])) ::
  (nat_lit 154,zco "__init__" "NoUpper.__init__" 373 374 375 32 2 3 149 181 150 .none (.ref 151) (.ref 152) 153 378 379) ::
  (nat_lit 155,zfo "__init__" "NoUpper.__init__" (inClass (top 8) 0) zm0 (.ref 154)) ::
  (nat_lit 156,(.mk (.type "tuple") none (.seq #[(.str "number" 381)] 0) #[])) ::
  (nat_lit 157,(.mk (.type "dict") none (.dict #[zen P "__module__" 368 (.str "evenpoints.errors" 187),zen P "__firstlineno__" 372 (.int 30 371),zen P "__init__" 380 (.ref 155),zen P "__static_attributes__" 382 (.ref 156),zen P "__doc__" 383 .none] 2) #[])) ::
  (nat_lit 158,(.mk (.type "type") none (.cls (.mk "NoUpper" [(.ref 24)] [(.ref 158),(.ref 24),(.type "ValueError"),(.type "Exception"),(.type "BaseException"),(.type "object")] 157 "NoUpper" true [] [] false none false)) #[(some (.ref 142)),none,(some (.str "NoUpper" 361)),(some (.str "NoUpper" 369)),(some (.builtin "ValueError.__new__")),(some (.bool true))])) ::
  (nat_lit 161,(.mk (.type "tuple") none (.seq #[(.ref 24)] 0) #[])) ::
  (nat_lit 173,zco "__init__" "NoDeed.__init__" 398 399 400 36 2 3 168 181 169 .none (.ref 170) (.ref 171) 172 403 404) ::
  (nat_lit 174,zfo "__init__" "NoDeed.__init__" (inClass (top 9) 0) zm0 (.ref 173)) ::
  (nat_lit 175,(.mk (.type "tuple") none (.seq #[(.str "word" 406)] 0) #[])) ::
  (nat_lit 176,(.mk (.type "dict") none (.dict #[zen P "__module__" 393 (.str "evenpoints.errors" 187),zen P "__firstlineno__" 397 (.int 34 396),zen P "__init__" 405 (.ref 174),zen P "__static_attributes__" 407 (.ref 175),zen P "__doc__" 408 .none] 2) #[])) ::
  (nat_lit 177,(.mk (.type "type") none (.cls (.mk "NoDeed" [(.ref 24)] [(.ref 177),(.ref 24),(.type "ValueError"),(.type "Exception"),(.type "BaseException"),(.type "object")] 176 "NoDeed" true [] [] false none false)) #[(some (.ref 161)),none,(some (.str "NoDeed" 386)),(some (.str "NoDeed" 394)),(some (.builtin "ValueError.__new__")),(some (.bool true))])) ::
  (nat_lit 180,(.mk (.type "tuple") none (.seq #[(.ref 24)] 0) #[])) ::
  (nat_lit 192,zco "__init__" "NoRow.__init__" 423 424 425 40 2 3 187 181 188 .none (.ref 189) (.ref 190) 191 428 429) ::
  (nat_lit 193,zfo "__init__" "NoRow.__init__" (inClass (top 10) 0) zm0 (.ref 192)) ::
  (nat_lit 194,(.mk (.type "tuple") none (.seq #[(.str "row" 431)] 0) #[])) ::
  (nat_lit 195,(.mk (.type "dict") none (.dict #[zen P "__module__" 418 (.str "evenpoints.errors" 187),zen P "__firstlineno__" 422 (.int 38 421),zen P "__init__" 430 (.ref 193),zen P "__static_attributes__" 432 (.ref 194),zen P "__doc__" 433 .none] 2) #[])) ::
  (nat_lit 196,(.mk (.type "type") none (.cls (.mk "NoRow" [(.ref 24)] [(.ref 196),(.ref 24),(.type "ValueError"),(.type "Exception"),(.type "BaseException"),(.type "object")] 195 "NoRow" true [] [] false none false)) #[(some (.ref 180)),none,(some (.str "NoRow" 411)),(some (.str "NoRow" 419)),(some (.builtin "ValueError.__new__")),(some (.bool true))])) ::
  (nat_lit 204,zcp "common_divisor" 438 439 440 43 2 3 199 181 200 .none (.ref 201) (.ref 202) 203 443 444) ::
  (nat_lit 205,zfp "common_divisor" (top 12) zm1 (.ref 204)) ::
  (nat_lit 211,zcp "fraction" 446 447 448 47 2 3 206 181 207 .none (.ref 208) (.ref 209) 210 452 453) ::
  (nat_lit 212,zfp "fraction" (top 13) zm1 (.ref 211)) ::
  (nat_lit 218,zcp "power" 457 458 459 55 2 3 213 181 214 .none (.ref 215) (.ref 216) 217 464 465) ::
  (nat_lit 219,zfp "power" (top 15) zm2 (.ref 218)) ::
  (nat_lit 225,zcp "figures_of" 467 468 469 60 2 3 220 181 221 .none (.ref 222) (.ref 223) 224 474 475) ::
  (nat_lit 226,zfp "figures_of" (top 16) zm2 (.ref 225)) ::
  (nat_lit 232,zcp "figures_in" 477 478 479 66 3 3 227 181 228 .none (.ref 229) (.ref 230) 231 484 485) ::
  (nat_lit 233,zfp "figures_in" (top 17) zm2 (.ref 232)) ::
  (nat_lit 239,zcp "number_of" 487 488 489 69 2 3 234 181 235 .none (.ref 236) (.ref 237) 238 494 495) ::
  (nat_lit 240,zfp "number_of" (top 18) zm2 (.ref 239)) ::
  (nat_lit 244,zcp "product_sum" 499 500 501 75 3 3 241 181 242 .none .none .none 243 502 503) ::
  (nat_lit 245,zfp "product_sum" (top 20) zm3 (.ref 244)) ::
  (nat_lit 249,zcp "applied" 505 506 507 77 3 3 246 181 247 .none .none .none 248 508 509) ::
  (nat_lit 250,zfp "applied" (top 21) zm3 (.ref 249)) ::
  (nat_lit 256,zcp "table_number" 513 514 515 80 3 3 251 181 252 .none (.ref 253) (.ref 254) 255 520 521) ::
  (nat_lit 257,zfp "table_number" (top 23) zm4 (.ref 256)) ::
  (nat_lit 261,zcp "points_of_tables" 523 524 525 83 2 3 258 181 259 .none .none .none 260 526 527) ::
  (nat_lit 262,zfp "points_of_tables" (top 24) zm4 (.ref 261)) ::
  (nat_lit 266,zcp "is_upper" 531 532 533 91 1 3 263 181 264 .none .none .none 265 534 535) ::
  (nat_lit 267,zfp "is_upper" (top 26) zm5 (.ref 266)) ::
  (nat_lit 271,zcp "beginning" 537 538 539 93 2 3 268 181 269 .none .none .none 270 540 541) ::
  (nat_lit 272,zfp "beginning" (top 27) zm5 (.ref 271)) ::
  (nat_lit 278,zcp "_law_tape" 545 546 547 99 2 3 273 181 274 .none (.ref 275) (.ref 276) 277 551 552) ::
  (nat_lit 279,zfp "_law_tape" (top 29) zm6 (.ref 278)) ::
  (nat_lit 285,zcp "_law_pick" 554 555 556 104 2 3 280 181 281 .none (.ref 282) (.ref 283) 284 562 563) ::
  (nat_lit 286,zfp "_law_pick" (top 30) zm6 (.ref 285)) ::
  (nat_lit 292,zcp "_law_size" 565 566 567 114 1 3 287 181 288 .none (.ref 289) (.ref 290) 291 570 571) ::
  (nat_lit 293,zfp "_law_size" (top 31) zm6 (.ref 292)) ::
  (nat_lit 299,zcp "_law_power" 573 574 575 117 2 3 294 181 295 .none (.ref 296) (.ref 297) 298 580 581) ::
  (nat_lit 300,zfp "_law_power" (top 32) zm6 (.ref 299)) ::
  (nat_lit 304,zcp "_law_sum_table" 583 584 585 122 3 3 301 181 302 .none .none .none 303 586 587) ::
  (nat_lit 305,zfp "_law_sum_table" (top 33) zm6 (.ref 304)) ::
  (nat_lit 309,zcp "_law_upper" 589 590 591 131 3 3 306 181 307 .none .none .none 308 592 593) ::
  (nat_lit 310,zfp "_law_upper" (top 34) zm6 (.ref 309)) ::
  (nat_lit 316,zcp "_law_lowered" 595 596 597 136 3 3 311 181 312 .none (.ref 313) (.ref 314) 315 604 605) ::
  (nat_lit 317,zfp "_law_lowered" (top 35) zm6 (.ref 316)) ::
  (nat_lit 323,zcp "_law_told" 607 608 609 143 2 3 318 181 319 .none (.ref 320) (.ref 321) 322 616 617) ::
  (nat_lit 324,zfp "_law_told" (top 36) zm6 (.ref 323)) ::
  (nat_lit 330,zcp "_law_first_lower" 619 620 621 155 1 3 325 181 326 .none (.ref 327) (.ref 328) 329 625 626) ::
  (nat_lit 331,zfp "_law_first_lower" (top 37) zm6 (.ref 330)) ::
  (nat_lit 335,zcp "law" 628 629 630 161 1 3 332 181 333 .none .none .none 334 631 632) ::
  (nat_lit 336,zfp "law" (top 38) zm6 (.ref 335)) :: []
noncomputable def heapA:List Addr:=nat_lit 2 :: nat_lit 3 :: nat_lit 6 :: nat_lit 15 :: nat_lit 22 :: nat_lit 23 :: nat_lit 24 :: nat_lit 25 :: nat_lit 28 :: nat_lit 40 :: nat_lit 41 :: nat_lit 42 :: nat_lit 43 :: nat_lit 44 :: nat_lit 47 :: nat_lit 59 :: nat_lit 60 :: nat_lit 61 :: nat_lit 62 :: nat_lit 63 :: nat_lit 66 :: nat_lit 78 :: nat_lit 79 :: nat_lit 80 :: nat_lit 81 :: nat_lit 82 :: nat_lit 85 :: nat_lit 97 :: nat_lit 98 :: nat_lit 99 :: nat_lit 100 :: nat_lit 101 :: nat_lit 104 :: nat_lit 116 :: nat_lit 117 :: nat_lit 118 :: nat_lit 119 :: nat_lit 120 :: nat_lit 123 :: nat_lit 135 :: nat_lit 136 :: nat_lit 137 :: nat_lit 138 :: nat_lit 139 :: nat_lit 142 :: nat_lit 154 :: nat_lit 155 :: nat_lit 156 :: nat_lit 157 :: nat_lit 158 :: nat_lit 161 :: nat_lit 173 :: nat_lit 174 :: nat_lit 175 :: nat_lit 176 :: nat_lit 177 :: nat_lit 180 :: nat_lit 192 :: nat_lit 193 :: nat_lit 194 :: nat_lit 195 :: nat_lit 196 :: nat_lit 204 :: nat_lit 205 :: nat_lit 211 :: nat_lit 212 :: nat_lit 218 :: nat_lit 219 :: nat_lit 225 :: nat_lit 226 :: nat_lit 232 :: nat_lit 233 :: nat_lit 239 :: nat_lit 240 :: nat_lit 244 :: nat_lit 245 :: nat_lit 249 :: nat_lit 250 :: nat_lit 256 :: nat_lit 257 :: nat_lit 261 :: nat_lit 262 :: nat_lit 266 :: nat_lit 267 :: nat_lit 271 :: nat_lit 272 :: nat_lit 278 :: nat_lit 279 :: nat_lit 285 :: nat_lit 286 :: nat_lit 292 :: nat_lit 293 :: nat_lit 299 :: nat_lit 300 :: nat_lit 304 :: nat_lit 305 :: nat_lit 309 :: nat_lit 310 :: nat_lit 316 :: nat_lit 317 :: nat_lit 323 :: nat_lit 324 :: nat_lit 330 :: nat_lit 331 :: nat_lit 335 :: nat_lit 336 :: []
theorem heapE:∀ P,heapA = (heapK P).map (·.1):=fun _=>rfl
theorem zsize:∀ w:World,((boot_heap w.params).isNs mainGlobals,(boot_heap w.params).objs.size,(boot_heap w.params).nsMap mainGlobals "__annotations__") = (true,11,some (.ref 6)):=fun w=>by kernel_rfl
set_option maxHeartbeats 0 in
theorem zleft:LeftO pwN zview [] (fun s=>xlAt zview [] s && recOk (RowW.records rwN.row.toRowW) s) (Hook.obs (kHook heapK heapA heapE)) (Hook.val (kHook heapK heapA heapE)) 6950 :=
  L2.TT.left_of (M:=6950) (by kernel_rfl) rfl (fun s=>by kernel_rfl) rfl zsize fun w os=>by kernel_rfl
end K66
namespace L2
open PySem PySem.Spec PyProof.Rows

abbrev Key:=Sum Int Str
noncomputable def keyIs:Key -> Value -> Bool
  | .inl k,v=>Value.isInt k v
  | .inr x,v=>Value.isStrOf x v
noncomputable def keyH (w:World):Key -> Int
  | .inl k=>hashInt k
  | .inr x=>hashStr w x
theorem keyIs_shape:∀ {k:Key} {v:Value},keyIs k v = true -> (∃ i t,k = Sum.inl i /\ v = Value.int i t) \/ (∃ x t,k = Sum.inr x /\ v = Value.str x t)
  | .inl i,v,h=>by
    obtain ⟨t,e⟩:=Value.isInt_shape (k:=i) (v:=v) h
    exact .inl ⟨i,t,rfl,e⟩
  | .inr x,v,h=>by
    obtain ⟨t,e⟩:=Value.isStrOf_shape (x:=x) (v:=v) h
    exact .inr ⟨x,t,rfl,e⟩
theorem keyIs_int (i:Int) (t:Tok):keyIs (.inl i) (.int i t) = true:=by simp [keyIs,Value.isInt]
theorem keyIs_str (x:Str) (t:Tok):keyIs (.inr x) (.str x t) = true:=by simp [keyIs,Value.isStrOf]
theorem key_ll (a b:Int):decide ((Sum.inl a:Key) = Sum.inl b) = (a == b):=by
  by_cases e:a = b
  · subst e; simp
  · have h:¬ (Sum.inl a:Key) = Sum.inl b:=fun q=>e (Sum.inl.inj q)
    rw [decide_eq_false h]
    exact (beq_eq_false_iff_ne.mpr e).symm
theorem key_rr (a b:Str):decide ((Sum.inr a:Key) = Sum.inr b) = decide (a = b):=by
  by_cases e:a = b
  · subst e; simp
  · have h:¬ (Sum.inr a:Key) = Sum.inr b:=fun q=>e (Sum.inr.inj q)
    rw [decide_eq_false h,decide_eq_false e]
theorem key_lr (a:Int) (b:Str):decide ((Sum.inl a:Key) = Sum.inr b) = false:=decide_eq_false (fun q=>nomatch q)
theorem key_rl (a:Str) (b:Int):decide ((Sum.inr a:Key) = Sum.inl b) = false:=decide_eq_false (fun q=>nomatch q)

noncomputable def mixKind (prog:Program) (w:World):PySem.KeyKind prog w Key where
  is:=keyIs
  hash:=keyH w
  inj := fun v a b ha hb => by
    rcases keyIs_shape ha with ⟨i,t,rfl,rfl⟩ | ⟨x,t,rfl,rfl⟩
    · rcases keyIs_shape hb with ⟨j,u,rfl,e⟩ | ⟨y,u,rfl,e⟩
      · injection e with e1 _; rw [e1]
      · exact nomatch e
    · rcases keyIs_shape hb with ⟨j,u,rfl,e⟩ | ⟨y,u,rfl,e⟩
      · exact nomatch e
      · injection e with e1 _; rw [e1]
  byValue:=fun k v h=>by
    rcases keyIs_shape h with ⟨i,t,rfl,rfl⟩ | ⟨x,t,rfl,rfl⟩ <;> rfl
  pyHash:=fun hv h=>by
    rcases keyIs_shape hv with ⟨i,t,rfl,rfl⟩ | ⟨x,t,rfl,rfl⟩
    · exact wpAny_pyHash_int h
    · exact wpAny_pyHash_str h
  eqBool:=fun hu hv h=>by
    rcases keyIs_shape hu with ⟨i,t,rfl,rfl⟩ | ⟨x,t,rfl,rfl⟩
    · rcases keyIs_shape hv with ⟨j,u,rfl,rfl⟩ | ⟨y,u,rfl,rfl⟩
      · rw [key_ll] at h; exact wpAny_eqBool_int h
      · rw [key_lr] at h; exact SeqAt.EqAt.int_str i t y u _ _ _ _ h
    · rcases keyIs_shape hv with ⟨j,u,rfl,rfl⟩ | ⟨y,u,rfl,rfl⟩
      · rw [key_rl] at h; exact SeqAt.EqAt.str_int x t j u _ _ _ _ h
      · rw [key_rr] at h; exact wpAny_eqBool_str h
  «strs»:=fun k x t v h=>by
    rcases keyIs_shape h with ⟨i,u,rfl,e⟩ | ⟨y,u,rfl,e⟩
    · exact nomatch e
    · injection e with e1 _
      subst e1
      cases v <;> rfl

theorem mixKind_int (prog:Program) (w:World) (i:Int) (t:Tok):(mixKind prog w).is (.inl i) (.int i t) = true:=keyIs_int i t
theorem mixKind_str (prog:Program) (w:World) (x:Str) (t:Tok):(mixKind prog w).is (.inr x) (.str x t) = true:=keyIs_str x t
end L2

namespace L2
open PySem PySem.Spec PyProof.Rows

inductive V where
  | non | bl (b:Bool) | int (i:Int) | str (x:Str) | byt (b:Array UInt8) | flt (b:UInt64) | ref (a:Addr) | ty (n:String)
  deriving DecidableEq

noncomputable def RelV:V -> Value -> Prop
  | .non,u=>u = Value.none
  | .bl b,u=>u = Value.bool b
  | .int i,u=>∃ t,u = Value.int i t
  | .str x,u=>∃ t,u = Value.str x t
  | .byt b,u=>∃ t,u = Value.bytes b t
  | .flt b,u=>∃ t,u = Value.float b t
  | .ref a,u=>u = Value.ref a
  | .ty n,u=>u = Value.type n

abbrev Vals:List V -> List Value -> Prop:=Paired RelV
theorem Vals.length {xs:List V} {us:List Value} (r:Vals xs us):xs.length = us.length:=Paired.length r
theorem Vals.get:∀ {xs:List V} {us:List Value} {i:Nat} {x:V},Vals xs us -> xs[i]? = some x -> ∃ u,us[i]? = some u /\ RelV x u
  | _,_,_,_,.nil,e=>by simp at e
  | _,_,0,_,.cons r _,e=>by simp at e; subst e; exact ⟨_,rfl,r⟩
  | _,_,i + 1,x,.cons _ t,e=>by
    obtain ⟨u,h1,h2⟩:=Vals.get (i:=i) (x:=x) t (by simpa using e)
    exact ⟨u,by simpa using h1,h2⟩
theorem Vals.set {x:V} {u:Value} (r:RelV x u):∀ {xs:List V} {us:List Value} (i:Nat),Vals xs us -> Vals (xs.set i x) (us.set i u)
  | _,_,_,.nil=>.nil
  | _,_,0,.cons _ t=>.cons r t
  | _,_,i + 1,.cons q t=>.cons q (Vals.set r i t)
theorem Vals.append:∀ {xs ys:List V} {us ws:List Value},Vals xs us -> Vals ys ws -> Vals (xs ++ ys) (us ++ ws)
  | _,_,_,_,.nil,s=>s
  | _,_,_,_,.cons r t,s=>.cons r (Vals.append t s)
theorem Vals.take:∀ {xs:List V} {us:List Value} (n:Nat),Vals xs us -> Vals (xs.take n) (us.take n)
  | _,_,0,_=>.nil
  | _,_,_ + 1,.nil=>.nil
  | _,_,n + 1,.cons r t=>.cons r (Vals.take n t)
theorem Vals.drop:∀ {xs:List V} {us:List Value} (n:Nat),Vals xs us -> Vals (xs.drop n) (us.drop n)
  | _,_,0,r=>r
  | _,_,_ + 1,.nil=>.nil
  | _,_,n + 1,.cons _ t=>Vals.drop n t
noncomputable def RelO:Option V -> Option Value -> Prop
  | some v,some u=>RelV v u
  | none,none=>True
  | _,_=>False
noncomputable def KV {κ:Type}:List (κ × V) -> List (κ × Value) -> Prop:=Paired fun (p : κ × V) (q : κ × Value)=>p.1 = q.1 /\ RelV p.2 q.2

noncomputable def kV:Key -> V
  | .inl i=>.int i
  | .inr x=>.str x

inductive HO where
  
  | lst (xs:List V)
  
  | tup (xs:List V)
  
  | dK (kvs:List (Key × V)) | dT (kvs:List (List Key × V))
  
  | set (S:Int -> Bool) (n:Nat)
  
  | ins (C dx:Addr) (fs:List (Str × V))
  
  | own (x:Addr)
  
  | xd (fs:List (Str × V))
  
  | met (f x:Addr)
  
  | rng (lo hi:Int)
  
  | frz (o:Obj) (u:HO)
  
  | tbl (ps:Array Value)
  
  | ext (φ:Heap -> Prop)

abbrev Hp:=Addr -> Option HO
noncomputable def upd (H:Hp) (a:Addr) (o:HO):Hp:=fun b=>if b = a then some o else H b
theorem upd_same {H:Hp} {a:Addr} {o:HO}:upd H a o a = some o:=by unfold upd; rw [if_pos rfl]
theorem upd_ne {H:Hp} {a b:Addr} {o:HO} (h:b ≠ a):upd H a o b = H b:=by unfold upd; rw [if_neg h]
theorem upd_upd {H:Hp} {a:Addr} {o u:HO}:upd (upd H a o) a u = upd H a u:=by
  funext b; unfold upd; split <;> rfl
theorem ne_of {H:Hp} {a b:Addr} {o u:HO} (h:H a = some o) (h':H b = some u) (d:o ≠ u):a ≠ b:=by
  intro e; subst e; rw [h] at h'; exact d (Option.some.inj h')
theorem ne_of_none {H:Hp} {a b:Addr} {o:HO} (h:H a = some o) (h':H b = none):a ≠ b:=by
  intro e; subst e; rw [h] at h'; cases h'

section
variable (P:Program) (w:World)
noncomputable def IsTupD (h:Heap) (a:Addr) (items:Array Value):Prop:=∃ o,h.get? a = some o /\ o.cls = .type "tuple" /\ (∃ n,o.data = .seq items n) /\ o.dict = none
theorem IsTupD.tup {h:Heap} {a:Addr} {items:Array Value} (x:IsTupD h a items):IsTup h a items:=let ⟨o,e1,e2,e3,_⟩:=x; ⟨o,e1,e2,e3⟩
theorem IsTupD.new (h:Heap) (items:Array Value):IsTupD (h.push { cls:=.type "tuple", data:=.seq items }) h.objs.size items:=⟨_,Heap.get?_push_size _ rfl,rfl,⟨_,rfl⟩,rfl⟩
noncomputable def ObjOk (H:Hp) (h:Heap) (a:Addr):HO -> Prop
  | .lst xs=>xs.length <= sizeLine /\ ∃ (its:List Value) (n:Nat),Vals xs its /\ h.get? a = some { cls:=.type "list", data:=.seq its.toArray n }
  | .tup xs=>xs.length <= sizeLine /\ ∃ its:List Value,Vals xs its /\ IsTupD h a its.toArray
  | .dK kvs=>kvs.length <= sizeLine /\ (a == sysModules) = false /\ ∃ vs,KV kvs vs /\ h.DictOf (mixKind P w) a vs
  | .dT kvs=>kvs.length <= sizeLine /\ (a == sysModules) = false /\ ∃ xs:List (List Key × Addr × Value),
      Paired (fun (p:List Key × V) (q:List Key × Addr × Value)=>p.1 = q.1 /\ H q.2.1 = some (.tup (p.1.map kV)) /\ RelV p.2 q.2.2) kvs xs /\
      ∃ o es ep,h.get? a = some o /\ o.ExactDict /\ o.data = .dict es ep /\ es.toList = xs.map (entryOfKey (tupleKind (mixKind P w))) /\ (xs.map (·.1)).Nodup
  | .set S n=>h.SetOf (intKind P w) a S n
  | .ins C dx fs=>H dx = some (.own a) /\ fs.length <= 1000 /\ dx ≠ a /\ h.get? a = some (W.instObj C dx) /\
      ∃ mA,h.Ns1 dx mA /\ (∀ f,RelO (fs.lookup f) (mA f)) /\ PySem.Within mA (fs.map (·.1))
  | .own _=>∃ o,h.get? a = some o
  | .xd fs=>∃ mA,h.Ns1 a mA /\ ∀ f,RelO (fs.lookup f) (mA f)
  | .rng lo hi=>∃ t u v,h.get? a = some { cls:=.type "range", data:=.fields #[.int lo t,.int hi u,.int 1 v] }
  | .frz o u=>h.get? a = some o /\ ObjOk H h a u
  | .tbl ps=>h.get? a = some { cls:=.none,data:=.fields ps }
  | .met f x=>h.get? a = some (W.methodObj (.ref f) (.ref x))
  | .ext φ=>φ h /\ (∃ o,h.get? a = some o) /\ ∀ h1 h2:Heap,φ h1 -> (∀ o,h1.get? a = some o -> h2.get? a = some o) -> φ h2
noncomputable def HOk (H:Hp) (h:Heap):Prop:=∀ a o,H a = some o -> ObjOk P w H h a o
end

section
variable {P:Program} {w:World} {H H':Hp} {h h':Heap} {a:Addr} {o:HO}
theorem ObjOk.lt (x:ObjOk P w H h a o):a < h.objs.size:=by
  cases o with
  | lst xs=>obtain ⟨_,_,_,_,e⟩:=x; exact Heap.lt_size e
  | tup xs=>obtain ⟨_,_,_,p⟩:=x; exact p.tup.lt
  | dK kvs=>obtain ⟨_,_,_,_,o,_,_,e,_⟩:=x; exact Heap.lt_size e
  | dT kvs=>obtain ⟨_,_,_,_,o,_,_,e,_⟩:=x; exact Heap.lt_size e
  | set S n=>obtain ⟨o,_,_,_,e,_⟩:=x; exact Heap.lt_size e
  | ins C dx fs=>obtain ⟨_,_,_,e,_⟩:=x; exact Heap.lt_size e
  | own y=>obtain ⟨_,e⟩:=x; exact Heap.lt_size e
  | xd fs=>obtain ⟨_,⟨_,_,_,e,_⟩,_⟩:=x; exact Heap.lt_size e
  | rng lo hi=>obtain ⟨_,_,_,e⟩:=x; exact Heap.lt_size e
  | frz ob u=>obtain ⟨e,_⟩:=x; exact Heap.lt_size e
  | tbl ps=>exact Heap.lt_size (show h.get? a = some _ from x)
  | met f y=>exact Heap.lt_size (show h.get? a = some _ from x)
  | ext φ=>obtain ⟨_,⟨_,e⟩,_⟩:=x; exact Heap.lt_size e
theorem Paired.mapP {α β:Type} {F G : α -> β -> Prop}:∀ {l₁:List α} {l₂:List β},Paired F l₁ l₂ -> (∀ a b,F a b -> G a b) -> Paired G l₁ l₂
  | _,_,.nil,_=>.nil
  | _,_,.cons r t,f=>.cons (f _ _ r) (Paired.mapP t f)
theorem ObjOk.stay (x:ObjOk P w H h a o) (k:∀ b u,(b = a \/ H b = some (.own a)) -> h.get? b = some u -> h'.get? b = some u)
    (ho:∀ b,H b = some (.own a) -> H' b = some (.own a)) (ht:∀ b xs,H b = some (.tup xs) -> H' b = some (.tup xs)):ObjOk P w H' h' a o:=by
  induction o with
  | lst xs=>obtain ⟨z,its,n,r,e⟩:=x; exact ⟨z,its,n,r,k _ _ (.inl rfl) e⟩
  | tup xs=>obtain ⟨z,its,r,ob,e,c⟩:=x; exact ⟨z,its,r,ob,k _ _ (.inl rfl) e,c⟩
  | dK kvs=>obtain ⟨z,y,vs,r,ob,es,ep,e,c⟩:=x; exact ⟨z,y,vs,r,ob,es,ep,k _ _ (.inl rfl) e,c⟩
  | dT kvs =>
    obtain ⟨z,y,xs,r,ob,es,ep,e,c⟩:=x
    exact ⟨z,y,xs,Paired.mapP r fun p q z=>⟨z.1,ht _ _ z.2.1,z.2.2⟩,ob,es,ep,k _ _ (.inl rfl) e,c⟩
  | set S n=>obtain ⟨ob,es,ep,t,e,c⟩:=x; exact ⟨ob,es,ep,t,k _ _ (.inl rfl) e,c⟩
  | ins C dx fs =>
    obtain ⟨d,z,ne,e,mA,⟨od,es,ep,e2,c⟩,r⟩:=x
    exact ⟨ho _ d,z,ne,k _ _ (.inl rfl) e,mA,⟨od,es,ep,k _ _ (.inr d) e2,c⟩,r⟩
  | own y=>obtain ⟨ob,e⟩:=x; exact ⟨ob,k _ _ (.inl rfl) e⟩
  | xd fs=>obtain ⟨mA,⟨od,es,ep,e,c⟩,r⟩:=x; exact ⟨mA,⟨od,es,ep,k _ _ (.inl rfl) e,c⟩,r⟩
  | rng lo hi=>obtain ⟨t,u,v,e⟩:=x; exact ⟨t,u,v,k _ _ (.inl rfl) e⟩
  | frz ob u ih=>obtain ⟨e,q⟩:=x; exact ⟨k _ _ (.inl rfl) e,ih q⟩
  | tbl ps =>
    have e:h.get? a = some { cls:=.none,data:=.fields ps }:=x
    show h'.get? a = some { cls:=.none,data:=.fields ps }
    exact k a _ (.inl rfl) e
  | met f y =>
    have e:h.get? a = some (W.methodObj (.ref f) (.ref y)):=x
    show h'.get? a = some (W.methodObj (.ref f) (.ref y))
    exact k a _ (.inl rfl) e
  | ext φ=>obtain ⟨p,⟨o,e⟩,st⟩:=x; exact ⟨st _ _ p fun o q=>k _ _ (.inl rfl) q,⟨o,k _ _ (.inl rfl) e⟩,st⟩
theorem HOk.lt (x:HOk P w H h) (e:H a = some o):a < h.objs.size:=(x a o e).lt
theorem HOk.fresh (x:HOk P w H h) (e:h.objs.size <= a):H a = none:=by
  cases q:H a with
  | none=>rfl
  | some u=>exact absurd (Nat.lt_of_lt_of_le (x.lt q) e) (Nat.lt_irrefl _)
theorem HOk.kept (x:HOk P w H h) (k:∀ b u,h.get? b = some u -> h'.get? b = some u):HOk P w H h':=fun a o e =>
  (x a o e).stay (fun b u _ q=>k b u q) (fun _ q=>q) fun _ _ q=>q
theorem HOk.laid (x:HOk P w H h) (k:∀ b u,h.get? b = some u -> h'.get? b = some u) (hp:h.objs.size <= a) (new:ObjOk P w (upd H a o) h' a o):HOk P w (upd H a o) h':=fun b u e=>by
  have hn:=x.fresh hp
  by_cases hb:b = a
  · subst hb; rw [upd_same] at e; cases e; exact new
  · rw [upd_ne hb] at e
    exact (x b u e).stay (fun c v _ q=>k c v q) (fun c q=>by rw [upd_ne (ne_of_none q hn)]; exact q) fun c xs q=>by rw [upd_ne (ne_of_none q hn)]; exact q
end

noncomputable def Rd (H:Hp) (a:Addr) (u:HO):Prop:=H a = some u \/ ∃ o,H a = some (.frz o u)
theorem Rd.ok {P:Program} {w:World} {H:Hp} {h:Heap} {a:Addr} {u:HO} (r:Rd H a u) (x:HOk P w H h):ObjOk P w H h a u:=by
  rcases r with r | ⟨o,r⟩
  · exact x a u r
  · obtain ⟨_,q⟩:=x a _ r
    exact q
noncomputable def Mut:Option HO -> Prop
  | some (.lst _)=>True
  | some (.dK _)=>True
  | some (.dT _)=>True
  | some (.set _ _)=>True
  | some (.ins _ _ _)=>True
  | some (.ext _)=>True
  | _=>False
section
variable {P:Program} {w:World} {H:Hp} {h h':Heap} {x e:Addr} {o':HO}
theorem HOk.write (ok:HOk P w H h) (mu:Mut (H x)) (he:e = x \/ H e = some (.own x)) (k:∀ b u,b ≠ e -> h.get? b = some u -> h'.get? b = some u) (heo:∃ u,h'.get? e = some u)
    (new:ObjOk P w (upd H x o') h' x o'):HOk P w (upd H x o') h':=fun b u q=>by
  have nown:∀ c y,H c = some (.own y) -> c ≠ x:=fun c y r z=>by subst z; rw [r] at mu; exact mu
  have ntup:∀ c xs,H c = some (.tup xs) -> c ≠ x:=fun c xs r z=>by subst z; rw [r] at mu; exact mu
  by_cases hb:b = x
  · subst hb; rw [upd_same] at q; cases q; exact new
  · rw [upd_ne hb] at q
    by_cases hbe:b = e
    · have q':H b = some (.own x):=by
        rcases he with z | z
        · exact absurd (hbe.trans z) hb
        · rw [hbe]; exact z
      rw [q] at q'; cases q'
      obtain ⟨v,hv⟩:=heo
      exact ⟨v,by rw [hbe]; exact hv⟩
    · refine (ok b u q).stay (fun c v hc r=>k c v ?_ r) (fun c r=>by rw [upd_ne (nown c b r)]; exact r) fun c xs r=>by rw [upd_ne (ntup c xs r)]; exact r
      rcases hc with rfl | hc
      · exact hbe
      · rintro rfl
        rcases he with z | z
        · exact nown c b hc z
        · rw [hc] at z; cases z; exact hb rfl
end

structure Un (fs ex:List Addr) (H H':Hp) (h h':Heap):Prop where
  keep:∀ b o,h.get? b = some o -> H b = none -> b ∉ fs -> b ∉ ex -> h'.get? b = some o
  slot:∀ b o,h.get? b = some o -> H b = none -> b ∈ fs -> b ∉ ex -> ∃ sl,h'.get? b = some { o with slots:=sl }
  free:∀ b o,h.get? b = some o -> H b = none -> b ∉ ex -> H' b = none
  there:∀ b o,h.get? b = some o -> b ∉ ex -> ∃ o',h'.get? b = some o'
  tups:∀ b xs,H b = some (.tup xs) -> H' b = some (.tup xs)
  frzs:∀ b o u,H b = some (.frz o u) -> H' b = some (.frz o u)
  tbls:∀ b ps,H b = some (.tbl ps) -> ∃ more,H' b = some (.tbl (ps ++ more))
section
variable {fs fs' ex ex':List Addr} {H H1 H2:Hp} {h h1 h2 h':Heap} {a x e:Addr} {o:HO}
theorem Un.any (u:Un fs ex H H1 h h1) {b:Addr} {ob:Obj} (q:h.get? b = some ob) (n:H b = none) (hx:b ∉ ex):∃ sl,h1.get? b = some { ob with slots:=sl }:=by
  by_cases hb:b ∈ fs
  · exact u.slot b ob q n hb hx
  · exact ⟨ob.slots,u.keep b ob q n hb hx⟩
theorem Un.kept (k:∀ b u,h.get? b = some u -> h'.get? b = some u):Un fs ex H H h h' :=
  ⟨fun b ob q _ _ _=>k b ob q,fun b ob q _ _ _=>⟨ob.slots,k b ob q⟩,fun _ _ _ n _=>n,fun b ob q _=>⟨ob,k b ob q⟩,fun _ _ q=>q,fun _ _ _ q=>q,fun _ ps q=>⟨#[],by rw [q]; simp⟩⟩
theorem Un.refl:Un fs ex H H h h:=Un.kept fun _ _ q=>q
theorem Un.laid (k:∀ b u,h.get? b = some u -> h'.get? b = some u) (hp:h.objs.size <= a) (hn:H a = none):Un fs ex H (upd H a o) h h' where
  keep:=fun b u q _ _ _=>k b u q
  slot:=fun b u q _ _ _=>⟨u.slots,k b u q⟩
  free:=fun b u q n _=>by rw [upd_ne (Nat.ne_of_lt (Nat.lt_of_lt_of_le (Heap.lt_size q) hp))]; exact n
  there:=fun b u q _=>⟨u,k b u q⟩
  tups:=fun b xs q=>by rw [upd_ne (ne_of_none q hn)]; exact q
  frzs:=fun b u xs q=>by rw [upd_ne (ne_of_none q hn)]; exact q
  tbls:=fun b ps q=>⟨#[],by rw [upd_ne (ne_of_none q hn),q]; simp⟩
theorem Un.write (mu:Mut (H x)) (he:e = x \/ H e = some (.own x)) (k:∀ b u,b ≠ e -> h.get? b = some u -> h'.get? b = some u) (heo:∃ u,h'.get? e = some u):Un fs ex H (upd H x o) h h':=by
  have hx:∀ b,H b = none -> b ≠ x:=fun b n z=>by subst z; rw [n] at mu; exact mu
  have hb:∀ b,H b = none -> b ≠ e:=fun b n z=>by
    subst z
    rcases he with r | r
    · exact hx b n r
    · rw [n] at r; cases r
  have hm:∀ b u,H b = some u -> ¬ Mut (some u) -> b ≠ x:=fun b u q nm z=>by subst z; rw [q] at mu; exact nm mu
  refine ⟨fun b u q n _ _=>k b u (hb b n) q,fun b u q n _ _=>⟨u.slots,k b u (hb b n) q⟩,fun b u q n _=>by rw [upd_ne (hx b n)]; exact n,fun b u q _=>?_,
    fun b xs q=>by rw [upd_ne (hm b _ q fun z=>z)]; exact q,fun b u xs q=>by rw [upd_ne (hm b _ q fun z=>z)]; exact q,fun b ps q=>⟨#[],by rw [upd_ne (hm b _ q fun z=>z),q]; simp⟩⟩
  by_cases hbe:b = e
  · subst hbe; exact heo
  · exact ⟨u,k b u hbe q⟩
end

noncomputable def trk (h:Heap) (H:Hp):List Addr:=(List.range h.objs.size).filter fun a=>(H a).isSome
noncomputable def hidT (h:Heap) (H:Hp):Heap:=W.hideAll h (trk h H)
theorem hidT_size (h:Heap) (H:Hp):(hidT h H).objs.size = h.objs.size:=W.hideAll_size _ _
theorem hidT_get {h:Heap} {H:Hp} {b:Addr} {o:Obj} (e:h.get? b = some o) (n:H b = none):(hidT h H).get? b = some o :=
  W.hideAll_get _ e fun hm=>by
    have q:(H b).isSome = true:=(List.mem_filter.mp hm).2
    rw [n] at q; simp at q
theorem of_hidT {h:Heap} {H:Hp} {b:Addr} {o:Obj} (e:(hidT h H).get? b = some o):h.get? b = some o /\ H b = none:=by
  have e':h.get? b = some o:=W.of_hideAll (trk h H) e
  refine ⟨e',?_⟩
  cases q:H b with
  | none=>rfl
  | some x =>
    have hm:b ∈ trk h H:=List.mem_filter.mpr ⟨List.mem_range.mpr (Heap.lt_size e'),by simp [q]⟩
    have z:(hidT h H).get? b = none:=W.hideAll_none (trk h H) hm
    rw [z] at e; cases e

noncomputable def allNews (g h:Heap) (L:Addr):List (Addr × Obj):=(List.range h.objs.size).filterMap fun a=>if a = L \/ (g.get? a).isSome = true then none else (h.get? a).map fun o=>(a,o)
noncomputable def rest (g h:Heap) (L d:Addr):List (Addr × Obj):=(allNews g h L).filter fun p=>decide (p.1 ≠ d)
end L2

namespace L2
open PySem PySem.Spec PyProof.Rows

structure Mod (K:W.Frag) (mg:Str -> Option Value) (base:Heap):Prop where
  kin:K.In base
  glob:base.Ns mainGlobals mg
  blt:∃ mb,base.Ns builtinsNs mb /\ ∀ x:Str,x ≠ "__name__" -> mb x = bootBuiltins x
  nolimit:base.NoLimit

structure Cx where
  prog:Program
  w:World
  K:W.Frag
  mg:Str -> Option Value
  base:Heap
  A:Around
  N:List Str
  s₀:Shared
  H₀:Hp
  env:Env
  outer:List Env
  stack:List Env
  ex:List Addr
  fn:Str -> Bool
  calm:Bool
  pn:List (Addr × Obj)
  xe:Value -> Shared -> Prop
noncomputable def frs (l:List Env):List Addr:=l.filterMap (·.frame)
abbrev Cx.fs (X:Cx):List Addr:=frs X.outer

noncomputable def Vis (sc:Scope) (x:Str):Prop:=sc.names.lookup x = some .local \/ sc.names.lookup x = some .cell \/ sc.names.lookup x = some .free
noncomputable def Loc (sc:Scope) (x:Str):Prop:=sc.names.lookup x = some .local \/ sc.names.lookup x = some .cell
noncomputable def Look (env:Env) (h:Heap) (m:Str -> Option Value) (x:Str) (u:Value):Prop :=
  (env.kindOf x = some .local /\ m x = some u) \/ ((env.kindOf x = some .cell \/ env.kindOf x = some .free) /\ ∃ c,env.cells.lookup x = some c /\ h.IsCell c (some u))

structure Cx.Ok (X:Cx):Prop where
  mod:Mod X.K X.mg X.base
  kind:X.env.scope.kind = .function
  glob:X.env.globals = mainGlobals
  blt:X.env.builtins = builtinsNs
  above:X.s₀.heap.objs.size <= X.env.locals
  inj:∀ x y c,X.env.cells.lookup x = some c -> X.env.cells.lookup y = some c -> x = y
  has:∀ x,(X.env.kindOf x = some .cell \/ X.env.kindOf x = some .free) -> ∃ c,X.env.cells.lookup x = some c
  cab:∀ x c,X.fn x = true -> X.env.cells.lookup x = some c -> X.s₀.heap.objs.size <= c
  hd:X.calm = true -> X.A.handled = none
  frames:X.A.frames = some X.stack
  stk:X.stack = X.outer \/ (X.stack = X.env :: X.outer /\ X.env.frame = some X.env.locals)
  exf:∀ b ∈ X.ex,b ≠ X.env.locals /\ ∀ x c,X.env.cells.lookup x = some c -> c ≠ b
  bs:∀ b o,X.base.get? b = some o -> X.s₀.heap.get? b = some o /\ X.H₀ b = none
  bsz:X.base.objs.size <= X.s₀.heap.objs.size
  noex:∀ b o,X.base.get? b = some o -> b ∉ X.ex
  exfs:∀ b ∈ X.ex,b ∉ X.fs
  funs:X.s₀.heap.FunFrames X.base X.outer
  frf:∀ b ∈ X.fs,X.H₀ b = none

structure Inv (X:Cx) (pins:List (Addr × Obj)) (σ:List (Option V)) (H:Hp) (s:Shared):Prop where
  ok:X.Ok
  os:s.os = X.s₀.os
  bare:AllBare s.gens
  base:Un X.fs X.ex X.H₀ H X.s₀.heap s.heap
  loc:∃ m,s.heap.Ns X.env.locals m /\ ∀ (i:Nat) (x:Str) (v:V),X.N[i]? = some x -> σ[i]? = some (some v) -> Vis X.env.scope x -> ∃ u,RelV v u /\ Look X.env s.heap m x u
  cell:∀ x c,X.env.cells.lookup x = some c -> ∃ v,s.heap.IsCell c v
  free:H X.env.locals = none
  freeC:∀ x c,X.env.cells.lookup x = some c -> H c = none
  pin:∀ p ∈ X.pn ++ pins,s.heap.get? p.1 = some p.2 /\ H p.1 = none /\ p.1 ≠ X.env.locals /\ p.1 ∉ X.fs /\ ∀ v,p.2.data ≠ .cell v
  hok:HOk X.prog X.w H s.heap
  len : σ.length = X.N.length

section
variable {X:Cx} {pins:List (Addr × Obj)} {σ:List (Option V)} {H H':Hp} {s:Shared} {h':Heap}

theorem Cx.Ok.nofr (ok:X.Ok) {b:Addr} {o:Obj} (e:X.base.get? b = some o):b ∉ X.fs:=fun hb=>by
  have:=(ok.funs.mem hb).1
  rw [e] at this; cases this
theorem Inv.bs (I:Inv X pins σ H s):∀ b o,X.base.get? b = some o -> s.heap.get? b = some o /\ H b = none:=fun b o e =>
  ⟨I.base.keep b o (I.ok.bs b o e).1 (I.ok.bs b o e).2 (I.ok.nofr e) (I.ok.noex b o e),I.base.free b o (I.ok.bs b o e).1 (I.ok.bs b o e).2 (I.ok.noex b o e)⟩
theorem Inv.bk (I:Inv X pins σ H s):∀ b o,X.base.get? b = some o -> s.heap.get? b = some o:=fun b o e=>(I.bs b o e).1
theorem Inv.mod (I:Inv X pins σ H s):Mod X.K X.mg X.base:=I.ok.mod
theorem Inv.kIn (I:Inv X pins σ H s):X.K.In s.heap:=I.ok.mod.kin.keeps I.bk
theorem Inv.fr (I:Inv X pins σ H s):∃ m,Fr X.base X.env.locals s.heap m :=
  let ⟨m,hn,_⟩:=I.loc
  ⟨m,hn,I.bk,Nat.le_trans I.ok.bsz I.ok.above⟩
theorem Inv.lt (I:Inv X pins σ H s):X.env.locals < s.heap.objs.size:=let ⟨_,hn,_⟩:=I.loc; hn.lt
theorem Inv.sz (I:Inv X pins σ H s):X.s₀.heap.objs.size <= s.heap.objs.size:=Nat.le_trans I.ok.above (Nat.le_of_lt I.lt)
theorem Inv.nofs (I:Inv X pins σ H s) {a:Addr} (h:s.heap.objs.size <= a):a ∉ X.fs:=fun hb=>by
  obtain ⟨_,o,ho,_⟩:=I.ok.funs.mem hb
  exact absurd (Nat.lt_of_lt_of_le (Heap.lt_size ho) (Nat.le_trans I.sz h)) (Nat.lt_irrefl _)
theorem Inv.cne (I:Inv X pins σ H s):∀ x c,X.env.cells.lookup x = some c -> c ≠ X.env.locals:=fun x c e z=>by
  obtain ⟨v,o,ho,hd⟩:=I.cell x c e
  obtain ⟨m,⟨o',es,ep,ho',hd',_⟩,_⟩:=I.loc
  rw [z,ho'] at ho; cases ho; rw [hd'] at hd; cases hd
theorem Inv.funs (I:Inv X pins σ H s):s.heap.FunFrames X.base X.outer:=by
  have all:∀ (l:List Env),(∀ b ∈ frs l,b ∈ X.fs) -> X.s₀.heap.FunFrames X.base l -> s.heap.FunFrames X.base l:=by
    intro l
    induction l with
    | nil=>intro _ _; trivial
    | cons env r ih =>
      intro hs hl
      obtain ⟨hk,⟨L,o,hf,hn,ho,hd⟩,hr⟩:=hl
      have hL:L ∈ X.fs:=hs L (by unfold frs; rw [List.filterMap_cons,hf]; exact List.mem_cons_self)
      obtain ⟨sl,e⟩:=I.base.slot L o ho (I.ok.frf L hL) hL fun z=>I.ok.exfs L z hL
      exact ⟨hk,⟨L,_,hf,hn,e,hd⟩,ih (fun b hb=>hs b (by unfold frs; rw [List.filterMap_cons,hf]; exact List.mem_cons_of_mem _ hb)) hr⟩
  exact all X.outer (fun _ hb=>hb) I.ok.funs

theorem Inv.stack (I:Inv X pins σ H s):s.heap.FunFrames X.base X.stack:=by
  rcases I.ok.stk with e | ⟨e,hf⟩
  · rw [e]; exact I.funs
  · rw [e]
    obtain ⟨m,hn,_⟩:=I.loc
    refine .cons (by rw [I.ok.kind]; decide) hf hn ?_ I.funs
    exact Heap.get?_none_of_le (Nat.le_trans I.ok.bsz I.ok.above)
theorem Inv.stkSub (I:Inv X pins σ H s):∀ b ∈ frs X.stack,b ∈ X.env.locals :: X.fs:=fun b hb=>by
  rcases I.ok.stk with e | ⟨e,hf⟩
  · rw [e] at hb; exact List.mem_cons_of_mem _ hb
  · rw [e] at hb
    unfold frs at hb
    rw [List.filterMap_cons,hf] at hb
    exact hb
theorem Inv.stkFree (I:Inv X pins σ H s):∀ b ∈ frs X.stack,H b = none:=fun b hb=>by
  rcases List.mem_cons.mp (I.stkSub b hb) with e | hb
  · rw [e]; exact I.free
  · obtain ⟨_,o,ho,_⟩:=I.ok.funs.mem hb
    exact I.base.free b o ho (I.ok.frf b hb) fun z=>I.ok.exfs b z hb

theorem Inv.step {g':Array GenState} {t':Nat} {d':Drawn} {ch:List Addr} (I:Inv X pins σ H s)
    (hch:∀ b ∈ ch,(b ∈ X.ex \/ X.s₀.heap.objs.size <= b) /\ b ≠ X.env.locals /\ (∀ x c,X.env.cells.lookup x = some c -> c ≠ b) /\ ∀ p ∈ X.pn ++ pins,p.1 ≠ b)
    (keep:∀ b o,b ≠ X.env.locals -> b ∉ X.fs -> b ∉ ch -> s.heap.get? b = some o -> H b = none -> h'.get? b = some o)
    (slot:∀ b o,b ≠ X.env.locals -> b ∈ X.fs -> b ∉ ch -> s.heap.get? b = some o -> H b = none -> ∃ sl,h'.get? b = some { o with slots:=sl }) (free:∀ b o,b ∉ ch -> s.heap.get? b = some o -> H b = none -> H' b = none)
    (there:∀ b o,b ∉ ch -> s.heap.get? b = some o -> ∃ o',h'.get? b = some o')
    (tups:∀ b xs,H b = some (.tup xs) -> H' b = some (.tup xs)) (frzs:∀ b o u,H b = some (.frz o u) -> H' b = some (.frz o u)) (tbls:∀ b ps,H b = some (.tbl ps) -> ∃ more,H' b = some (.tbl (ps ++ more)))
    (ns:∀ m,s.heap.Ns X.env.locals m -> h'.Ns X.env.locals m) (hok:HOk X.prog X.w H' h') (hg:AllBare g') :
    Inv X pins σ H' { s with heap:=h',gens:=g',drawn:=d',toks:=t' }:=by
  have neL:∀ b o,X.s₀.heap.get? b = some o -> b ≠ X.env.locals:=fun b o e=>Nat.ne_of_lt (Nat.lt_of_lt_of_le (Heap.lt_size e) I.ok.above)
  have neC:∀ b o,X.s₀.heap.get? b = some o -> b ∉ X.ex -> b ∉ ch:=fun b o e hx hb=>by
    rcases (hch b hb).1 with z | z
    · exact hx z
    · exact absurd (Nat.lt_of_lt_of_le (Heap.lt_size e) z) (Nat.lt_irrefl _)
  have cellK:∀ x c,X.env.cells.lookup x = some c -> ∀ v,s.heap.IsCell c v -> h'.IsCell c v:=fun x c e v ⟨o,ho,hd⟩=>by
    have nch:c ∉ ch:=fun z=>(hch c z).2.2.1 x c e rfl
    by_cases hc:c ∈ X.fs
    · obtain ⟨sl,q⟩:=slot c o (I.cne x c e) hc nch ho (I.freeC x c e)
      exact ⟨_,q,hd⟩
    · exact ⟨o,keep c o (I.cne x c e) hc nch ho (I.freeC x c e),hd⟩
  refine ⟨I.ok,I.os,hg,⟨fun b o e n hb hx=>?_,fun b o e n hb hx=>?_,fun b o e n hx=>?_,fun b o e hx=>?_,fun b xs e=>tups b xs (I.base.tups b xs e),fun b o xs e=>frzs b o xs (I.base.frzs b o xs e),fun b ps e=>?_⟩,?_,fun x c e=>?_,?_,fun x c e=>?_,fun p hp=>?_,hok,I.len⟩
  · exact keep b o (neL b o e) hb (neC b o e hx) (I.base.keep b o e n hb hx) (I.base.free b o e n hx)
  · obtain ⟨sl,e1⟩:=I.base.slot b o e n hb hx
    obtain ⟨sl',e2⟩:=slot b _ (neL b o e) hb (neC b o e hx) e1 (I.base.free b o e n hx)
    exact ⟨sl',e2⟩
  · obtain ⟨o',e1⟩:=I.base.there b o e hx
    exact free b o' (neC b o e hx) e1 (I.base.free b o e n hx)
  · obtain ⟨o',e1⟩:=I.base.there b o e hx
    exact there b o' (neC b o e hx) e1
  · obtain ⟨m1,e1⟩:=I.base.tbls b ps e
    obtain ⟨m2,e2⟩:=tbls b _ e1
    exact ⟨m1 ++ m2,by rw [e2,Array.append_assoc]⟩
  · obtain ⟨m,hn,hl⟩:=I.loc
    refine ⟨m,ns m hn,fun i x v e1 e2 e3=>?_⟩
    obtain ⟨u,r,l⟩:=hl i x v e1 e2 e3
    refine ⟨u,r,?_⟩
    rcases l with l | ⟨k,c,e,z⟩
    · exact .inl l
    · exact .inr ⟨k,c,e,cellK x c e _ z⟩
  · obtain ⟨v,z⟩:=I.cell x c e
    exact ⟨v,cellK x c e v z⟩
  · obtain ⟨m,⟨o,_,_,ho,_⟩,_⟩:=I.loc
    exact free _ o (fun z=>(hch _ z).2.1 rfl) ho I.free
  · obtain ⟨v,o,ho,hd⟩:=I.cell x c e
    exact free c o (fun z=>(hch c z).2.2.1 x c e rfl) ho (I.freeC x c e)
  · obtain ⟨e,n,ne,nf,d⟩:=I.pin p hp
    have nch:p.1 ∉ ch:=fun z=>(hch p.1 z).2.2.2 p hp rfl
    exact ⟨keep p.1 p.2 ne nf nch e n,free p.1 p.2 nch e n,ne,nf,d⟩
theorem Inv.un {t':Nat} (I:Inv X pins σ H s) (u:Un X.fs [] H H' s.heap h') (hok:HOk X.prog X.w H' h'):Inv X pins σ H' { s with heap:=h',toks:=t' }:=by
  obtain ⟨m,⟨o,es,ep,ho,r⟩,_⟩:=id I.loc
  obtain ⟨sl,hL⟩:=u.any ho I.free (by simp)
  exact I.step (g':=s.gens) (d':=s.drawn) (ch:=[]) (fun _ z=>nomatch z) (fun b o _ hb _ e n=>u.keep b o e n hb (by simp)) (fun b o _ hb _ e n=>u.slot b o e n hb (by simp)) (fun b o _ e n=>u.free b o e n (by simp)) (fun b o _ e=>u.there b o e (by simp)) u.tups u.frzs u.tbls (fun m' hm=>by
    obtain ⟨o',es',ep',ho',r'⟩:=hm
    rw [ho] at ho'; cases ho'
    exact ⟨_,es',ep',hL,r'⟩) hok I.bare
theorem Inv.call {g':Array GenState} {t':Nat} {d':Drawn} {ch:List Addr} (I:Inv X pins σ H s) (u:Un (frs X.stack) ch H H' s.heap h') (hok:HOk X.prog X.w H' h') (hg:AllBare g')
    (hch:∀ b ∈ ch,(b ∈ X.ex \/ X.s₀.heap.objs.size <= b) /\ b ≠ X.env.locals /\ (∀ x c,X.env.cells.lookup x = some c -> c ≠ b) /\ ∀ p ∈ X.pn ++ pins,p.1 ≠ b) :
    Inv X pins σ H' { s with heap:=h',gens:=g',drawn:=d',toks:=t' }:=by
  obtain ⟨m,⟨o,es,ep,ho,r⟩,_⟩:=id I.loc
  obtain ⟨sl,hL⟩:=u.any ho I.free fun z=>(hch _ z).2.1 rfl
  exact I.step (ch:=ch) hch (fun b o hL hb hc e n=>u.keep b o e n (fun z=>(List.mem_cons.mp (I.stkSub b z)).elim hL hb) hc) (fun b o _ _ hc e n=>u.any e n hc) (fun b o hc e n=>u.free b o e n hc) (fun b o hc e=>u.there b o e hc) u.tups u.frzs u.tbls (fun m' hm=>by
    obtain ⟨o',es',ep',ho',r'⟩:=hm
    rw [ho] at ho'; cases ho'
    exact ⟨_,es',ep',hL,r'⟩) hok hg
theorem Inv.turned {t':Nat} {it:Addr} (I:Inv X pins σ H s) (k:∀ b o,b ≠ it -> s.heap.get? b = some o -> h'.get? b = some o) (hn:H it = none) (hL:it ≠ X.env.locals)
    (h1:it ∈ X.ex \/ X.s₀.heap.objs.size <= it) (h2:∀ x c,X.env.cells.lookup x = some c -> c ≠ it) (h3:∀ p ∈ X.pn ++ pins,p.1 ≠ it):Inv X pins σ H { s with heap:=h',toks:=t' }:=by
  have nit:∀ b u,H b = some u -> b ≠ it:=fun b u e z=>by rw [z,hn] at e; cases e
  refine I.step (g':=s.gens) (d':=s.drawn) (ch:=[it]) (fun b hb=>?_) (fun b o _ _ hc e _=>k b o (fun z=>hc (by simp [z])) e) (fun b o _ _ hc e _=>⟨o.slots,k b o (fun z=>hc (by simp [z])) e⟩) (fun _ _ _ _ n=>n)
    (fun b o hc e=>⟨o,k b o (fun z=>hc (by simp [z])) e⟩) (fun _ _ e=>e) (fun _ _ _ e=>e) (fun b ps e=>⟨#[],by rw [e]; simp⟩) (fun m hm=>?_) (fun b u e=>?_) I.bare
  · have e:b = it:=by simpa using hb
    subst e
    exact ⟨h1,hL,h2,h3⟩
  · obtain ⟨o,es,ep,ho,r⟩:=hm
    exact ⟨o,es,ep,k _ o (Ne.symm hL) ho,r⟩
  · refine (I.hok b u e).stay (fun c v hc q=>k c v ?_ q) (fun _ q=>q) fun _ _ q=>q
    rcases hc with z | z
    · rw [z]; exact nit b u e
    · exact nit c _ z
theorem Inv.tok (I:Inv X pins σ H s) (t:Nat):Inv X pins σ H { s with toks:=t }:=I.un (h':=s.heap) (t':=t) Un.refl I.hok
theorem Inv.kept {t':Nat} (I:Inv X pins σ H s) (k:∀ b u,s.heap.get? b = some u -> h'.get? b = some u):Inv X pins σ H { s with heap:=h',toks:=t' }:=I.un (Un.kept k) (I.hok.kept k)
theorem Inv.laid {a:Addr} {o:HO} {t':Nat} (I:Inv X pins σ H s) (k:∀ b u,s.heap.get? b = some u -> h'.get? b = some u) (hp:s.heap.objs.size <= a) (new:ObjOk X.prog X.w (upd H a o) h' a o) :
    Inv X pins σ (upd H a o) { s with heap:=h',toks:=t' }:=I.un (Un.laid k hp (I.hok.fresh hp)) (I.hok.laid k hp new)
theorem Inv.write {x e:Addr} {o:HO} {t':Nat} (I:Inv X pins σ H s) (mu:Mut (H x)) (he:e = x \/ H e = some (.own x)) (k:∀ b u,b ≠ e -> s.heap.get? b = some u -> h'.get? b = some u) (heo:∃ u,h'.get? e = some u)
    (new:ObjOk X.prog X.w (upd H x o) h' x o):Inv X pins σ (upd H x o) { s with heap:=h',toks:=t' }:=I.un (Un.write mu he k heo) (I.hok.write mu he k heo new)
theorem Inv.weak {σ':List (Option V)} (I:Inv X pins σ H s) (hl : σ'.length = σ.length) (w:∀ (i:Nat) v,σ'[i]? = some (some v) -> σ[i]? = some (some v)):Inv X pins σ' H s :=
  ⟨I.ok,I.os,I.bare,I.base,let ⟨m,hn,hl'⟩:=I.loc; ⟨m,hn,fun i x v e1 e2 e3=>hl' i x v e1 (w i v e2) e3⟩,I.cell,I.free,I.freeC,I.pin,I.hok,hl.trans I.len⟩
theorem Inv.pins_of {pins':List (Addr × Obj)} (I:Inv X pins σ H s) (h:∀ p ∈ pins',s.heap.get? p.1 = some p.2 /\ H p.1 = none /\ p.1 ≠ X.env.locals /\ p.1 ∉ X.fs /\ ∀ v,p.2.data ≠ .cell v):Inv X pins' σ H s :=
  ⟨I.ok,I.os,I.bare,I.base,I.loc,I.cell,I.free,I.freeC,fun p hp=>(List.mem_append.mp hp).elim (fun z=>I.pin p (List.mem_append_left _ z)) (h p),I.hok,I.len⟩

theorem nodup_ix {N:List Str} (hN:N.Nodup) {i j:Nat} {x:Str} (a:N[i]? = some x) (b:N[j]? = some x):i = j:=by
  obtain ⟨h1,e1⟩:=List.getElem?_eq_some_iff.mp a
  obtain ⟨h2,e2⟩:=List.getElem?_eq_some_iff.mp b
  exact (List.getElem_inj hN).mp (e1.trans e2.symm)

theorem store_ok2 {M:Model} {A:Around} {E:Value -> Shared -> Prop} {i:Nat} {x:Str} {v:V} {u:Value} {Q:Unit -> Shared -> Prop} (I:Inv X pins σ H s) (hN:X.N.Nodup) (hi:X.N[i]? = some x) (hx:Loc X.env.scope x) (r:RelV v u)
    (h:∀ s',Inv X pins (σ.set i (some v)) H s' -> (∃ a,Heap.SameBut a s.heap s'.heap /\ (a = X.env.locals \/ X.env.cells.lookup x = some a)) -> Q () s') (hf:X.fn x = true \/ X.env.scope.names.lookup x = some .local:=by first | exact .inl rfl | exact .inr rfl | assumption):wpAny M A (storeName X.env x u) Q E s:=by
  obtain ⟨m,hn,hl⟩:=id I.loc
  have hcls:(X.env.scope.kind == .class || (X.env.scope.kind == .module && X.env.locals != X.env.globals)) = false:=by rw [I.ok.kind]; rfl
  have hiσ:i < σ.length:=by rw [I.len]; exact (List.getElem?_eq_some_iff.mp hi).1
  have cne:=I.cne
  have tracked:∀ {a:Addr} {h':Heap},(∃ o,s.heap.get? a = some o /\ H a = none) -> Heap.SameBut a s.heap h' -> HOk X.prog X.w H h':=fun {a h'} ha hs b ob e=>by
    obtain ⟨_,_,hfree⟩:=ha
    refine (I.hok b ob e).stay (fun c w' hc q=>(hs.2 c ?_).trans q) (fun _ q=>q) fun _ _ q=>q
    rintro rfl
    rcases hc with rfl | hc
    · rw [hfree] at e; cases e
    · rw [hfree] at hc; cases hc
  rcases hx with hk | hk
  · refine wpAny_storeName_local hk hn (fun h' hn' hs=>?_) hcls
    obtain ⟨oL,_,_,hoL,_⟩:=id hn
    refine h _ ⟨I.ok,I.os,I.bare,⟨fun b o e n hb hx=>?_,fun b o e n hb hx=>?_,I.base.free,fun b o e hx=>?_,I.base.tups,I.base.frzs,I.base.tbls⟩,⟨_,hn',fun j y v' e1 e2 e3=>?_⟩,fun y c e=>?_,I.free,I.freeC,fun p hp=>?_,tracked ⟨oL,hoL,I.free⟩ hs,by simpa using I.len⟩ ⟨_,hs,.inl rfl⟩
    · exact (hs.2 b (Nat.ne_of_lt (Nat.lt_of_lt_of_le (Heap.lt_size e) I.ok.above))).trans (I.base.keep b o e n hb hx)
    · obtain ⟨sl,e1⟩:=I.base.slot b o e n hb hx
      exact ⟨sl,(hs.2 b (Nat.ne_of_lt (Nat.lt_of_lt_of_le (Heap.lt_size e) I.ok.above))).trans e1⟩
    · obtain ⟨o',e1⟩:=I.base.there b o e hx
      exact ⟨o',(hs.2 b (Nat.ne_of_lt (Nat.lt_of_lt_of_le (Heap.lt_size e) I.ok.above))).trans e1⟩
    · by_cases hj:j = i
      · subst hj
        rw [hi] at e1; cases e1
        rw [List.getElem?_set_self hiσ] at e2
        cases e2
        exact ⟨u,r,.inl ⟨hk,by simp⟩⟩
      · rw [List.getElem?_set_ne (Ne.symm hj)] at e2
        obtain ⟨u',r',q⟩:=hl j y v' e1 e2 e3
        refine ⟨u',r',?_⟩
        rcases q with ⟨k,e⟩ | ⟨k,c,e,z⟩
        · refine .inl ⟨k,?_⟩
          have:y ≠ x:=fun e=>hj (nodup_ix hN e1 (e ▸ hi))
          simp [this,e]
        · exact .inr ⟨k,c,e,z.sameBut hs (cne y c e)⟩
    · obtain ⟨w',z⟩:=I.cell y c e
      exact ⟨w',z.sameBut hs (cne y c e)⟩
    · obtain ⟨e,n,ne,nf,d⟩:=I.pin p hp
      exact ⟨(hs.2 p.1 ne).trans e,n,ne,nf,d⟩
  · have hfn:X.fn x = true:=by
      rcases hf with z | z
      · exact z
      · rw [z] at hk; cases hk
    obtain ⟨c,hc⟩:=I.ok.has x (.inl hk)
    obtain ⟨w',z⟩:=I.cell x c hc
    refine wpAny_storeName_cell I.ok.kind hk hc z (fun h' hc' hs=>?_)
    obtain ⟨oc,hoc,hocd⟩:=id z
    refine h { s with heap:=h' } ⟨I.ok,I.os,I.bare,⟨fun b o e n hb hx=>?_,fun b o e n hb hx=>?_,I.base.free,fun b o e hx=>?_,I.base.tups,I.base.frzs,I.base.tbls⟩,⟨m,hn.sameBut hs (Ne.symm (cne x c hc)),fun j y v' e1 e2 e3=>?_⟩,fun y c' e=>?_,I.free,I.freeC,fun p hp=>?_,tracked ⟨oc,hoc,I.freeC x c hc⟩ hs,by simpa using I.len⟩ ⟨c,hs,.inr hc⟩
    · exact (hs.2 b (Nat.ne_of_lt (Nat.lt_of_lt_of_le (Heap.lt_size e) (I.ok.cab x c hfn hc)))).trans (I.base.keep b o e n hb hx)
    · obtain ⟨sl,e1⟩:=I.base.slot b o e n hb hx
      exact ⟨sl,(hs.2 b (Nat.ne_of_lt (Nat.lt_of_lt_of_le (Heap.lt_size e) (I.ok.cab x c hfn hc)))).trans e1⟩
    · obtain ⟨o',e1⟩:=I.base.there b o e hx
      exact ⟨o',(hs.2 b (Nat.ne_of_lt (Nat.lt_of_lt_of_le (Heap.lt_size e) (I.ok.cab x c hfn hc)))).trans e1⟩
    · by_cases hj:j = i
      · subst hj
        rw [hi] at e1; cases e1
        rw [List.getElem?_set_self hiσ] at e2
        cases e2
        exact ⟨u,r,.inr ⟨.inl hk,c,hc,hc'⟩⟩
      · rw [List.getElem?_set_ne (Ne.symm hj)] at e2
        obtain ⟨u',r',q⟩:=hl j y v' e1 e2 e3
        refine ⟨u',r',?_⟩
        rcases q with q | ⟨k,c',e,z'⟩
        · exact .inl q
        · refine .inr ⟨k,c',e,z'.sameBut hs ?_⟩
          rintro rfl
          exact hj (nodup_ix hN e1 (I.ok.inj _ _ _ e hc ▸ hi))
    · by_cases hcc:c' = c
      · subst hcc; exact ⟨_,hc'⟩
      · obtain ⟨w2,z2⟩:=I.cell y c' e
        exact ⟨w2,z2.sameBut hs hcc⟩
    · obtain ⟨e,n,ne,nf,d⟩:=I.pin p hp
      refine ⟨(hs.2 p.1 ?_).trans e,n,ne,nf,d⟩
      intro q
      rw [q,hoc] at e
      have q':oc = p.2:=Option.some.inj e
      exact d w' (by rw [<- q']; exact hocd)
theorem store_ok {M:Model} {A:Around} {E:Value -> Shared -> Prop} {i:Nat} {x:Str} {v:V} {u:Value} {Q:Unit -> Shared -> Prop} (I:Inv X pins σ H s) (hN:X.N.Nodup) (hi:X.N[i]? = some x) (hx:Loc X.env.scope x) (r:RelV v u)
    (h:∀ s',Inv X pins (σ.set i (some v)) H s' -> Q () s') (hf:X.fn x = true \/ X.env.scope.names.lookup x = some .local:=by first | exact .inl rfl | exact .inr rfl | assumption):wpAny M A (storeName X.env x u) Q E s :=
  store_ok2 I hN hi hx r (fun s' I' _=>h s' I') hf
theorem Inv.call' {s':Shared} {ch:List Addr} (I:Inv X pins σ H s) (ho:s'.os = s.os) (u:Un (frs X.stack) ch H H' s.heap s'.heap) (hok:HOk X.prog X.w H' s'.heap) (hg:AllBare s'.gens)
    (hch:∀ b ∈ ch,(b ∈ X.ex \/ X.s₀.heap.objs.size <= b) /\ b ≠ X.env.locals /\ (∀ x c,X.env.cells.lookup x = some c -> c ≠ b) /\ ∀ p ∈ X.pn ++ pins,p.1 ≠ b):Inv X pins σ H' s':=by
  obtain ⟨h',g',d',t',o'⟩:=s'
  have e:o' = s.os:=ho
  subst e
  exact I.call (g':=g') (t':=t') (d':=d') u hok hg hch
end

abbrev XK:=Value -> Option Addr -> Hp -> Prop
abbrev St:=List (Option V)
abbrev VK:=V -> Hp -> Prop
abbrev TE:=St -> Hp -> VK -> Prop
abbrev TT:=St -> Hp -> (Bool -> Hp -> Prop) -> Prop
abbrev TA:=St -> Hp -> (List V -> Hp -> Prop) -> Prop
structure Ends where
  nx:St -> Hp -> Prop
  rt:VK
  bk:St -> Hp -> Prop:=fun _ _=>False
  ct:St -> Hp -> Prop:=fun _ _=>False
abbrev TS:=Ends -> St -> Hp -> Prop

noncomputable def EP (X:Cx) (pins:List (Addr × Obj)) (σ:St) (Q:VK) (u:Value) (s':Shared):Prop:=∃ v H',Inv X pins σ H' s' /\ RelV v u /\ Q v H'
noncomputable def TP (X:Cx) (pins:List (Addr × Obj)) (σ:St) (Q:Bool -> Hp -> Prop) (b:Bool) (s':Shared):Prop:=∃ H',Inv X pins σ H' s' /\ Q b H'
noncomputable def AP (X:Cx) (pins:List (Addr × Obj)) (σ:St) (Q:List V -> Hp -> Prop) (us:List Value) (s':Shared):Prop:=∃ vs H',Inv X pins σ H' s' /\ Vals vs us /\ Q vs H'
noncomputable def SP (X:Cx) (pins:List (Addr × Obj)) (D:Ends) (f:Flow) (s':Shared):Prop :=
  match f with
  | .next=>∃ σ' H',Inv X pins σ' H' s' /\ D.nx σ' H'
  | .brk=>∃ σ' H',Inv X pins σ' H' s' /\ D.bk σ' H'
  | .cont=>∃ σ' H',Inv X pins σ' H' s' /\ D.ct σ' H'
  | .ret u=>∃ v σ' H',Inv X pins σ' H' s' /\ RelV v u /\ D.rt v H'

noncomputable def PE (X:Cx) (e:Expr) (t:TE):Prop :=
  ∀ (pins:List (Addr × Obj)) (s:Shared) (σ:St) (H:Hp) (Q:VK),Inv X pins σ H s -> t σ H Q -> wpAny (model X.prog X.w) X.A (eval e X.env) (EP X pins σ Q) X.xe s
noncomputable def PT (X:Cx) (e:Expr) (t:TT):Prop :=
  ∀ (pins:List (Addr × Obj)) (s:Shared) (σ:St) (H:Hp) (Q:Bool -> Hp -> Prop),Inv X pins σ H s -> t σ H Q -> wpAny (model X.prog X.w) X.A (isTrue e X.env (eval e X.env)) (TP X pins σ Q) X.xe s
noncomputable def PW (X:Cx) (e:Expr) (t:TT):Prop :=
  ∀ (whole:Sem Value) (pins:List (Addr × Obj)) (s:Shared) (σ:St) (H:Hp) (Q:Bool -> Hp -> Prop),Inv X pins σ H s -> t σ H Q -> wpAny (model X.prog X.w) X.A (isTrue e X.env whole) (TP X pins σ Q) X.xe s
theorem PW.pt {X:Cx} {e:Expr} {t:TT} (h:PW X e t):PT X e t:=h _
noncomputable def PA (X:Cx) (es:List Expr) (t:TA):Prop :=
  ∀ (pos:Pos) (pins:List (Addr × Obj)) (s:Shared) (σ:St) (H:Hp) (Q:List V -> Hp -> Prop),Inv X pins σ H s -> t σ H Q -> wpAny (model X.prog X.w) X.A (spliced (backTo pos (starEach es X.env))) (AP X pins σ Q) X.xe s
noncomputable def PS (X:Cx) (st:Stmt) (t:TS):Prop :=
  ∀ (pins:List (Addr × Obj)) (s:Shared) (σ:St) (H:Hp) (D:Ends),Inv X pins σ H s -> t D σ H -> wpAny (model X.prog X.w) X.A (exec st X.env) (SP X pins D) X.xe s
noncomputable def PSs (X:Cx) (st:List Stmt) (t:TS):Prop :=
  ∀ (pins:List (Addr × Obj)) (s:Shared) (σ:St) (H:Hp) (D:Ends),Inv X pins σ H s -> t D σ H -> wpAny (model X.prog X.w) X.A (execs st X.env) (SP X pins D) X.xe s
theorem thn {α:Type} {t:Sem α} {Q Q' : α -> Shared -> Prop} {M:Model} {A:Around} {E:Value -> Shared -> Prop} {s:Shared} (h:wpAny M A t Q E s) (hQ:∀ a s,Q a s -> Q' a s):wpAny M A t Q' E s:=wpAny_mono h hQ fun _ _ x=>x
end L2

namespace L2
open PySem PySem.Spec PyProof.Rows
section
variable {X:Cx}

noncomputable def tVar (i:Nat):TE:=fun σ H Q=>∃ v,σ[i]? = some (some v) /\ Q v H
noncomputable def tC (v:V):TE:=fun _ H Q=>Q v H
theorem pe_var {i:Nat} {x:Str} {pos:Pos} (hN:X.N[i]? = some x) (hv:Vis X.env.scope x) (hd:(x == ("__debug__" : Str)) = false:=by decide) (hcd:(x == ("__classdict__" : Str)) = false:=by decide):PE X (.Name x pos) (tVar i):=by
  intro pins s σ H Q I h
  obtain ⟨v,e,h⟩:=h
  obtain ⟨m,hn,hl⟩:=I.loc
  obtain ⟨u,r,l⟩:=hl i x v hN e hv
  have fin:EP X pins σ Q u s:=⟨v,H,I,r,h⟩
  rcases l with ⟨hk,hm⟩ | ⟨hk,c,hc,hcell⟩
  · exact wpAny_Name (wpAny_loadName_local I.ok.kind hk hn hm fin) hd
  · rcases hk with hk | hk
    · exact wpAny_Name (wpAny_loadName_cell I.ok.kind hk hc hcell fin) hd
    · exact wpAny_Name (wpAny_loadName_free I.ok.kind hk hc hcell fin hcd) hd
theorem pe_int {i j pos}:PE X (.Constant (.int i) j pos) (tC (.int i)):=fun _ _ _ H _ I h=>wpAny_Constant_int ⟨.int i,H,I.tok _,⟨_,rfl⟩,h⟩
theorem pe_bl {b j pos}:PE X (.Constant (.bool b) j pos) (tC (.bl b)):=fun _ _ _ H _ I h=>Constant_bool ⟨.bl b,H,I,rfl,h⟩
theorem pe_non {j pos}:PE X (.Constant .none j pos) (tC .non):=fun _ _ _ H _ I h=>Constant_none ⟨.non,H,I,rfl,h⟩
theorem pe_str {x j pos}:PE X (.Constant (.str x) j pos) (tC (.str x)):=fun _ _ _ H _ I h=>Calls.Constant_str ⟨.str x,H,I.tok _,⟨_,rfl⟩,h⟩

noncomputable def Gl (X:Cx) (x:Str):Prop:=X.env.kindOf x = some .globalImplicit
theorem ld_glob {E:Value -> Shared -> Prop} {pins:List (Addr × Obj)} {s:Shared} {σ:St} {H:Hp} {x:Str} {u:Value} {pos:Pos} {Q:Value -> Shared -> Prop} (I:Inv X pins σ H s) (hg:Gl X x) (hm:X.mg x = some u) (h:Q u s)
    (hd:(x == ("__debug__" : Str)) = false:=by decide):wpAny (model X.prog X.w) X.A (eval (.Name x pos) X.env) Q E s :=
  Calls.Name_function_global I.ok.kind hg (Calls.loadGlobal_global (by rw [I.ok.glob]; exact I.mod.glob.keeps I.bk) hm h) hd
theorem ld_blt {E:Value -> Shared -> Prop} {pins:List (Addr × Obj)} {s:Shared} {σ:St} {H:Hp} {x:Str} {u:Value} {pos:Pos} {Q:Value -> Shared -> Prop} (I:Inv X pins σ H s) (hg:Gl X x) (hm:X.mg x = none) (hv:bootBuiltins x = some u) (h:Q u s)
    (hn:x ≠ "__name__" := by decide) (hd:(x == ("__debug__" : Str)) = false:=by decide):wpAny (model X.prog X.w) X.A (eval (.Name x pos) X.env) Q E s:=by
  obtain ⟨mb,h1,h2⟩:=I.mod.blt
  exact Calls.Name_function_global I.ok.kind hg (Calls.loadGlobal_builtin (by rw [I.ok.glob]; exact I.mod.glob.keeps I.bk) hm (by rw [I.ok.blt]; exact h1.keeps I.bk) ((h2 x hn).trans hv) h) hd
theorem pe_glob {x:Str} {v:V} {u:Value} {pos:Pos} (hg:Gl X x) (hm:X.mg x = some u) (r:RelV v u) (hd:(x == ("__debug__" : Str)) = false:=by decide):PE X (.Name x pos) (tC v) :=
  fun _ _ _ H _ I h=>ld_glob I hg hm ⟨v,H,I,r,h⟩ hd
theorem pe_bltn {x:Str} {v:V} {u:Value} {pos:Pos} (hg:Gl X x) (hm:X.mg x = none) (hv:bootBuiltins x = some u) (r:RelV v u) (hn:x ≠ "__name__" := by decide) (hd:(x == ("__debug__" : Str)) = false:=by decide):PE X (.Name x pos) (tC v) :=
  fun _ _ _ H _ I h=>ld_blt I hg hm hv ⟨v,H,I,r,h⟩ hn hd

variable {a b:Expr} {ta tb:TE} {pos:Pos}
noncomputable def tB (t:TE):TT:=fun σ H Q=>t σ H fun x H1=>∃ c,x = .bl c /\ Q c H1
theorem pt_val {e:Expr} {t:TE} (h:PE X e t) (he:∀ whole,isTrue e X.env whole = (do let v <- whole; standAt e.pos; holding [v] (truthy v)):=by intro _; rfl):PT X e (tB t):=by
  intro pins s σ H Q I hw
  refine isTrue_plain (thn (h pins s σ H _ I hw) fun v s1 ⟨x,H1,I1,r1,q1⟩=>?_) (he _)
  obtain ⟨d,rfl,q⟩:=q1
  cases r1
  exact wpAny_truthy_bool ⟨H1,I1,q⟩

variable {tA tB':TT} {rest:List Expr}
noncomputable def tAnd (t u:TT):TT:=fun σ H Q=>t σ H fun c H1=>if c = true then u σ H1 Q else Q false H1
noncomputable def tOr (t u:TT):TT:=fun σ H Q=>t σ H fun c H1=>if c = true then Q true H1 else u σ H1 Q
noncomputable def tNot (t:TT):TT:=fun σ H Q=>t σ H fun c H1=>Q (!c) H1
theorem pw_and1 (ha:PT X a tA):PW X (.BoolOp .And [a] pos) tA:=by
  intro wh pins s σ H Q I h
  refine isTrue_and (thn (ha pins s σ H Q I h) fun c s1 e=>?_)
  cases c with
  | true=>exact isTrue_and_nil e
  | false=>exact e
theorem pw_or1 (ha:PT X a tA):PW X (.BoolOp .Or [a] pos) tA:=by
  intro wh pins s σ H Q I h
  refine isTrue_or (thn (ha pins s σ H Q I h) fun c s1 e=>?_)
  cases c with
  | false=>exact isTrue_or_nil e
  | true=>exact e
theorem pw_and (ha:PT X a tA) (hb:PW X (.BoolOp .And (b :: rest) pos) tB'):PW X (.BoolOp .And (a :: b :: rest) pos) (tAnd tA tB'):=by
  intro wh pins s σ H Q I h
  refine isTrue_and (thn (ha pins s σ H _ I h) fun c s1 ⟨H1,I1,q1⟩=>?_)
  cases c with
  | true=>exact hb wh pins s1 σ H1 Q I1 q1
  | false=>exact ⟨H1,I1,q1⟩
theorem pw_or (ha:PT X a tA) (hb:PW X (.BoolOp .Or (b :: rest) pos) tB'):PW X (.BoolOp .Or (a :: b :: rest) pos) (tOr tA tB'):=by
  intro wh pins s σ H Q I h
  refine isTrue_or (thn (ha pins s σ H _ I h) fun c s1 ⟨H1,I1,q1⟩=>?_)
  cases c with
  | true=>exact ⟨H1,I1,q1⟩
  | false=>exact hb wh pins s1 σ H1 Q I1 q1
theorem pt_not (ha:PT X a tA):PT X (.UnaryOp .Not a pos) (tNot tA):=by
  intro pins s σ H Q I h
  exact isTrue_not (ha pins s σ H (fun c H1=>Q (!c) H1) I h)
noncomputable def tIf (t:TT) (ta tb:TE):TE:=fun σ H Q=>t σ H fun c H1=>if c = true then ta σ H1 Q else tb σ H1 Q
theorem pe_ifExp {c:Expr} (hc:PT X c tA) (ha:PE X a ta) (hb:PE X b tb):PE X (.IfExp c a b pos) (tIf tA ta tb):=by
  intro pins s σ H Q I h
  refine wpAny_IfExp (thn (hc pins s σ H _ I h) fun d s1 ⟨H1,I1,q1⟩=>?_)
  cases d with
  | true=>exact ha pins s1 σ H1 Q I1 q1
  | false=>exact hb pins s1 σ H1 Q I1 q1
end
end L2

namespace L2
open PySem PySem.Spec PyProof.Rows

noncomputable def SqL (K:W.Frag) (H:Hp) (a:Addr) (xs:List V):Prop :=
  Rd H a (.lst xs) \/
    ∃ (o:Obj) (its:Array Value) (n:Nat),K.lookup a = some o /\ o.cls = .type "list" /\ o.dict = none /\ o.data = .seq its n /\ its.size <= sizeLine /\ Vals xs its.toList
noncomputable def SqT (K:W.Frag) (H:Hp) (a:Addr) (xs:List V):Prop :=
  Rd H a (.tup xs) \/
    ∃ (o:Obj) (its:Array Value) (n:Nat),K.lookup a = some o /\ o.cls = .type "tuple" /\ o.data = .seq its n /\ its.size <= sizeLine /\ Vals xs its.toList /\ o.dict = none
noncomputable def absV:Value -> Option V
  | .none=>some .non
  | .bool b=>some (.bl b)
  | .int i _=>some (.int i)
  | .str x _=>some (.str x)
  | .bytes b _=>some (.byt b)
  | .float b _=>some (.flt b)
  | .ref a=>some (.ref a)
  | .type n=>some (.ty n)
  | _=>none
theorem RelV.abs {x:V} {u:Value} (r:RelV x u):absV u = some x:=by
  cases x with
  | non=>cases r; rfl
  | bl _=>cases r; rfl
  | int _=>obtain ⟨t,rfl⟩:=r; rfl
  | str _=>obtain ⟨t,rfl⟩:=r; rfl
  | byt _=>obtain ⟨t,rfl⟩:=r; rfl
  | flt _=>obtain ⟨t,rfl⟩:=r; rfl
  | ref _=>cases r; rfl
  | ty _=>cases r; rfl
theorem RelV.inj {x y:V} {u:Value} (r:RelV x u) (q:RelV y u):x = y:=Option.some.inj (r.abs.symm.trans q.abs)
theorem Vals.inj:∀ {xs ys:List V} {us:List Value},Vals xs us -> Vals ys us -> xs = ys
  | _,_,_,.nil,.nil=>rfl
  | _,_,_,.cons r t,.cons r' t'=>by rw [r.inj r',Vals.inj t t']
section
variable {X:Cx} {pins:List (Addr × Obj)} {σ:St} {H:Hp} {s:Shared} {a:Addr} {xs ys:List V}
theorem Inv.list (I:Inv X pins σ H s) (h:SqL X.K H a xs):∃ its:List Value,Vals xs its /\ PlainL s.heap a its.toArray /\ xs.length <= sizeLine:=by
  rcases h with h | ⟨o,its,n,hk,hc,hd,hs,hz,r⟩
  · obtain ⟨z,its,n,r,e⟩:=h.ok I.hok
    exact ⟨its,r,⟨_,n,e,rfl,rfl,rfl⟩,z⟩
  · refine ⟨its.toList,r,⟨o,n,I.kIn a o hk,hc,hd,by simpa using hs⟩,?_⟩
    have e:=r.length
    simp only [Array.length_toList] at e
    omega
theorem Inv.tuple (I:Inv X pins σ H s) (h:SqT X.K H a xs):∃ its:List Value,Vals xs its /\ IsTup s.heap a its.toArray /\ xs.length <= sizeLine:=by
  rcases h with h | ⟨o,its,n,hk,hc,hs,hz,r,hd⟩
  · obtain ⟨z,its,r,p⟩:=h.ok I.hok
    exact ⟨its,r,p.tup,z⟩
  · refine ⟨its.toList,r,⟨o,I.kIn a o hk,hc,n,by simpa using hs⟩,?_⟩
    have e:=r.length
    simp only [Array.length_toList] at e
    omega
theorem Inv.list_inj (I:Inv X pins σ H s) (h:SqL X.K H a xs) (h':SqL X.K H a ys):xs = ys:=by
  obtain ⟨its,r,⟨o,n,e,_,_,d⟩,_⟩:=I.list h
  obtain ⟨its',r',⟨o',n',e',_,_,d'⟩,_⟩:=I.list h'
  rw [e] at e'; cases e'
  rw [d] at d'
  injection d' with d1 _
  have:its = its':=by simpa using congrArg Array.toList d1
  subst this
  exact r.inj r'
theorem Inv.tupleD (I:Inv X pins σ H s) (h:SqT X.K H a xs):∃ ob,s.heap.get? a = some ob /\ ob.cls = .type "tuple" /\ ob.dict = none:=by
  rcases h with h | ⟨o,its,n,hk,hc,hs,hz,r,hd⟩
  · obtain ⟨z,its,r,⟨o,e1,e2,_,e3⟩⟩:=h.ok I.hok
    exact ⟨o,e1,e2,e3⟩
  · exact ⟨o,I.kIn a o hk,hc,hd⟩
theorem Inv.tuple_inj (I:Inv X pins σ H s) (h:SqT X.K H a xs) (h':SqT X.K H a ys):xs = ys:=by
  obtain ⟨its,r,⟨o,e,_,n,d⟩,_⟩:=I.tuple h
  obtain ⟨its',r',⟨o',e',_,n',d'⟩,_⟩:=I.tuple h'
  rw [e] at e'; cases e'
  rw [d] at d'
  injection d' with d1 _
  have:its = its':=by simpa using congrArg Array.toList d1
  subst this
  exact r.inj r'
end

abbrev Cx.wish (X:Cx) (E:Value -> Shared -> Prop):Cx:={ X with xe:=E }
abbrev Cx.nox (X:Cx):Cx:=X.wish fun _ _=>False
theorem Cx.Ok.wish {X:Cx} (ok:X.Ok) (E:Value -> Shared -> Prop):(X.wish E).Ok :=
  ⟨ok.mod,ok.kind,ok.glob,ok.blt,ok.above,ok.inj,ok.has,ok.cab,ok.hd,ok.frames,ok.stk,ok.exf,ok.bs,ok.bsz,ok.noex,ok.exfs,ok.funs,ok.frf⟩
theorem Cx.Ok.unwish {X:Cx} {E:Value -> Shared -> Prop} (ok:(X.wish E).Ok):X.Ok :=
  ⟨ok.mod,ok.kind,ok.glob,ok.blt,ok.above,ok.inj,ok.has,ok.cab,ok.hd,ok.frames,ok.stk,ok.exf,ok.bs,ok.bsz,ok.noex,ok.exfs,ok.funs,ok.frf⟩
section
variable {X:Cx} {pins:List (Addr × Obj)} {σ:St} {H:Hp} {s:Shared} {E:Value -> Shared -> Prop}
theorem Inv.wish (I:Inv X pins σ H s) (E:Value -> Shared -> Prop):Inv (X.wish E) pins σ H s:=⟨I.ok.wish E,I.os,I.bare,I.base,I.loc,I.cell,I.free,I.freeC,I.pin,I.hok,I.len⟩
theorem Inv.unwish (I:Inv (X.wish E) pins σ H s):Inv X pins σ H s:=⟨I.ok.unwish,I.os,I.bare,I.base,I.loc,I.cell,I.free,I.freeC,I.pin,I.hok,I.len⟩
theorem SP.unwish {D:Ends} {f:Flow} {s':Shared} (h:SP (X.wish E) pins D f s'):SP X pins D f s':=by
  cases f with
  | next=>obtain ⟨σ',H',I,q⟩:=h; exact ⟨σ',H',I.unwish,q⟩
  | brk=>obtain ⟨σ',H',I,q⟩:=h; exact ⟨σ',H',I.unwish,q⟩
  | cont=>obtain ⟨σ',H',I,q⟩:=h; exact ⟨σ',H',I.unwish,q⟩
  | ret u=>obtain ⟨v,σ',H',I,r,q⟩:=h; exact ⟨v,σ',H',I.unwish,r,q⟩
theorem PT.nox {e:Expr} {t:TT} (h:PT X.nox e t):PT X e t:=fun pins s σ H Q I hw =>
  wpAny_mono (h pins s σ H Q (I.wish _) hw) (fun _ _ ⟨H',I',q⟩=>⟨H',I'.unwish,q⟩) fun _ _ z=>False.elim z
theorem PSs.nox {st:List Stmt} {t:TS} (h:PSs X.nox st t):PSs X st t:=fun pins s σ H D I hw =>
  wpAny_mono (h pins s σ H D (I.wish _) hw) (fun _ _ q=>q.unwish) fun _ _ z=>False.elim z
end

section
variable {X:Cx} {st:Stmt} {rest:List Stmt} {t u:TS} {e:Expr} {te:TE} {pos:Pos}
noncomputable def tNext:TS:=fun D σ H=>D.nx σ H
noncomputable def tSeq (t u:TS):TS:=fun D σ H=>t { D with nx:=u D } σ H
theorem pss_nil:PSs X [] tNext:=fun _ _ σ H _ I h=>wpAny_execs_nil ⟨σ,H,I,h⟩
theorem pss_cons (h1:PS X st t) (h2:PSs X rest u):PSs X (st :: rest) (tSeq t u):=by
  intro pins s σ H D I h
  refine wpAny_execs_cons (thn (h1 pins s σ H { D with nx:=u D } I h) fun f s1 q=>?_)
  cases f with
  | next =>
    obtain ⟨σ',H',I',q⟩:=q
    exact h2 pins s1 σ' H' D I' q
  | ret v=>exact q
  | brk=>exact q
  | cont=>exact q
theorem pss_one (h1:PS X st t):PSs X [st] t:=by
  intro pins s σ H D I h
  refine wpAny_execs_cons (thn (h1 pins s σ H D I h) fun f s1 q=>?_)
  cases f with
  | next=>exact wpAny_execs_nil q
  | ret v=>exact q
  | brk=>exact q
  | cont=>exact q
theorem Inv.quiet {pins:List (Addr × Obj)} {σ:St} {H:Hp} {s:Shared} (I:Inv X pins σ H s):interactive X.env = false:=by simp [interactive,I.ok.kind]
noncomputable def tDrop (te:TE):TS:=fun D σ H=>te σ H fun _ H1=>D.nx σ H1
theorem ps_expr (he:PE X e te) (hs:swapsWith e none pos.line X.env = pure false:=by rfl):PS X (.Expr e pos) (tDrop te):=by
  intro pins s σ H D I h
  exact wpAny_Expr_any (thn (he pins s σ H _ I h) fun v s1 ⟨x,H1,I1,r1,q1⟩=>⟨σ,H1,I1,q1⟩) I.quiet hs
noncomputable def tRet (te:TE):TS:=fun D σ H=>te σ H D.rt
theorem ps_ret (he:PE X e te):PS X (.Return (some e) pos) (tRet te):=by
  intro pins s σ H D I h
  exact wpAny_Return_some (thn (he pins s σ H _ I h) fun v s1 ⟨x,H1,I1,r1,q1⟩=>⟨x,σ,H1,I1,r1,q1⟩)
noncomputable def tIfS (c:TT) (t u:TS):TS:=fun D σ H=>c σ H fun b H1=>if b = true then t D σ H1 else u D σ H1
theorem ps_if {c:Expr} {a b:List Stmt} {tc:TT} (hc:PT X c tc) (ha:PSs X a t) (hb:PSs X b u):PS X (.If c a b pos) (tIfS tc t u):=by
  intro pins s σ H D I h
  refine wpAny_If (thn (hc pins s σ H _ I h) fun d s1 ⟨H1,I1,q1⟩=>?_)
  cases d with
  | true=>exact ha pins s1 σ H1 D I1 q1
  | false=>exact hb pins s1 σ H1 D I1 q1
noncomputable def tNever:TS:=fun _ _ _=>False
theorem ps_never:PS X st tNever:=fun _ _ _ _ _ _ h=>h.elim
end

abbrev TG:=V -> St -> Hp -> (St -> Hp -> Prop) -> Prop
abbrev TGs:=List V -> St -> Hp -> (St -> Hp -> Prop) -> Prop
noncomputable def PG (X:Cx) (target:Expr) (t:TG):Prop :=
  ∀ (pins:List (Addr × Obj)) (s:Shared) (σ:St) (H:Hp) (v:V) (u:Value) (Q:St -> Hp -> Prop),Inv X pins σ H s -> RelV v u -> t v σ H Q ->
    wpAny (model X.prog X.w) X.A (assign target X.env u) (fun _ s'=>∃ σ' H',Inv X pins σ' H' s' /\ Q σ' H') X.xe s
noncomputable def PGs (X:Cx) (ts:List Expr) (t:TGs):Prop :=
  ∀ (pins:List (Addr × Obj)) (s:Shared) (σ:St) (H:Hp) (vs:List V) (us:List Value) (Q:St -> Hp -> Prop),Inv X pins σ H s -> Vals vs us -> t vs σ H Q ->
    wpAny (model X.prog X.w) X.A (assignInOrder ((assignEach ts X.env).map (·.2)) us) (fun _ s'=>∃ σ' H',Inv X pins σ' H' s' /\ Q σ' H') X.xe s
abbrev TSet:=V -> V -> V -> Hp -> (Hp -> Prop) -> Prop
noncomputable def PSet (X:Cx) (t:TSet):Prop :=
  ∀ (pins:List (Addr × Obj)) (s:Shared) (σ:St) (H:Hp) (o i v:V) (ov iv u:Value) (Q:Hp -> Prop),Inv X pins σ H s -> RelV o ov -> RelV i iv -> RelV v u -> t o i v H Q ->
    wpAny (model X.prog X.w) X.A (setItem ov iv u) (fun _ s'=>∃ H',Inv X pins σ H' s' /\ Q H') X.xe s
abbrev TIp:=V -> V -> Hp -> VK -> Prop
noncomputable def PIp (X:Cx) (op:Operator) (t:TIp):Prop :=
  ∀ (pins:List (Addr × Obj)) (s:Shared) (σ:St) (H:Hp) (x y:V) (v u:Value) (Q:VK),Inv X pins σ H s -> RelV x v -> RelV y u -> t x y H Q ->
    wpAny (model X.prog X.w) X.A (inplaceOp op v u) (EP X pins σ Q) X.xe s
section
variable {X:Cx} {pos:Pos}
noncomputable def gName (i:Nat):TG:=fun v σ H Q=>Q (σ.set i (some v)) H
theorem pg_name {i:Nat} {x:Str} (hN:X.N.Nodup) (hi:X.N[i]? = some x) (hx:Loc X.env.scope x) (hf:X.fn x = true \/ X.env.scope.names.lookup x = some .local:=by first | exact .inl rfl | exact .inr rfl | assumption):PG X (.Name x pos) (gName i):=by
  intro pins s σ H v u Q I r h
  exact wpAny_assign_Name (store_ok I hN hi hx r (fun s' I'=>⟨_,H,I',h⟩) hf)
noncomputable def gNil:TGs:=fun vs σ H Q=>vs = [] /\ Q σ H
noncomputable def gCons (t:TG) (u:TGs):TGs:=fun vs σ H Q=>∃ v r,vs = v :: r /\ t v σ H fun σ' H'=>u r σ' H' Q
theorem pgs_nil:PGs X [] gNil:=by
  intro pins s σ H vs us Q I r h
  obtain ⟨e,h⟩:=h
  subst e
  cases r
  exact assignInOrder_nil ⟨σ,H,I,h⟩
theorem pgs_cons {e:Expr} {es:List Expr} {t:TG} {u:TGs} (h1:PG X e t) (h2:PGs X es u)
    (hs:(assignEach (e :: es) X.env).map (·.2) = assign e X.env :: (assignEach es X.env).map (·.2):=by rfl):PGs X (e :: es) (gCons t u):=by
  intro pins s σ H vs us Q I r h
  obtain ⟨v,vr,e1,h⟩:=h
  subst e1
  cases r with
  | cons r rr =>
    rw [hs]
    refine assignInOrder_cons (thn (h1 pins s σ H _ _ _ I r h) fun _ s1 ⟨σ1,H1,I1,q1⟩=>?_)
    exact h2 pins s1 σ1 H1 _ _ Q I1 rr q1
noncomputable def gTup (K:W.Frag) (n:Nat) (t:TGs):TG:=fun v σ H Q=>∃ a xs,v = .ref a /\ SqT K H a xs /\ xs.length = n /\ t xs σ H Q
theorem pg_tup {es:List Expr} {k:Nat} {t:TGs} {n:Nat} (hc:X.calm = true) (h:PGs X es t)
    (hn:(assignEach es X.env).length = n:=by rfl) (hst:(assignEach es X.env).findIdx? (·.1) = none:=by rfl):PG X (.Tuple es k pos) (gTup X.K n t):=by
  intro pins s σ H v u Q I r hw
  obtain ⟨a,xs,e1,hq,hl,hw⟩:=hw
  subst e1
  cases r
  obtain ⟨its,rv,ht,hz⟩:=I.tuple hq
  refine assign_Tuple_tuple (I.ok.hd hc) ht (by simp [hn,<- hl,rv.length]) hst fun h' hx=>?_
  have I1:Inv X pins σ H { s with heap:=h' }:=I.kept (t':=s.toks) fun b o e=>hx b o (Nat.ne_of_lt (Heap.lt_size e)) e
  exact h pins _ σ H xs _ Q I1 (by simpa using rv) hw
noncomputable def gSub (to ti:TE) (t:TSet):TG:=fun v σ H Q=>to σ H fun o H1=>ti σ H1 fun i H2=>t o i v H2 fun H3=>Q σ H3
theorem pg_sub {o i:Expr} {to ti:TE} {t:TSet} (ho:PE X o to) (hi:PE X i ti) (hs:PSet X t)
    (ha:∀ v,assign (.Subscript o i pos) X.env v = (do
      let ov <- holding [v] (eval o X.env)
      let iv <- holding [v,ov] (eval i X.env)
      standAt pos
      holding [v,ov,iv] (setItem ov iv v)
      release [v,ov,iv] []):=by intro _; rfl):PG X (.Subscript o i pos) (gSub to ti t):=by
  intro pins s σ H v u Q I r h
  rw [ha]
  refine wpAny_bind (wpAny_holding (thn (ho pins s σ H _ I h) fun ov s1 ⟨x,H1,I1,r1,q1⟩=>?_))
  refine wpAny_bind (wpAny_holding (thn (hi pins s1 σ H1 _ I1 q1) fun iv s2 ⟨y,H2,I2,r2,q2⟩=>?_))
  refine wpAny_bind (wpAny_standAt (wpAny_bind (wpAny_holding (thn (hs pins s2 σ H2 x y v ov iv u _ I2 r1 r2 r q2) fun _ s3 ⟨H3,I3,q3⟩=>?_))))
  exact wpAny_release ⟨σ,H3,I3,q3⟩
noncomputable def tAsg (te:TE) (g:TG):TS:=fun D σ H=>te σ H fun x H1=>g x σ H1 D.nx
theorem ps_asg {tg e:Expr} {te:TE} {g:TG} (he:PE X e te) (hg:PG X tg g) (hs:swapsWithSole [tg] e pos.line X.env = pure false:=by rfl) (hw:swappedStores [tg] e X.env = pure none:=by rfl)
    (h1:(assignEach [tg] X.env).map (·.2) = [assign tg X.env]:=by rfl):PS X (.Assign [tg] e pos) (tAsg te g):=by
  intro pins s σ H D I h
  refine wpAny_Assign_stores (thn (he pins s σ H _ I h) fun v s1 ⟨x,H1,I1,r1,q1⟩=>?_) hs hw
  rw [h1]
  exact thn (hg pins s1 σ H1 x v _ I1 r1 q1) fun _ s2 q=>q
theorem ps_set {i:Nat} {x:Str} {e:Expr} {te:TE} {pos':Pos} (hN:X.N.Nodup) (hi:X.N[i]? = some x) (hx:Loc X.env.scope x) (he:PE X e te) (hs:swapsWith e (some (.Name x pos')) pos.line X.env = pure false:=by rfl) (hf:X.fn x = true \/ X.env.scope.names.lookup x = some .local:=by first | exact .inl rfl | exact .inr rfl | assumption) :
    PS X (.Assign [.Name x pos'] e pos) (tAsg te (gName i)):=by
  intro pins s σ H D I h
  refine wpAny_Assign_Name (thn (he pins s σ H _ I h) fun v s1 ⟨y,H1,I1,r1,q1⟩=>?_) hs
  exact store_ok I1 hN hi hx r1 (fun s2 I2=>⟨_,H1,I2,q1⟩) hf
noncomputable def tPar (i j:Nat) (ta:TA):TS:=fun D σ H=>ta σ H fun vs H1=>∃ v w,vs = [v,w] /\ D.nx ((σ.set i (some v)).set j (some w)) H1
theorem ps_par {i j:Nat} {x y:Str} {a b:Expr} {ta:TA} {px py pt:Pos} {kt k2 pt2} (hc:X.calm = true) (hN:X.N.Nodup) (hi:X.N[i]? = some x) (hj:X.N[j]? = some y) (hij:i ≠ j)
    (hx:X.env.scope.names.lookup x = some .local) (hy:X.env.scope.names.lookup y = some .local) (ha:PA X [a,b] ta)
    (hw:swappedStores [.Tuple [.Name x px,.Name y py] kt pt] (.Tuple [a,b] k2 pt2) X.env = pure (some [x,y]))
    (hs:swapsWithSole [.Tuple [.Name x px,.Name y py] kt pt] (.Tuple [a,b] k2 pt2) pos.line X.env = pure false:=by rfl) :
    PS X (.Assign [.Tuple [.Name x px,.Name y py] kt pt] (.Tuple [a,b] k2 pt2) pos) (tPar i j ta):=by
  intro pins s σ H D I h
  rw [exec_Assign_arm]
  refine wpAny_bind (wpAny_standAt ?_)
  rw [hs]
  refine wpAny_bind (wpAny_pure ?_)
  rw [if_neg (by decide)]
  refine wpAny_bind (Tuple_ (thn (ha _ pins s σ H _ I h) fun us s1 ⟨vs,H1,I1,r1,q1⟩=>?_))
  obtain ⟨v,w,e1,q1⟩:=q1
  subst e1
  obtain ⟨u1,u2,rfl,rv,rw'⟩:∃ u1 u2,us = [u1,u2] /\ RelV v u1 /\ RelV w u2:=by
    cases r1 with
    | cons p q =>
      cases q with
      | cons p' q' =>
        cases q'
        exact ⟨_,_,rfl,p,p'⟩
  refine wpAny_newObj_type ?_ (by show 2 <= sizeLine; decide)
  have I2:Inv X pins σ H1 { s1 with heap:=s1.heap.push { cls:=.type "tuple", data:=.seq [u1,u2].toArray } }:=I1.kept (t':=s1.toks) fun b o e=>Heap.get?_push_of_some _ e
  rw [hw]
  refine wpAny_bind (wpAny_pure ?_)
  show wpAny (model X.prog X.w) X.A (do rule "assign.swapped-stores"; let items <- unpackItems (.ref s1.heap.objs.size) 2 none; assignInOrder [fun v=>bindName X.env y v,fun v=>bindName X.env x v] items.reverse; pure Flow.next) _ _ _
  refine wpAny_bind (wpAny_rule (wpAny_bind (unpackItems_tuple (items:=#[u1,u2]) (I.ok.hd hc) (IsTup.new s1.heap _) fun h' hx'=>?_)))
  have I3:=I2.kept (h':=h') (t':=s1.toks) fun b o e=>hx' b o (Nat.ne_of_lt (Heap.lt_size e)) e
  show wpAny _ _ (assignInOrder [fun v=>bindName X.env y v,fun v=>bindName X.env x v] [u2,u1] >>= fun _=>pure Flow.next) _ _ _
  refine wpAny_bind (assignInOrder_cons (wpAny_bindName (store_ok I3 hN hj (.inl hy) rw' (fun s2 I4=>?_) (.inr hy))))
  refine assignInOrder_cons (wpAny_bindName (store_ok I4 hN hi (.inl hx) rv (fun s3 I5=>assignInOrder_nil (wpAny_pure ?_)) (.inr hx)))
  rw [List.set_comm _ _ (Ne.symm hij)] at I5
  exact ⟨_,H1,I5,q1⟩
noncomputable def tAug (i:Nat) (te:TE) (ti:TIp):TS:=fun D σ H=>∃ x,σ[i]? = some (some x) /\ te σ H fun y H1=>ti x y H1 fun z H2=>D.nx (σ.set i (some z)) H2
theorem ps_aug {i:Nat} {x:Str} {e:Expr} {te:TE} {op:Operator} {ti:TIp} {pos':Pos} (hN:X.N.Nodup) (hi:X.N[i]? = some x) (hx:Loc X.env.scope x) (he:PE X e te) (ho:PIp X op ti) (hf:X.fn x = true \/ X.env.scope.names.lookup x = some .local:=by first | exact .inl rfl | exact .inr rfl | assumption) :
    PS X (.AugAssign (.Name x pos') op e pos) (tAug i te ti):=by
  intro pins s σ H D I h
  obtain ⟨v,e1,h⟩:=h
  obtain ⟨m,hn,hl⟩:=I.loc
  have vis:Vis X.env.scope x:=by rcases hx with k | k; exact .inl k; exact .inr (.inl k)
  obtain ⟨u,r,l⟩:=hl i x v hi e1 vis
  refine wpAny_AugAssign_Name ?_
  have go:wpAny (model X.prog X.w) X.A (eval e X.env) (fun w s₂=>wpAny (model X.prog X.w) X.A (inplaceOp op u w) (fun r s₃=>wpAny (model X.prog X.w) X.A (storeName X.env x r) (fun _=>SP X pins D .next) X.xe s₃) X.xe s₂) X.xe s:=by
    refine thn (he pins s σ H _ I h) fun w s1 ⟨y,H1,I1,r1,q1⟩=>?_
    refine thn (ho pins s1 σ H1 v y u w _ I1 r r1 q1) fun z s2 ⟨zv,H2,I2,r2,q2⟩=>?_
    exact store_ok I2 hN hi hx r2 (fun s3 I3=>⟨_,H2,I3,q2⟩) hf
  rcases l with ⟨hk,hm⟩ | ⟨hk,c,hc,hcell⟩
  · exact wpAny_loadName_local I.ok.kind hk hn hm go
  · rcases hk with hk | hk
    · exact wpAny_loadName_cell I.ok.kind hk hc hcell go
    · rcases hx with k | k
      · have:X.env.scope.names.lookup x = some .free:=hk
        rw [k] at this; cases this
      · have:X.env.scope.names.lookup x = some .free:=hk
        rw [k] at this; cases this
end

section
variable {X:Cx} {pos:Pos}
noncomputable def tWhile (c:TT) (tb:TS):TS:=fun D σ H=>∃ W:Nat -> St -> Hp -> Prop,(∃ m,W m σ H) /\ ∀ m σ H,W m σ H ->
  c σ H fun b H1=>if b = true then ∃ N:St -> Hp -> Prop,(∀ σ' H',N σ' H' -> ∃ m',m' < m /\ W m' σ' H') /\ tb { D with nx:=N,ct:=N,bk:=D.nx } σ H1 else D.nx σ H1
theorem ps_while {c:Expr} {body:List Stmt} {tc:TT} {tb:TS} (hp:PassesOwn (model X.prog X.w) X.A X.env X.xe) (hc:PT X c tc) (hb:PSs X body tb):PS X (.While c body [] pos) (tWhile tc tb):=by
  intro pins s σ H D I h
  obtain ⟨W,⟨m0,w0⟩,turn⟩:=h
  refine wpAny_While (codeAny_whileLoop (fun n s'=>∃ σ' H',Inv X pins σ' H' s' /\ W n σ' H') ?_ m0 ⟨σ,H,I,w0⟩)
  rintro n s1 ⟨σ1,H1,I1,w1⟩
  refine wpAny_passesOwn hp (thn (hc pins s1 σ1 H1 _ I1 (turn n σ1 H1 w1)) fun b s2 ⟨H2,I2,q2⟩=>?_)
  cases b with
  | true =>
    obtain ⟨N,hN,q2⟩:=q2
    rw [if_pos rfl]
    refine wpAny_passesOwn hp (thn (hb pins s2 σ1 H2 _ I2 q2) fun f s3 q3=>?_)
    cases f with
    | next =>
      obtain ⟨σ3,H3,I3,n3⟩:=q3
      obtain ⟨m',hm,w3⟩:=hN σ3 H3 n3
      exact ⟨m',hm,σ3,H3,I3,w3⟩
    | cont =>
      obtain ⟨σ3,H3,I3,n3⟩:=q3
      obtain ⟨m',hm,w3⟩:=hN σ3 H3 n3
      exact ⟨m',hm,σ3,H3,I3,w3⟩
    | brk=>exact q3
    | ret v=>exact q3
  | false =>
    rw [if_neg Bool.false_ne_true]
    exact wpAny_execs_nil ⟨σ1,H2,I2,q2⟩
end

structure It where
  go:Nat -> Hp -> Prop
  yld:Nat -> Hp -> V -> Hp -> Prop
  stop:Nat -> Hp -> Prop
noncomputable def FpOk (X:Cx) (pins:List (Addr × Obj)) (H:Hp) (b:Addr):Prop :=
  H b = none /\ b ≠ X.env.locals /\ b ∉ X.fs /\ (b ∈ X.ex \/ X.s₀.heap.objs.size <= b) /\ (∀ x c,X.env.cells.lookup x = some c -> c ≠ b) /\ ∀ p ∈ X.pn ++ pins,p.1 ≠ b
theorem Inv.fpOk {X:Cx} {pins:List (Addr × Obj)} {σ:St} {H H':Hp} {s:Shared} {b:Addr} (I:Inv X pins σ H s) (hb:s.heap.objs.size <= b) (hn:H' b = none):FpOk X pins H' b:=by
  refine ⟨hn,Nat.ne_of_gt (Nat.lt_of_lt_of_le I.lt hb),I.nofs hb,.inr (Nat.le_trans I.sz hb),fun x c e z=>?_,fun p hp z=>?_⟩
  · obtain ⟨v,q⟩:=I.cell x c e
    exact absurd (Nat.lt_of_lt_of_le q.lt (by rw [z]; exact hb)) (Nat.lt_irrefl _)
  · exact absurd (Nat.lt_of_lt_of_le (Heap.lt_size (I.pin p hp).1) (by rw [z]; exact hb)) (Nat.lt_irrefl _)
structure Turn (P:Program) (w:World) (K:W.Frag) (tg:Expr) (J:It) (fp:List Addr) (it:Addr) (tn:Nat -> Heap -> Prop):Prop where
  mem:it ∈ fp
  obj:∀ i h,tn i h -> ∀ b ∈ fp,∃ o,h.get? b = some o /\ ∀ v,o.data ≠ .cell v
  keep:∀ i h h',tn i h -> (∀ b ∈ fp,∀ o,h.get? b = some o -> h'.get? b = some o) -> tn i h'
  item:∀ (X:Cx),X.prog = P -> X.w = w -> X.K = K -> X.calm = true -> ∀ (i:Nat) (pins:List (Addr × Obj)) (s:Shared) (σ:St) (H:Hp) (E:Value -> Shared -> Prop),Inv X pins σ H s -> (∀ b ∈ fp,FpOk X pins H b) -> tn i s.heap -> J.go i H ->
    wpAny (model P w) X.A (pyNext (.ref it)) (fun r s1=>∃ u,r = some u /\
      wpAny (model P w) X.A (letOwnedTupleGo tg (.ref it) u) (fun _ s2=>∃ x H',Inv X pins σ H' s2 /\ RelV x u /\ J.yld i H x H' /\ tn (i + 1) s2.heap /\ ∀ b ∈ fp,H' b = none) E s1) E s
  done:∀ (X:Cx),X.prog = P -> X.w = w -> X.K = K -> X.calm = true -> ∀ (i:Nat) (pins:List (Addr × Obj)) (s:Shared) (σ:St) (H:Hp) (E:Value -> Shared -> Prop),Inv X pins σ H s -> (∀ b ∈ fp,FpOk X pins H b) -> tn i s.heap -> J.stop i H ->
    wpAny (model P w) X.A (pyNext (.ref it)) (fun r s1=>r = none /\ Inv X pins σ H s1) E s
  self:∀ (A:Around) (i:Nat) (s:Shared) (Q:Value -> Shared -> Prop) (E:Value -> Shared -> Prop),tn i s.heap -> Q (.ref it) s -> wpAny (model P w) A (pyIter (.ref it)) Q E s
abbrev TI:=St -> Hp -> (It -> Hp -> Prop) -> Prop
noncomputable def PIE (X:Cx) (pins:List (Addr × Obj)) (σ:St) (tg:Expr) (R:It -> Hp -> Prop) (itv:Value) (s2:Shared):Prop :=
  ∃ (it:Addr) (fp:List Addr) (tn:Nat -> Heap -> Prop) (J:It) (H':Hp),itv = .ref it /\ Inv X pins σ H' s2 /\ Turn X.prog X.w X.K tg J fp it tn /\ tn 0 s2.heap /\ (∀ b ∈ fp,FpOk X pins H' b) /\ R J H'
noncomputable def PI (X:Cx) (tg iter:Expr) (wi:TI):Prop :=
  ∀ (pins:List (Addr × Obj)) (s:Shared) (σ:St) (H:Hp) (R:It -> Hp -> Prop),Inv X pins σ H s -> wi σ H R ->
    wpAny (model X.prog X.w) X.A (eval iter X.env) (fun v s1=>wpAny (model X.prog X.w) X.A (pyIter v) (PIE X pins σ tg R) X.xe s1) X.xe s

theorem go_of {M:Model} {A:Around} {E:Value -> Shared -> Prop} {s:Shared} {tg:Expr} {it:Addr} {u:Value} {o:Obj} {n:String} {vs:Array Value} {Q:Unit -> Shared -> Prop} (ho:s.heap.get? it = some o) (hc:o.cls = .type n) (hd:o.data = .fields vs)
    (hn:["enumerate", "zip", "dict_itemiterator", "dict_reverseitemiterator", "odict_iterator", "itertools.zip_longest", "itertools.pairwise"].contains n = false) (hQ:Q () s):wpAny M A (letOwnedTupleGo tg (.ref it) u) Q E s:=by
  unfold letOwnedTupleGo
  cases tg <;> first
    | exact wpAny_pure hQ
    | (cases u <;> first
        | exact wpAny_pure hQ
        | (refine wpAny_bind (wpAny_load ho ?_)
           rw [hc,hd]
           show wpAny M A (if (["enumerate", "zip", "dict_itemiterator", "dict_reverseitemiterator", "odict_iterator", "itertools.zip_longest", "itertools.pairwise"].contains n && vs[0]? == some (rawInt _)) = true then _ else _) Q E s
           rw [if_neg (by intro h; rw [hn,Bool.false_and] at h; cases h)]
           exact wpAny_pure hQ))

noncomputable def Itl (K:W.Frag) (a:Addr):It :=
  ⟨fun i H=>∃ xs x,SqL K H a xs /\ xs[i]? = some x,fun i H x H'=>H' = H /\ ∀ xs,SqL K H a xs -> xs[i]? = some x,fun i H=>∃ xs,SqL K H a xs /\ xs.length <= i⟩
noncomputable def Itt (K:W.Frag) (a:Addr):It :=
  ⟨fun i H=>∃ xs x,SqT K H a xs /\ xs[i]? = some x,fun i H x H'=>H' = H /\ ∀ xs,SqT K H a xs -> xs[i]? = some x,fun i H=>∃ xs,SqT K H a xs /\ xs.length <= i⟩
noncomputable def Itr (lo:Int) (n:Nat):It:=⟨fun i _=>i < n,fun i H x H'=>H' = H /\ x = .int (lo + i),fun i _=>n <= i⟩
theorem turn_list {P:Program} {w:World} {K:W.Frag} {tg:Expr} (a it:Addr):Turn P w K tg (Itl K a) [it] it (fun i h=>h.IsListIter it a i) where
  mem:=by simp
  obj:=fun i h st b hb=>by
    have e:b = it:=by simpa using hb
    subst e
    obtain ⟨o,e,c,d⟩:=st
    exact ⟨o,e,fun v z=>by rw [d] at z; cases z⟩
  keep:=fun i h h' st k=>st.at fun o e=>k it (by simp) o e
  item:=by
    intro X hP hw hK hc i pins s σ H E I hf st hg
    subst hP hw hK
    obtain ⟨xs,x,hq,hx⟩:=hg
    obtain ⟨its,rv,p,hz⟩:=I.list hq
    obtain ⟨u,hu,ru⟩:=rv.get hx
    obtain ⟨f0,f1,f2,f3,f4,f5⟩:=hf it (by simp)
    refine wpAny_pyNext_list_item st p.isList (x:=u) (by simpa using hu) fun h' st' sb=>?_
    have I1:Inv X pins σ H { s with heap:=h' }:=I.turned (t':=s.toks) (fun b o hb e=>(sb.2 b hb).trans e) f0 f1 f3 f4 f5
    obtain ⟨o,e,c,d⟩:=id st'
    exact ⟨u,rfl,go_of (s:={ s with heap:=h' }) e c d (by decide) ⟨x,H,I1,ru,⟨rfl,fun ys hy=>by rw [I.list_inj hy hq]; exact hx⟩,st',fun b hb=>(hf b hb).1⟩⟩
  done:=by
    intro X hP hw hK hc i pins s σ H E I hf st hg
    subst hP hw hK
    obtain ⟨xs,hq,hx⟩:=hg
    obtain ⟨its,rv,p,hz⟩:=I.list hq
    obtain ⟨f0,f1,f2,f3,f4,f5⟩:=hf it (by simp)
    have hl:=rv.length
    exact wpAny_pyNext_list_end (I.ok.hd hc) st p.isList (by simp; omega) fun h' eb=>⟨rfl,I.turned (t':=s.toks) (fun b o hb e=>eb b o hb e) f0 f1 f3 f4 f5⟩
  self:=fun _ _ _ _ _ st h=>wpAny_pyIter_listiter st h
theorem turn_tuple {P:Program} {w:World} {K:W.Frag} {tg:Expr} (a it:Addr):Turn P w K tg (Itt K a) [it] it (fun i h=>h.IsTupleIter it a i) where
  mem:=by simp
  obj:=fun i h st b hb=>by
    have e:b = it:=by simpa using hb
    subst e
    obtain ⟨o,e,c,d⟩:=st
    exact ⟨o,e,fun v z=>by rw [d] at z; cases z⟩
  keep:=fun i h h' st k=>st.at fun o e=>k it (by simp) o e
  item:=by
    intro X hP hw hK hc i pins s σ H E I hf st hg
    subst hP hw hK
    obtain ⟨xs,x,hq,hx⟩:=hg
    obtain ⟨its,rv,p,hz⟩:=I.tuple hq
    obtain ⟨u,hu,ru⟩:=rv.get hx
    obtain ⟨f0,f1,f2,f3,f4,f5⟩:=hf it (by simp)
    refine wpAny_pyNext_tuple_item st (show s.heap.IsTuple a its.toArray from p) (x:=u) (by simpa using hu) fun h' st' sb=>?_
    have I1:Inv X pins σ H { s with heap:=h' }:=I.turned (t':=s.toks) (fun b o hb e=>(sb.2 b hb).trans e) f0 f1 f3 f4 f5
    obtain ⟨o,e,c,d⟩:=id st'
    exact ⟨u,rfl,go_of (s:={ s with heap:=h' }) e c d (by decide) ⟨x,H,I1,ru,⟨rfl,fun ys hy=>by rw [I.tuple_inj hy hq]; exact hx⟩,st',fun b hb=>(hf b hb).1⟩⟩
  done:=by
    intro X hP hw hK hc i pins s σ H E I hf st hg
    subst hP hw hK
    obtain ⟨xs,hq,hx⟩:=hg
    obtain ⟨its,rv,p,hz⟩:=I.tuple hq
    obtain ⟨f0,f1,f2,f3,f4,f5⟩:=hf it (by simp)
    have hl:=rv.length
    exact wpAny_pyNext_tuple_end (I.ok.hd hc) st (show s.heap.IsTuple a its.toArray from p) (by simp; omega) fun h' eb=>⟨rfl,I.turned (t':=s.toks) (fun b o hb e=>eb b o hb e) f0 f1 f3 f4 f5⟩
  self:=fun _ _ _ _ _ st h=>wpAny_pyIter_tupleiter st h
theorem turn_range {P:Program} {w:World} {K:W.Frag} {tg:Expr} (it:Addr) (lo:Int) (n:Nat):Turn P w K tg (Itr lo n) [it] it (fun i h=>IsRangeIter h it (lo + (i:Nat) * 1) ((n:Int) - (i:Nat)) 1) where
  mem:=by simp
  obj:=fun i h st b hb=>by
    have e:b = it:=by simpa using hb
    subst e
    exact ⟨_,st,fun v z=>by
      have z':Data.fields _ = Data.cell v:=z
      cases z'⟩
  keep:=fun i h h' st k=>k it (by simp) _ st
  item:=by
    intro X hP hw hK hc i pins s σ H E I hf st hg
    subst hP hw hK
    obtain ⟨f0,f1,f2,f3,f4,f5⟩:=hf it (by simp)
    have W:=Walks.range (prog:=X.prog) (w:=X.w) (I.ok.hd hc) it lo 1 n
    refine W.item i s _ _ hg st fun v h' tk hv st' kk=>?_
    obtain ⟨t,rfl⟩:=hv
    have I1:Inv X pins σ H { s with heap:=h',toks:=tk }:=I.turned (fun b o hb e=>kk b o (by simpa using hb) e) f0 f1 f3 f4 f5
    refine ⟨_,rfl,go_of (s:={ s with heap:=h',toks:=tk }) (n := "range_iterator") st' rfl rfl (by decide) ⟨.int (lo + i),H,I1,⟨t,?_⟩,⟨rfl,rfl⟩,st',fun b hb=>(hf b hb).1⟩⟩
    rw [Int.mul_one]
  done:=by
    intro X hP hw hK hc i pins s σ H E I hf st hg
    subst hP hw hK
    obtain ⟨f0,f1,f2,f3,f4,f5⟩:=hf it (by simp)
    exact wpAny_pyNext_range_end (I.ok.hd hc) st (by have:n <= i:=hg; omega) fun h' eb=>⟨rfl,I.turned (t':=s.toks) (fun b o hb e=>eb b o hb e) f0 f1 f3 f4 f5⟩
  self:=fun _ _ _ _ _ st h=>wpAny_pyIter_rangeiter st h
end L2

namespace L2
open PySem PySem.Spec PyProof.Rows
section
variable {X:Cx} {tg:Expr}
noncomputable def iList (K:W.Frag) (tl:TE):TI:=fun σ H R=>tl σ H fun x H1=>∃ a,x = .ref a /\ (∃ xs,SqL K H1 a xs) /\ R (Itl K a) H1
noncomputable def iTup (K:W.Frag) (tl:TE):TI:=fun σ H R=>tl σ H fun x H1=>∃ a,x = .ref a /\ (∃ xs,SqT K H1 a xs) /\ R (Itt K a) H1
theorem pi_list {l:Expr} {tl:TE} (hl:PE X l tl):PI X tg l (iList X.K tl):=by
  intro pins s σ H R I h
  refine thn (hl pins s σ H _ I h) fun v s1 ⟨x,H1,I1,r1,q1⟩=>?_
  obtain ⟨a,e,⟨xs,hq⟩,q⟩:=q1
  subst e
  cases r1
  obtain ⟨its,rv,p,hz⟩:=I1.list hq
  refine wpAny_pyIter_list p.isList ?_
  refine ⟨s1.heap.objs.size,[s1.heap.objs.size],_,_,H1,rfl,I1.kept (t':=s1.toks) fun b o e=>Heap.get?_push_of_some _ e,turn_list a _,⟨_,Heap.get?_push_size _ rfl,rfl,rfl⟩,fun b hb=>?_,q⟩
  have e:b = s1.heap.objs.size:=by simpa using hb
  subst e
  exact I1.fpOk (Nat.le_refl _) (I1.hok.fresh (Nat.le_refl _))
theorem pi_tup {l:Expr} {tl:TE} (hl:PE X l tl):PI X tg l (iTup X.K tl):=by
  intro pins s σ H R I h
  refine thn (hl pins s σ H _ I h) fun v s1 ⟨x,H1,I1,r1,q1⟩=>?_
  obtain ⟨a,e,⟨xs,hq⟩,q⟩:=q1
  subst e
  cases r1
  obtain ⟨its,rv,p,hz⟩:=I1.tuple hq
  refine wpAny_pyIter_tuple (show s1.heap.IsTuple a its.toArray from p) ?_
  refine ⟨s1.heap.objs.size,[s1.heap.objs.size],_,_,H1,rfl,I1.kept (t':=s1.toks) fun b o e=>Heap.get?_push_of_some _ e,turn_tuple a _,⟨_,Heap.get?_push_size _ rfl,rfl,rfl⟩,fun b hb=>?_,q⟩
  have e:b = s1.heap.objs.size:=by simpa using hb
  subst e
  exact I1.fpOk (Nat.le_refl _) (I1.hok.fresh (Nat.le_refl _))
theorem range_it {pins:List (Addr × Obj)} {σ:St} {H:Hp} {s:Shared} {R:It -> Hp -> Prop} {E:Value -> Shared -> Prop} {lo hi:Int} {t u v:Tok} {tk:Nat} (I:Inv X pins σ H s) (h1 : -(2 ^ 62) <= lo) (h2:lo < 2 ^ 62) (h3 : -(2 ^ 62) <= hi) (h4:hi < 2 ^ 62)
    (q:R (Itr lo (hi - lo).toNat) H):wpAny (model X.prog X.w) X.A (pyIter (.ref s.heap.objs.size)) (PIE X pins σ tg R) E { s with heap:=s.heap.push { cls:=.type "range", data:=.fields #[.int lo t,.int hi u,.int 1 v] },toks:=tk }:=by
  refine wpAny_pyIter_range (IsRange.new ..) (small_one h1 h2 h3 h4) ?_
  have I1:Inv X pins σ H { s with heap:=s.heap.push { cls:=.type "range", data:=.fields #[.int lo t,.int hi u,.int 1 v] },toks:=tk }:=I.kept fun b o e=>Heap.get?_push_of_some _ e
  refine ⟨(s.heap.push { cls:=.type "range", data:=.fields #[.int lo t,.int hi u,.int 1 v] }).objs.size,[(s.heap.push { cls:=.type "range", data:=.fields #[.int lo t,.int hi u,.int 1 v] }).objs.size],_,_,H,rfl,
    I1.kept (t':=tk) fun b o e=>Heap.get?_push_of_some _ e,turn_range _ lo (hi - lo).toNat,?_,fun b hb=>?_,q⟩
  · have e1:lo + ((0:Nat):Int) * 1 = lo:=by simp
    have e2:(((hi - lo).toNat:Nat):Int) - ((0:Nat):Int) = Builtin.Range.rangeSize lo hi 1:=by rw [rangeSize_one]; split <;> omega
    show IsRangeIter _ _ (lo + ((0:Nat):Int) * 1) ((((hi - lo).toNat:Nat):Int) - ((0:Nat):Int)) 1
    rw [e1,e2]
    exact Heap.get?_push_size _ rfl
  · have e:b = (s.heap.push { cls:=.type "range", data:=.fields #[.int lo t,.int hi u,.int 1 v] }).objs.size:=by simpa using hb
    subst e
    exact I1.fpOk (Nat.le_refl _) (I1.hok.fresh (Nat.le_refl _))
noncomputable def iRng1 (ta:TA):TI:=fun σ H R=>ta σ H fun vs H1=>∃ j:Int,vs = [.int j] /\ -(2 ^ 62) <= j /\ j < 2 ^ 62 /\ R (Itr 0 j.toNat) H1
noncomputable def iRng2 (ta:TA):TI:=fun σ H R=>ta σ H fun vs H1=>∃ i j:Int,vs = [.int i,.int j] /\ (-(2 ^ 62) <= i /\ i < 2 ^ 62 /\ -(2 ^ 62) <= j /\ j < 2 ^ 62) /\ R (Itr i (j - i).toNat) H1
theorem pi_range1 {a:Expr} {ta:TA} {p pos:Pos} (hg:Gl X "range") (hm:X.mg "range" = none) (ha:PA X [a] ta) (hs:starEach [a] X.env = [(false,eval a X.env)]:=by rfl):PI X tg (.Call (.Name "range" p) [a] [] pos) (iRng1 ta):=by
  intro pins s σ H R I h
  refine Call_ (ld_blt I hg hm boot_range (PyProof.Rows.callWith_type1 (thn (ha pos pins s σ H _ I h) fun us s1 ⟨vs,H1,I1,r1,q1⟩=>?_) hs rfl))
  obtain ⟨j,e,q1,q2,q⟩:=q1
  subst e
  cases r1 with
  | cons r rr =>
    cases rr
    obtain ⟨t,rfl⟩:=r
    exact call_range_1 (range_it I1 (by omega) (by omega) q1 q2 (by simpa using q))
theorem pi_range2 {a b:Expr} {ta:TA} {p pos:Pos} (hg:Gl X "range") (hm:X.mg "range" = none) (ha:PA X [a,b] ta) (hs:starEach [a,b] X.env = [(false,eval a X.env),(false,eval b X.env)]:=by rfl) (hs2:starEach [b] X.env = [(false,eval b X.env)]:=by rfl) :
    PI X tg (.Call (.Name "range" p) [a,b] [] pos) (iRng2 ta):=by
  intro pins s σ H R I h
  refine Call_ (ld_blt I hg hm boot_range (PyProof.Rows.callWith_type1 (thn (ha pos pins s σ H _ I h) fun us s1 ⟨vs,H1,I1,r1,q1⟩=>?_) (by rw [hs,hs2]) (by rw [hs2]; rfl)))
  obtain ⟨i,j,e,⟨q1,q2,q3,q4⟩,q⟩:=q1
  subst e
  cases r1 with
  | cons r rr =>
    cases rr with
    | cons r' rr =>
      cases rr
      obtain ⟨t,rfl⟩:=r
      obtain ⟨t',rfl⟩:=r'
      exact call_range_2 (range_it I1 q1 q2 q3 q4 q)

noncomputable def tFor (wi:TI) (g:TG) (tb:TS):TS:=fun D σ H=>wi σ H fun J H1=>∃ W:Nat -> Nat -> St -> Hp -> Prop,(∃ m,W 0 m σ H1) /\ ∀ i m σ H,W i m σ H ->
  (J.stop i H /\ D.nx σ H) \/ (J.go i H /\ ∃ N:St -> Hp -> Prop,(∀ σ' H',N σ' H' -> ∃ m',m' < m /\ W (i + 1) m' σ' H') /\ ∀ x H',J.yld i H x H' -> g x σ H' fun σ2 H2=>tb { D with nx:=N,ct:=N,bk:=D.nx } σ2 H2)
noncomputable def pinsAt (fp:List Addr) (h:Heap):List (Addr × Obj):=fp.filterMap fun b=>(h.get? b).map fun o=>(b,o)
theorem mem_pinsAt {fp:List Addr} {h:Heap} {b:Addr} {o:Obj} (hb:b ∈ fp) (e:h.get? b = some o):(b,o) ∈ pinsAt fp h:=List.mem_filterMap.mpr ⟨b,hb,by rw [e]; rfl⟩
theorem of_pinsAt {fp:List Addr} {h:Heap} {p:Addr × Obj} (hp:p ∈ pinsAt fp h):p.1 ∈ fp /\ h.get? p.1 = some p.2:=by
  obtain ⟨b,hb,e⟩:=List.mem_filterMap.mp hp
  cases q:h.get? b with
  | none=>rw [q] at e; cases e
  | some o =>
    rw [q] at e
    have e':(b,o) = p:=Option.some.inj e
    subst e'
    exact ⟨hb,q⟩
theorem Inv.pinned {pins:List (Addr × Obj)} {σ:St} {H:Hp} {s:Shared} {fp:List Addr} (I:Inv X pins σ H s) (hf:∀ b ∈ fp,FpOk X pins H b) (ho:∀ b ∈ fp,∃ o,s.heap.get? b = some o /\ ∀ v,o.data ≠ .cell v):Inv X (pins ++ pinsAt fp s.heap) σ H s :=
  I.pins_of fun p hp=>(List.mem_append.mp hp).elim (fun z=>I.pin p (List.mem_append_right _ z)) fun z=>by
    obtain ⟨hb,e⟩:=of_pinsAt z
    obtain ⟨f0,f1,f2,_⟩:=hf p.1 hb
    obtain ⟨o,e',d⟩:=ho p.1 hb
    rw [e] at e'; cases e'
    exact ⟨e,f0,f1,f2,d⟩
theorem Inv.unpinned {pins pl:List (Addr × Obj)} {σ:St} {H:Hp} {s:Shared} (I:Inv X (pins ++ pl) σ H s):Inv X pins σ H s:=I.pins_of fun p hp=>I.pin p (List.mem_append_right _ (List.mem_append_left _ hp))
theorem ps_for {iter:Expr} {body:List Stmt} {wi:TI} {g:TG} {tb:TS} {pos:Pos} (hp:PassesOwn (model X.prog X.w) X.A X.env X.xe) (hc:X.calm = true) (hi:PI X tg iter wi) (hg:PG X tg g) (hb:PSs X body tb)
    (hs:∀ x,foldedSetIterable iter X.env x = pure x:=by intro _; rfl):PS X (.For tg iter body [] pos) (tFor wi g tb):=by
  intro pins s σ H D I h
  refine wpAny_For (thn (hi pins s σ H _ I h) fun v s1 h1=>thn h1 fun itv s2 h2=>?_) hs
  obtain ⟨it,fp,tn,J,H2,e,I2,T,st2,f2,W,⟨m0,w0⟩,turn⟩:=h2
  subst e
  have stat:∀ {H':Hp},(∀ b ∈ fp,H' b = none) -> ∀ b ∈ fp,FpOk X pins H' b:=fun hn b hb=>⟨hn b hb,(f2 b hb).2⟩
  refine codeAny_forLoop_any (fun n s'=>∃ i σ' H',Inv X pins σ' H' s' /\ tn i s'.heap /\ (∀ b ∈ fp,H' b = none) /\ W i n σ' H') ?_ m0 ⟨0,σ,H2,I2,st2,fun b hb=>(f2 b hb).1,w0⟩
  rintro n s3 ⟨i,σ3,H3,I3,st3,fr3,w3⟩
  rcases turn i n σ3 H3 w3 with ⟨stop,qn⟩ | ⟨go,N,hN,step⟩
  · refine wpAny_passesOwn hp (thn (T.done X rfl rfl rfl hc i pins s3 σ3 H3 X.xe I3 (stat fr3) st3 stop) fun r s4 ⟨hr,I4⟩=>?_)
    subst hr
    exact wpAny_execs_nil ⟨σ3,H3,I4,qn⟩
  · refine wpAny_passesOwn hp (thn (T.item X rfl rfl rfl hc i pins s3 σ3 H3 X.xe I3 (stat fr3) st3 go) fun r s4 ⟨u,hr,h4⟩=>?_)
    subst hr
    refine wpAny_passesOwn hp (thn h4 fun _ s5 ⟨x,H5,I5,r5,y5,st5,fr5⟩=>?_)
    have I5':=I5.pinned (stat fr5) (T.obj _ _ st5)
    refine wpAny_passesOwn hp (thn (hg _ s5 σ3 H5 x u _ I5' r5 (step x H5 y5)) fun _ s6 ⟨σ6,H6,I6,q6⟩=>?_)
    refine wpAny_passesOwn hp (thn (hb _ s6 σ6 H6 _ I6 q6) fun f s7 q7=>?_)
    have again:∀ {σ7:St} {H7:Hp},Inv X (pins ++ pinsAt fp s5.heap) σ7 H7 s7 -> N σ7 H7 -> ∃ m,m < n /\ ∃ i σ' H',Inv X pins σ' H' s7 /\ tn i s7.heap /\ (∀ b ∈ fp,H' b = none) /\ W i m σ' H':=fun {σ7 H7} I7 n7=>by
      obtain ⟨m',hm,w7⟩:=hN σ7 H7 n7
      refine ⟨m',hm,i + 1,σ7,H7,I7.unpinned,T.keep _ _ _ st5 fun b hb o e=>(I7.pin (b,o) (List.mem_append_right _ (List.mem_append_right _ (mem_pinsAt hb e)))).1,fun b hb=>?_,w7⟩
      obtain ⟨o,e,d⟩:=T.obj _ _ st5 b hb
      exact (I7.pin (b,o) (List.mem_append_right _ (List.mem_append_right _ (mem_pinsAt hb e)))).2.1
    cases f with
    | next=>obtain ⟨σ7,H7,I7,n7⟩:=q7; exact again I7 n7
    | cont=>obtain ⟨σ7,H7,I7,n7⟩:=q7; exact again I7 n7
    | brk=>obtain ⟨σ7,H7,I7,q7⟩:=q7; exact ⟨σ7,H7,I7.unpinned,q7⟩
    | ret v=>obtain ⟨x7,σ7,H7,I7,r7,q7⟩:=q7; exact ⟨x7,σ7,H7,I7.unpinned,r7,q7⟩
end

end L2

namespace L2
open PySem PySem.Spec PyProof.Rows

abbrev R2:=V -> V -> Hp -> VK -> Prop
noncomputable def OpR (X:Cx) (f:Value -> Value -> Sem Value) (r:R2):Prop :=
  ∀ (pins:List (Addr × Obj)) (s:Shared) (σ:St) (H:Hp) (x y:V) (v u:Value) (Q:VK),Inv X pins σ H s -> RelV x v -> RelV y u -> r x y H Q ->
    wpAny (model X.prog X.w) X.A (f v u) (EP X pins σ Q) X.xe s
noncomputable def UnR (X:Cx) (f:Value -> Sem Value) (r:V -> Hp -> VK -> Prop):Prop :=
  ∀ (pins:List (Addr × Obj)) (s:Shared) (σ:St) (H:Hp) (x:V) (v:Value) (Q:VK),Inv X pins σ H s -> RelV x v -> r x H Q ->
    wpAny (model X.prog X.w) X.A (f v) (EP X pins σ Q) X.xe s
noncomputable def CallR (X:Cx) (f:Value) (r:List V -> Hp -> VK -> Prop):Prop :=
  ∀ (pins:List (Addr × Obj)) (s:Shared) (σ:St) (H:Hp) (xs:List V) (us:List Value) (Q:VK),Inv X pins σ H s -> Vals xs us -> r xs H Q ->
    wpAny (model X.prog X.w) X.A (call f us) (EP X pins σ Q) X.xe s
noncomputable def tOp (r:R2) (ta tb:TE):TE:=fun σ H Q=>ta σ H fun x H1=>tb σ H1 fun y H2=>r x y H2 Q
noncomputable def tUn (r:V -> Hp -> VK -> Prop) (ta:TE):TE:=fun σ H Q=>ta σ H fun x H1=>r x H1 Q
noncomputable def rI (C:Int -> Int -> Prop) (g:Int -> Int -> V):R2:=fun x y H Q=>∃ i j,x = .int i /\ y = .int j /\ C i j /\ Q (g i j) H
noncomputable def rI0 (g:Int -> Int -> V):R2:=fun x y H Q=>∃ i j,x = .int i /\ y = .int j /\ Q (g i j) H
noncomputable def rU (g:Int -> V):V -> Hp -> VK -> Prop:=fun x H Q=>∃ i,x = .int i /\ Q (g i) H

section
variable {X:Cx} {a b c:Expr} {ta tb tc:TE} {pos:Pos}

theorem binT (ha:PE X a ta) (hb:PE X b tb) {pins:List (Addr × Obj)} {s:Shared} {σ:St} {H:Hp} {R:V -> V -> Hp -> Prop} (I:Inv X pins σ H s)
    (h:ta σ H fun x H1=>tb σ H1 fun y H2=>R x y H2) {Q:Value -> Shared -> Prop} {f:Value -> Value -> Sem Value}
    (hf:∀ v u s2 x y H2,Inv X pins σ H2 s2 -> RelV x v -> RelV y u -> R x y H2 -> wpAny (model X.prog X.w) X.A (f v u) Q X.xe s2) :
    wpAny (model X.prog X.w) X.A (eval a X.env) (fun v s₁=>wpAny (model X.prog X.w) X.A (eval b X.env) (fun u s₂=>wpAny (model X.prog X.w) X.A (f v u) Q X.xe s₂) X.xe s₁) X.xe s:=by
  refine thn (ha pins s σ H _ I h) fun v s1 ⟨x,H1,I1,r1,q1⟩=>?_
  refine thn (hb pins s1 σ H1 _ I1 q1) fun u s2 ⟨y,H2,I2,r2,q2⟩=>?_
  exact hf v u s2 x y H2 I2 r1 r2 q2

theorem pe_op {op:Operator} {r:R2} (ho:OpR X (binaryOp op) r) (ha:PE X a ta) (hb:PE X b tb):PE X (.BinOp a op b pos) (tOp r ta tb):=by
  intro pins s σ H Q I h
  exact wpAny_BinOp (binT ha hb I h fun v u s2 x y H2 I2 rx ry q=>ho pins s2 σ H2 x y v u Q I2 rx ry q)
theorem pe_un {op:UnaryOp} {r:V -> Hp -> VK -> Prop} (ho:UnR X (unaryOp op) r) (ha:PE X a ta):PE X (.UnaryOp op a pos) (tUn r ta):=by
  intro pins s σ H Q I h
  exact UnaryOp_ (thn (ha pins s σ H _ I h) fun v s1 ⟨x,H1,I1,r1,q1⟩=>ho pins s1 σ H1 x v Q I1 r1 q1)
theorem opI {f:Value -> Value -> Sem Value} {C:Int -> Int -> Prop} {g:Int -> Int -> Int}
    (rule:∀ (i j:Int) (t u:Tok) (s:Shared) (Q:Value -> Shared -> Prop) (E:Value -> Shared -> Prop),C i j -> Q (.int (g i j) s.toks) { s with toks:=s.toks + 1 } -> wpAny (model X.prog X.w) X.A (f (.int i t) (.int j u)) Q E s) :
    OpR X f (rI C fun i j=>.int (g i j)):=by
  intro pins s σ H x y v u Q I rx ry h
  obtain ⟨i,j,rfl,rfl,hc,q⟩:=h
  obtain ⟨t,rfl⟩:=rx
  obtain ⟨t',rfl⟩:=ry
  exact rule i j t t' s _ _ hc ⟨.int (g i j),H,I.tok _,⟨_,rfl⟩,q⟩
theorem opI0 {f:Value -> Value -> Sem Value} {g:Int -> Int -> Int}
    (rule:∀ (i j:Int) (t u:Tok) (s:Shared) (Q:Value -> Shared -> Prop) (E:Value -> Shared -> Prop),Q (.int (g i j) s.toks) { s with toks:=s.toks + 1 } -> wpAny (model X.prog X.w) X.A (f (.int i t) (.int j u)) Q E s) :
    OpR X f (rI0 fun i j=>.int (g i j)):=by
  intro pins s σ H x y v u Q I rx ry h
  obtain ⟨i,j,rfl,rfl,q⟩:=h
  obtain ⟨t,rfl⟩:=rx
  obtain ⟨t',rfl⟩:=ry
  exact rule i j t t' s _ _ ⟨.int (g i j),H,I.tok _,⟨_,rfl⟩,q⟩
theorem opB0 {f:Value -> Value -> Sem Value} {g:Int -> Int -> Bool}
    (rule:∀ (i j:Int) (t u:Tok) (s:Shared) (Q:Value -> Shared -> Prop) (E:Value -> Shared -> Prop),Q (.bool (g i j)) s -> wpAny (model X.prog X.w) X.A (f (.int i t) (.int j u)) Q E s) :
    OpR X f (rI0 fun i j=>.bl (g i j)):=by
  intro pins s σ H x y v u Q I rx ry h
  obtain ⟨i,j,rfl,rfl,q⟩:=h
  obtain ⟨t,rfl⟩:=rx
  obtain ⟨t',rfl⟩:=ry
  exact rule i j t t' s _ _ ⟨.bl (g i j),H,I,rfl,q⟩

noncomputable def CDiv (i j:Int):Prop:=0 < j /\ j < 1073741824
noncomputable def CPow (i j:Int):Prop:=0 <= j /\ j <= 1000000 /\ i.natAbs < 2 ^ 64
theorem op_add:OpR X (binaryOp .Add) (rI0 fun i j=>.int (i + j)):=opI0 fun _ _ _ _ _ _ _ q=>add_int q
theorem op_sub:OpR X (binaryOp .Sub) (rI0 fun i j=>.int (i - j)):=opI0 fun _ _ _ _ _ _ _ q=>sub_int q
theorem op_modN:OpR X (binaryOp .Mod) (rI (fun _ j=>j ≠ 0) fun i j=>.int (i.fmod j)):=opI fun _ _ _ _ _ _ _ hc q=>mod_int' hc q
theorem op_pow:OpR X (binaryOp .Pow) (rI CPow fun i j=>.int (i ^ j.toNat)):=opI fun _ _ _ _ _ _ _ hc q=>pow_int_small hc.1 hc.2.1 hc.2.2 q
theorem unI {f:Value -> Sem Value} {g:Int -> Int}
    (rule:∀ (i:Int) (t:Tok) (s:Shared) (Q:Value -> Shared -> Prop) (E:Value -> Shared -> Prop),Q (.int (g i) s.toks) { s with toks:=s.toks + 1 } -> wpAny (model X.prog X.w) X.A (f (.int i t)) Q E s) :
    UnR X f (rU fun i=>.int (g i)):=by
  intro pins s σ H x v Q I rx h
  obtain ⟨i,rfl,q⟩:=h
  obtain ⟨t,rfl⟩:=rx
  exact rule i t s _ _ ⟨.int (g i),H,I.tok _,⟨_,rfl⟩,q⟩
theorem un_neg:UnR X (unaryOp .USub) (rU fun i=>.int (-i)):=unI fun _ _ _ _ _ q=>neg_int q
end

noncomputable def scal:V -> V -> Bool
  | .non,.non=>true | .non,.int _=>true | .int _,.non=>true | .non,.bl _=>true | .bl _,.non=>true | .non,.str _=>true | .str _,.non=>true
  | .int _,.int _=>true | .bl _,.bl _=>true | .str _,.str _=>true | .byt _,.byt _=>true
  | .int _,.str _=>true | .str _,.int _=>true | .bl _,.str _=>true | .str _,.bl _=>true
  | _,_=>false
noncomputable def rNe:R2:=fun x y H Q=>scal x y = true /\ Q (.bl (!decide (x = y))) H

theorem dec_int {i j:Int}:decide (V.int i = V.int j) = (i == j):=by
  rw [Bool.eq_iff_iff]
  simp
theorem dec_bl {i j:Bool}:decide (V.bl i = V.bl j) = (i == j):=by
  rw [Bool.eq_iff_iff]
  simp
theorem dec_str {i j:Str}:decide (V.str i = V.str j) = (i == j):=by
  rw [Bool.eq_iff_iff]
  simp
theorem dec_byt {i j:Array UInt8}:decide (V.byt i = V.byt j) = (i.toList == j.toList):=by
  rw [Bool.eq_iff_iff]
  cases i
  cases j
  simp

section
variable {X:Cx} {a b c:Expr} {ta tb tc:TE} {pos:Pos}
theorem fin_bl {pins:List (Addr × Obj)} {σ:St} {H:Hp} {s:Shared} {Q:VK} {k k':Bool} (I:Inv X pins σ H s) (q:Q (.bl k) H) (e:k = k'):EP X pins σ Q (.bool k') s:=by
  subst e
  exact ⟨.bl k,H,I,rfl,q⟩
theorem op_ne:OpR X (compareOp .NotEq) rNe:=by
  intro pins s σ H x y v u Q I rx ry h
  obtain ⟨hs,q⟩:=h
  cases x with
  | non =>
    cases rx
    cases y with
    | non=>cases ry; exact PySem.EqNone.ne_none_none (fin_bl I q (by simp))
    | bl j=>cases ry; exact PySem.EqNone.ne_none_bool (fin_bl I q (by simp))
    | int j=>obtain ⟨t',rfl⟩:=ry; exact PySem.EqNone.ne_none_int (fin_bl I q (by simp))
    | str j=>obtain ⟨t',rfl⟩:=ry; exact PySem.EqNone.ne_none_str (fin_bl I q (by simp))
    | _=>exact absurd (show false = true from hs) Bool.false_ne_true
  | bl i =>
    cases rx
    cases y with
    | non=>cases ry; exact PySem.EqNone.ne_bool_none (fin_bl I q (by simp))
    | bl j=>cases ry; exact ne_bool (fin_bl I q (congrArg not dec_bl))
    | str j=>obtain ⟨t',rfl⟩:=ry; exact PySem.EqMixed.ne_bool_str (fin_bl I q (by simp))
    | _=>exact absurd (show false = true from hs) Bool.false_ne_true
  | int i =>
    obtain ⟨t,rfl⟩:=rx
    cases y with
    | non=>cases ry; exact PySem.EqNone.ne_int_none (fin_bl I q (by simp))
    | int j=>obtain ⟨t',rfl⟩:=ry; exact ne_int (fin_bl I q (congrArg not dec_int))
    | str j=>obtain ⟨t',rfl⟩:=ry; exact PySem.EqMixed.ne_int_str (fin_bl I q (by simp))
    | _=>exact absurd (show false = true from hs) Bool.false_ne_true
  | str i =>
    obtain ⟨t,rfl⟩:=rx
    cases y with
    | non=>cases ry; exact PySem.EqNone.ne_str_none (fin_bl I q (by simp))
    | bl j=>cases ry; exact PySem.EqMixed.ne_str_bool (fin_bl I q (by simp))
    | int j=>obtain ⟨t',rfl⟩:=ry; exact PySem.EqMixed.ne_str_int (fin_bl I q (by simp))
    | str j=>obtain ⟨t',rfl⟩:=ry; exact ne_str (fin_bl I q (congrArg not dec_str))
    | _=>exact absurd (show false = true from hs) Bool.false_ne_true
  | byt i =>
    obtain ⟨t,rfl⟩:=rx
    cases y with
    | byt j=>obtain ⟨t',rfl⟩:=ry; exact W.ne_bytes (fin_bl I q (congrArg not dec_byt))
    | _=>exact absurd (show false = true from hs) Bool.false_ne_true
  | _=>cases y <;> exact absurd (show false = true from hs) Bool.false_ne_true

theorem op_lt:OpR X (compareOp .Lt) (rI0 fun i j=>.bl (decide (i < j))):=opB0 fun _ _ _ _ _ _ _ q=>lt_int q
theorem op_gt:OpR X (compareOp .Gt) (rI0 fun i j=>.bl (decide (j < i))):=opB0 fun _ _ _ _ _ _ _ q=>gt_int q
theorem op_ge:OpR X (compareOp .GtE) (rI0 fun i j=>.bl (decide (j <= i))):=opB0 fun _ _ _ _ _ _ _ q=>ge_int q
theorem op_isN:OpR X (compareOp .Is) (fun x y H Q=>y = .non /\ Q (.bl (decide (x = .non))) H):=by
  intro pins s σ H x y v u Q I rx ry h
  obtain ⟨rfl,q⟩:=h
  cases ry
  refine is_none_gen (fin_bl I q ?_)
  cases x <;> first
    | (cases rx; rfl)
    | (obtain ⟨t,rfl⟩:=rx; rfl)
theorem op_notN:OpR X (compareOp .IsNot) (fun x y H Q=>y = .non /\ Q (.bl (!decide (x = .non))) H):=by
  intro pins s σ H x y v u Q I rx ry h
  obtain ⟨rfl,q⟩:=h
  cases ry
  refine isnot_none_gen (fin_bl I q ?_)
  cases x <;> first
    | (cases rx; rfl)
    | (obtain ⟨t,rfl⟩:=rx; rfl)

theorem nomark (b:Expr) {op:CmpOp} (h:op ≠ .In:=by decide) (h2:op ≠ .NotIn:=by decide):behindInMarks op b = false:=by
  have e1:(op == CmpOp.In) = false:=by cases op <;> first | rfl | exact absurd rfl h
  have e2:(op == CmpOp.NotIn) = false:=by cases op <;> first | rfl | exact absurd rfl h2
  cases b <;> simp [behindInMarks,e1,e2]
theorem pe_cmpR {op:CmpOp} {r:R2} (ho:OpR X (compareOp op) r) (ha:PE X a ta) (hb:PE X b tb) (hm:behindInMarks op b = false):PE X (.Compare a [op] [b] pos) (tOp r ta tb):=by
  intro pins s σ H Q I h
  exact wpAny_Compare1 (binT ha hb I h fun v u s2 x y H2 I2 rx ry q=>ho pins s2 σ H2 x y v u Q I2 rx ry q) hm
noncomputable def tTest (t:TE):TT:=fun σ H Q=>t σ H fun x H'=>∃ k,x = .bl k /\ Q k H'
theorem pt_cmpR {op:CmpOp} {r:R2} (ho:OpR X (compareOp op) r) (ha:PE X a ta) (hb:PE X b tb) (hm:behindInMarks op b = false):PT X (.Compare a [op] [b] pos) (tTest (tOp r ta tb)):=by
  intro pins s σ H Q I h
  refine wpAny_isTrue_Compare1 (thn (ha pins s σ H _ I h) fun v s1 ⟨x,H1,I1,r1,q1⟩=>thn (hb pins s1 σ H1 _ I1 q1) fun u s2 ⟨y,H2,I2,r2,q2⟩ =>
    thn (ho pins s2 σ H2 x y v u _ I2 r1 r2 q2) fun c s3 ⟨z,H3,I3,r3,k,e,q3⟩=>?_) hm
  subst e
  cases r3
  exact wpAny_truthy_bool ⟨H3,I3,q3⟩
theorem line63:(sizeLine:Nat) < 2 ^ 63:=by rw [sizeLine_eq]; decide
theorem vals1 {x:V} {us:List Value} (r:Vals [x] us):∃ u,us = [u] /\ RelV x u:=by
  cases r with
  | cons r1 r2=>cases r2; exact ⟨_,rfl,r1⟩
theorem vals2 {x y:V} {us:List Value} (r:Vals [x,y] us):∃ u w',us = [u,w'] /\ RelV x u /\ RelV y w':=by
  cases r with
  | cons r1 r2 =>
    cases r2 with
    | cons r3 r4=>cases r4; exact ⟨_,_,rfl,r1,r3⟩
theorem call_abs:CallR X (.builtin "abs") (fun xs H Q=>∃ i,xs = [.int i] /\ Q (.int (if i < 0 then -i else i)) H):=by
  intro pins s σ H xs us Q I r h
  obtain ⟨i,rfl,q⟩:=h
  obtain ⟨u,rfl,t,rfl⟩:=vals1 r
  exact call_abs_int fun u tk=>⟨.int (if i < 0 then -i else i),H,I.tok _,⟨_,rfl⟩,q⟩
theorem call_max2 (hc:X.calm = true):CallR X (.builtin "max") (fun xs H Q=>∃ i j,xs = [.int i,.int j] /\ Q (.int (if j > i then j else i)) H):=by
  intro pins s σ H xs us Q I r h
  obtain ⟨i,j,rfl,q⟩:=h
  obtain ⟨u,w',rfl,⟨t,rfl⟩,⟨t',rfl⟩⟩:=vals2 r
  refine max_two_ints (I.ok.hd hc) fun h' tk k=>⟨_,H,I.kept k,?_,q⟩
  by_cases hj:j > i
  · rw [if_pos hj,if_pos hj]; exact ⟨_,rfl⟩
  · rw [if_neg hj,if_neg hj]; exact ⟨_,rfl⟩
theorem call_int1:CallR X (.type "int") (fun xs H Q=>(∃ i,xs = [.int i] /\ Q (.int i) H) \/ ∃ k,xs = [.bl k] /\ Q (.int (if k then 1 else 0)) H):=by
  intro pins s σ H xs us Q I r h
  rcases h with ⟨i,rfl,q⟩ | ⟨k,rfl,q⟩
  · obtain ⟨u,rfl,t,rfl⟩:=vals1 r
    exact call_int_int ⟨.int i,H,I,⟨_,rfl⟩,q⟩
  · obtain ⟨u,rfl,r1⟩:=vals1 r
    cases r1
    exact call_int_bool ⟨.int (if k then 1 else 0),H,I.tok _,⟨_,rfl⟩,q⟩
theorem call_divmod:CallR X (.builtin "divmod") (fun xs H Q=>∃ i j,xs = [.int i,.int j] /\ CDiv i j /\ ∀ p,H p = none -> Q (.ref p) (upd H p (.tup [.int (i / j),.int (i % j)]))):=by
  intro pins s σ H xs us Q I r h
  obtain ⟨i,j,rfl,⟨h1,h2⟩,q⟩:=h
  obtain ⟨u,w',rfl,⟨t,rfl⟩,⟨t',rfl⟩⟩:=vals2 r
  refine divmod_int (by omega) ?_ (.inl (PyProof.noPylong_small (by omega)))
  rw [Int.fdiv_eq_ediv_of_nonneg i (by omega),Int.fmod_eq_emod_of_nonneg i (by omega)]
  have hn:H s.heap.objs.size = none:=I.hok.fresh (Nat.le_refl _)
  refine ⟨.ref s.heap.objs.size,_,?_,rfl,q _ hn⟩
  refine I.laid (fun b o e=>Heap.get?_push_of_some _ e) (Nat.le_refl _) ⟨by simp only [List.length_cons,List.length_nil]; rw [sizeLine_eq]; decide,[.int (i / j) s.toks,.int (i % j) (s.toks + 1)],.cons ⟨_,rfl⟩ (.cons ⟨_,rfl⟩ .nil),?_⟩
  exact ⟨_,Heap.get?_push_size s.heap rfl,rfl,⟨0,rfl⟩,rfl⟩
end
end L2

namespace L2
open PySem PySem.Spec PyProof.Rows

theorem lookIn_ns {h:Heap} {dx:Addr} {mA:Str -> Option Value} (n:h.Ns1 dx mA):∃ od,h.get? dx = some od /\ ∀ name,W.lookIn name od = some (mA name):=by
  obtain ⟨o,es,ep,ho,hd,hk,_,hm⟩:=n
  refine ⟨o,ho,fun name=>?_⟩
  have e:=hm name
  unfold nsFind findBy at e
  rw [<- Array.find?_toList] at e
  unfold W.lookIn
  rw [hd]
  dsimp only
  split
  · rename_i y q
    rw [q] at e
    exact congrArg some e
  · rename_i q
    rw [q] at e
    have a:es.toList.any (·.refKey) = false:=by
      rw [List.any_eq_false]
      intro y hy
      obtain ⟨z,t,hkey⟩:=hk y (Array.mem_toList_iff.mp hy)
      simp [DictEntry.refKey,hkey]
    have a':¬ es.toList.any (·.refKey) = true:=by rw [a]; exact Bool.false_ne_true
    rw [if_neg a']
    exact congrArg some e

section
variable {prog:Program} {w:World} {A:Around} {E:Value -> Shared -> Prop} {s:Shared} {K:W.Frag} {x dx C f:Addr} {mA:Str -> Option Value} {name:Str} {v:Value}

end

theorem RelO.some_of {v:V} {o:Option Value} (r:RelO (some v) o):∃ u,o = some u /\ RelV v u:=by
  cases o with
  | none=>exact (show False from r).elim
  | some u=>exact ⟨u,rfl,r⟩
theorem handed_of {v:V} {u:Value} (r:RelV v u):W.handedIn u = true:=by
  cases v with
  | non=>cases (show u = Value.none from r); rfl
  | bl b=>cases (show u = Value.bool b from r); rfl
  | int i=>obtain ⟨t,e⟩:=(show ∃ t,u = Value.int i t from r); cases e; rfl
  | str x=>obtain ⟨t,e⟩:=(show ∃ t,u = Value.str x t from r); cases e; rfl
  | byt b=>obtain ⟨t,e⟩:=(show ∃ t,u = Value.bytes b t from r); cases e; rfl
  | flt b=>obtain ⟨t,e⟩:=(show ∃ t,u = Value.float b t from r); cases e; rfl
  | ref a=>cases (show u = Value.ref a from r); rfl
  | ty n=>cases (show u = Value.type n from r); rfl

section
variable {P:Program} {w:World} {H H':Hp} {h h':Heap} {a C dx:Addr} {fs fs':List (Str × V)}
end

noncomputable def NoAttr (K:W.Frag) (C:Addr) (f:Str):Prop:=W.findIn K (.ref C) f = some none
section
variable {X:Cx} {pins:List (Addr × Obj)} {σ:St} {H:Hp} {s:Shared} {a C dx:Addr} {fs:List (Str × V)} {f:Str} {v:V} {A:Around} {E:Value -> Shared -> Prop}

theorem attr_of {prog:Program} {w:World} {env:Env} {e:Expr} {f:Str} {pos:Pos} {s:Shared} {Q:Value -> Shared -> Prop} (hb:attributeBase e f env (eval e env) = eval e env)
    (h:wpAny (model prog w) A (eval e env) (fun o s₁=>wpAny (model prog w) A (getAttr o f true) Q E s₁) E s):wpAny (model prog w) A (eval (.Attribute e f pos) env) Q E s :=
  Attribute_any_ h (by rw [arm_eval_Attribute,hb])
end

section
variable {X:Cx} {o e value:Expr} {f:Str} {pos pos' tpos:Pos} {ta tv:TE}
end

section
variable {X:Cx} {pins:List (Addr × Obj)} {σ:St} {H:Hp} {s:Shared} {A:Around} {E:Value -> Shared -> Prop} {Q:Value -> Shared -> Prop} {c:Value} {b:Bool}
end
end L2

namespace L2
open PySem PySem.Spec PyProof.Rows

structure Room (k:Nat) (A:Around):Prop where
  hd:A.handled = none
  dp:A.depth + 3 * k + 5 < recursionLimit
  un:A.units + 16 * k + 200 < cLine
  gd:A.guards = some []
theorem Room.mono {j k:Nat} {A:Around} (r:Room k A) (h:j <= k):Room j A:=⟨r.hd,by have:=r.dp; omega,by have:=r.un; omega,r.gd⟩
theorem Room.deeper {k:Nat} {A:Around} (r:Room (k + 1) A) (env:Env):Room k (A.deeper env) :=
  ⟨r.hd,by have:=r.dp; show A.depth + 1 + 3 * k + 5 < _; omega,by have:=r.un; show A.units + 3 + 16 * k + 200 < _; omega,r.gd⟩
theorem make_depth {A:Around} {C:Addr} {us:List Value} {kw:List (Str × Value)}:(A.under (.builtin "type.__call__" ⟨.ref C :: us,kw⟩)).depth = A.depth + 1:=by
  first | rfl | simp [Around.under,Code.weight,Code.isCreation,Code.isGuard,Code.isCaller,Code.frames,Code.isFrame,guardIds]
theorem make_units {A:Around} {C:Addr} {us:List Value} {kw:List (Str × Value)}:(A.under (.builtin "type.__call__" ⟨.ref C :: us,kw⟩)).units = A.units + 1:=by
  first | rfl | simp [Around.under,Code.cUnits,Code.frames,Code.isFrame]
theorem Room.make {k:Nat} {A:Around} (r:Room (k + 1) A) (C:Addr) (us:List Value) (kw:List (Str × Value)):Room k (A.under (.builtin "type.__call__" ⟨.ref C :: us,kw⟩)) :=
  ⟨r.hd,by have:=r.dp; rw [make_depth]; omega,by have:=r.un; rw [make_units]; omega,by first | exact r.gd | (have:=r.gd; simp [Around.under,Code.guards,Code.isGuard,guardIds,pushGuards,this])⟩
theorem Room.depth {k:Nat} {A:Around} (r:Room k A):A.depth < recursionLimit:=by have:=r.dp; omega
theorem Room.units {k:Nat} {A:Around} (r:Room k A):A.units + 64 < cLine:=by have:=r.un; omega
noncomputable def tNil:TA:=fun _ H Q=>Q [] H
noncomputable def tCons (ta:TE) (tr:TA):TA:=fun σ H Q=>ta σ H fun x H1=>tr σ H1 fun xs H2=>Q (x :: xs) H2
section
variable {X:Cx} {e:Expr} {es:List Expr} {te:TE} {t:TA} {pos:Pos}
theorem pa_nil:PA X [] tNil:=fun _ _ _ _ H Q I h=>Calls.spliced_nil ⟨[],H,I,.nil,h⟩
theorem pa_cons (ha:PE X e te) (hr:PA X es t) (hs:starEach (e :: es) X.env = (false,eval e X.env) :: starEach es X.env:=by rfl):PA X (e :: es) (tCons te t):=by
  intro pos pins s σ H Q I h
  rw [hs]
  show wpAny _ _ (spliced ((false,eval e X.env) :: backTo pos (starEach es X.env))) _ _ s
  refine Calls.spliced_cons (thn (ha pins s σ H _ I h) fun u s1 ⟨x,H1,I1,r1,q1⟩=>?_)
  exact thn (hr pos pins s1 σ H1 _ I1 q1) fun us s2 ⟨xs,H2,I2,r2,q2⟩=>⟨x :: xs,H2,I2,.cons r1 r2,q2⟩

noncomputable def tTup (t:TA):TE:=fun σ H Q=>t σ H fun xs H1=>xs.length <= sizeLine /\ ∀ p,H1 p = none -> Q (.ref p) (upd H1 p (.tup xs))
noncomputable def tLst (t:TA):TE:=fun σ H Q=>t σ H fun xs H1=>xs.length <= sizeLine /\ ∀ p,H1 p = none -> Q (.ref p) (upd H1 p (.lst xs))
theorem pe_tup {x1} (h:PA X es t):PE X (.Tuple es x1 pos) (tTup t):=by
  intro pins s σ H Q I hq
  refine wpAny_Tuple_spliced (thn (h pos pins s σ H _ I hq) fun us s1 ⟨xs,H1,I1,r,z,q⟩=>⟨by rw [<- r.length]; exact z,?_⟩)
  have hf:H1 s1.heap.objs.size = none:=I1.hok.fresh (Nat.le_refl _)
  refine ⟨.ref s1.heap.objs.size,upd H1 s1.heap.objs.size (.tup xs),I1.laid (t':=s1.toks) (fun b u e=>Heap.get?_push_of_some _ e) (Nat.le_refl _) ?_,rfl,q _ hf⟩
  exact ⟨z,us,r,IsTupD.new _ _⟩
theorem pe_lst (h:PA X es t):PE X (.List es pos) (tLst t):=by
  intro pins s σ H Q I hq
  refine wpAny_List_spliced (thn (h pos pins s σ H _ I hq) fun us s1 ⟨xs,H1,I1,r,z,q⟩=>⟨by rw [<- r.length]; exact z,?_⟩)
  have hf:H1 s1.heap.objs.size = none:=I1.hok.fresh (Nat.le_refl _)
  refine ⟨.ref s1.heap.objs.size,upd H1 s1.heap.objs.size (.lst xs),I1.laid (t':=s1.toks) (fun b u e=>Heap.get?_push_of_some _ e) (Nat.le_refl _) ?_,rfl,q _ hf⟩
  exact ⟨z,us,0,r,Heap.get?_push_size _ rfl⟩
end

abbrev Sp:=List V -> Hp -> VK -> XK -> Prop
abbrev CXT:=List Env -> Hp -> Shared -> XK -> Value -> Shared -> Prop

structure Env0 (P:Program) (w:World) (K:W.Frag) (mg:Str -> Option Value) (base:Heap) (A:Around) (outer:List Env) (s:Shared) (H:Hp):Prop where
  frames:A.frames = some outer
  mod:Mod K mg base
  bs:∀ b o,base.get? b = some o -> s.heap.get? b = some o /\ H b = none
  bsz:base.objs.size <= s.heap.objs.size
  funs:s.heap.FunFrames base outer
  frf:∀ b ∈ frs outer,H b = none
  hok:HOk P w H s.heap
  bare:AllBare s.gens
noncomputable def CE (outer:List Env) (P:Program) (w:World) (H:Hp) (s:Shared) (Q:VK) (u:Value) (s':Shared):Prop :=
  ∃ v H',s'.os = s.os /\ AllBare s'.gens /\ Un (frs outer) [] H H' s.heap s'.heap /\ HOk P w H' s'.heap /\ RelV v u /\ Q v H'
noncomputable def CR (CX:CXT) (outer:List Env) (P:Program) (w:World) (H:Hp) (s:Shared) (Q:VK) (E:XK) (r:Result) (s':Shared):Prop :=
  match r with
  | .ok (.ret u)=>CE outer P w H s Q u s'
  | .ok _=>False
  | .error e=>CX outer H s E e s'
structure FnOk (P:Program) (w:World) (K:W.Frag) (mg:Str -> Option Value) (base:Heap) (CX:CXT) (k:Nat) (f:Addr) (fd:FuncData) (ps:List Str) (sp:Sp):Prop where
  len:∀ vs H Q E,sp vs H Q E -> vs.length = ps.length
  run:∀ (A:Around) (outer:List Env) (s:Shared) (H:Hp) (args:Args) (us:List Value) (vs:List V) (Q:VK) (E:XK),Room k A -> Env0 P w K mg base A outer s H -> BindsTo s fd args (ps.zip us) -> Vals vs us -> sp vs H Q E ->
    codeAny (model P w) A (.call (.ref f) args) (CR CX outer P w H s Q E) s
theorem Env0.make {P:Program} {w:World} {K:W.Frag} {mg:Str -> Option Value} {base:Heap} {A:Around} {outer:List Env} {s:Shared} {H:Hp} (e:Env0 P w K mg base A outer s H) (C:Addr) (us:List Value) (kw:List (Str × Value)) :
    Env0 P w K mg base (A.under (.builtin "type.__call__" ⟨.ref C :: us,kw⟩)) outer s H:=⟨by first | exact e.frames | (simpa [Around.under,Code.envs,Code.isFrame,pushEnvs] using e.frames),e.mod,e.bs,e.bsz,e.funs,e.frf,e.hok,e.bare⟩
section
variable {X:Cx} {pins:List (Addr × Obj)} {σ:St} {H:Hp} {s s':Shared}
theorem Inv.env0 (I:Inv X pins σ H s):Env0 X.prog X.w X.K X.mg X.base X.A X.stack s H :=
  ⟨I.ok.frames,I.ok.mod,I.bs,Nat.le_trans I.ok.bsz I.sz,I.stack,I.stkFree,I.hok,I.bare⟩
theorem Inv.after {Q:VK} {u:Value} (I:Inv X pins σ H s) (h:CE X.stack X.prog X.w H s Q u s'):EP X pins σ Q u s':=by
  obtain ⟨v,H',os,bare,un,hok,r,q⟩:=h
  obtain ⟨hh,g,d,t,os'⟩:=s'
  obtain rfl:os' = s.os:=os
  exact ⟨v,H',I.call (h':=hh) (g':=g) (d':=d) (t':=t) (ch:=[]) un hok bare (fun b z=>absurd z (by simp)),r,q⟩
end

noncomputable def tCall (sp:Sp) (dvs:List V) (E:XK) (t:TA):TE:=fun σ H Q=>t σ H fun vs H1=>sp (vs ++ dvs) H1 Q E
noncomputable def Binds (K:W.Frag) (fd:FuncData) (ps:List Str) (ds:List Value):Prop :=
  ∀ (s:Shared) (us:List Value),K.In s.heap -> (us ++ ds).length = ps.length -> BindsTo s fd ⟨us,[]⟩ (ps.zip (us ++ ds))
theorem Binds.all {K:W.Frag} {fd:FuncData} {ps:List Str} (h:∀ us:List Value,us.length = ps.length -> bindArgs fd ⟨us,[]⟩ = pure (ps.zip us)):Binds K fd ps []:=fun s us _ hl=>by
  rw [List.append_nil] at hl ⊢
  exact .of_eq (h us hl)

noncomputable def Passes (CX:CXT) (X:Cx) (E:XK):Prop:=∀ (pins:List (Addr × Obj)) (σ:St) (H:Hp) (s:Shared) (e:Value) (s':Shared),Inv X pins σ H s -> CX X.stack H s E e s' -> X.xe e s'

section
variable {X:Cx} {CX:CXT} {k:Nat} {f C:Addr} {fd:FuncData} {ps:List Str} {sp:Sp} {dvs:List V} {ds:List Value} {E:XK} {x m:Str} {p pos apos:Pos} {e o:Expr} {es:List Expr} {ta:TE} {t:TA}

theorem run_fn {pins:List (Addr × Obj)} {σ:St} {H:Hp} {s:Shared} {Q:VK} {us:List Value} {vs:List V} (F:FnOk X.prog X.w X.K X.mg X.base CX k f fd ps sp) (hr:Room k X.A) (hb:Binds X.K fd ps ds) (hd:Vals dvs ds) (hx:Passes CX X E)
    (I:Inv X pins σ H s) (r:Vals vs us) (h:sp (vs ++ dvs) H Q E):wpAny (model X.prog X.w) X.A (call (.ref f) us) (EP X pins σ Q) X.xe s:=by
  have r2:Vals (vs ++ dvs) (us ++ ds):=r.append hd
  have hl:(us ++ ds).length = ps.length:=by rw [<- r2.length]; exact F.len _ _ _ _ h
  refine wpAny_call (codeAny_mono (F.run X.A X.stack s H ⟨us,[]⟩ (us ++ ds) (vs ++ dvs) Q E hr I.env0 (hb s us I.kIn hl) r2 h) fun r s' hq=>?_)
  cases r with
  | error e=>exact hx pins σ H s e s' I hq
  | ok fl =>
    cases fl with
    | ret u=>exact I.after hq
    | next=>exact False.elim hq
    | brk=>exact False.elim hq
    | cont=>exact False.elim hq

theorem pe_call (F:FnOk X.prog X.w X.K X.mg X.base CX k f fd ps sp) (hr:Room k X.A) (hg:Gl X x) (hm:X.mg x = some (.ref f)) (hk:W.keepIn X.K (.ref f) = true) (hb:Binds X.K fd ps ds) (hd:Vals dvs ds) (hx:Passes CX X E)
    (ha:PA X (e :: es) t) (hdb:(x == ("__debug__" : Str)) = false:=by decide) (he:starEach (e :: es) X.env = (false,eval e X.env) :: starEach es X.env:=by rfl) (hpl:(backTo pos (starEach es X.env)).any (·.1) = false:=by rfl) :
    PE X (.Call (.Name x p) (e :: es) [] pos) (tCall sp dvs E t):=by
  intro pins s σ H Q I h
  refine wpAny_Call_Name_kw (ld_glob I hg hm ?_ hdb)
  refine W.callWith_K (h₀:=X.base) I.ok.mod.kin hk (thn (ha pos pins s σ H _ I h) fun us s1 ⟨vs,H1,I1,r,q⟩=>⟨I1.kIn,?_⟩) he hpl
  exact run_fn F hr hb hd hx I1 r q
end

section
variable {X:Cx} {CX:CXT} {k:Nat} {f C:Addr} {fd:FuncData} {ps ks:List Str} {sp:Sp} {E:XK} {x m:Str} {p pos apos kpos:Pos} {e o:Expr} {es:List Expr} {kws:List Keyword} {te ta:TE} {t tk:TA} {nm:Option Str}
variable {g:List Value -> List Value -> List Value} {gV:List V -> List V -> List V}
end

structure FnScope (N P:List Str) (sc:Scope):Prop where
  kind:sc.kind = .function
  co:sc.isCoroutine = false
  gen:sc.isGenerator = false
  nd:N.Nodup
  pre:N.take P.length = P
  par:∀ x ∈ P,sc.names.lookup x = some .local \/ sc.names.lookup x = some .cell
  nofree:∀ y ∈ sc.names,y.2 ≠ .free

theorem bindL_out {kindOf:Str -> Option NameKind} {x:Str}:∀ {binds:List (Str × Value)} {m:Str -> Option Value},(∀ v,(x,v) ∉ binds) -> bindL kindOf binds m x = m x
  | [],_,_=>rfl
  | (n,v) :: r,m,h=>by
    unfold bindL
    rw [bindL_out fun w hw=>h w (List.mem_cons_of_mem _ hw)]
    split
    · have:x ≠ n:=by rintro rfl; exact h v List.mem_cons_self
      simp [this]
    · rfl
theorem bindC_out {kindOf:Str -> Option NameKind} {x:Str}:∀ {binds:List (Str × Value)} {m:Str -> Option Value},(∀ v,(x,v) ∉ binds) -> bindC kindOf binds m x = m x
  | [],_,_=>rfl
  | (n,v) :: r,m,h=>by
    unfold bindC
    rw [bindC_out fun w hw=>h w (List.mem_cons_of_mem _ hw)]
    split
    · rfl
    · have:x ≠ n:=by rintro rfl; exact h v List.mem_cons_self
      simp [this]
theorem bindL_get {kindOf:Str -> Option NameKind} {x:Str} {v:Value}:∀ {P:List Str} {vs:List Value} {i:Nat} {m:Str -> Option Value},P.Nodup -> P[i]? = some x -> vs[i]? = some v -> kindOf x = some .local ->
    bindL kindOf (P.zip vs) m x = some v
  | [],_,_,_,_,h,_,_=>by simp at h
  | _ :: _,[],_,_,_,_,h,_=>by simp at h
  | p :: P,w :: vs,0,m,nd,h1,h2,hk=>by
    simp at h1 h2; subst h1; subst h2
    show bindL kindOf ((p,w) :: P.zip vs) m p = _
    unfold bindL
    rw [bindL_out fun v hv=>(List.nodup_cons.mp nd).1 (List.of_mem_zip hv).1,if_pos hk]
    simp
  | p :: P,w :: vs,i + 1,m,nd,h1,h2,hk=>by
    show bindL kindOf ((p,w) :: P.zip vs) m x = _
    unfold bindL
    exact bindL_get (i:=i) (List.nodup_cons.mp nd).2 (by simpa using h1) (by simpa using h2) hk
theorem bindC_get {kindOf:Str -> Option NameKind} {x:Str} {v:Value}:∀ {P:List Str} {vs:List Value} {i:Nat} {m:Str -> Option Value},P.Nodup -> P[i]? = some x -> vs[i]? = some v -> kindOf x ≠ some .local ->
    bindC kindOf (P.zip vs) m x = some v
  | [],_,_,_,_,h,_,_=>by simp at h
  | _ :: _,[],_,_,_,_,h,_=>by simp at h
  | p :: P,w :: vs,0,m,nd,h1,h2,hk=>by
    simp at h1 h2; subst h1; subst h2
    show bindC kindOf ((p,w) :: P.zip vs) m p = _
    unfold bindC
    rw [bindC_out fun v hv=>(List.nodup_cons.mp nd).1 (List.of_mem_zip hv).1,if_neg hk]
    simp
  | p :: P,w :: vs,i + 1,m,nd,h1,h2,hk=>by
    show bindC kindOf ((p,w) :: P.zip vs) m x = _
    unfold bindC
    exact bindC_get (i:=i) (List.nodup_cons.mp nd).2 (by simpa using h1) (by simpa using h2) hk

noncomputable def start (N:List Str) (vs:List V):St:=vs.map some ++ List.replicate (N.length - vs.length) none

noncomputable def cxOf (CX:CXT) (P:Program) (w:World) (K:W.Frag) (mg:Str -> Option Value) (base:Heap) (N:List Str) (qual:Str) (scope:Scope) (f:Addr) (cd:Value) (A:Around) (outer:List Env) (s:Shared) (H:Hp) (E:XK):Cx where
  prog:=P
  w:=w
  K:=K
  mg:=mg
  base:=base
  A:=A.deeper (envOfC qual scope s.heap.objs.size f cd)
  N:=N
  s₀:=s
  H₀:=H
  env:=envOfC qual scope s.heap.objs.size f cd
  outer:=outer
  stack:=envOfC qual scope s.heap.objs.size f cd :: outer
  ex:=[]
  calm:=true
  fn:=fun _=>true
  pn:=[]
  xe:=fun e s'=>wpAny (model P w) (A.deeper (envOfC qual scope s.heap.objs.size f cd)) (leaving (envOfC qual scope s.heap.objs.size f cd) e) (fun _ s''=>CX outer H s E e s'') (fun e' s''=>CX outer H s E e' s'') s'

theorem cell_has {sc:Scope} {n:Nat} {x:Str} (h:sc.names.lookup x = some .cell):∃ c,(cellsFrom n sc.names []).lookup x = some c:=by
  have q:=W.cellsFrom_some sc.names n [] (.inl h)
  exact Option.isSome_iff_exists.mp q

theorem inv_start {CX:CXT} {P:Program} {w:World} {K:W.Frag} {mg:Str -> Option Value} {base:Heap} {N ps:List Str} {qual:Str} {scope:Scope} {f:Addr} {cd:Value} {A:Around} {outer:List Env} {s s1:Shared} {H:Hp} {E:XK} {us:List Value} {vs:List V}
    (S:FnScope N ps scope) (hd:A.handled = none) (e0:Env0 P w K mg base A outer s H) (hl:vs.length = ps.length) (r:Vals vs us)
    (x:InCallC s s.heap.objs.size (bindL (envOfC qual scope s.heap.objs.size f cd).kindOf (ps.zip us) fun _=>none) (cellsFrom (s.heap.objs.size + 1) scope.names []) (bindC (envOfC qual scope s.heap.objs.size f cd).kindOf (ps.zip us) fun _=>none) s1) :
    Inv (cxOf CX P w K mg base N qual scope f cd A outer s H E) [] (start N vs) H s1:=by
  have hpl:ps.length <= N.length:=by have:=congrArg List.length S.pre; rw [List.length_take] at this; omega
  obtain ⟨h1,tk,rfl,hk⟩:=x.done
  have noA:∀ b:Addr,b ∉ (cxOf CX P w K mg base N qual scope f cd A outer s H E).ex:=fun b z=>absurd (show b ∈ ([]:List Addr) from z) (by simp)
  refine ⟨⟨e0.mod,S.kind,rfl,rfl,Nat.le_refl _,fun y z c h1 h2=>?_,fun y hy=>?_,fun y c _ h=>?_,fun _=>hd,Around.frames_deeper e0.frames,.inr ⟨rfl,rfl⟩,fun b z=>absurd z (noA b),e0.bs,e0.bsz,fun b _ _=>noA b,fun b z=>absurd z (noA b),e0.funs,e0.frf⟩,
    rfl,e0.bare,Un.kept hk,⟨_,x.toInCall.ns,fun i y v h1 h2 h3=>?_⟩,fun y c h=>⟨_,x.cell y c h⟩,e0.hok.fresh (Nat.le_refl _),fun y c h=>?_,fun p hp=>absurd (show p ∈ ([]:List (Addr × Obj)) from hp) (by simp),e0.hok.kept hk,?_⟩
  · exact name_of_addr x.apart (PySem.mem_of_lookup h1) (PySem.mem_of_lookup h2)
  · have hy:scope.names.lookup y = some .cell \/ scope.names.lookup y = some .free:=hy
    rcases hy with hy | hy
    · exact cell_has hy
    · exact absurd rfl (S.nofree _ (PySem.mem_of_lookup hy))
  · exact Nat.le_of_lt (x.above y c (PySem.mem_of_lookup h))
  · have hi:i < vs.length:=by
      unfold start at h2
      by_cases hi:i < vs.length
      · exact hi
      · rw [List.getElem?_append_right (by simpa using hi)] at h2
        rw [List.getElem?_replicate] at h2
        split at h2 <;> cases h2
    have ha:vs[i]? = some v:=by
      unfold start at h2
      rw [List.getElem?_append_left (by simpa using hi),List.getElem?_map] at h2
      cases e:vs[i]? with
      | none=>rw [e] at h2; cases h2
      | some a=>rw [e] at h2; cases h2; rfl
    obtain ⟨u,hu,rv⟩:=r.get ha
    have hp:ps[i]? = some y:=by
      rw [<- S.pre,List.getElem?_take_of_lt (by omega)]; exact h1
    have ndP:ps.Nodup:=by rw [<- S.pre]; exact S.nd.sublist (List.take_sublist _ _)
    refine ⟨u,rv,?_⟩
    rcases S.par y (List.mem_of_getElem? hp) with k | k
    · exact .inl ⟨k,bindL_get ndP hp hu k⟩
    · obtain ⟨c,e⟩:=cell_has (n:=s.heap.objs.size + 1) k
      refine .inr ⟨.inl k,c,e,?_⟩
      have q:=x.cell y c e
      rw [bindC_get ndP hp hu (by show scope.names.lookup y ≠ _; rw [k]; decide)] at q
      exact q
  · exact e0.hok.fresh (Nat.le_of_lt (x.above y c (PySem.mem_of_lookup h)))
  · unfold start
    show _ = N.length
    rw [List.length_append,List.length_map,List.length_replicate]
    omega

theorem fn_of {CX:CXT} {P:Program} {w:World} {K:W.Frag} {mg:Str -> Option Value} {base:Heap} {k:Nat} {f:Addr} {name qual:Str} {params:Arguments} {body:List Stmt} {scope:Scope} {dV kV doc pm cdv ct oc:Value} {an od:Option Addr}
    {osl:Array (Option Value)} {N ps:List Str} {sp:Sp} (lk:K.lookup f = some ⟨oc,od,.func (W.fnOf name qual params body scope dV kV doc pm an cdv ct),osl⟩) (hcd:W.codeIn K cdv qual = true) (S:FnScope N ps scope)
    (len:∀ vs H Q E,sp vs H Q E -> vs.length = ps.length)
    (hbody:∀ (A:Around) (outer:List Env) (s:Shared) (H:Hp) (vs:List V) (Q:VK) (E:XK),Room k (A.deeper (envOfC qual scope s.heap.objs.size f cdv)) -> sp vs H Q E ->
      ∃ t,PSs (cxOf CX P w K mg base N qual scope f cdv A outer s H E) body t /\ t { nx:=fun _ H'=>Q .non H',rt:=Q } (start N vs) H) :
    FnOk P w K mg base CX (k + 1) f (W.fnOf name qual params body scope dV kV doc pm an cdv ct) ps sp:=by
  refine ⟨len,fun A outer s H args us vs Q E hr e0 hb r hsp=>?_⟩
  have hl:=len _ _ _ _ hsp
  have KX:K.In s.heap:=e0.mod.kin.keeps fun b o e=>(e0.bs b o e).1
  have lim:s.heap.NoLimit:=e0.mod.nolimit.keeps fun b o e=>(e0.bs b o e).1
  have hkind:∀ y ∈ ps.zip us,scope.names.lookup y.1 = some .local \/ (scope.names.lookup y.1 = some .cell /\ ((cellsFrom (s.heap.objs.size + 1) scope.names []).lookup y.1).isSome = true):=fun ⟨n,v⟩ hy=>by
    rcases S.par n (List.of_mem_zip hy).1 with q | q
    · exact .inl q
    · exact .inr ⟨q,W.cellsFrom_some _ _ _ (.inl q)⟩
  refine codeAny_call_function hr.depth (KX _ _ lk) rfl S.co S.gen rfl (W.codeRec_of KX hcd) (hb _ _ _ _ ?_)
  refine wpAny_newFunctionEnv_cells S.kind hkind fun env he s1 x=>?_
  subst he
  refine ⟨lim.keeps x.toInCall.keep,codeAny_func ?_⟩
  obtain ⟨t,ht,hq⟩:=hbody A outer s H vs Q E (hr.deeper _) hsp
  have I:Inv (cxOf CX P w K mg base N qual scope f cdv A outer s H E) [] (start N vs) H s1:=inv_start S hr.hd e0 hl r x
  refine wpAny_mono (ht [] s1 (start N vs) H _ I hq) (fun fl s' hs=>?_) fun e s' hs=>hs
  have fin:∀ {σ':St} {H':Hp} {v:V} {u:Value},Inv (cxOf CX P w K mg base N qual scope f cdv A outer s H E) [] σ' H' s' -> RelV v u -> Q v H' -> CE outer P w H s Q u s' :=
    fun {σ' H' v u} J rv q=>⟨v,H',J.os,J.bare,J.base,J.hok,rv,q⟩
  cases fl with
  | ret u =>
    obtain ⟨v,σ',H',J,rv,q⟩:=hs
    exact fin J rv q
  | next =>
    obtain ⟨σ',H',J,q⟩:=hs
    exact fin (v:=V.non) (u:=Value.none) J rfl q
  | brk =>
    obtain ⟨_,_,_,q⟩:=hs
    exact False.elim q
  | cont =>
    obtain ⟨_,_,_,q⟩:=hs
    exact False.elim q
end L2

namespace L2
open PySem PySem.Spec PyProof.Rows
section
variable {X:Cx} {x:Str} {p pos:Pos} {e:Expr} {es:List Expr} {t:TA} {id T:String} {r:List V -> Hp -> VK -> Prop}

noncomputable def tCB (r:List V -> Hp -> VK -> Prop) (t:TA):TE:=fun σ H Q=>t σ H fun vs H1=>r vs H1 Q
theorem pe_callB (hc:CallR X (.builtin id) r) (hg:Gl X x) (hm:X.mg x = none) (hv:bootBuiltins x = some (.builtin id)) (ha:PA X (e :: es) t) (hn:x ≠ "__name__" := by decide) (hdb:(x == ("__debug__" : Str)) = false:=by decide)
    (he:starEach (e :: es) X.env = (false,eval e X.env) :: starEach es X.env:=by rfl) (hpl:(backTo pos (starEach es X.env)).any (·.1) = false:=by rfl):PE X (.Call (.Name x p) (e :: es) [] pos) (tCB r t):=by
  intro pins s σ H Q I h
  refine wpAny_Call_Name_kw (ld_blt I hg hm hv ?_ hn hdb)
  exact PyProof.Rows.callWith_builtin1 (thn (ha pos pins s σ H _ I h) fun us s1 ⟨vs,H1,I1,r1,q1⟩=>hc pins s1 σ H1 vs us Q I1 r1 q1) he hpl
theorem pe_callTy (hc:CallR X (.type T) r) (hg:Gl X x) (hm:X.mg x = none) (hv:bootBuiltins x = some (.type T)) (ha:PA X (e :: es) t) (hn:x ≠ "__name__" := by decide) (hdb:(x == ("__debug__" : Str)) = false:=by decide)
    (he:starEach (e :: es) X.env = (false,eval e X.env) :: starEach es X.env:=by rfl) (hpl:(backTo pos (starEach es X.env)).any (·.1) = false:=by rfl):PE X (.Call (.Name x p) (e :: es) [] pos) (tCB r t):=by
  intro pins s σ H Q I h
  refine wpAny_Call_Name_kw (ld_blt I hg hm hv ?_ hn hdb)
  exact PyProof.Rows.callWith_type1 (thn (ha pos pins s σ H _ I h) fun us s1 ⟨vs,H1,I1,r1,q1⟩=>hc pins s1 σ H1 vs us Q I1 r1 q1) he hpl
end
end L2

namespace HT
open PySem PyProof.Rows

section
open PySem.SeqAt
open PySem.AutoSeq1 (wpAny_loadPart')
open PySem.MeetsSeq PySem.MeetsSeq2 PySem.MeetsSeq3

end

section
variable {prog:Program} {w:World} {A:Around} {E:Value -> Shared -> Prop} {s:Shared}

theorem cat_tup {t b:Addr} {vs ws:List Value} {Q:Value -> Shared -> Prop} (ht:IsTup s.heap t vs.toArray) (hb:IsTup s.heap b ws.toArray) (hv:vs ≠ [])
    (h1:ws = [] -> Q (.ref t) s) (h2:ws ≠ [] -> Q (.ref s.heap.objs.size) { s with heap:=s.heap.push { cls:=.type "tuple", data:=.seq (vs ++ ws).toArray } })
    (hsz:vs.length + ws.length <= sizeLine):wpAny (model prog w) A (binaryOp .Add (.ref t) (.ref b)) Q E s:=by
  obtain ⟨⟨cls,dd,data,sl⟩,ho,hc,n,hd⟩:=id ht
  obtain ⟨⟨cls2,dd2,data2,sl2⟩,ho2,hc2,n2,hd2⟩:=id hb
  simp only at hc hd hc2 hd2
  subst hc hd hc2 hd2
  have e:vs.toArray ++ ws.toArray = (vs ++ ws).toArray:=by simp
  by_cases hw:ws = []
  · exact concat_meets ⟨_,ho,rfl⟩ ⟨_,ho2,rfl⟩ noFill_tuple_add seq_tuple_add PySem.F.slot_tuple_add PySem.F.entry_tuple_add (PySem.F.args_tuple_add_2 _ _)
      (tuple_addW1 t b vs.toArray ws.toArray n n2 dd dd2 sl sl2 (by simpa using hv) (by simp [hw])) ⟨ho,ho2,h1 hw⟩
  · refine concat_meets ⟨_,ho,rfl⟩ ⟨_,ho2,rfl⟩ noFill_tuple_add seq_tuple_add PySem.F.slot_tuple_add PySem.F.entry_tuple_add (PySem.F.args_tuple_add_2 _ _)
      (tuple_addW2 t b vs.toArray ws.toArray n n2 dd dd2 sl sl2 (by simpa using hv) (by simpa using hw) (by rw [List.size_toArray,List.size_toArray]; exact hsz)) ⟨ho,ho2,?_⟩
    rw [e]
    exact h2 hw

noncomputable def sIx (n d:Nat):Option Int -> Nat
  | none=>d
  | some v=>if v < 0 then (v + (n:Int)).toNat else min v.toNat n
theorem sIx_none (n d:Nat):sIx n d none = d:=rfl
theorem sIx_nat (n d k:Nat):sIx n d (some (k:Int)) = min k n:=by
  show (if (k:Int) < 0 then ((k:Int) + (n:Int)).toNat else min (k:Int).toNat n) = min k n
  rw [if_neg (by omega),Int.toNat_natCast]
theorem sIx_le (n d:Nat) (hd:d <= n) (o:Option Int):sIx n d o <= n:=by
  cases o with
  | none=>exact hd
  | some v =>
    show (if v < 0 then (v + (n:Int)).toNat else min v.toNat n) <= n
    by_cases hv:v < 0
    · rw [if_pos hv]; omega
    · rw [if_neg hv]; exact Nat.min_le_right _ _
theorem clip_eq (v:Int) (n d:Nat):(if v < 0 then max (v + (n:Int)) 0 else min v (n:Int)) = ((sIx n d (some v):Nat):Int):=by
  show (if v < 0 then max (v + (n:Int)) 0 else min v (n:Int)) = (((if v < 0 then (v + (n:Int)).toNat else min v.toNat n):Nat):Int)
  by_cases hv:v < 0
  · simp only [if_pos hv]; omega
  · simp only [if_neg hv]; omega
theorem adjust_gen (lo hi:Option Int) (n:Nat):Builtin.Slice.sliceAdjust lo hi 1 (n:Int) = (((sIx n 0 lo:Nat):Int),((sIx n n hi:Nat):Int)):=by
  have h1:¬ ((1:Int) < 0):=by omega
  unfold Builtin.Slice.sliceAdjust
  simp only [h1,if_false]
  refine Prod.ext ?_ ?_
  · cases lo with
    | none=>rfl
    | some v=>exact clip_eq v n 0
  · cases hi with
    | none=>rfl
    | some v=>exact clip_eq v n n
theorem places_gen (i j:Nat):Builtin.Slice.slicePlaces (i:Int) (j:Int) 1 = j - i:=by
  unfold Builtin.Slice.slicePlaces
  have h1:(1:Int) > 0:=by omega
  simp only [h1,if_true,Int.ediv_one]
  split <;> omega
theorem slicePart_ {v:Value} {o:Option Int} {Q:Option Int -> Shared -> Prop} (p:IsPart v o) (h:Q o s):wpAny (model prog w) A (Builtin.Slice.slicePartIndex v) Q E s:=by
  cases p with
  | none=>exact slicePart_none h
  | int i t=>exact slicePart_int h
theorem sliceApplied_gen {sl:Addr} {vl vu:Value} {lo hi:Option Int} {n:Nat} {Q:Int × Int × Nat -> Shared -> Prop} (hs:s.heap.IsSliceOf sl vl vu .none) (pl:IsPart vl lo) (pu:IsPart vu hi)
    (h:Q (((sIx n 0 lo:Nat):Int),1,sIx n n hi - sIx n 0 lo) s):wpAny (model prog w) A (Builtin.Slice.sliceApplied (.ref sl) (pure (n:Int))) Q E s:=by
  obtain ⟨os,hos,hcs,hds⟩:=id hs
  unfold Builtin.Slice.sliceApplied Builtin.Slice.sliceFields
  refine wpAny_bind (wpAny_bind (wpAny_field hos hds (x:=vl) rfl (wpAny_bind (wpAny_field hos hds (x:=vu) rfl (wpAny_bind (wpAny_field hos hds (x:=.none) rfl (wpAny_pure ?_)))))))
  refine wpAny_bind (slicePart_none ?_)
  show wpAny _ _ (if ((1:Int) == 0) = true then _ else _) _ _ s
  rw [if_neg (by decide)]
  refine wpAny_bind (slicePart_ pl (wpAny_bind (slicePart_ pu (wpAny_bind (wpAny_pure ?_)))))
  show wpAny _ _ (match Builtin.Slice.sliceAdjust lo hi 1 (n:Int) with | (lo,hi)=>pure (lo,(1:Int),Builtin.Slice.slicePlaces lo hi 1)) _ _ s
  rw [adjust_gen lo hi n]
  show wpAny _ _ (pure (((sIx n 0 lo:Nat):Int),(1:Int),Builtin.Slice.slicePlaces ((sIx n 0 lo:Nat):Int) ((sIx n n hi:Nat):Int) 1)) _ _ s
  rw [places_gen]
  exact wpAny_pure h
theorem pick_gen (xs:Array Value) (i k:Nat):((List.range k).filterMap fun (m:Nat)=>xs[((i:Int) + (m:Int) * 1).toNat]?).toArray = ((xs.toList.drop i).take k).toArray:=by
  have e:(fun (m:Nat)=>xs[((i:Int) + (m:Int) * 1).toNat]?) = fun m=>xs[i + m]?:=by
    funext m
    have:((i:Int) + (m:Int) * 1).toNat = i + m:=by omega
    rw [this]
  rw [e]
  have:=pick_run xs i k
  rw [List.filterMap_map] at this
  have e2:((fun x=>xs[x]?) ∘ fun x=>i + x) = fun m=>xs[i + m]?:=rfl
  rw [e2] at this
  rw [this]

theorem getItem_tuple_cut {t sl:Addr} {items:Array Value} {vl vu:Value} {lo hi:Option Int} {Q:Value -> Shared -> Prop} (ht:IsTup s.heap t items) (hs:s.heap.IsSliceOf sl vl vu .none) (pl:IsPart vl lo) (pu:IsPart vu hi)
    (hw:¬ (sIx items.size 0 lo = 0 /\ sIx items.size items.size hi = items.size))
    (h:Q (.ref s.heap.objs.size) { s with heap:=s.heap.push { cls:=.type "tuple", data:=.seq ((items.toList.drop (sIx items.size 0 lo)).take (sIx items.size items.size hi - sIx items.size 0 lo)).toArray } })
    (hsz:items.size <= sizeLine):wpAny (model prog w) A (getItem (.ref t) (.ref sl)) Q E s:=by
  have htake:sizeOk (.seq ((items.toList.drop (sIx items.size 0 lo)).take (sIx items.size items.size hi - sIx items.size 0 lo)).toArray):=by
    show ((items.toList.drop (sIx items.size 0 lo)).take (sIx items.size items.size hi - sIx items.size 0 lo)).toArray.size <= sizeLine
    rw [List.size_toArray,List.length_take,List.length_drop,Array.length_toList]
    omega
  have hj:sIx items.size items.size hi <= items.size:=sIx_le _ _ (Nat.le_refl _) hi
  obtain ⟨os,hos,hcs,hds⟩:=id hs
  have hTs:s.TypeIs (.ref sl) "slice" := ⟨os,hos,hcs⟩
  unfold getItem
  try with_reducible refine wpAny_holding ?_
  first | refine wpAny_bind (wpAny_pure ?_) | skip
  refine wpAny_bind (wpAny_sequenceKey ht.typeIs (by decide) ?_)
  refine wpAny_bind (wpAny_callSpecial?_slot (name:=Str.ofString "__getitem__") ht.typeIs PyProof.Rows.slot_tuple_getitem
    (wpAny_call_entry PyProof.Rows.slot_tuple_getitem ht.typeIs entry_tuple_getitem ?_ (args_tuple_getitem _ _)))
  show wpAny _ _ (Builtin.Tuple.tupleItemsOf (.ref t) >>= _) _ _ s
  refine wpAny_bind (tupleItemsOf_ ht ?_)
  refine wpAny_bind (wpAny_typeOf hTs ?_)
  rw [if_pos (by decide)]
  refine wpAny_bind (sliceApplied_gen hs pl pu ?_)
  have hno:¬ ((((sIx items.size 0 lo:Nat):Int) == 0 && (1:Int) == 1 && (sIx items.size items.size hi - sIx items.size 0 lo) == items.size) = true):=by
    intro q
    rw [Bool.and_eq_true,Bool.and_eq_true] at q
    have q1:((sIx items.size 0 lo:Nat):Int) = 0:=eq_of_beq q.1.1
    have q2:sIx items.size items.size hi - sIx items.size 0 lo = items.size:=eq_of_beq q.2
    exact hw ⟨by omega,by omega⟩
  show wpAny _ _ (if (((sIx items.size 0 lo:Nat):Int) == 0 && (1:Int) == 1 && (sIx items.size items.size hi - sIx items.size 0 lo) == items.size) = true then _ else _) _ _ s
  rw [if_neg hno,pick_gen]
  first
    | exact wpAny_bind (m:=Builtin.Tuple.tupleExact _) (wpAny_newObj_type (wpAny_pure ⟨_,rfl,wpAny_pure h⟩) htake)
    | exact wpAny_bind (m:=Builtin.Tuple.tupleExact _) (wpAny_newObj_type (wpAny_bind (wpAny_pure (wpAny_pure ⟨_,rfl,wpAny_pure h⟩))) htake)
    | exact wpAny_bind (wpAny_bind (m:=Builtin.Tuple.tupleExact _) (wpAny_newObj_type (wpAny_pure (wpAny_pure ⟨_,rfl,wpAny_pure h⟩)) htake))
    | exact wpAny_bind (wpAny_bind (m:=Builtin.Tuple.tupleExact _) (wpAny_newObj_type (wpAny_pure ⟨_,rfl,wpAny_pure h⟩) htake))
end
end HT

namespace L2
open PySem PySem.Spec PyProof.Rows

abbrev TO:=St -> Hp -> (Option Int -> Hp -> Prop) -> Prop
noncomputable def PO (X:Cx) (e:Option Expr) (t:TO):Prop :=
  ∀ (pins:List (Addr × Obj)) (s:Shared) (σ:St) (H:Hp) (Q:Option Int -> Hp -> Prop),Inv X pins σ H s -> t σ H Q ->
    wpAny (model X.prog X.w) X.A (evalPart e X.env) (fun u s'=>∃ o H',Inv X pins σ H' s' /\ IsPart u o /\ Q o H') X.xe s
noncomputable def tNoPart:TO:=fun _ H Q=>Q none H
noncomputable def tPart (t:TE):TO:=fun σ H Q=>t σ H fun x H1=>∃ i,x = .int i /\ Q (some i) H1

section
variable {X:Cx} {e:Expr} {te:TE} {lo hi:Option Expr} {tl th:TO} {pos p2:Pos}

theorem po_none:PO X none tNoPart:=by
  intro pins s σ H Q I h
  rw [evalPart_none]
  exact wpAny_pure ⟨none,H,I,.none,h⟩
theorem po_some (h:PE X e te):PO X (some e) (tPart te):=by
  intro pins s σ H Q I hw
  rw [evalPart_some]
  refine thn (h pins s σ H _ I hw) fun u s1 ⟨x,H1,I1,r1,q1⟩=>?_
  obtain ⟨i,rfl,q⟩:=q1
  obtain ⟨t,rfl⟩:=r1
  exact ⟨some i,H1,I1,.int i t,q⟩

noncomputable def SlR (X:Cx) (r:V -> Option Int -> Option Int -> Hp -> VK -> Prop):Prop :=
  ∀ (pins:List (Addr × Obj)) (s:Shared) (σ:St) (H:Hp) (x:V) (v vl vu:Value) (lo hi:Option Int) (sl:Addr) (Q:VK),Inv X pins σ H s -> RelV x v -> s.heap.IsSliceOf sl vl vu .none -> IsPart vl lo -> IsPart vu hi -> r x lo hi H Q ->
    ∃ T id,typeLookup (.type T) "__getitem__" = pure (some (.builtin id)) /\ s.TypeIs v T /\ wpAny (model X.prog X.w) X.A (getItem v (.ref sl)) (EP X pins σ Q) X.xe s
noncomputable def tSl (r:V -> Option Int -> Option Int -> Hp -> VK -> Prop) (te:TE) (tl th:TO):TE:=fun σ H Q=>te σ H fun x H1=>tl σ H1 fun l H2=>th σ H2 fun u H3=>r x l u H3 Q
theorem pe_slice {r:V -> Option Int -> Option Int -> Hp -> VK -> Prop} (hr:SlR X r) (he:PE X e te) (hl:PO X lo tl) (hu:PO X hi th):PE X (.Subscript e (.Slice lo hi none p2) pos) (tSl r te tl th):=by
  intro pins s σ H Q I h
  refine Subscript_ (thn (he pins s σ H _ I h) fun v s1 ⟨x,H1,I1,r1,q1⟩=>?_)
  refine wpAny_Slice (thn (hl pins s1 σ H1 _ I1 q1) fun vl s2 ⟨l,H2,I2,pl,q2⟩=>thn (hu pins s2 σ H2 _ I2 q2) fun vu s3 ⟨u,H3,I3,pu,q3⟩=>?_)
  rw [evalPart_none]
  refine wpAny_pure ?_
  have I4:Inv X pins σ H3 { s3 with heap:=s3.heap.push { cls:=.type "slice", data:=.fields #[vl,vu,.none] } }:=I3.kept (t':=s3.toks) fun b ob q=>Heap.get?_push_of_some _ q
  obtain ⟨T,id,hT,ht,hg⟩:=hr pins { s3 with heap:=s3.heap.push { cls:=.type "slice", data:=.fields #[vl,vu,.none] } } σ H3 x v vl vu l u s3.heap.objs.size Q I4 r1 (Heap.IsSliceOf.new ..) pl pu q3
  show wpAny (model X.prog X.w) X.A (subscriptTail e (.Slice lo hi none p2) v (.ref s3.heap.objs.size)) (EP X pins σ Q) X.xe { s3 with heap:=s3.heap.push { cls:=.type "slice", data:=.fields #[vl,vu,.none] } }
  exact tail_any (ops:=[.ref s3.heap.objs.size,v]) ht hT hg (by with_unfolding_all rfl)

noncomputable def cutV (xs:List V) (lo hi:Option Int):List V:=(xs.drop (HT.sIx xs.length 0 lo)).take (HT.sIx xs.length xs.length hi - HT.sIx xs.length 0 lo)
theorem cutV_length (xs:List V) (lo hi:Option Int):(cutV xs lo hi).length <= xs.length:=by
  unfold cutV
  rw [List.length_take,List.length_drop]
  omega
noncomputable def rSlT (K:W.Frag):V -> Option Int -> Option Int -> Hp -> VK -> Prop:=fun x lo hi H Q=>∃ a xs,x = .ref a /\ SqT K H a xs /\
  ¬ (HT.sIx xs.length 0 lo = 0 /\ HT.sIx xs.length xs.length hi = xs.length) /\ ∀ p,H p = none -> Q (.ref p) (upd H p (.tup (cutV xs lo hi)))
theorem sl_tup:SlR X (rSlT X.K):=by
  intro pins s σ H x v vl vu lo hi sl Q I rx hs pl pu h
  obtain ⟨a,xs,rfl,hx,hw,q⟩:=h
  cases rx
  obtain ⟨its,r,ht,hz⟩:=I.tuple hx
  have hlen:its.toArray.size = xs.length:=by rw [List.size_toArray]; exact r.length.symm
  refine ⟨"tuple", _,PyProof.Rows.slot_tuple_getitem.lookup,ht.typeIs,?_⟩
  refine HT.getItem_tuple_cut ht hs pl pu (by rw [hlen]; exact hw) ?_ (by rw [hlen]; exact hz)
  rw [hlen]
  refine ⟨.ref s.heap.objs.size,_,I.laid (t':=s.toks) (o:=.tup (cutV xs lo hi)) (fun b ob q=>Heap.get?_push_of_some _ q) (Nat.le_refl _) ?_,rfl,q _ (I.hok.fresh (Nat.le_refl _))⟩
  exact ⟨Nat.le_trans (cutV_length xs lo hi) hz,_,(r.drop (HT.sIx xs.length 0 lo)).take (HT.sIx xs.length xs.length hi - HT.sIx xs.length 0 lo),IsTupD.new _ _⟩

noncomputable def rCatT (K:W.Frag):R2:=fun x y H Q=>∃ a b xs ys,x = .ref a /\ y = .ref b /\ SqT K H a xs /\ SqT K H b ys /\ xs ≠ [] /\ xs.length + ys.length <= sizeLine /\
  (ys = [] -> Q (.ref a) H) /\ (ys ≠ [] -> ∀ p,H p = none -> Q (.ref p) (upd H p (.tup (xs ++ ys))))
theorem Vals.nil_iff {xs:List V} {us:List Value} (r:Vals xs us):us = [] ↔ xs = []:=by
  cases r with
  | nil=>simp
  | cons _ _=>simp
theorem op_catT:OpR X (binaryOp .Add) (rCatT X.K):=by
  intro pins s σ H x y v u Q I rx ry h
  obtain ⟨a,b,xs,ys,rfl,rfl,ha,hb,hx,hz,q1,q2⟩:=h
  cases rx
  cases ry
  obtain ⟨its,r1,p1,_⟩:=I.tuple ha
  obtain ⟨its2,r2,p2,_⟩:=I.tuple hb
  refine HT.cat_tup p1 p2 (fun z=>hx (r1.nil_iff.mp z)) (fun z=>⟨.ref a,H,I,rfl,q1 (r2.nil_iff.mp z)⟩) (fun z=>?_) (by rw [<- r1.length,<- r2.length]; exact hz)
  refine ⟨.ref s.heap.objs.size,_,I.laid (t':=s.toks) (o:=.tup (xs ++ ys)) (fun b ob q=>Heap.get?_push_of_some _ q) (Nat.le_refl _) ?_,rfl,q2 (fun w=>z (r2.nil_iff.mpr w)) _ (I.hok.fresh (Nat.le_refl _))⟩
  exact ⟨by rw [List.length_append]; exact hz,_,r1.append r2,IsTupD.new _ _⟩
end
end L2

namespace L2
open PySem PySem.Spec PyProof.Rows

noncomputable def ixN (n:Nat) (i:Int):Option Nat:=if 0 <= i then (if i < n then some i.toNat else none) else if -(n:Int) <= i then some (i + n).toNat else none
noncomputable def atI {α:Type} (xs:List α) (i:Int):Option α:=(ixN xs.length i).bind fun j=>xs[j]?
theorem ixN_seq {n:Nat} {i:Int} {j:Nat} (h:ixN n i = some j):seqIndex? i n = some j /\ j < n /\ -(n:Int) <= i /\ i < n:=by
  unfold ixN at h
  by_cases h0 : 0 <= i
  · rw [if_pos h0] at h
    by_cases h1:i < n
    · rw [if_pos h1] at h
      have e:i.toNat = j:=Option.some.inj h
      exact ⟨by rw [seqIndex_of h0 h1,e],by omega,by omega,h1⟩
    · rw [if_neg h1] at h; cases h
  · rw [if_neg h0] at h
    by_cases h1 : -(n:Int) <= i
    · rw [if_pos h1] at h
      have e:(i + n).toNat = j:=Option.some.inj h
      exact ⟨by rw [seqIndex_neg (by omega) h1,e],by omega,h1,by omega⟩
    · rw [if_neg h1] at h; cases h
theorem atI_get {α:Type} {xs:List α} {i:Int} {v : α} (h:atI xs i = some v):∃ j,seqIndex? i xs.length = some j /\ xs[j]? = some v /\ j < xs.length /\ -(xs.length:Int) <= i /\ i < xs.length:=by
  unfold atI at h
  cases e:ixN xs.length i with
  | none=>rw [e] at h; cases h
  | some j =>
    rw [e] at h
    obtain ⟨h1,h2,h3,h4⟩:=ixN_seq e
    exact ⟨j,h1,h,h2,h3,h4⟩
theorem atI_nat {α:Type} {xs:List α} {j:Nat} {v : α} (h:xs[j]? = some v):atI xs (j:Int) = some v:=by
  have hj:j < xs.length:=(List.getElem?_eq_some_iff.mp h).1
  have e:ixN xs.length (j:Int) = some j:=by
    unfold ixN
    rw [if_pos (by omega),if_pos (by omega)]; simp
  unfold atI; rw [e]; exact h
noncomputable def PlainIx (b:Expr):Prop:=∀ o i,subscripted b false o i = operate [o,i] (getItem o i)
noncomputable def IxR (X:Cx) (r:R2):Prop :=
  ∀ (value slice:Expr) (pins:List (Addr × Obj)) (s:Shared) (σ:St) (H:Hp) (x y:V) (v u:Value) (Q:VK),Inv X pins σ H s -> RelV x v -> RelV y u -> r x y H Q ->
    subscripted slice false v u = operate [v,u] (getItem v u) -> wpAny (model X.prog X.w) X.A (subscriptTail value slice v u) (EP X pins σ Q) X.xe s
noncomputable def MtR (X:Cx) (id:String) (r:V -> List V -> Hp -> VK -> Prop):Prop :=
  ∀ (pins:List (Addr × Obj)) (s:Shared) (σ:St) (H:Hp) (x:V) (xs:List V) (v:Value) (us:List Value) (Q:VK),Inv X pins σ H s -> RelV x v -> Vals xs us -> r x xs H Q ->
    wpAny (model X.prog X.w) X.A (call (.builtin id) (v :: us)) (EP X pins σ Q) X.xe s
section
variable {X:Cx} {a b:Expr} {ta tb:TE} {pos:Pos}
theorem IxR.or {r r':R2} (h:IxR X r) (h':IxR X r'):IxR X (fun x y H Q=>r x y H Q \/ r' x y H Q):=by
  intro value slice pins s σ H x y v u Q I rx ry q hs
  rcases q with q | q
  · exact h value slice pins s σ H x y v u Q I rx ry q hs
  · exact h' value slice pins s σ H x y v u Q I rx ry q hs
theorem pe_ix {r:R2} (hr:IxR X r) (ha:PE X a ta) (hb:PE X b tb) (hs:PlainIx b):PE X (.Subscript a b pos) (tOp r ta tb):=by
  intro pins s σ H Q I h
  exact Subscript_ (binT ha hb I h fun v u s2 x y H2 I2 rx ry q=>hr a b pins s2 σ H2 x y v u Q I2 rx ry q (hs _ _))

noncomputable def rIxL (K:W.Frag):R2:=fun x y H Q=>∃ p xs i v,x = .ref p /\ y = .int i /\ SqL K H p xs /\ atI xs i = some v /\ Q v H
noncomputable def rIxT (K:W.Frag):R2:=fun x y H Q=>∃ p xs i v,x = .ref p /\ y = .int i /\ SqT K H p xs /\ atI xs i = some v /\ Q v H
noncomputable def rIxS:R2:=fun x y H Q=>∃ z i c,x = .str z /\ y = .int i /\ z.length <= sizeLine /\ atI z.cps.toList i = some c /\ Q (.str ⟨#[c]⟩) H
theorem ix_list:IxR X (rIxL X.K):=by
  intro value slice pins s σ H x y v u Q I rx ry h hs
  obtain ⟨p,xs,i,z,rfl,rfl,hq,he,q⟩:=h
  cases rx
  obtain ⟨t,rfl⟩:=ry
  obtain ⟨its,r,pl,hz⟩:=I.list hq
  obtain ⟨j,h1,h2,h3,h4,h5⟩:=atI_get he
  obtain ⟨w,ew,rw'⟩:=r.get h2
  have hl:=r.length
  have hn:=line63
  have fin:EP X pins σ Q w s:=⟨z,H,I,rw',q⟩
  by_cases h0 : 0 <= i
  · have hj:i.toNat = j:=by
      rw [seqIndex_of h0 h5] at h1
      exact Option.some.inj h1
    exact item_listR pl.isList h0 (by omega) (by rw [hj]; simpa using ew) fin hs
  · have hj:(i + (its.toArray.size:Int)).toNat = j:=by
      rw [seqIndex_neg (by omega) h4] at h1
      rw [List.size_toArray,<- hl]
      exact Option.some.inj h1
    exact subscriptTail_builtinR (x:=w) pl.isList.typeIs slot_list_getitem.lookup
      (wpAny_getItem_list_neg (Q:=fun r s'=>r = w /\ EP X pins σ Q r s') pl.isList (by omega) (by rw [List.size_toArray] <;> omega) (by omega) (by rw [hj]; simpa using ew) ⟨rfl,fin⟩) hs
theorem ix_tup:IxR X (rIxT X.K):=by
  intro value slice pins s σ H x y v u Q I rx ry h hs
  obtain ⟨p,xs,i,z,rfl,rfl,hq,he,q⟩:=h
  cases rx
  obtain ⟨t,rfl⟩:=ry
  obtain ⟨its,r,pl,hz⟩:=I.tuple hq
  obtain ⟨j,h1,h2,h3,h4,h5⟩:=atI_get he
  obtain ⟨w,ew,rw'⟩:=r.get h2
  have hl:=r.length
  have hn:=line63
  have fin:EP X pins σ Q w s:=⟨z,H,I,rw',q⟩
  exact subscriptTail_builtinR (x:=w) pl.typeIs slot_tuple_getitem.lookup
    (getItem_tuple (j:=j) (Q:=fun r s'=>r = w /\ EP X pins σ Q r s') pl (by omega) (by omega) (by rw [List.size_toArray,<- hl]; exact h1) (by simpa using ew) ⟨rfl,fin⟩) hs
theorem ix_str:IxR X rIxS:=by
  intro value slice pins s σ H x y v u Q I rx ry h hs
  obtain ⟨z,i,c,rfl,rfl,hz,he,q⟩:=h
  obtain ⟨t,rfl⟩:=rx
  obtain ⟨t',rfl⟩:=ry
  obtain ⟨j,h1,h2,h3,h4,h5⟩:=atI_get he
  have hl:z.cps.toList.length = z.length:=by simp [Str.length]
  rw [hl] at h1 h4 h5
  have hn:=line63
  exact tail_any (typeIs_str s z t) slot_str_getitem.lookup (getItem_str (c:=c) (by
    have e1:decide (i < -(2 ^ 63:Int)) = false:=decide_eq_false (by omega)
    have e2:decide (i ≥ 2 ^ 63) = false:=decide_eq_false (by omega)
    rw [e1,e2,Bool.or_false]) (by rw [h1]; simpa using h2) ⟨.str ⟨#[c]⟩,H,I.tok _,⟨_,rfl⟩,q⟩) hs
noncomputable def rIx (K:W.Frag):R2:=fun x y H Q=>rIxL K x y H Q \/ rIxT K x y H Q \/ rIxS x y H Q
theorem ix_seq:IxR X (rIx X.K):=ix_list.or (ix_tup.or ix_str)

theorem mapSeq_set (its:List Value) (n j:Nat) (u:Value):Obj.mapSeq (·.setIfInBounds j u) { cls:=.type "list", data:=.seq its.toArray n } = { cls:=.type "list", data:=.seq (its.set j u).toArray n }:=by
  simp [Obj.mapSeq]
theorem Inv.lst {pins:List (Addr × Obj)} {σ:St} {H:Hp} {s:Shared} {p:Addr} {xs:List V} (I:Inv X pins σ H s) (h:H p = some (.lst xs)) :
    ∃ (its:List Value) (n:Nat),Vals xs its /\ s.heap.get? p = some { cls:=.type "list", data:=.seq its.toArray n } /\ xs.length <= sizeLine:=by
  obtain ⟨z,its,n,r,e⟩:=I.hok p _ h
  exact ⟨its,n,r,e,z⟩
theorem Inv.lstUpd {pins:List (Addr × Obj)} {σ:St} {H:Hp} {s:Shared} {p:Addr} {xs ys:List V} {its its':List Value} {n n':Nat} {f:Obj -> Obj} (I:Inv X pins σ H s) (h:H p = some (.lst xs))
    (ho:s.heap.get? p = some { cls:=.type "list", data:=.seq its.toArray n }) (hf:f { cls:=.type "list", data:=.seq its.toArray n } = { cls:=.type "list", data:=.seq its'.toArray n' }) (r:Vals ys its') (hz:ys.length <= sizeLine) (t:Nat) :
    Inv X pins σ (upd H p (.lst ys)) { s with heap:=s.heap.update p f,toks:=t }:=by
  have e:(s.heap.update p f).get? p = some { cls:=.type "list", data:=.seq its'.toArray n' }:=by
    rw [Heap.get?_update_self f ho (by rw [hf] <;> rfl),hf]
  refine I.write (x:=p) (e:=p) (by rw [h]; trivial) (.inl rfl) (fun b u hb q=>(Heap.get?_update_other _ _ (Ne.symm hb)).trans q) ⟨_,e⟩ ?_
  exact ⟨hz,its',n',r,e⟩
noncomputable def rSetL:V -> V -> V -> Hp -> (Hp -> Prop) -> Prop:=fun o i v H Q=>∃ p xs k j,o = .ref p /\ i = .int k /\ H p = some (.lst xs) /\ ixN xs.length k = some j /\ Q (upd H p (.lst (xs.set j v)))
theorem set_list:PSet X rSetL:=by
  intro pins s σ H o i v ov iv u Q I ro ri rv h
  obtain ⟨p,xs,k,j,rfl,rfl,hp,hj,q⟩:=h
  cases ro
  obtain ⟨t,rfl⟩:=ri
  obtain ⟨its,n,r,ho,hz⟩:=I.lst hp
  obtain ⟨h1,h2,h3,h4⟩:=ixN_seq hj
  have hl:=r.length
  have hn:=line63
  have I':Inv X pins σ (upd H p (.lst (xs.set j v))) { s with heap:=s.heap.update p (Obj.mapSeq (·.setIfInBounds j u)) } :=
    I.lstUpd hp ho (mapSeq_set its n j u) (r.set rv j) (by rw [List.length_set]; exact hz) s.toks
  by_cases h0 : 0 <= k
  · have hk:k.toNat = j:=by
      rw [seqIndex_of h0 h4] at h1
      exact Option.some.inj h1
    exact W.ki_setAt ho h0 (by omega) (by rw [List.size_toArray,<- hl]; exact h4) (by rw [hk]; exact ⟨_,I',q⟩)
  · have hk:(k + (its.toArray.size:Int)).toNat = j:=by
      rw [seqIndex_neg (by omega) h3] at h1
      rw [List.size_toArray,<- hl]
      exact Option.some.inj h1
    exact W.ki_setBack ho (by omega) (by rw [List.size_toArray,<- hl]; exact h3) (by omega) (by rw [hk]; exact ⟨_,I',q⟩)

theorem slice_bounds (lo hi:Option Int) (n:Nat):(sliceBounds lo hi none n).1 = ((HT.sIx n 0 lo:Nat):Int) /\ (sliceBounds lo hi none n).2.1 = ((HT.sIx n n hi:Nat):Int) /\ (sliceBounds lo hi none n).2.2 = 1:=by
  refine ⟨?_,?_,rfl⟩
  · cases lo with
    | none=>simp [sliceBounds,HT.sIx]
    | some i =>
      simp only [sliceBounds,HT.sIx,Option.getD_none,show (1:Int) > 0 by decide,if_true]
      by_cases h:i < 0
      · simp only [h,if_true] <;> omega
      · simp only [h,if_false] <;> omega
  · cases hi with
    | none=>simp [sliceBounds,HT.sIx]
    | some i =>
      simp only [sliceBounds,HT.sIx,Option.getD_none,show (1:Int) > 0 by decide,if_true]
      by_cases h:i < 0
      · simp only [h,if_true] <;> omega
      · simp only [h,if_false] <;> omega
theorem slicePick_cut (its:List Value) (lo hi:Option Int):slicePick its.toArray lo hi none = ((its.drop (HT.sIx its.length 0 lo)).take (HT.sIx its.length its.length hi - HT.sIx its.length 0 lo)).toArray:=by
  obtain ⟨h1,h2,h3⟩:=slice_bounds lo hi its.toArray.size
  unfold slicePick
  rw [h1,h2,h3]
  simp only [sliceRange_one,pick_run,List.size_toArray] <;> rfl
noncomputable def rSlL (K:W.Frag):V -> Option Int -> Option Int -> Hp -> VK -> Prop:=fun x lo hi H Q=>∃ a xs,x = .ref a /\ SqL K H a xs /\ ∀ p,H p = none -> Q (.ref p) (upd H p (.lst (cutV xs lo hi)))
theorem sl_list:SlR X (rSlL X.K):=by
  intro pins s σ H x v vl vu lo hi sl Q I rx hs pl pu h
  obtain ⟨a,xs,rfl,hx,q⟩:=h
  cases rx
  obtain ⟨its,r,ht,hz⟩:=I.list hx
  have hlen:=r.length
  refine ⟨"list", _,slot_list_getitem.lookup,ht.isList.typeIs,?_⟩
  refine wpAny_getItem_list_slice ht.isList hs pl pu .none (by simp) ?_ (by rw [List.size_toArray] <;> omega)
  rw [slicePick_cut,<- hlen]
  refine ⟨.ref s.heap.objs.size,_,I.laid (t':=s.toks) (o:=.lst (cutV xs lo hi)) (fun b ob q=>Heap.get?_push_of_some _ q) (Nat.le_refl _) ?_,rfl,q _ (I.hok.fresh (Nat.le_refl _))⟩
  exact ⟨Nat.le_trans (cutV_length xs lo hi) hz,_,0,(r.drop (HT.sIx xs.length 0 lo)).take (HT.sIx xs.length xs.length hi - HT.sIx xs.length 0 lo),Heap.get?_push_size _ rfl⟩

theorem call_len_seq:CallR X (.builtin "len") (fun xs H Q=>∃ p ys,xs = [.ref p] /\ (SqL X.K H p ys \/ SqT X.K H p ys) /\ Q (.int ys.length) H):=by
  intro pins s σ H xs us Q I r h
  obtain ⟨p,ys,rfl,hq,q⟩:=h
  obtain ⟨u,rfl,rx⟩:=vals1 r
  cases rx
  have hn:=line63
  rcases hq with hq | hq
  · obtain ⟨its,r',pl,hz⟩:=I.list hq
    have hlen:=r'.length
    exact Calls.call_len_list pl.isList (by simp only [List.size_toArray] <;> omega) ⟨.int ys.length,H,I.tok _,⟨s.toks + 1,by rw [List.size_toArray,hlen]⟩,q⟩
  · obtain ⟨its,r',pl,hz⟩:=I.tuple hq
    have hlen:=r'.length
    exact len_tuple pl (by simp only [List.size_toArray] <;> omega) ⟨.int ys.length,H,I.tok _,⟨s.toks + 1,by rw [List.size_toArray,hlen]⟩,q⟩
theorem call_tuple_of:CallR X (.type "tuple") (fun xs H Q=>∃ p ys,xs = [.ref p] /\ ((SqL X.K H p ys /\ ∀ l,H l = none -> Q (.ref l) (upd H l (.tup ys))) \/ (SqT X.K H p ys /\ Q (.ref p) H))):=by
  intro pins s σ H xs us Q I r h
  obtain ⟨p,ys,rfl,h⟩:=h
  obtain ⟨u,rfl,rx⟩:=vals1 r
  cases rx
  rcases h with ⟨hq,q⟩ | ⟨hq,q⟩
  · obtain ⟨its,r',pl,hz⟩:=I.list hq
    have hlen:=r'.length
    refine call_tuple_list pl.isList (fun h' kp=>?_) (by simp only [List.size_toArray] <;> omega)
    have I1:Inv X pins σ H { s with heap:=h' }:=I.kept (t':=s.toks) kp
    have I2:Inv X pins σ (upd H h'.objs.size (.tup ys)) { s with heap:=h'.push { cls:=.type "tuple", data:=.seq its.toArray } } :=
      I1.laid (t':=s.toks) (fun b o e=>Heap.get?_push_of_some _ e) (Nat.le_refl _) (show ObjOk X.prog X.w _ _ _ (.tup ys) from ⟨hz,its,r',IsTupD.new _ _⟩)
    exact ⟨.ref h'.objs.size,_,I2,rfl,q _ (I1.hok.fresh (Nat.le_refl _))⟩
  · obtain ⟨its,r',pl,hz⟩:=I.tuple hq
    exact call_tuple_same pl ⟨.ref p,H,I,rfl,q⟩

noncomputable def tyV (K:W.Frag) (T:String) (x:V) (H:Hp):Prop:=match x with
  | .str _=>T = "str"
  | .int _=>T = "int"
  | .ref p=>(T = "list" /\ ∃ xs,SqL K H p xs) \/ (T = "tuple" /\ ∃ xs,SqT K H p xs) \/
      (T = "dict" /\ ((∃ kvs,H p = some (.dK kvs)) \/ ∃ kvs,H p = some (.dT kvs))) \/ (T = "set" /\ ∃ S n,H p = some (.set S n))
  | _=>False
theorem tyV_is {pins:List (Addr × Obj)} {σ:St} {H:Hp} {s:Shared} {T:String} {x:V} {v:Value} (I:Inv X pins σ H s) (r:RelV x v) (ty:tyV X.K T x H) :
    s.TypeIs v T /\ ∀ a,v = .ref a -> ∃ ob,s.heap.get? a = some ob /\ ob.dict = none:=by
  cases x with
  | str z =>
    obtain ⟨t,rfl⟩:=r
    cases (show T = "str" from ty)
    exact ⟨typeIs_str s z t,fun _ e=>nomatch e⟩
  | int i =>
    obtain ⟨t,rfl⟩:=r
    cases (show T = "int" from ty)
    exact ⟨typeIs_int s i t,fun _ e=>nomatch e⟩
  | ref p =>
    cases r
    rcases ty with ⟨rfl,xs,hq⟩ | ⟨rfl,xs,hq⟩ | ⟨rfl,hk⟩ | ⟨rfl,S,n,hk⟩
    · obtain ⟨its,_,pl,_⟩:=I.list hq
      refine ⟨pl.isList.typeIs,fun a e=>?_⟩
      cases e
      obtain ⟨o,n,e,c,hd,_⟩:=pl
      exact ⟨o,e,hd⟩
    · obtain ⟨o,e1,e2,e3⟩:=I.tupleD hq
      refine ⟨⟨o,e1,e2⟩,fun a e=>?_⟩
      cases e
      exact ⟨o,e1,e3⟩
    · have z:∃ o,s.heap.get? p = some o /\ o.ExactDict:=by
        rcases hk with ⟨kvs,hk⟩ | ⟨kvs,hk⟩
        · obtain ⟨_,_,_,_,o,_,_,e,ex,_⟩:=I.hok p _ hk
          exact ⟨o,e,ex⟩
        · obtain ⟨_,_,_,_,o,_,_,e,ex,_⟩:=I.hok p _ hk
          exact ⟨o,e,ex⟩
      obtain ⟨o,e,ex⟩:=z
      refine ⟨⟨o,e,ex.1⟩,fun a e2=>?_⟩
      cases e2
      exact ⟨o,e,ex.2.1⟩
    · obtain ⟨o,_,_,_,e,ex,_⟩:=I.hok p _ hk
      refine ⟨⟨o,e,ex.1⟩,fun a e2=>?_⟩
      cases e2
      exact ⟨o,e,ex.2.1⟩
  | _=>exact False.elim ty
noncomputable def tBM (K:W.Frag) (T:String) (r:V -> List V -> Hp -> VK -> Prop) (to:TE) (t:TA):TE:=fun σ H Q=>to σ H fun x H1=>tyV K T x H1 /\ t σ H1 fun xs H2=>r x xs H2 Q
variable {o e:Expr} {es:List Expr} {to:TE} {t:TA} {name:Str} {apos cpos:Pos} {T id:String} {r:V -> List V -> Hp -> VK -> Prop}
theorem pe_bm (pa:PlainAttrs T) (slot:Slot T name id) (hty:typeOf (.builtin id) = pure (.type "method_descriptor")) (hm:MtR X id r) (ho:PE X o to) (ha:PA X (e :: es) t)
    (hbase:attributeBase o name X.env (eval o X.env) = eval o X.env:=by rfl)
    (hfew:((backTo cpos (starEach (e :: es) X.env)).all (fun x=>!x.1) && (backToKw cpos (keywordEach [] X.env)).all (fun x=>x.1.isSome)
      && decide ((e :: es).length + ([]:List Keyword).length + (if ([]:List Keyword).isEmpty then 0 else 1) < 30)) = true:=by rfl)
    (hline:(apos.endLine == cpos.line) = true:=by rfl) (hs:starEach (e :: es) X.env = (false,eval e X.env) :: starEach es X.env:=by rfl) (hplain:(backTo cpos (starEach es X.env)).any (·.1) = false:=by rfl) :
    PE X (.Call (.Attribute o name apos) (e :: es) [] cpos) (tBM X.K T r to t):=by
  intro pins s σ H Q I h
  refine wpAny_Call_method_late hbase hfew hline rfl (thn (ho pins s σ H _ I h) fun v s1 ⟨x,H1,I1,r1,ty,q1⟩=>?_)
  obtain ⟨h1,h2⟩:=tyV_is I1 r1 ty
  refine ⟨T,id,pa,slot,hty,h1,h2,?_⟩
  have hA:=ha cpos pins s1 σ H1 _ I1 q1
  rw [hs] at hA ⊢
  refine Calls.callWith_builtin (by show (false || (backTo cpos (starEach es X.env)).any (·.1)) = false; rw [hplain] <;> rfl) (Calls.evalArgs_plain ?_)
  exact thn hA fun us s2 ⟨vs,H2,I2,r2,q2⟩=>hm pins s2 σ H2 x vs v us Q I2 r1 r2 q2

end
end L2

namespace L2
open PySem PySem.Spec PyProof.Rows

noncomputable def MtM (X:Cx) (id:String) (r:V -> List V -> Hp -> VK -> Prop):Prop :=
  ∀ (pins:List (Addr × Obj)) (s:Shared) (σ:St) (H:Hp) (x:V) (xs:List V) (v:Value) (us:List Value) (Q:VK),Inv X pins σ H s -> RelV x v -> Vals xs us -> r x xs H Q ->
    wpAny (model X.prog X.w) X.A (call (.builtin id) (v :: us)) (EP X pins σ Q) X.xe s

theorem Vals.one:∀ {x:V} {us:List Value},Vals [x] us -> ∃ u,us = [u] /\ RelV x u
  | _,_,.cons r .nil=>⟨_,rfl,r⟩
theorem Vals.reverse {xs:List V} {us:List Value} (h:Vals xs us):Vals xs.reverse us.reverse:=by
  induction h with
  | nil=>exact .nil
  | cons r t ih=>rw [List.reverse_cons,List.reverse_cons]; exact Vals.append ih (.cons r .nil)
theorem Vals.rep {xs:List V} {us:List Value} (h:Vals xs us):∀ k:Nat,Vals (List.replicate k xs).flatten (List.replicate k us).flatten
  | 0=>.nil
  | k + 1=>by
    rw [List.replicate_succ,List.replicate_succ,List.flatten_cons,List.flatten_cons]
    exact Vals.append h (Vals.rep h k)
theorem foldl_rep (its:List Value):∀ (k:Nat) (acc:List Value),
    List.foldl (fun x1 x2=>x1 ++ x2) acc.toArray (List.replicate k its.toArray) = (acc ++ (List.replicate k its).flatten).toArray
  | 0,acc=>by simp
  | k + 1,acc=>by
    have e:acc.toArray ++ its.toArray = (acc ++ its).toArray:=by simp
    have e2:(acc ++ its) ++ (List.replicate k its).flatten = acc ++ (List.replicate (k + 1) its).flatten:=by
      rw [List.replicate_succ,List.flatten_cons,List.append_assoc]
    rw [<- e2,<- foldl_rep its k (acc ++ its),<- e,List.replicate_succ,List.foldl_cons]

section
variable {X:Cx} {pins:List (Addr × Obj)} {σ:St} {H:Hp} {s:Shared} {l b:Addr} {xs ys zs:List V}

theorem Inv.lset {its its':List Value} {n:Nat} {f:Array Value -> Array Value} {t':Nat} (I:Inv X pins σ H s) (hH:H l = some (.lst xs))
    (e:s.heap.get? l = some { cls:=.type "list", data:=.seq its.toArray n }) (hf:f its.toArray = its'.toArray) (hv:Vals ys its') (hz:ys.length <= sizeLine) :
    Inv X pins σ (upd H l (.lst ys)) { s with heap:=s.heap.update l (Obj.mapSeq f),toks:=t' }:=by
  have q:=PySem.IsL.update e f
  rw [hf] at q
  refine I.write (x:=l) (e:=l) (by rw [hH]; exact trivial) (.inl rfl) (fun b' u hb hu=>(Heap.get?_update_other s.heap (Obj.mapSeq f) (Ne.symm hb)).trans hu) ⟨_,q⟩ ?_
  exact ⟨hz,its',_,hv,q⟩
theorem Inv.lnew {its:List Value} {t':Nat} (I:Inv X pins σ H s) (hv:Vals ys its) (hz:ys.length <= sizeLine) :
    Inv X pins σ (upd H s.heap.objs.size (.lst ys)) { s with heap:=s.heap.push { cls:=.type "list", data:=.seq its.toArray },toks:=t' } :=
  I.laid (fun _ _ q=>Heap.get?_push_of_some _ q) (Nat.le_refl _) ⟨hz,its,0,hv,Heap.get?_push_size _ rfl⟩
theorem Inv.fresh (I:Inv X pins σ H s):H s.heap.objs.size = none:=I.hok.fresh (Nat.le_refl _)
theorem Inv.lstM (I:Inv X pins σ H s) (hH:H l = some (.lst xs)):xs.length <= sizeLine /\ ∃ (its:List Value) (n:Nat),Vals xs its /\ xs.length = its.length /\ s.heap.get? l = some { cls:=.type "list", data:=.seq its.toArray n }:=by
  obtain ⟨z,its,n,r,e⟩:=I.hok l _ hH
  exact ⟨z,its,n,r,r.length,e⟩

theorem notLongL {n:Nat} (h:n <= sizeLine):Builtin.List.listTooLong n = false:=by
  unfold Builtin.List.listTooLong
  exact decide_eq_false (by omega)
end

section
variable {X:Cx}

noncomputable def rAppend:V -> List V -> Hp -> VK -> Prop:=fun x vs H Q=>∃ l xs y,x = .ref l /\ vs = [y] /\ H l = some (.lst xs) /\ xs.length < sizeLine /\ Q .non (upd H l (.lst (xs ++ [y])))
theorem mt_append:MtM X "list.append" rAppend:=by
  intro pins s σ H x vs v us Q I rx rv h
  obtain ⟨l,xs,y,rfl,rfl,hH,hz,q⟩:=h
  cases rx
  obtain ⟨u,rfl,ru⟩:=rv.one
  obtain ⟨z,its,n,r,hl,e⟩:=I.lstM hH
  refine call_meets F.slot_list_append ⟨_,e,rfl⟩ F.entry_list_append (F.args_list_append_2 _ _) (PySem.list_append l its.toArray n u (by rw [List.size_toArray]; omega)) ⟨e,?_⟩
  refine ⟨.non,_,I.lset (its':=its ++ [u]) hH e (by simp) (r.append (.cons ru .nil)) ?_,rfl,q⟩
  rw [List.length_append,List.length_singleton]
  omega

noncomputable def rCat:R2:=fun x y H Q=>∃ l b xs zs,x = .ref l /\ y = .ref b /\ H l = some (.lst xs) /\ H b = some (.lst zs) /\ xs.length + zs.length <= sizeLine /\ ∀ p,H p = none -> Q (.ref p) (upd H p (.lst (xs ++ zs)))
theorem op_cat:OpR X (binaryOp .Add) rCat:=by
  intro pins s σ H x y v u Q I rx ry h
  obtain ⟨l,b,xs,zs,rfl,rfl,hH,hB,hz,q⟩:=h
  cases rx
  cases ry
  obtain ⟨z,its,n,r,hl,e⟩:=I.lstM hH
  obtain ⟨z2,its2,n2,r2,hl2,e2⟩:=I.lstM hB
  refine PySem.P.add_list e e2 ?_ (by rw [List.size_toArray,List.size_toArray]; omega)
  have ea:its.toArray ++ its2.toArray = (its ++ its2).toArray:=by simp
  rw [ea]
  exact ⟨.ref _,_,I.lnew (t':=s.toks) (r.append r2) (by rw [List.length_append]; omega),rfl,q _ I.fresh⟩
noncomputable def rRep:R2:=fun x y H Q=>∃ l k xs,x = .ref l /\ y = .int k /\ H l = some (.lst xs) /\ -(2 ^ 63) <= k /\ k < 2 ^ 63 /\ xs.length * k.toNat <= sizeLine /\
  ∀ p,H p = none -> Q (.ref p) (upd H p (.lst (List.replicate k.toNat xs).flatten))
theorem len_rep {α:Type} (xs:List α) (k:Nat):(List.replicate k xs).flatten.length = k * xs.length:=by
  induction k with
  | zero=>simp
  | succ k ih=>rw [List.replicate_succ,List.flatten_cons,List.length_append,ih,Nat.succ_mul,Nat.add_comm]
theorem op_rep:OpR X (binaryOp .Mult) rRep:=by
  intro pins s σ H x y v u Q I rx ry h
  obtain ⟨l,k,xs,rfl,rfl,hH,h1,h2,hz,q⟩:=h
  cases rx
  obtain ⟨t,rfl⟩:=ry
  obtain ⟨z,its,n,r,hl,e⟩:=I.lstM hH
  have hlen:its.toArray.size * k.toNat <= sizeLine:=by rw [List.size_toArray,<- hl]; exact hz
  have hcap:¬ its.toArray.size * k.toNat > (2 ^ 63 - 1) / 8:=by
    have:(sizeLine:Nat) <= (2 ^ 63 - 1) / 8:=by decide
    omega
  have hfit:¬ (!Builtin.List.listFitsIndex k) = true:=by
    rw [fitsIndex_both h1 h2]
    exact Bool.false_ne_true
  have hlong:¬ Builtin.List.listTooLong (its.toArray.size * k.toNat) = true:=by
    rw [notLongL hlen]
    exact Bool.false_ne_true
  have hnew:List.foldl (fun x1 x2=>x1 ++ x2) #[] (List.replicate (if its.toArray.isEmpty = true then 0 else k.toNat) its.toArray) = (List.replicate k.toNat its).flatten.toArray:=by
    have f0:∀ m:Nat,List.foldl (fun x1 x2=>x1 ++ x2) #[] (List.replicate m its.toArray) = (List.replicate m its).flatten.toArray:=fun m=>by
      have:=foldl_rep its m []
      rw [List.nil_append] at this
      exact this
    rw [f0]
    cases its with
    | nil=>simp
    | cons a r'=>rw [if_neg (by simp)]
  refine wpAny_binaryOp_repeat_ref (T := "list") (U := "int") (by decide) ⟨_,e,rfl⟩ (fun s'=>typeIs_int s' k t) noFill_list_mul F.fills_int_mul F.slot_int_rmul repeat_list F.slot_int_index.lookup
    (call_meets F.slot_int_rmul (typeIs_int s k t) F.entry_int_rmul (F.args_int_rmul_2 _ _) (int___rmul___int_list k t l its.toArray n)
      ⟨e,rfl,⟨_,e,rfl⟩,call_meets F.slot_list_mul ⟨_,e,rfl⟩ F.entry_list_mul (F.args_list_mul_2 _ _) (AutoListH.list___mul___list_int_3 l its.toArray n k t hfit hcap hlong) ⟨e,?_⟩⟩)
  rw [hnew]
  exact ⟨.ref _,_,I.lnew (t':=s.toks) (r.rep k.toNat) (by rw [len_rep,Nat.mul_comm]; exact hz),rfl,q _ I.fresh⟩

end

section
variable {prog:Program} {w:World} {A:Around} {E:Value -> Shared -> Prop} {s:Shared}
end

section
variable {X:Cx}
end
end L2

namespace L2
open PySem PySem.Spec PyProof.Rows

section
variable {κ:Type} [DecidableEq κ]
noncomputable def valV (kvs:List (κ × V)) (k : κ):Option V:=(kvs.find? fun kv=>decide (kv.1 = k)).map (·.2)
noncomputable def putK (kvs:List (κ × V)) (k : κ) (v:V):List (κ × V) :=
  if (kvs.any fun kv=>decide (kv.1 = k)) = true then kvs.map (fun kv=>if kv.1 = k then (kv.1,v) else kv) else kvs ++ [(k,v)]
theorem valV_pos {p : κ × V} {r:List (κ × V)} {k : κ} (e:p.1 = k):valV (p :: r) k = some p.2:=by simp [valV,List.find?_cons,e]
theorem valV_neg {p : κ × V} {r:List (κ × V)} {k : κ} (e:¬ p.1 = k):valV (p :: r) k = valV r k:=by simp [valV,List.find?_cons,e]
theorem valV_any (k : κ):∀ kvs:List (κ × V),(kvs.any fun kv=>decide (kv.1 = k)) = (valV kvs k).isSome
  | []=>rfl
  | p :: r=>by
    rw [List.any_cons]
    by_cases e:p.1 = k
    · simp only [valV_pos e,decide_eq_true e,Bool.true_or,Option.isSome_some]
    · rw [valV_neg e,decide_eq_false e,Bool.false_or]; exact valV_any k r
theorem length_putK (kvs:List (κ × V)) (k : κ) (v:V):(putK kvs k v).length <= kvs.length + 1:=by
  unfold putK
  split
  · rw [List.length_map]; omega
  · rw [List.length_append,List.length_cons,List.length_nil]; omega
theorem RelO.isSome_eq {o:Option V} {u:Option Value} (r:RelO o u):o.isSome = u.isSome:=by
  cases o with
  | none=>cases u with
    | none=>rfl
    | some _=>exact (show False from r).elim
  | some _=>cases u with
    | none=>exact (show False from r).elim
    | some _=>rfl
theorem KV.val {kvs:List (κ × V)} {vs:List (κ × Value)} (r:KV kvs vs) (k : κ):RelO (valV kvs k) (valueAt vs k):=by
  unfold KV at r
  induction r with
  | nil=>exact True.intro
  | @cons p q ps qs h t ih =>
    obtain ⟨h1,h2⟩:=h
    by_cases e:p.1 = k
    · have e':q.1 = k:=h1.symm.trans e
      have b:valueAt (q :: qs) k = some q.2:=by simp [valueAt,List.find?_cons,e']
      rw [valV_pos e,b]; exact h2
    · have e':¬ q.1 = k:=fun z=>e (h1.trans z)
      have b:valueAt (q :: qs) k = valueAt qs k:=by simp [valueAt,List.find?_cons,e']
      rw [valV_neg e,b]; exact ih
theorem KV.any {kvs:List (κ × V)} {vs:List (κ × Value)} (r:KV kvs vs) (k : κ):(kvs.any fun kv=>decide (kv.1 = k)) = vs.any fun kv=>decide (kv.1 = k):=by
  unfold KV at r
  induction r with
  | nil=>rfl
  | cons h t ih=>rw [List.any_cons,List.any_cons,ih,h.1]
theorem KV.repl {kvs:List (κ × V)} {vs:List (κ × Value)} (r:KV kvs vs) (k : κ) {y:V} {u:Value} (ry:RelV y u) :
    KV (kvs.map fun kv=>if kv.1 = k then (kv.1,y) else kv) (vs.map fun kv=>if kv.1 = k then (kv.1,u) else kv):=by
  unfold KV at r ⊢
  induction r with
  | nil=>exact .nil
  | @cons p q ps qs h t ih =>
    rw [List.map_cons,List.map_cons]
    refine .cons ?_ ih
    obtain ⟨h1,h2⟩:=h
    by_cases e:p.1 = k
    · rw [if_pos e,if_pos (h1.symm.trans e)]; exact ⟨h1,ry⟩
    · rw [if_neg e,if_neg (fun z=>e (h1.trans z))]; exact ⟨h1,h2⟩
theorem KV.put {kvs:List (κ × V)} {vs:List (κ × Value)} (r:KV kvs vs) (k : κ) {y:V} {u:Value} (ry:RelV y u):KV (putK kvs k y) (stored vs k u):=by
  unfold putK stored
  rw [r.any k]
  by_cases e:(vs.any fun kv=>decide (kv.1 = k)) = true
  · rw [if_pos e,if_pos e]; exact r.repl k ry
  · rw [if_neg e,if_neg e]; exact Paired.snoc r ⟨rfl,ry⟩
theorem KV.length {kvs:List (κ × V)} {vs:List (κ × Value)} (r:KV kvs vs):kvs.length = vs.length:=Paired.length r
end

theorem kV_is {P:Program} {w:World} {k:Key} {u:Value} (r:RelV (kV k) u):(mixKind P w).is k u = true:=by
  cases k with
  | inl i=>obtain ⟨t,e⟩:=(show ∃ t,u = Value.int i t from r); subst e; exact mixKind_int P w i t
  | inr x=>obtain ⟨t,e⟩:=(show ∃ t,u = Value.str x t from r); subst e; exact mixKind_str P w x t
theorem items_are {P:Program} {w:World}:∀ {ks:List Key} {us:List Value},Vals (ks.map kV) us -> ItemsAre (mixKind P w) ks us
  | [],_,r=>by rw [List.map_nil] at r; cases r; exact .nil
  | k :: ks,_,r=>by
    rw [List.map_cons] at r
    cases r with
    | cons h t=>exact .cons (kV_is h) (items_are t)

abbrev KT (H:Hp):List (List Key × V) -> List (List Key × Addr × Value) -> Prop:=Paired fun p q=>p.1 = q.1 /\ H q.2.1 = some (.tup (p.1.map kV)) /\ RelV p.2 q.2.2
theorem KT.val {H:Hp} {kvs:List (List Key × V)} {xs:List (List Key × Addr × Value)} (r:KT H kvs xs) (k:List Key):RelO (valV kvs k) ((atKey xs k).map (·.2)):=by
  induction r with
  | nil=>exact True.intro
  | @cons p q ps qs h t ih =>
    obtain ⟨h1,_,h2⟩:=h
    by_cases e:p.1 = k
    · have e':q.1 = k:=h1.symm.trans e
      have b:atKey (q :: qs) k = some q.2:=by simp [atKey,List.find?_cons,e']
      rw [valV_pos e,b]; exact h2
    · have e':¬ q.1 = k:=fun z=>e (h1.trans z)
      have b:atKey (q :: qs) k = atKey qs k:=by simp [atKey,List.find?_cons,e']
      rw [valV_neg e,b]; exact ih
theorem KT.repl {H:Hp} {kvs:List (List Key × V)} {xs:List (List Key × Addr × Value)} (r:KT H kvs xs) (k:List Key) {y:V} {u:Value} (ry:RelV y u) :
    KT H (kvs.map fun kv=>if kv.1 = k then (kv.1,y) else kv) (xs.map (putAt k u)):=by
  induction r with
  | nil=>exact .nil
  | @cons p q ps qs h t ih =>
    rw [List.map_cons,List.map_cons]
    refine .cons ?_ ih
    obtain ⟨h1,h2,h3⟩:=h
    unfold putAt
    by_cases e:p.1 = k
    · rw [if_pos e,if_pos (h1.symm.trans e)]; exact ⟨h1,h2,ry⟩
    · rw [if_neg e,if_neg (fun z=>e (h1.trans z))]; exact ⟨h1,h2,h3⟩
theorem KT.put {H:Hp} {kvs:List (List Key × V)} {xs:List (List Key × Addr × Value)} (r:KT H kvs xs) (k:List Key) {b:Addr} {y:V} {u:Value} (hb:H b = some (.tup (k.map kV))) (ry:RelV y u) :
    KT H (putK kvs k y) (storedH xs k b u):=by
  have e:(kvs.any fun kv=>decide (kv.1 = k)) = (atKey xs k).isSome:=by
    rw [valV_any,(r.val k).isSome_eq,Option.isSome_map]
  unfold putK storedH
  rw [e]
  by_cases q:(atKey xs k).isSome = true
  · rw [if_pos q,if_pos q]; exact r.repl k ry
  · rw [if_neg q,if_neg q]; exact Paired.snoc r ⟨rfl,hb,ry⟩
theorem KT.keeps {H H':Hp} {kvs:List (List Key × V)} {xs:List (List Key × Addr × Value)} (r:KT H kvs xs) (ht:∀ b ys,H b = some (.tup ys) -> H' b = some (.tup ys)):KT H' kvs xs :=
  Paired.mapP r fun _ _ z=>⟨z.1,ht _ _ z.2.1,z.2.2⟩

section
variable {P:Program} {w:World} {H:Hp} {h:Heap} {a:Addr}
theorem rd_of {u:HO} (ok:HOk P w H h) (e:Rd H a u):ObjOk P w H h a u:=e.ok ok
theorem dk_rd {kvs:List (Key × V)} (ok:HOk P w H h) (e:Rd H a (.dK kvs)):kvs.length <= sizeLine /\ (a == sysModules) = false /\ ∃ vs,KV kvs vs /\ h.DictOf (mixKind P w) a vs :=
  show ObjOk P w H h a (.dK kvs) from rd_of ok e
theorem dk_of {kvs:List (Key × V)} (ok:HOk P w H h) (e:H a = some (.dK kvs)):kvs.length <= sizeLine /\ (a == sysModules) = false /\ ∃ vs,KV kvs vs /\ h.DictOf (mixKind P w) a vs:=dk_rd ok (.inl e)
theorem key_of {ks:List Key} (ok:HOk P w H h) (e:H a = some (.tup (ks.map kV))):(tupleKind (mixKind P w)).is h ks a:=by
  obtain ⟨_,its,r,o,h1,h2,⟨n,h3⟩,_⟩:=(show ObjOk P w H h a (.tup (ks.map kV)) from ok a _ e)
  exact ⟨o,its.toArray,n,h1,h2,h3,by simpa using items_are r⟩
theorem dt_rd {kvs:List (List Key × V)} (ok:HOk P w H h) (e:Rd H a (.dT kvs)):kvs.length <= sizeLine /\ (a == sysModules) = false /\
    ∃ xs,KT H kvs xs /\ h.DictOfH (tupleKind (mixKind P w)) a xs:=by
  obtain ⟨z,y,xs,r,o,es,ep,h1,h2,h3,h4,h5⟩:=(show ObjOk P w H h a (.dT kvs) from rd_of ok e)
  refine ⟨z,y,xs,r,o,es,ep,h1,h2,h3,h4,fun x hx=>?_,h5⟩
  have all:∀ {l:List (List Key × V)} {m:List (List Key × Addr × Value)},KT H l m -> ∀ x ∈ m,(tupleKind (mixKind P w)).is h x.1 x.2.1:=by
    intro l m q
    induction q with
    | nil=>intro x hx; exact nomatch hx
    | @cons p q ps qs hq t ih =>
      intro x hx
      rcases List.mem_cons.mp hx with e | hx
      · subst e
        exact key_of ok (by rw [<- hq.1]; exact hq.2.1)
      · exact ih x hx
  exact all r x hx
theorem dt_of {kvs:List (List Key × V)} (ok:HOk P w H h) (e:H a = some (.dT kvs)):kvs.length <= sizeLine /\ (a == sysModules) = false /\
    ∃ xs,KT H kvs xs /\ h.DictOfH (tupleKind (mixKind P w)) a xs:=dt_rd ok (.inl e)
end

noncomputable def DGet (H:Hp) (a:Addr) (y:V) (r:Option V):Prop :=
  (∃ kvs k,Rd H a (.dK kvs) /\ y = kV k /\ r = valV kvs k) \/ ∃ kvs k b,Rd H a (.dT kvs) /\ y = .ref b /\ H b = some (.tup (k.map kV)) /\ r = valV kvs k
noncomputable def DPut (H:Hp) (a:Addr) (y v:V) (H':Hp):Prop :=
  (∃ kvs k,H a = some (.dK kvs) /\ y = kV k /\ kvs.length < sizeLine /\ H' = upd H a (.dK (putK kvs k v))) \/
  ∃ kvs k b,H a = some (.dT kvs) /\ y = .ref b /\ H b = some (.tup (k.map kV)) /\ kvs.length < sizeLine /\ H' = upd H a (.dT (putK kvs k v))
theorem DGet.k {H:Hp} {a:Addr} {kvs:List (Key × V)} {k:Key} (e:H a = some (.dK kvs)):DGet H a (kV k) (valV kvs k):=.inl ⟨kvs,k,.inl e,rfl,rfl⟩
theorem DPut.k {H:Hp} {a:Addr} {kvs:List (Key × V)} {k:Key} {v:V} (e:H a = some (.dK kvs)) (hl:kvs.length < sizeLine):DPut H a (kV k) v (upd H a (.dK (putK kvs k v))):=.inl ⟨kvs,k,e,rfl,hl,rfl⟩
section
variable {X:Cx} {pins:List (Addr × Obj)} {σ:St} {H:Hp} {s:Shared} {a:Addr} {y v:V} {u r:Value} {o:Option V} {A:Around} {E:Value -> Shared -> Prop}

theorem Inv.big (I:Inv X pins σ H s):sysModules < s.heap.objs.size:=by
  have h:mainGlobals < s.heap.objs.size:=(I.mod.glob.keeps I.bk).lt
  exact Nat.lt_trans (by decide) h

theorem d_getItem {Q:Value -> Shared -> Prop} (hu:A.units + 1 < cLine) (I:Inv X pins σ H s) (g:DGet H a y (some v)) (ry:RelV y u) (h:∀ w' s',Inv X pins σ H s' -> RelV v w' -> Q w' s') :
    wpAny (model X.prog X.w) A (getItem (.ref a) u) Q E s:=by
  rcases g with ⟨kvs,k,e,ey,l⟩ | ⟨kvs,k,b,e,ey,eb,l⟩
  · subst ey
    obtain ⟨z,hd,vs,rel,dd⟩:=dk_rd I.hok e
    obtain ⟨w',hw,rw'⟩:=RelO.some_of (v:=v) (o:=valueAt vs k) (by rw [l]; exact rel.val k)
    exact wpAny_getItem_of (kV_is ry) dd.mapOf hw (h w' _ (I.tok _) rw')
  · subst ey
    cases (show u = Value.ref b from ry)
    obtain ⟨z,hd,xs,rel,dd⟩:=dt_rd I.hok e
    obtain ⟨w',hw,rw'⟩:=RelO.some_of (v:=v) (o:=(atKey xs k).map (·.2)) (by rw [l]; exact rel.val k)
    obtain ⟨p,hp,hp2⟩:=Option.map_eq_some_iff.mp hw
    refine wpAny_getItem_heap (tupleKind_room_in1 hu) (key_of I.hok eb) dd hp ?_
    rw [hp2]
    exact h w' _ (I.tok _) rw'
theorem d_write {h':Heap} {t':Nat} {ob:HO} (I:Inv X pins σ H s) (mu:Mut (H a)) (hs:Heap.SameBut a s.heap h') (he:∃ q,h'.get? a = some q) (new:ObjOk X.prog X.w (upd H a ob) h' a ob) :
    Inv X pins σ (upd H a ob) { s with heap:=h',toks:=t' } :=
  I.write (x:=a) (e:=a) mu (.inl rfl) (fun b q hb z=>(hs.2 b hb).trans z) he new
theorem dk_new {P:Program} {w:World} {H':Hp} {h':Heap} {kvs:List (Key × V)} {vs:List (Key × Value)} (z:kvs.length <= sizeLine) (hd:(a == sysModules) = false) (rel:KV kvs vs) (dd:h'.DictOf (mixKind P w) a vs) :
    ObjOk P w H' h' a (.dK kvs):=⟨z,hd,vs,rel,dd⟩
theorem d_setItem {H':Hp} {Q:Unit -> Shared -> Prop} (hu:A.units + 1 < cLine) (I:Inv X pins σ H s) (g:DPut H a y v H') (ry:RelV y u) (rv:RelV v r) (h:∀ s',Inv X pins σ H' s' -> Q () s') :
    wpAny (model X.prog X.w) A (setItem (.ref a) u r) Q E s:=by
  rcases g with ⟨kvs,k,e,ey,l,eH⟩ | ⟨kvs,k,b,e,ey,eb,l,eH⟩
  · subst ey eH
    obtain ⟨z,hd,vs,rel,dd⟩:=dk_of I.hok e
    have hz:vs.length <= sizeLine:=by rw [<- rel.length]; exact z
    have hl:(putK kvs k v).length <= sizeLine:=by have:=length_putK kvs k v; omega
    refine wpAny_setItem_pairs (hsz:=hz) (kV_is ry) dd fun h' dd' hs=>h _ ?_
    have he:∃ q,h'.get? a = some q:=let ⟨q,_,_,hq,_⟩:=dd'; ⟨q,hq⟩
    exact d_write I (by rw [e]; exact True.intro) hs he (dk_new hl hd (rel.put k rv) dd')
  · subst ey eH
    cases (show u = Value.ref b from ry)
    obtain ⟨z,hd,xs,rel,dd⟩:=dt_of I.hok e
    have hz:xs.length <= sizeLine:=by rw [<- Paired.length rel]; exact z
    have hl:(putK kvs k v).length <= sizeLine:=by have:=length_putK kvs k v; omega
    refine wpAny_setItem_heap (hsz:=hz) (tupleKind_room_in1 hu) (key_of I.hok eb) dd fun h' dd' hs=>h _ ?_
    obtain ⟨q,es,ep,hq,h2,h3,h4,_,h5⟩:=dd'
    refine d_write I (by rw [e]; exact True.intro) hs ⟨q,hq⟩ ⟨hl,hd,_,(rel.put k eb rv).keeps fun c ys ec=>?_,q,es,ep,hq,h2,h3,h4,h5⟩
    rw [upd_ne (ne_of ec e (fun z=>nomatch z))]
    exact ec
end

section
variable {X:Cx} {pins:List (Addr × Obj)} {σ:St} {H:Hp} {s:Shared} {a:Addr} {kvs:List (Key × V)} {k:Key} {u:Value} {A:Around} {E:Value -> Shared -> Prop}
end

noncomputable def NoSl (i:Expr):Prop:=∀ ov iv,subscripted i false ov iv = operate [ov,iv] (getItem ov iv)
theorem subD_of {prog:Program} {w:World} {A:Around} {E:Value -> Shared -> Prop} {s:Shared} {env:Env} {value slice:Expr} {pos:Pos} {T id:String} {Q:Value -> Shared -> Prop}
    (hl:typeLookup (.type T) "__getitem__" = pure (some (.builtin id))) (hs:NoSl slice)
    (h:wpAny (model prog w) A (eval value env) (fun o s₁=>wpAny (model prog w) A (eval slice env) (fun i s₂=>s₂.TypeIs o T /\ wpAny (model prog w) A (getItem o i) Q E s₂) E s₁) E s) :
    wpAny (model prog w) A (eval (.Subscript value slice pos) env) Q E s:=by
  refine Subscript_ (wpAny_mono h (fun o s₁ h₁=>wpAny_mono h₁ (fun i s₂ h₂=>?_) fun _ _ x=>x) fun _ _ x=>x)
  obtain ⟨hT,h₂⟩:=h₂
  unfold subscriptTail
  refine wpAny_bind ?_
  rw [getitemInPython_of_ne hT.not_modules]
  refine wpAny_bind (wpAny_specialOf hT hl ?_)
  have fin:wpAny (model prog w) A (subscripted slice false o i) (fun r s₃=>wpAny (model prog w) A (letTemporaryGo value o r >>= fun _=>pure r) Q E s₃) E s₂:=by
    rw [hs o i]
    exact wpAny_operating (wpAny_mono h₂ (fun r s₃ h₃=>wpAny_bind (wpAny_letTemporaryGo (wpAny_pure h₃))) fun _ _ x=>x)
  first
    | exact wpAny_pure (wpAny_bind fin)
    | exact wpAny_bind (wpAny_pure (wpAny_bind fin))
    | exact wpAny_bind fin

theorem dict_typeIs {X:Cx} {pins:List (Addr × Obj)} {σ:St} {H:Hp} {s:Shared} {a:Addr} {y:V} {o:Option V} (I:Inv X pins σ H s) (g:DGet H a y o):s.TypeIs (.ref a) "dict" := by
  rcases g with ⟨kvs,k,e,_,_⟩ | ⟨kvs,k,b,e,_,_,_⟩
  · obtain ⟨_,_,vs,_,dd⟩:=dk_rd I.hok e
    exact dd.typeIs
  · obtain ⟨_,_,xs,_,dd⟩:=dt_rd I.hok e
    exact dd.typeIs
noncomputable def tDGet (td ty:TE):TE:=fun σ H Q=>td σ H fun x H1=>ty σ H1 fun y H2=>∃ a v,x = .ref a /\ DGet H2 a y (some v) /\ Q v H2
noncomputable def sDPut (td ty tv:TE):TS:=fun D σ H=>tv σ H fun v H1=>td σ H1 fun x H2=>ty σ H2 fun y H3=>∃ a H4,x = .ref a /\ DPut H3 a y v H4 /\ D.nx σ H4
section
variable {X:Cx} {o i e value:Expr} {pos pos' tpos:Pos} {td ty tv:TE}
theorem pe_dget (hu:X.A.units + 1 < cLine) (ho:PE X o td) (hi:PE X i ty) (hs:NoSl i):PE X (.Subscript o i pos) (tDGet td ty):=by
  intro pins s σ H Q I h
  refine subD_of PySem.F.slot_dict_getitem.lookup hs (thn (ho pins s σ H _ I h) fun u s1 ⟨x,H1,I1,rx,q1⟩=>thn (hi pins s1 σ H1 _ I1 q1) fun iv s2 ⟨y,H2,I2,ry,a,v,ex,g,q2⟩=>?_)
  subst ex
  obtain rfl:u = Value.ref a:=rx
  exact ⟨dict_typeIs I2 g,d_getItem hu I2 g ry fun w' s3 I3 rw'=>⟨v,H2,I3,rw',q2⟩⟩
theorem ps_dput (hu:X.A.units + 1 < cLine) (ho:PE X o td) (hi:PE X i ty) (hv:PE X value tv) (hs:swapsWith value (some (.Subscript o i pos')) pos.line X.env = pure false) :
    PS X (.Assign [.Subscript o i pos'] value pos) (sDPut td ty tv):=by
  intro pins s σ H D I h
  refine wpAny_Assign_Subscript (thn (hv pins s σ H _ I h) fun r s1 ⟨v,H1,I1,rv,q1⟩=>thn (ho pins s1 σ H1 _ I1 q1) fun u s2 ⟨x,H2,I2,rx,q2⟩=>thn (hi pins s2 σ H2 _ I2 q2) fun iv s3 ⟨y,H3,I3,ry,a,H4,ex,g,q3⟩=>?_) hs
  subst ex
  obtain rfl:u = Value.ref a:=rx
  exact d_setItem hu I3 g ry rv fun s4 I4=>⟨σ,H4,I4,q3⟩
end

theorem dk_empty {P:Program} {w:World} {H:Hp} (h:Heap) (hb:sysModules < h.objs.size):ObjOk P w H (h.push { cls:=.type "dict", data:=.dict #[] }) h.objs.size (.dK []) :=
  ⟨Nat.zero_le _,beq_eq_false_iff_ne.mpr (Ne.symm (Nat.ne_of_lt hb)),[],.nil,Heap.DictOf.new h⟩
section
variable {X:Cx} {pos:Pos}
end

noncomputable def tPairs:List (TE × TE) -> St -> Hp -> (List (V × V) -> Hp -> Prop) -> Prop
  | [],_,H,Q=>Q [] H
  | (tk,tv) :: r,σ,H,Q=>tk σ H fun x H1=>tv σ H1 fun y H2=>tPairs r σ H2 fun ps H3=>Q ((x,y) :: ps) H3
abbrev VV:List (V × V) -> List (Value × Value) -> Prop:=Paired fun p q=>RelV p.1 q.1 /\ RelV p.2 q.2
noncomputable def PPs (X:Cx) (pos:Pos) (keys:List (Option Expr)) (values:List Expr) (trs:List (TE × TE)):Prop :=
  ∀ (pins:List (Addr × Obj)) (s:Shared) (σ:St) (H:Hp) (Q:List (V × V) -> Hp -> Prop),Inv X pins σ H s -> tPairs trs σ H Q ->
    wpAny (model X.prog X.w) X.A (evalPairs (pairTrees keys values X.env pos)) (fun vs s'=>∃ ps H',Inv X pins σ H' s' /\ VV ps vs /\ Q ps H') X.xe s
theorem pps_nil {X:Cx} {pos:Pos}:PPs X pos [] [] []:=fun pins s σ H Q I h=>pairTrees_nil_walk ⟨[],H,I,.nil,h⟩
theorem pps_cons {X:Cx} {pos:Pos} {k v:Expr} {ks:List (Option Expr)} {vs:List Expr} {tk tv:TE} {trs:List (TE × TE)} (hk:PE X k tk) (hv:PE X v tv) (hr:PPs X pos ks vs trs) :
    PPs X pos (some k :: ks) (v :: vs) ((tk,tv) :: trs):=fun pins s σ H Q I h =>
  pairTrees_cons_walk (thn (hk pins s σ H _ I h) fun u s1 ⟨x,H1,I1,rx,q1⟩=>thn (hv pins s1 σ H1 _ I1 q1) fun w2 s2 ⟨y,H2,I2,ry,q2⟩ =>
    thn (hr pins s2 σ H2 _ I2 q2) fun ws s3 ⟨ps,H3,I3,rel,q3⟩=>⟨(x,y) :: ps,H3,I3,.cons ⟨rx,ry⟩ rel,q3⟩)

noncomputable def mergeK (kvs more:List (Key × V)):List (Key × V):=more.foldl (fun acc kv=>putK acc kv.1 kv.2) kvs
theorem KV.merge:∀ {more:List (Key × V)} {rs:List (Key × Value)} {kvs:List (Key × V)} {vs:List (Key × Value)},KV more rs -> KV kvs vs -> KV (mergeK kvs more) (merged vs rs):=by
  intro more rs kvs vs r
  unfold KV at r
  induction r generalizing kvs vs with
  | nil=>intro q; exact q
  | @cons p q ps qs h t ih =>
    intro r0
    have e:KV (putK kvs p.1 p.2) (stored vs q.1 q.2):=by
      have:=r0.put p.1 h.2
      rw [<- h.1]; exact this
    exact ih e
theorem length_mergeK:∀ (more kvs:List (Key × V)),(mergeK kvs more).length <= kvs.length + more.length
  | [],kvs=>by show kvs.length <= kvs.length + 0; omega
  | p :: r,kvs=>by
    have h1:=length_mergeK r (putK kvs p.1 p.2)
    have h2:=length_putK kvs p.1 p.2
    show (mergeK (putK kvs p.1 p.2) r).length <= _
    rw [List.length_cons]; omega
theorem carries_of {P:Program} {w:World}:∀ {kvs:List (Key × V)} {ws:List (Value × Value)},VV (kvs.map fun kv=>(kV kv.1,kv.2)) ws -> ∃ rs,Carries (mixKind P w) ws rs /\ KV kvs rs
  | [],_,r=>by rw [List.map_nil] at r; cases r; exact ⟨[],True.intro,.nil⟩
  | p :: kvs,_,r=>by
    rw [List.map_cons] at r
    cases r with
    | @cons a b as bs h t =>
      obtain ⟨rs,c,q⟩:=carries_of (P:=P) (w:=w) t
      obtain ⟨b1,b2⟩:=b
      exact ⟨(p.1,b2) :: rs,⟨kV_is h.1,rfl,c⟩,.cons ⟨rfl,h.2⟩ q⟩
noncomputable def tDisp (trs:List (TE × TE)):TE:=fun σ H Q=>∀ p,H p = none -> tPairs trs σ (upd H p (.dK [])) fun ps H2=>H2 p = some (.dK []) /\ ∃ kvs:List (Key × V),ps = kvs.map (fun kv=>(kV kv.1,kv.2)) /\ kvs.length <= 15 /\ Q (.ref p) (upd H2 p (.dK (mergeK [] kvs)))
theorem pe_disp {X:Cx} {pos:Pos} {keys:List (Option Expr)} {values:List Expr} {trs:List (TE × TE)} (h:PPs X pos keys values trs) (hall:keys.all (·.isSome) = true) (hl:keys.length = values.length) (h0:keys ≠ [])
    (h15:keys.length <= 15):PE X (.Dict keys values pos) (tDisp trs):=by
  intro pins s σ H Q I q
  have hn:=I.hok.fresh (Nat.le_refl s.heap.objs.size)
  have I1:=I.laid (a:=s.heap.objs.size) (o:=.dK []) (h':=s.heap.push { cls:=.type "dict", data:=.dict #[] }) (t':=s.toks) (fun _ _ q=>Heap.get?_push_of_some _ q) (Nat.le_refl _) (dk_empty s.heap I.big)
  refine wpAny_Dict_walk (knd:=mixKind X.prog X.w) hall hl h0 h15 (thn (h pins _ σ _ _ I1 (q _ hn)) fun ws s2 ⟨ps,H2,I2,rel,e,kvs,ep,lk,q2⟩=>?_)
  subst ep
  obtain ⟨rs,c,rk⟩:=carries_of (P:=X.prog) (w:=X.w) rel
  obtain ⟨z,hd,vs0,r0,dd⟩:=dk_of I2.hok e
  cases r0
  refine ⟨rs,c,dd,fun h' dd' hs=>⟨.ref s.heap.objs.size,_,?_,rfl,q2⟩⟩
  have hz:(mergeK [] kvs).length <= sizeLine:=by
    have h1:=length_mergeK kvs []
    rw [List.length_nil] at h1
    rw [sizeLine_eq]; omega
  have he:∃ q,h'.get? s.heap.objs.size = some q:=let ⟨q,_,_,hq,_⟩:=dd'; ⟨q,hq⟩
  exact d_write I2 (by rw [e]; exact True.intro) hs he (dk_new hz hd (rk.merge .nil) dd')

section
variable {X:Cx} {pins:List (Addr × Obj)} {σ:St} {H:Hp} {s:Shared} {a:Addr} {y d:V} {u r:Value} {o:Option V} {A:Around} {E:Value -> Shared -> Prop}
end

section
variable {X:Cx} {o e f:Expr} {apos cpos:Pos} {td ty tx:TE}
end

section
variable {X:Cx} {pins:List (Addr × Obj)} {σ:St} {H:Hp} {s:Shared} {a:Addr} {kvs:List (Key × V)} {A:Around} {E:Value -> Shared -> Prop}
end

section
variable {X:Cx} {pins:List (Addr × Obj)} {σ:St} {H:Hp} {s:Shared} {a:Addr} {y:V} {u:Value} {A:Around} {E:Value -> Shared -> Prop}
end
end L2

namespace Att
open PySem PySem.W PySem.Calls PyProof.Rows

theorem ints_of_wellAll {P:Params} {h:Heap}:∀ (ns:List Int) (vs:List Value),WellAll P h vs (ns.map WData.int) -> IntsAre vs ns:=by
  intro ns
  induction ns with
  | nil =>
    intro vs w
    rw [List.map_nil] at w
    cases w
    exact .nil
  | cons n ns ih =>
    intro vs w
    rw [List.map_cons] at w
    cases w with
    | cons a b =>
      cases a
      exact .cons _ _ (ih _ b)

theorem script_of {l:OpenLaw} {n:Nat} (hn:l.most = some n) {P:Params} {h:Heap} {args:List WData} {vals:List Value}
    (hpre:l.row.toRowW.claim.pre args = true) (hwl:WellAll P h vals args) :
    ∃ a vs ns,vals = [Value.ref a] /\ args = [WData.list (ns.map WData.int)] /\ h.get? a = some { cls:=.type "list", data:=.seq vs.toArray } /\ IntsAre vs ns /\ ns.length <= n:=by
  have hsh:WShape.hasAll [] args [.list .int] = true:=(pre_splitW hpre).1
  have hc:l.pre.holds [] { args:=args } = true:=(pre_splitW hpre).2
  obtain ⟨d,r,rfl,h1,h2⟩:=hasAllW_cons hsh
  obtain rfl:=hasAllW_nil h2
  obtain ⟨xs,rfl,h3⟩:=hasW_list h1
  obtain ⟨ns,rfl⟩:=items_int h3
  have hlen:ns.length <= n:=by
    unfold OpenLaw.pre at hc
    have h4:(WTm.not (.lt (.lit (.int (n:Int))) (.len (.arg 0)))).holds [] { args:=[.list (ns.map .int)] } = true:=by
      have h4:=(holds_andW hc).1
      rw [hn] at h4
      exact h4
    have h5:=condW_of h4 (w_not (w_lt w_lit (w_len_list (w_arg rfl))))
    rw [List.length_map] at h5
    refine Nat.le_of_not_lt fun q=>?_
    have q':(n:Int) < ((ns.length:Nat):Int):=by omega
    first
      | (rw [decide_eq_true q'] at h5; exact absurd h5 (by decide))
      | (simp at h5; omega)
  cases hwl with
  | cons w1 w2 =>
    cases w2
    cases w1 with
    | list ho hall=>exact ⟨_,_,ns,rfl,rfl,ho,ints_of_wellAll ns _ hall,hlen⟩

theorem post_true (l:OpenLaw) (args:List WData):l.row.toRowW.claim.post args (.bool true) args = true :=
  postW_of (r:=l.row.toRowW) (X:=(true == true))
    (show WShape.has [] (.bool true) .bool = true by first | rfl | decide | simp [WShape.has,WShape.arms,WShape.armsAll])
    (show (WTm.eq .res (.lit (.bool true))).value [] { args:=args,res:=some (.bool true),after:=args } = some (.bool (true == true)) from w_eq_bool (w_res rfl) w_lit) rfl

theorem attach_call {l:OpenLaw} {n:Nat} {q:Program} {loose:List Str} {XP:(Str -> Option Value) -> Heap -> Prop} {YP:World -> Heap -> Prop} {d:DefRec}
    (hn:l.most = some n) (hdf:d.params.defaults = [])
    (call:∀ (w:World) (s₀ s₁:Shared) (mg mb:Str -> Option Value) (fa:Addr) (o:Obj) (pm cd doc:Value) (a:Addr) (vs:List Value) (ns:List Int),
      Ground q loose [] XP w s₀ mg mb s₁.heap -> YP w s₁.heap ->
      s₁.heap.get? fa = some o -> o.data = .func (docDef d.name d.params d.body d.scope pm cd doc) -> s₁.heap.CodeRec cd d.name -> mg d.name = some (.ref fa) ->
      s₁.heap.get? a = some { cls:=.type "list", data:=.seq vs.toArray } -> IntsAre vs ns -> ns.length <= n -> s₁.gens = #[] ->
      codeAny (model l.prog w) callerA (.call (.ref fa) ⟨[.ref a],[]⟩) (fun r s'=>r = .ok (.ret (.bool true)) /\ OldK s₁.heap s'.heap /\ s'.os = s₁.os /\ AllBare s'.gens) s₁) :
    WalkO q loose XP YP l.row.toRowW d [] (fun f vs=>PySem.call f vs):=by
  intro w s₀ s₁ mg mb G Y fa o pm cd doc dV kV ho hd hcd hD hmg hg args vals as hpre hlay hrd hwl hlo
  obtain rfl:dV = .none:=Dflts.none hD hdf
  obtain rfl:kV = .none:=Dflts.noKw hD
  obtain ⟨a,vs,ns,rfl,rfl,hobj,hints,hlen⟩:=script_of hn hpre hwl
  refine enter_call (codeAny_mono (call w s₀ s₁ mg mb fa o pm cd doc a vs ns G Y ho (fd_plain hd) hcd hmg hobj hints hlen hg) fun r s' hq=>?_)
  obtain ⟨rfl,h2,h3,h4⟩:=hq
  exact ⟨.inl ⟨.bool true,.bool true,[],rfl,fun _=>rfl,.bool true,post_true l _,fun _=>⟨List.Pairwise.nil,fun _ hm=>(nomatch hm)⟩⟩,h2,h3,h4⟩

section
variable {prog:Program} {w:World} {A:Around} {E:Value -> Shared -> Prop} {s:Shared} {K:Frag}

end
end Att

namespace L2
open PySem PySem.Spec PyProof.Rows

theorem vals_ints:∀ {vs:List Value} {ns:List Int},IntsAre vs ns -> Vals (ns.map V.int) vs
  | _,_,.nil=>.nil
  | _,_,.cons n t h=>.cons ⟨t,rfl⟩ (vals_ints h)

noncomputable def Only (H:Hp):Prop:=∀ b,H b = none \/ ∃ o xs,H b = some (.frz o (.lst xs))

theorem law_call {P:Program} {w:World} {K:W.Frag} {mg mb:Str -> Option Value} {CX:CXT} {k:Nat} {fa a:Addr} {fd:FuncData} {x:Str} {sp:Sp} {s₁:Shared} {vs:List Value} {ns:List Int}
    (KX:K.In s₁.heap) (hns:s₁.heap.Ns mainGlobals mg) (hb:s₁.heap.Ns builtinsNs mb) (hbb:∀ x:Str,x ≠ "__name__" -> mb x = bootBuiltins x) (hlim:s₁.heap.NoLimit) (hg:s₁.gens = #[])
    (ha:s₁.heap.get? a = some { cls:=.type "list", data:=.seq vs.toArray }) (hi:IntsAre vs ns) (hl:ns.length <= sizeLine) (hr:Room k callerA)
    (F:∀ base:Heap,K.In base -> base.Ns mainGlobals mg -> FnOk P w K mg base CX k fa fd [x] sp) (hbind:∀ (s:Shared) (u:Value),BindsTo s fd ⟨[u],[]⟩ [(x,u)])
    (hsp:∀ H:Hp,Only H -> SqL K H a (ns.map V.int) -> sp [.ref a] H (fun v _=>v = .bl true) fun _ _ _=>False)
    (hCX:∀ H e s',CX [] H s₁ (fun _ _ _=>False) e s' -> False) :
    codeAny (model P w) callerA (.call (.ref fa) ⟨[.ref a],[]⟩) (fun r s'=>r = .ok (.ret (.bool true)) /\ OldK s₁.heap s'.heap /\ s'.os = s₁.os /\ AllBare s'.gens) s₁:=by
  have rv:=vals_ints hi
  have lenV:=hi.length
  have core:∀ H:Hp,Only H -> SqL K H a (ns.map V.int) -> HOk P w H s₁.heap -> (∀ b,H b ≠ none -> b = a) -> (H a ≠ none -> K.lookup a = none) ->
      codeAny (model P w) callerA (.call (.ref fa) ⟨[.ref a],[]⟩) (fun r s'=>r = .ok (.ret (.bool true)) /\ OldK s₁.heap s'.heap /\ s'.os = s₁.os /\ AllBare s'.gens) s₁:=by
    intro H hO hS hok hA hK
    have base_of:∀ {b:Addr} {o:Obj},s₁.heap.get? b = some o -> H b = none -> (hidT s₁.heap H).get? b = some o:=fun e n=>hidT_get e n
    have noA:∀ {b:Addr} {o:Obj} {es:Array DictEntry} {ep:Nat},s₁.heap.get? b = some o -> o.data = .dict es ep -> H b = none:=fun {b o es ep} e d=>by
      cases q:H b with
      | none=>rfl
      | some u =>
        have e':b = a:=hA b (by rw [q]; simp)
        subst e'
        rw [ha] at e; cases e
        have d':Data.seq vs.toArray _ = Data.dict es ep:=d
        cases d'
    have nsK:∀ {b:Addr} {m:Str -> Option Value},s₁.heap.Ns b m -> (hidT s₁.heap H).Ns b m:=fun {b m} ⟨o,es,ep,e,d,r⟩=>⟨o,es,ep,base_of e (noA e d),d,r⟩
    have hKb:K.In (hidT s₁.heap H):=fun b o e=>base_of (KX b o e) (by
      cases q:H b with
      | none=>rfl
      | some u =>
        have e':b = a:=hA b (by rw [q]; simp)
        subst e'
        rw [hK (by rw [q]; simp)] at e; cases e)
    have hM:Mod K mg (hidT s₁.heap H):=⟨hKb,nsK hns,⟨mb,nsK hb,hbb⟩,let ⟨mc,h1,h2⟩:=hlim; ⟨mc,nsK h1,h2⟩⟩
    have e0:Env0 P w K mg (hidT s₁.heap H) callerA [] s₁ H:=⟨rfl,hM,fun b o e=>of_hidT e,Nat.le_of_eq (hidT_size _ _),trivial,fun b hb=>absurd (show b ∈ ([]:List Addr) from hb) (by simp),hok,.of_eq hg⟩
    refine codeAny_mono ((F _ hKb (nsK hns)).run callerA [] s₁ H ⟨[.ref a],[]⟩ [.ref a] [.ref a] _ _ hr e0 (hbind s₁ (.ref a)) (.cons rfl .nil) (hsp H hO hS)) fun r s' h=>?_
    cases r with
    | error e=>exact (hCX H e s' h).elim
    | ok fl =>
      cases fl with
      | next=>exact False.elim h
      | brk=>exact False.elim h
      | cont=>exact False.elim h
      | ret u =>
        obtain ⟨v,H',os,bare,un,hok',r',q⟩:=h
        have q':v = .bl true:=q
        subst q'
        obtain rfl:u = Value.bool true:=r'
        refine ⟨rfl,OldK.of_keep fun b o e=>?_,os,bare⟩
        cases q:H b with
        | none=>exact un.keep b o e q (by intro z; exact absurd (show b ∈ ([]:List Addr) from z) (by simp)) (by simp)
        | some u =>
          rcases hO b with z | ⟨ob,xs,z⟩
          · rw [q] at z; cases z
          · have z2:=un.frzs b ob _ z
            obtain ⟨e1,_⟩:=hok b _ z
            obtain ⟨e2,_⟩:=hok' b _ z2
            rw [e] at e1; cases e1
            exact e2
  cases hk:K.lookup a with
  | some o =>
    have e:=KX a o hk
    rw [ha] at e
    cases e
    refine core (fun _=>none) (fun _=>.inl rfl) (.inr ⟨_,vs.toArray,_,hk,rfl,rfl,rfl,by rw [List.size_toArray,lenV]; exact hl,by simpa using rv⟩) (fun b u z=>by have z':(none:Option HO) = some u:=z; cases z') (fun b z=>absurd rfl z) fun z=>absurd rfl z
  | none =>
    refine core (fun b=>if b = a then some (.frz { cls:=.type "list", data:=.seq vs.toArray } (.lst (ns.map V.int))) else none) (fun b=>?_) (.inl (.inr ⟨{ cls:=.type "list", data:=.seq vs.toArray },if_pos rfl⟩)) (fun b u z=>?_) (fun b z=>?_) fun _=>hk
    · by_cases hb:b = a
      · exact .inr ⟨_,_,if_pos hb⟩
      · exact .inl (if_neg hb)
    · by_cases hb:b = a
      · have z':=(if_pos hb).symm.trans z
        cases z'
        subst hb
        exact ⟨ha,by rw [List.length_map]; exact hl,vs,_,rv,ha⟩
      · have z':=(if_neg hb).symm.trans z
        cases z'
    · by_cases hb:b = a
      · exact hb
      · exact absurd (if_neg hb) z
end L2

namespace L2
open PySem PySem.Spec PyProof.Rows

theorem walk_of {l:W.OpenLaw} {n k:Nat} {q:Program} {loose:List Str} {XP:(Str -> Option Value) -> Heap -> Prop} {YP:World -> Heap -> Prop} {d:DefRec} {K:Params -> W.Frag} {CX:World -> CXT} {sp:World -> Sp} {x:Str}
    (hn:l.most = some n) (hn2:n <= sizeLine) (hdf:d.params.defaults = []) (hr:Room k callerA)
    (hY:∀ (w:World) (h:Heap),YP w h -> (K w.params).In h)
    (F:∀ (w:World) (mg:Str -> Option Value) (fa:Addr) (h:Heap),(K w.params).In h -> h.Ns mainGlobals mg -> mg d.name = some (.ref fa) ->
      ∃ fd:FuncData,(∀ (s:Shared) (u:Value),BindsTo s fd ⟨[u],[]⟩ [(x,u)]) /\
        ∀ base:Heap,(K w.params).In base -> base.Ns mainGlobals mg -> FnOk l.prog w (K w.params) mg base (CX w) k fa fd [x] (sp w))
    (hsp:∀ (w:World) (H:Hp) (a:Addr) (ns:List Int),ns.length <= n -> Only H -> SqL (K w.params) H a (ns.map V.int) -> sp w [.ref a] H (fun v _=>v = .bl true) fun _ _ _=>False)
    (hCX:∀ (w:World) (H:Hp) (s:Shared) (e:Value) (s':Shared),CX w [] H s (fun _ _ _=>False) e s' -> False) :
    W.WalkO q loose XP YP l.row.toRowW d [] (fun f vs=>PySem.call f vs):=by
  refine Att.attach_call hn hdf fun w s₀ s₁ mg mb fa o pm cd doc a vs ns G Y ho hd hcd hmg hobj hints hlen hg=>?_
  have KX:=hY w _ Y
  obtain ⟨fd,hb,hF⟩:=F w mg fa _ KX G.T.g hmg
  exact law_call KX G.T.g G.T.b G.T.builtins G.T.nolimit hg hobj hints (Nat.le_trans hlen hn2) hr hF hb (fun H hO hS=>hsp w H a ns hlen hO hS) fun H e s'=>hCX w H s₁ e s'
end L2

namespace L2
open PySem PySem.Spec PyProof.Rows


abbrev CX0:CXT:=fun _ _ _ _ _ _=>False
abbrev E0:XK:=fun _ _ _=>False
theorem pass0 {X:Cx}:Passes CX0 X E0:=fun _ _ _ _ _ _ _ h=>h.elim

structure Fun (K:W.Frag) (x qual:Str) (st:Stmt) (f:Addr) (fd:FuncData):Prop where
  ex:∃ (oc:Value) (od:Option Addr) (kV doc pm:Value) (an:Option Addr) (cdv ct:Value) (osl:Array (Option Value)),
    fd = W.fnOf x qual (defArgs st) (defBody st) (defScope st) .none kV doc pm an cdv ct /\ K.lookup f = some ⟨oc,od,.func fd,osl⟩ /\ W.codeIn K cdv qual = true
  kp:W.keepIn K (.ref f) = true
section
variable {P:Program} {w:World} {K:W.Frag} {mg:Str -> Option Value} {base:Heap}
theorem Fun.ok {x qual:Str} {st:Stmt} {f:Addr} {fd:FuncData} {N ps:List Str} {k:Nat} {sp:Sp} (F:Fun K x qual st f fd) (S:FnScope N ps (defScope st)) (len:∀ vs H Q E,sp vs H Q E -> vs.length = ps.length)
    (hbody:∀ (cdv:Value) (A:Around) (outer:List Env) (s:Shared) (H:Hp) (vs:List V) (Q:VK) (E:XK),Room k (A.deeper (envOfC qual (defScope st) s.heap.objs.size f cdv)) -> sp vs H Q E ->
      ∃ t,PSs (cxOf CX0 P w K mg base N qual (defScope st) f cdv A outer s H E).nox (defBody st) t /\ t { nx:=fun _ H'=>Q .non H',rt:=Q } (start N vs) H):FnOk P w K mg base CX0 (k + 1) f fd ps sp:=by
  obtain ⟨oc,od,kV,doc,pm,an,cdv,ct,osl,rfl,lk,hcd⟩:=F.ex
  refine fn_of lk hcd S len fun A outer s H vs Q E hr hsp=>?_
  obtain ⟨t,h,q⟩:=hbody cdv A outer s H vs Q E hr hsp
  exact ⟨t,h.nox,q⟩
theorem Fun.binds {x qual:Str} {st:Stmt} {f:Addr} {fd:FuncData} {ps:List Str} (F:Fun K x qual st f fd)
    (h:∀ (kV doc pm:Value) (an:Option Addr) (cdv ct:Value) (us:List Value),us.length = ps.length -> bindArgs (W.fnOf x qual (defArgs st) (defBody st) (defScope st) .none kV doc pm an cdv ct) ⟨us,[]⟩ = pure (ps.zip us)):Binds K fd ps []:=by
  obtain ⟨oc,od,kV,doc,pm,an,cdv,ct,osl,rfl,lk,hcd⟩:=F.ex
  exact .all (h kV doc pm an cdv ct)
theorem fun_mk {x qual:Str} {st:Stmt} {f:Addr} {oc:Value} {od an:Option Addr} {osl:Array (Option Value)} {kV doc pm cdv ct:Value} (l:K.lookup f = some ⟨oc,od,.func (W.fnOf x qual (defArgs st) (defBody st) (defScope st) .none kV doc pm an cdv ct),osl⟩)
    (c:W.codeIn K cdv qual = true) (k:W.keepIn K (.ref f) = true):Fun K x qual st f (W.fnOf x qual (defArgs st) (defBody st) (defScope st) .none kV doc pm an cdv ct):=⟨⟨oc,od,kV,doc,pm,an,cdv,ct,osl,rfl,l,c⟩,k⟩
end
theorem hu_of {A:Around} {k:Nat} (hr:Room k A):A.units + 1 < cLine:=Nat.lt_of_le_of_lt (Nat.add_le_add_left (by decide : 1 <= 64) _) hr.units
theorem small1000 {n:Nat} (h:n <= 1000):n < sizeLine:=Nat.lt_of_le_of_lt h (by decide)

section
variable {X:Cx}
theorem pv (i:Nat) {x:Str} {pos:Pos} (hN:X.N[i]? = some x:=by rfl) (hv:Vis X.env.scope x:=by first | exact Or.inl rfl | exact Or.inr (Or.inl rfl) | exact Or.inr (Or.inr rfl)) (hd:(x == ("__debug__" : Str)) = false:=by decide)
    (hcd:(x == ("__classdict__" : Str)) = false:=by decide):PE X (.Name x pos) (tVar i):=pe_var hN hv hd hcd
end

noncomputable def Same (H H':Hp):Prop:=∀ b o,H b = some o -> H' b = some o
theorem Same.refl (H:Hp):Same H H:=fun _ _ h=>h
theorem Same.trans {H H1 H2:Hp} (a:Same H H1) (b:Same H1 H2):Same H H2:=fun c o h=>b c o (a c o h)
theorem Same.free {H H':Hp} (e:Same H H') {l:Addr} (h:H' l = Option.none):H l = Option.none:=by
  cases q:H l with
  | none=>rfl
  | some o =>
    rw [e l o q] at h
    cases h
end L2

namespace L2
open PySem PySem.Spec PyProof.Rows
section
variable {X:Cx}
end
section
variable {κ:Type} [DecidableEq κ]
end
end L2


namespace L2.VL
open PySem PySem.Spec PyProof.Rows
structure RlT where
  a:Option Addr
  b:Nat
abbrev RlT.no:RlT:=⟨none,0⟩
abbrev RlT.at' (r:Addr) (b:Nat):RlT:=⟨some r,b⟩
noncomputable def BM:Nat:=2 ^ 50000
noncomputable def RO (b:Nat) (_:Hp) (o:HO):Prop:=∃ (c l t:Int),o = .dK [(Sum.inr "cell", .int c),(Sum.inr "left", .int l),(Sum.inr "turn", .int t)] /\ 0 <= l /\ 0 <= t /\ t + b < 2 ^ 59990
theorem RO.mono {b:Nat} {F F':Hp} {o:HO} (s:Same F F') (h:RO b F o):RO b F' o:=h
theorem RO.pay {b b':Nat} {F:Hp} {o:HO} (s:b' <= b) (h:RO b F o):RO b' F o:=by
  obtain ⟨c,l,t,e,h1,h2,h3⟩:=h
  exact ⟨c,l,t,e,h1,h2,by omega⟩
end L2.VL

namespace L2.VL
open PySem PySem.Spec PyProof.Rows

mutual
inductive Rep (K:W.Frag) (F:Hp):V -> PyData -> Prop
  | non:Rep K F .non .none
  | bl (b:Bool):Rep K F (.bl b) (.bool b)
  | int (i:Int):Rep K F (.int i) (.int i)
  | str (x:Str):Rep K F (.str x) (.str x)
  | tup {a:Addr} {vs:List V} {ds:List PyData}:SqT K F a vs -> Reps K F vs ds -> Rep K F (.ref a) (.tuple ds)
  | lst {a:Addr} {vs:List V} {ds:List PyData}:F a = some (.lst vs) -> Reps K F vs ds -> Rep K F (.ref a) (.list ds)
inductive Reps (K:W.Frag) (F:Hp):List V -> List PyData -> Prop
  | nil:Reps K F [] []
  | cons {v:V} {d:PyData} {vs:List V} {ds:List PyData}:Rep K F v d -> Reps K F vs ds -> Reps K F (v :: vs) (d :: ds)
end

theorem sameT {K:W.Frag} {H H':Hp} {a:Addr} {xs:List V} (e:Same H H') (h:SqT K H a xs):SqT K H' a xs:=by
  rcases h with (h | ⟨o,h⟩) | h
  · exact .inl (.inl (e _ _ h))
  · exact .inl (.inr ⟨o,e _ _ h⟩)
  · exact .inr h
theorem sameL {K:W.Frag} {H H':Hp} {a:Addr} {xs:List V} (e:Same H H') (h:SqL K H a xs):SqL K H' a xs:=by
  rcases h with (h | ⟨o,h⟩) | h
  · exact .inl (.inl (e _ _ h))
  · exact .inl (.inr ⟨o,e _ _ h⟩)
  · exact .inr h
mutual
theorem Rep.mono {K:W.Frag} {F F':Hp} (s:Same F F'):∀ {v:V} {d:PyData},Rep K F v d -> Rep K F' v d
  | _,_,.non=>.non
  | _,_,.bl b=>.bl b
  | _,_,.int i=>.int i
  | _,_,.str x=>.str x
  | _,_,.tup h r=>.tup (sameT s h) (Reps.mono s r)
  | _,_,.lst h r=>.lst (s _ _ h) (Reps.mono s r)
theorem Reps.mono {K:W.Frag} {F F':Hp} (s:Same F F'):∀ {vs:List V} {ds:List PyData},Reps K F vs ds -> Reps K F' vs ds
  | _,_,.nil=>.nil
  | _,_,.cons h r=>.cons (Rep.mono s h) (Reps.mono s r)
end
theorem Reps.length {K:W.Frag} {F:Hp}:∀ {vs:List V} {ds:List PyData},Reps K F vs ds -> vs.length = ds.length
  | _,_,.nil=>rfl
  | _,_,.cons _ r=>by simp [Reps.length r]
theorem Reps.get {K:W.Frag} {F:Hp}:∀ {vs:List V} {ds:List PyData} {i:Nat} {d:PyData},Reps K F vs ds -> ds[i]? = some d -> ∃ v,vs[i]? = some v /\ Rep K F v d
  | _,_,_,_,.nil,e=>by simp at e
  | _,_,0,_,.cons h _,e=>by simp at e; subst e; exact ⟨_,rfl,h⟩
  | _,_,i + 1,d,.cons _ r,e=>by
    obtain ⟨v,h1,h2⟩:=Reps.get (i:=i) (d:=d) r (by simpa using e)
    exact ⟨v,by simpa using h1,h2⟩
theorem Reps.append {K:W.Frag} {F:Hp}:∀ {vs us:List V} {ds es:List PyData},Reps K F vs ds -> Reps K F us es -> Reps K F (vs ++ us) (ds ++ es)
  | _,_,_,_,.nil,s=>s
  | _,_,_,_,.cons h r,s=>.cons h (Reps.append r s)
theorem Reps.snoc {K:W.Frag} {F:Hp} {vs:List V} {ds:List PyData} {v:V} {d:PyData} (r:Reps K F vs ds) (h:Rep K F v d):Reps K F (vs ++ [v]) (ds ++ [d]):=r.append (.cons h .nil)
theorem Reps.take {K:W.Frag} {F:Hp}:∀ {vs:List V} {ds:List PyData} (n:Nat),Reps K F vs ds -> Reps K F (vs.take n) (ds.take n)
  | _,_,0,_=>.nil
  | _,_,_ + 1,.nil=>.nil
  | _,_,n + 1,.cons h r=>.cons h (Reps.take n r)
theorem Reps.drop {K:W.Frag} {F:Hp}:∀ {vs:List V} {ds:List PyData} (n:Nat),Reps K F vs ds -> Reps K F (vs.drop n) (ds.drop n)
  | _,_,0,r=>r
  | _,_,_ + 1,.nil=>.nil
  | _,_,n + 1,.cons _ r=>Reps.drop n r
theorem Reps.nil_iff {K:W.Frag} {F:Hp} {vs:List V} (h:Reps K F vs []):vs = []:=by cases h; rfl

mutual
theorem Rep.reads {X:Cx} {pins:List (Addr × Obj)} {σ:St} {H F:Hp} {s:Shared} (I:Inv X pins σ H s) (sub:Same F H):∀ {v:V} {d:PyData},Rep X.K F v d -> ∀ u,RelV v u -> ∃ as,Reads s.heap u d as
  | _,_,.non,u,r=>by cases (show u = Value.none from r); exact ⟨_,.none⟩
  | _,_,.bl b,u,r=>by cases (show u = Value.bool b from r); exact ⟨_,.bool b⟩
  | _,_,.int i,u,r=>by obtain ⟨t,q⟩:=(show ∃ t,u = Value.int i t from r); cases q; exact ⟨_,.int i t⟩
  | _,_,.str x,u,r=>by obtain ⟨t,q⟩:=(show ∃ t,u = Value.str x t from r); cases q; exact ⟨_,.str x t⟩
  | _,_,.tup (a:=a) h q,u,r=>by
    cases (show u = Value.ref a from r)
    obtain ⟨its,rv,⟨o,h1,h2,n,h3⟩,hz⟩:=I.tuple (sameT sub h)
    obtain ⟨as,ra⟩:=Reps.reads I sub q its rv
    exact ⟨_,.tuple h1 h2 h3 (by simpa using ra)⟩
  | _,_,.lst (a:=a) h q,u,r=>by
    cases (show u = Value.ref a from r)
    obtain ⟨its,rv,p,hz⟩:=I.list (.inl (.inl (sub _ _ h)))
    obtain ⟨o,h1,h2,n,h3⟩:=p.isList
    obtain ⟨as,ra⟩:=Reps.reads I sub q its rv
    exact ⟨_,.list h1 h2 h3 (by simpa using ra)⟩
theorem Reps.reads {X:Cx} {pins:List (Addr × Obj)} {σ:St} {H F:Hp} {s:Shared} (I:Inv X pins σ H s) (sub:Same F H):∀ {vs:List V} {ds:List PyData},Reps X.K F vs ds -> ∀ us,Vals vs us -> ∃ as,ReadsAll s.heap us ds as
  | _,_,.nil,us,r=>by cases r; exact ⟨_,.nil⟩
  | _,_,.cons h q,us,r=>by
    cases r with
    | cons r1 r2 =>
      obtain ⟨as,a1⟩:=Rep.reads I sub h _ r1
      obtain ⟨bs,a2⟩:=Reps.reads I sub q _ r2
      exact ⟨_,.cons a1 a2⟩
end

structure ReelOk (b:Nat) (F H:Hp) (r:Addr):Prop where
  ex:∃ o,H r = some o /\ RO b F o
noncomputable def RAt (rl:RlT) (F H:Hp):Prop:=∀ r,rl.a = some r -> F r = none /\ ReelOk rl.b F H r
theorem RAt.live {rl:RlT} {F H:Hp} (h:RAt rl F H) {r:Addr} (e:rl.a = some r):∃ o,H r = some o:=by
  obtain ⟨_,⟨o,q,_⟩⟩:=h r e
  exact ⟨_,q⟩

structure Grow (rl:RlT) (F H F' H':Hp):Prop where
  same:∀ b o,H b = some o -> rl.a ≠ some b -> H' b = some o
  fs:Same F F'
  sub:Same F' H'
  old:∀ b o,H b = some o -> F' b = F b
  reel:RAt rl F' H'
theorem Grow.refl {rl:RlT} {F H:Hp} (s:Same F H) (r:RAt rl F H):Grow rl F H F H:=⟨fun _ _ e _=>e,.refl F,s,fun _ _ _=>rfl,r⟩
theorem Grow.live {rl:RlT} {F H F' H':Hp} (g:Grow rl F H F' H') {b:Addr} {o:HO} (e:H b = some o):∃ o',H' b = some o':=by
  by_cases h:rl.a = some b
  · exact g.reel.live h
  · exact ⟨o,g.same b o e h⟩
theorem Grow.trans {rl:RlT} {F H F1 H1 F2 H2:Hp} (a:Grow rl F H F1 H1) (b:Grow rl F1 H1 F2 H2):Grow rl F H F2 H2 :=
  ⟨fun c o e n=>b.same c o (a.same c o e n) n,a.fs.trans b.fs,b.sub,fun c o e=>by obtain ⟨o',e'⟩:=a.live e; rw [b.old c o' e',a.old c o e],b.reel⟩
theorem Grow.freeB {rl:RlT} {F H F' H':Hp} (g:Grow rl F H F' H') {b:Addr} (e:H' b = none):H b = none:=by
  cases q:H b with
  | none=>rfl
  | some o=>obtain ⟨o',e'⟩:=g.live q; rw [e] at e'; cases e'
theorem Grow.laid {rl:RlT} {F H:Hp} {a:Addr} {o:HO} (s:Same F H) (r:RAt rl F H) (n:H a = none):Grow rl F H F (upd H a o):=by
  have ne:∀ b u,H b = some u -> b ≠ a:=fun b u e=>ne_of_none e n
  refine ⟨fun b u e _=>by rw [upd_ne (ne b u e)]; exact e,.refl F,fun b u e=>by rw [upd_ne (ne b u (s b u e))]; exact s b u e,fun _ _ _=>rfl,fun q e=>?_⟩
  obtain ⟨z,⟨u,h1,h2⟩⟩:=r q e
  exact ⟨z,⟨u,by rw [upd_ne (ne _ _ h1)]; exact h1,h2⟩⟩
theorem Grow.data {rl:RlT} {F H:Hp} {a:Addr} {o:HO} (s:Same F H) (r:RAt rl F H) (n:H a = none):Grow rl F H (upd F a o) (upd H a o):=by
  have ne:∀ b u,H b = some u -> b ≠ a:=fun b u e=>ne_of_none e n
  have neF:∀ b u,F b = some u -> b ≠ a:=fun b u e=>ne b u (s b u e)
  refine ⟨fun b u e _=>by rw [upd_ne (ne b u e)]; exact e,fun b u e=>by rw [upd_ne (neF b u e)]; exact e,fun b u e=>?_,fun b u e=>by rw [upd_ne (ne b u e)],fun q e=>?_⟩
  · by_cases hb:b = a
    · subst hb; rw [upd_same] at e ⊢; exact e
    · rw [upd_ne hb] at e ⊢; exact s b u e
  · obtain ⟨z,⟨u,h1,h2⟩⟩:=r q e
    exact ⟨by rw [upd_ne (ne _ _ h1)]; exact z,⟨u,by rw [upd_ne (ne _ _ h1)]; exact h1,RO.mono (fun b u e=>by rw [upd_ne (neF b u e)]; exact e) h2⟩⟩
theorem Grow.freeze {rl:RlT} {F H F1 H1:Hp} {a:Addr} {o:HO} (g:Grow rl F H F1 H1) (n:H a = none) (e:H1 a = some o) (f:F1 a = none) (hr:rl.a ≠ some a):Grow rl F H (upd F1 a o) H1:=by
  have neF:∀ b u,F1 b = some u -> b ≠ a:=fun b u q z=>by subst z; rw [f] at q; cases q
  refine ⟨g.same,fun b u q=>by rw [upd_ne (neF b u (g.fs b u q))]; exact g.fs b u q,fun b u q=>?_,fun b u q=>by rw [upd_ne (ne_of_none q n)]; exact g.old b u q,fun q z=>?_⟩
  · by_cases hb:b = a
    · subst hb; rw [upd_same] at q; rw [e]; exact q
    · rw [upd_ne hb] at q; exact g.sub b u q
  · obtain ⟨z1,⟨u,h1,h2⟩⟩:=g.reel q z
    exact ⟨by rw [upd_ne (fun y=>hr (by rw [<- y]; exact z))]; exact z1,⟨u,h1,RO.mono (fun b u e=>by rw [upd_ne (neF b u e)]; exact e) h2⟩⟩

inductive W where
  | d (x:PyData)
  
  | ml (xs:List PyData)
  
  | pk (xs:List PyData)
  | reel
  
  | vv (v:V)
  
  | md (kvs:List (List Key × PyData))
  
  | mk (kvs:List (Key × PyData))
  
  | nt (ds:List PyData)
  
  | lk
  
  | sc (ns:List Int)
  
  | fd (kvs:List (Key × PyData))
  
  | fw (kvs:List (Key × PyData))
  
  | ft (kvs:List (List Key × PyData))
  
  | xc (x:Str) (fs:List (Str × PyData))
  
  | dp (kvs:List (Key × PyData)) (x:PyData)
noncomputable def W.dat:W -> Option PyData
  | .d x=>some x
  | .ml xs=>some (.list xs)
  | .pk xs=>some (.list xs)
  | .nt ds=>some (.tuple ds)
  | _=>none
noncomputable def W.peek:W -> W
  | .ml xs=>.pk xs
  | .md _=>.lk
  | .mk _=>.lk
  | w=>w
noncomputable def W.own:W -> Bool
  | .ml _=>true
  | .md _=>true
  | .mk _=>true
  | _=>false
abbrev KD (K:W.Frag) (F:Hp):List (List Key × V) -> List (List Key × PyData) -> Prop:=Paired fun p q=>p.1 = q.1 /\ Rep K F p.2 q.2
abbrev KDk (K:W.Frag) (F:Hp):List (Key × V) -> List (Key × PyData) -> Prop:=Paired fun p q=>p.1 = q.1 /\ Rep K F p.2 q.2
abbrev KDs (K:W.Frag) (F:Hp):List (Str × V) -> List (Str × PyData) -> Prop:=Paired fun p q=>p.1 = q.1 /\ Rep K F p.2 q.2
noncomputable def ExcAt (e C dx:Addr):Heap -> Prop:=fun h=>∃ oe vs,h.get? e = some oe /\ oe.cls = .ref C /\ oe.dict = some dx /\ oe.data = .fields vs
noncomputable def OwnD (K:W.Frag) (rl:RlT) (F H:Hp) (v:V) (kvs:List (List Key × PyData)):Prop:=∃ a us,v = .ref a /\ F a = none /\ rl.a ≠ some a /\ H a = some (.dT us) /\ KD K F us kvs
noncomputable def OwnK (K:W.Frag) (rl:RlT) (F H:Hp) (v:V) (kvs:List (Key × PyData)):Prop:=∃ a us,v = .ref a /\ F a = none /\ rl.a ≠ some a /\ H a = some (.dK us) /\ KDk K F us kvs
noncomputable def OwnL (K:W.Frag) (rl:RlT) (F H:Hp) (v:V) (xs:List PyData):Prop:=∃ a vs,v = .ref a /\ F a = none /\ rl.a ≠ some a /\ H a = some (.lst vs) /\ Reps K F vs xs
noncomputable def RelW (K:W.Frag) (rl:RlT) (F H:Hp) (v:V):W -> Prop
  | .d x=>Rep K F v x
  | .ml xs=>OwnL K rl F H v xs
  | .pk xs=>OwnL K rl F H v xs
  | .reel=>∃ r,rl.a = some r /\ v = .ref r
  | .vv u=>v = u
  | .md kvs=>OwnD K rl F H v kvs
  | .mk kvs=>OwnK K rl F H v kvs
  | .nt ds=>∃ a vs,v = .ref a /\ F a = some (.tup vs) /\ Reps K F vs ds
  | .lk=>True
  | .sc ns=>∃ a,v = .ref a /\ SqL K F a (ns.map V.int)
  | .fd kvs=>∃ a us,v = .ref a /\ F a = some (.dK us) /\ KDk K F us kvs
  | .fw kvs=>∃ a us o,v = .ref a /\ F a = some (.frz o (.dK us)) /\ KDk K F us kvs
  | .ft kvs=>∃ a us o,v = .ref a /\ F a = some (.frz o (.dT us)) /\ KD K F us kvs
  | .xc x fs=>∃ e dx us C,v = .ref e /\ W.nsIn K mainGlobals x = some (some (.ref C)) /\ F e = some (.ext (ExcAt e C dx)) /\ F dx = some (.xd us) /\ KDs K F us fs
  | .dp kvs x=>∃ a b us u o,v = .ref a /\ F a = some (.tup [.ref b,u]) /\ F b = some (.frz o (.dK us)) /\ KDk K F us kvs /\ Rep K F u x
theorem OwnD.grow {K:W.Frag} {rl:RlT} {F H F' H':Hp} {v:V} {kvs:List (List Key × PyData)} (g:Grow rl F H F' H') (r:OwnD K rl F H v kvs):OwnD K rl F' H' v kvs:=by
  obtain ⟨a,us,rfl,h1,h2,h3,h4⟩:=r
  exact ⟨a,us,rfl,by rw [g.old a _ h3]; exact h1,h2,g.same a _ h3 h2,Paired.mapP h4 fun _ _ z=>⟨z.1,z.2.mono g.fs⟩⟩
theorem OwnK.grow {K:W.Frag} {rl:RlT} {F H F' H':Hp} {v:V} {kvs:List (Key × PyData)} (g:Grow rl F H F' H') (r:OwnK K rl F H v kvs):OwnK K rl F' H' v kvs:=by
  obtain ⟨a,us,rfl,h1,h2,h3,h4⟩:=r
  exact ⟨a,us,rfl,by rw [g.old a _ h3]; exact h1,h2,g.same a _ h3 h2,Paired.mapP h4 fun _ _ z=>⟨z.1,z.2.mono g.fs⟩⟩
theorem OwnL.grow {K:W.Frag} {rl:RlT} {F H F' H':Hp} {v:V} {xs:List PyData} (g:Grow rl F H F' H') (r:OwnL K rl F H v xs):OwnL K rl F' H' v xs:=by
  obtain ⟨a,vs,rfl,h1,h2,h3,h4⟩:=r
  exact ⟨a,vs,rfl,by rw [g.old a _ h3]; exact h1,h2,g.same a _ h3 h2,h4.mono g.fs⟩
theorem RelW.grow {K:W.Frag} {rl:RlT} {F H F' H':Hp} {v:V} {w:W} (g:Grow rl F H F' H') (r:RelW K rl F H v w):RelW K rl F' H' v w:=by
  cases w with
  | d x=>exact Rep.mono g.fs r
  | ml xs=>exact OwnL.grow g r
  | pk xs=>exact OwnL.grow g r
  | reel=>exact r
  | vv u=>exact r
  | md kvs=>exact OwnD.grow g r
  | mk kvs=>exact OwnK.grow g r
  | nt ds=>obtain ⟨a,vs,e,h,q⟩:=r; exact ⟨a,vs,e,g.fs _ _ h,q.mono g.fs⟩
  | lk=>trivial
  | sc ns=>obtain ⟨a,e,h⟩:=r; exact ⟨a,e,sameL g.fs h⟩
  | fd kvs=>obtain ⟨a,us,e,h,q⟩:=r; exact ⟨a,us,e,g.fs _ _ h,Paired.mapP q fun _ _ z=>⟨z.1,z.2.mono g.fs⟩⟩
  | fw kvs=>obtain ⟨a,us,o,e,h,q⟩:=r; exact ⟨a,us,o,e,g.fs _ _ h,Paired.mapP q fun _ _ z=>⟨z.1,z.2.mono g.fs⟩⟩
  | ft kvs=>obtain ⟨a,us,o,e,h,q⟩:=r; exact ⟨a,us,o,e,g.fs _ _ h,Paired.mapP q fun _ _ z=>⟨z.1,z.2.mono g.fs⟩⟩
  | xc _ _=>obtain ⟨a,dx,us,C,e,n,h1,h2,q⟩:=r; exact ⟨a,dx,us,C,e,n,g.fs _ _ h1,g.fs _ _ h2,Paired.mapP q fun _ _ z=>⟨z.1,z.2.mono g.fs⟩⟩
  | dp _ _=>obtain ⟨a,b,us,u,o,e,h1,h2,q,z⟩:=r; exact ⟨a,b,us,u,o,e,g.fs _ _ h1,g.fs _ _ h2,Paired.mapP q fun _ _ z=>⟨z.1,z.2.mono g.fs⟩,z.mono g.fs⟩
theorem RelW.peek {K:W.Frag} {rl:RlT} {F H:Hp} {v:V} {w:W} (r:RelW K rl F H v w):RelW K rl F H v w.peek:=by cases w <;> first | exact r | trivial
theorem OwnL.rep {K:W.Frag} {rl:RlT} {F H:Hp} {v:V} {xs:List PyData} (s:Same F H) (r:OwnL K rl F H v xs):Rep K H v (.list xs):=by
  obtain ⟨a,vs,rfl,h1,h2,h3,h4⟩:=r
  exact .lst h3 (h4.mono s)
theorem RelW.dat {K:W.Frag} {rl:RlT} {F H:Hp} {v:V} {w:W} {x:PyData} (s:Same F H) (r:RelW K rl F H v w) (e:w.dat = some x):Rep K H v x:=by
  cases w with
  | d y=>cases e; exact Rep.mono s r
  | ml xs=>cases e; exact OwnL.rep s r
  | pk xs=>cases e; exact OwnL.rep s r
  | reel=>cases e
  | vv u=>cases e
  | md kvs=>cases e
  | mk kvs=>cases e
  | nt ds=>cases e; obtain ⟨a,vs,rfl,h,q⟩:=r; exact .tup (.inl (.inl (s _ _ h))) (q.mono s)
  | lk=>cases e
  | sc _=>cases e
  | fd _=>cases e
  | fw _=>cases e
  | ft _=>cases e
  | xc _ _=>cases e
  | dp _ _=>cases e
theorem RelW.items {K:W.Frag} {rl:RlT} {F H:Hp} {v:V} {w:W} {xs:List PyData} (s:Same F H) (r:RelW K rl F H v w) (e:w.dat = some (.list xs)):∃ a vs,v = .ref a /\ SqL K H a vs /\ Reps K F vs xs:=by
  have own:OwnL K rl F H v xs -> ∃ a vs,v = .ref a /\ SqL K H a vs /\ Reps K F vs xs:=fun ⟨a,vs,e1,_,_,e2,e3⟩=>⟨a,vs,e1,.inl (.inl e2),e3⟩
  cases w with
  | d y =>
    cases e
    cases (show Rep K F v (.list xs) from r) with
    | lst h q=>exact ⟨_,_,rfl,.inl (.inl (s _ _ h)),q⟩
  | ml ys=>cases e; exact own r
  | pk ys=>cases e; exact own r
  | reel=>cases e
  | vv u=>cases e
  | md kvs=>cases e
  | mk kvs=>cases e
  | nt ds=>cases e
  | lk=>cases e
  | sc _=>cases e
  | fd _=>cases e
  | fw _=>cases e
  | ft _=>cases e
  | xc _ _=>cases e
  | dp _ _=>cases e
theorem RelW.itemsT {K:W.Frag} {rl:RlT} {F H:Hp} {v:V} {w:W} {xs:List PyData} (s:Same F H) (r:RelW K rl F H v w) (e:w.dat = some (.tuple xs)):∃ a vs,v = .ref a /\ SqT K H a vs /\ Reps K F vs xs:=by
  cases w with
  | d y =>
    cases e
    cases (show Rep K F v (.tuple xs) from r) with
    | tup h q=>exact ⟨_,_,rfl,sameT s h,q⟩
  | ml ys=>cases e
  | pk ys=>cases e
  | reel=>cases e
  | vv u=>cases e
  | md kvs=>cases e
  | mk kvs=>cases e
  | nt ds=>cases e; obtain ⟨a,vs,rfl,h,q⟩:=r; exact ⟨a,vs,rfl,.inl (.inl (s _ _ h)),q⟩
  | lk=>cases e
  | sc _=>cases e
  | fd _=>cases e
  | fw _=>cases e
  | ft _=>cases e
  | xc _ _=>cases e
  | dp _ _=>cases e
noncomputable def NewIn (H:Hp) (v:V):W -> Prop
  | .ml _=>∀ a,v = .ref a -> H a = none
  | .md _=>∀ a,v = .ref a -> H a = none
  | .mk _=>∀ a,v = .ref a -> H a = none
  | _=>True
theorem RelW.live {K:W.Frag} {rl:RlT} {F H:Hp} {v:V} {w:W} (r:RelW K rl F H v w) (h:w.own = true):∃ a o,v = .ref a /\ H a = some o:=by
  cases w with
  | ml xs=>obtain ⟨a,vs,e,_,_,hh,_⟩:=r; exact ⟨a,_,e,hh⟩
  | md xs=>obtain ⟨a,vs,e,_,_,hh,_⟩:=r; exact ⟨a,_,e,hh⟩
  | mk xs=>obtain ⟨a,vs,e,_,_,hh,_⟩:=r; exact ⟨a,_,e,hh⟩
  | _=>cases h
theorem NewIn.none {H:Hp} {v:V} {w:W} (n:NewIn H v w) (h:w.own = true) {a:Addr} (e:v = .ref a):H a = none:=by
  cases w with
  | ml xs=>exact n a e
  | md xs=>exact n a e
  | mk xs=>exact n a e
  | _=>cases h

abbrev En:=List (Option W)
structure VR (K:W.Frag) (rl:RlT) (F₀ H₀ F H:Hp) (σ:St) (ρ:En):Prop where
  g:Grow rl F₀ H₀ F H
  sl:∀ (i:Nat) w,ρ[i]? = some (some w) -> ∃ v,σ[i]? = some (some v) /\ RelW K rl F H v w /\ NewIn H₀ v w
  ap:∀ (i j:Nat) (x y:W) v,i ≠ j -> ρ[i]? = some (some x) -> ρ[j]? = some (some y) -> x.own = true -> y.own = true -> σ[i]? = some (some v) -> σ[j]? = some (some v) -> False
  np:∀ (i:Nat) xs,ρ[i]? ≠ some (some (W.pk xs))
  len : ρ.length = σ.length
section
variable {K:W.Frag} {rl:RlT} {F₀ H₀ F H F' H':Hp} {σ:St} {ρ:En}
theorem VR.sub (r:VR K rl F₀ H₀ F H σ ρ):Same F H:=r.g.sub
theorem VR.reel (r:VR K rl F₀ H₀ F H σ ρ):RAt rl F H:=r.g.reel
theorem VR.grow (r:VR K rl F₀ H₀ F H σ ρ) (g:Grow rl F H F' H'):VR K rl F₀ H₀ F' H' σ ρ :=
  ⟨r.g.trans g,fun i w e=>let ⟨v,e1,e2,e3⟩:=r.sl i w e; ⟨v,e1,e2.grow g,e3⟩,r.ap,r.np,r.len⟩
theorem VR.set (r:VR K rl F₀ H₀ F H σ ρ) {H1 F1:Hp} (g:Grow rl F H F1 H1) {v:V} {w:W} (rw':RelW K rl F1 H1 v w) (hn:NewIn H v w) (hp:∀ xs,w ≠ .pk xs) (i:Nat):VR K rl F₀ H₀ F1 H1 (σ.set i (some v)) (ρ.set i (some w)):=by
  have r1:=r.grow g
  refine ⟨r1.g,fun j w' e=>?_,fun j k xs ys u hjk e1 e2 w1 w2 s1 s2=>?_,fun j xs z=>?_,by simp [r.len]⟩
  · by_cases hj:i = j
    · subst hj
      have hi:i < ρ.length:=by
        rw [List.getElem?_set] at e
        by_cases hi:i < ρ.length
        · exact hi
        · simp [hi] at e
      rw [List.getElem?_set_self hi] at e
      cases e
      refine ⟨v,by rw [List.getElem?_set_self (by rw [<- r.len]; exact hi)],rw',?_⟩
      cases w with
      | ml xs=>exact fun a ea=>r.g.freeB (hn a ea)
      | d x=>trivial
      | pk xs=>trivial
      | reel=>trivial
      | vv u=>trivial
      | md xs=>exact fun a ea=>r.g.freeB (hn a ea)
      | mk xs=>exact fun a ea=>r.g.freeB (hn a ea)
      | nt ds=>trivial
      | lk=>trivial
      | sc _=>trivial
      | fd _=>trivial
      | fw _=>trivial
      | ft _=>trivial
      | xc _ _=>trivial
      | dp _ _=>trivial
    · rw [List.getElem?_set_ne hj] at e
      obtain ⟨u,h1,h2,h3⟩:=r1.sl j w' e
      exact ⟨u,by rw [List.getElem?_set_ne hj]; exact h1,h2,h3⟩
  · have key:∀ (k:Nat) (x y:W),ρ[k]? = some (some y) -> some (some w) = some (some x) -> x.own = true -> y.own = true -> σ[k]? = some (some v) -> False:=fun k x y d2 e1 o1 o2 s2=>by
      cases e1
      obtain ⟨u',h1,h2,h3⟩:=r.sl k _ d2
      rw [s2] at h1
      cases h1
      obtain ⟨a,o,ea,hh⟩:=h2.live o2
      rw [hn.none o1 ea] at hh
      cases hh
    by_cases hj:i = j
    · subst hj
      have hk:i ≠ k:=hjk
      have hi:i < ρ.length:=by
        rw [List.getElem?_set] at e1
        by_cases hi:i < ρ.length
        · exact hi
        · simp [hi] at e1
      rw [List.getElem?_set_self hi] at e1
      rw [List.getElem?_set_ne hk] at e2 s2
      rw [List.getElem?_set_self (by rw [<- r.len]; exact hi)] at s1
      cases s1
      exact key k xs ys e2 e1 w1 w2 s2
    · by_cases hk:i = k
      · subst hk
        have hi:i < ρ.length:=by
          rw [List.getElem?_set] at e2
          by_cases hi:i < ρ.length
          · exact hi
          · simp [hi] at e2
        rw [List.getElem?_set_self hi] at e2
        rw [List.getElem?_set_ne hj] at e1 s1
        rw [List.getElem?_set_self (by rw [<- r.len]; exact hi)] at s2
        cases s2
        exact key j ys xs e1 e2 w2 w1 s1
      · rw [List.getElem?_set_ne hj] at e1 s1
        rw [List.getElem?_set_ne hk] at e2 s2
        exact r.ap j k xs ys u hjk e1 e2 w1 w2 s1 s2
  · rw [List.getElem?_set] at z
    split at z
    · split at z
      · exact hp xs (Option.some.inj (Option.some.inj z))
      · cases z
    · exact r.np j xs z
theorem VR.freeze (r:VR K rl F₀ H₀ F H σ ρ) {i:Nat} {xs:List PyData} (e : ρ[i]? = some (some (.ml xs))):∃ F1,VR K rl F₀ H₀ F1 H σ (ρ.set i (some (.d (.list xs)))):=by
  obtain ⟨v,h1,h2,h3⟩:=r.sl i _ e
  obtain ⟨a,vs,rfl,f,hr,hh,q⟩:=(show OwnL K rl F H v xs from h2)
  have hi:i < ρ.length:=(List.getElem?_eq_some_iff.mp e).1
  have neF:∀ b u,F b = some u -> b ≠ a:=fun b u q z=>by subst z; rw [f] at q; cases q
  have fsm:Same F (upd F a (.lst vs)):=fun b u z=>by rw [upd_ne (neF b u z)]; exact z
  refine ⟨upd F a (.lst vs),r.g.freeze (h3 a rfl) hh f hr,fun j w e1=>?_,fun j k ys zs u hjk e1 e2 w1 w2 s1 s2=>?_,fun j ys z=>?_,by simp [r.len]⟩
  · by_cases hj:i = j
    · subst hj
      rw [List.getElem?_set_self hi] at e1
      cases e1
      exact ⟨.ref a,h1,.lst upd_same (q.mono fsm),trivial⟩
    · rw [List.getElem?_set_ne hj] at e1
      obtain ⟨u,g1,g2,g3⟩:=r.sl j w e1
      refine ⟨u,g1,?_,g3⟩
      have own:∀ ys,(∀ zs,w = .ml zs -> ys = zs) -> OwnL K rl F H u ys -> (∃ b,u = .ref b /\ b ≠ a) -> OwnL K rl (upd F a (.lst vs)) H u ys:=fun ys _ ⟨b,us,eb,f1,f2,f3,f4⟩ ⟨b',eb',ne⟩=>by
        rw [eb] at eb'
        cases eb'
        exact ⟨b,us,eb,by rw [upd_ne ne]; exact f1,f2,f3,f4.mono fsm⟩
      cases w with
      | d x=>exact Rep.mono fsm g2
      | reel=>exact g2
      | vv u=>exact g2
      | ml ys =>
        obtain ⟨b,us,eb,f1,f2,f3,f4⟩:=(show OwnL K rl F H u ys from g2)
        have ne:b ≠ a:=fun z=>r.ap i j _ _ (.ref a) hj e e1 rfl rfl h1 (by rw [g1,eb,z])
        exact ⟨b,us,eb,by rw [upd_ne ne]; exact f1,f2,f3,f4.mono fsm⟩
      | pk ys=>exact absurd e1 (r.np j ys)
      | md ys =>
        obtain ⟨b,us,eb,f1,f2,f3,f4⟩:=(show OwnD K rl F H u ys from g2)
        have ne:b ≠ a:=fun z=>r.ap i j _ _ (.ref a) hj e e1 rfl rfl h1 (by rw [g1,eb,z])
        exact ⟨b,us,eb,by rw [upd_ne ne]; exact f1,f2,f3,Paired.mapP f4 fun _ _ z=>⟨z.1,z.2.mono fsm⟩⟩
      | mk ys =>
        obtain ⟨b,us,eb,f1,f2,f3,f4⟩:=(show OwnK K rl F H u ys from g2)
        have ne:b ≠ a:=fun z=>r.ap i j _ _ (.ref a) hj e e1 rfl rfl h1 (by rw [g1,eb,z])
        exact ⟨b,us,eb,by rw [upd_ne ne]; exact f1,f2,f3,Paired.mapP f4 fun _ _ z=>⟨z.1,z.2.mono fsm⟩⟩
      | nt ds=>obtain ⟨b,us,eb,f1,f2⟩:=g2; exact ⟨b,us,eb,fsm _ _ f1,f2.mono fsm⟩
      | lk=>trivial
      | sc ns=>obtain ⟨b,eb,f1⟩:=g2; exact ⟨b,eb,sameL fsm f1⟩
      | fd kvs=>obtain ⟨b,us,eb,f1,f2⟩:=g2; exact ⟨b,us,eb,fsm _ _ f1,Paired.mapP f2 fun _ _ z=>⟨z.1,z.2.mono fsm⟩⟩
      | fw kvs=>obtain ⟨b,us,o,eb,f1,f2⟩:=g2; exact ⟨b,us,o,eb,fsm _ _ f1,Paired.mapP f2 fun _ _ z=>⟨z.1,z.2.mono fsm⟩⟩
      | ft kvs=>obtain ⟨b,us,o,eb,f1,f2⟩:=g2; exact ⟨b,us,o,eb,fsm _ _ f1,Paired.mapP f2 fun _ _ z=>⟨z.1,z.2.mono fsm⟩⟩
      | xc _ _=>obtain ⟨b,dx,us,C,eb,n,f1,f3,f2⟩:=g2; exact ⟨b,dx,us,C,eb,n,fsm _ _ f1,fsm _ _ f3,Paired.mapP f2 fun _ _ z=>⟨z.1,z.2.mono fsm⟩⟩
      | dp _ _=>obtain ⟨c,b,us,u,o,eb,f1,f3,f2,z⟩:=g2; exact ⟨c,b,us,u,o,eb,fsm _ _ f1,fsm _ _ f3,Paired.mapP f2 fun _ _ z=>⟨z.1,z.2.mono fsm⟩,z.mono fsm⟩
  · have nd:∀ (j:Nat) (y:W),(ρ.set i (some (W.d (.list xs))))[j]? = some (some y) -> y.own = true -> ρ[j]? = some (some y):=fun j y z o=>by
      by_cases hj:i = j
      · subst hj
        rw [List.getElem?_set_self hi] at z
        cases z
        cases o
      · rw [List.getElem?_set_ne hj] at z
        exact z
    exact r.ap j k ys zs u hjk (nd j ys e1 w1) (nd k zs e2 w2) w1 w2 s1 s2
  · rw [List.getElem?_set] at z
    split at z
    · first | cases z | (split at z <;> cases z)
    · exact r.np j ys z
end
end L2.VL

namespace L2.VL
open PySem PySem.Spec PyProof.Rows

abbrev TV:=En -> (W -> Prop) -> Prop
abbrev TB:=En -> (Bool -> Prop) -> Prop
abbrev TVs:=En -> (List W -> Prop) -> Prop
abbrev RelWs (K:W.Frag) (rl:RlT) (F H:Hp):List V -> List W -> Prop:=Paired (RelW K rl F H)

noncomputable def PV (X:Cx) (rl:RlT) (e:Expr) (f:TV):Prop:=∃ t,PE X e t /\ ∀ {F₀ H₀ F H:Hp} {σ:St} {ρ:En},VR X.K rl F₀ H₀ F H σ ρ -> ∀ (Qd:W -> Prop) (Q:VK),f ρ Qd ->
  (∀ v w F' H',Grow rl F H F' H' -> RelW X.K rl F' H' v w -> NewIn H v w -> Qd w -> Q v H') -> t σ H Q
noncomputable def PB (X:Cx) (rl:RlT) (e:Expr) (f:TB):Prop:=∃ t,PT X e t /\ ∀ {F₀ H₀ F H:Hp} {σ:St} {ρ:En},VR X.K rl F₀ H₀ F H σ ρ -> ∀ (Qd:Bool -> Prop) (Q:Bool -> Hp -> Prop),f ρ Qd ->
  (∀ b F' H',Grow rl F H F' H' -> Qd b -> Q b H') -> t σ H Q
noncomputable def PVs (X:Cx) (rl:RlT) (es:List Expr) (f:TVs):Prop:=∃ t,PA X es t /\ ∀ {F₀ H₀ F H:Hp} {σ:St} {ρ:En},VR X.K rl F₀ H₀ F H σ ρ -> ∀ (Qd:List W -> Prop) (Q:List V -> Hp -> Prop),f ρ Qd ->
  (∀ vs ws F' H',Grow rl F H F' H' -> RelWs X.K rl F' H' vs ws -> Qd ws -> Q vs H') -> t σ H Q

noncomputable def W.fz:W -> W
  | .ml xs=>.d (.list xs)
  | .nt ds=>.d (.tuple ds)
  | w=>w
theorem RelW.fz {K:W.Frag} {rl:RlT} {F H F1 H1:Hp} {v:V} {w:W} (g:Grow rl F H F1 H1) (r:RelW K rl F1 H1 v w) (n:NewIn H v w):∃ F2,Grow rl F H F2 H1 /\ Same F1 F2 /\ RelW K rl F2 H1 v w.fz:=by
  cases w with
  | d x=>exact ⟨F1,g,.refl _,r⟩
  | pk xs=>exact ⟨F1,g,.refl _,r⟩
  | reel=>exact ⟨F1,g,.refl _,r⟩
  | vv u=>exact ⟨F1,g,.refl _,r⟩
  | md u=>exact ⟨F1,g,.refl _,r⟩
  | mk u=>exact ⟨F1,g,.refl _,r⟩
  | lk=>exact ⟨F1,g,.refl _,r⟩
  | sc _=>exact ⟨F1,g,.refl _,r⟩
  | fd _=>exact ⟨F1,g,.refl _,r⟩
  | fw _=>exact ⟨F1,g,.refl _,r⟩
  | ft _=>exact ⟨F1,g,.refl _,r⟩
  | xc _ _=>exact ⟨F1,g,.refl _,r⟩
  | dp _ _=>exact ⟨F1,g,.refl _,r⟩
  | nt ds=>obtain ⟨a,vs,rfl,h,q⟩:=r; exact ⟨F1,g,.refl _,.tup (.inl (.inl h)) q⟩
  | ml xs =>
    obtain ⟨a,vs,rfl,f,hr,hh,q⟩:=(show OwnL K rl F1 H1 v xs from r)
    have neF:∀ b u,F1 b = some u -> b ≠ a:=fun b u q z=>by subst z; rw [f] at q; cases q
    have fsm:Same F1 (upd F1 a (.lst vs)):=fun b u z=>by rw [upd_ne (neF b u z)]; exact z
    exact ⟨upd F1 a (.lst vs),g.freeze (n a rfl) hh f hr,fsm,.lst upd_same (q.mono fsm)⟩

section
variable {X:Cx} {rl:RlT} {a b e:Expr} {es:List Expr} {fa fb fc:TV} {fs:TVs} {pos p:Pos}

noncomputable def vC (x:PyData):TV:=fun _ Q=>Q (.d x)
theorem pv_const {v:V} {x:PyData} (h:PE X e (tC v)) (r:∀ F,Rep X.K F v x):PV X rl e (vC x) :=
  ⟨_,h,fun R Qd Q q k=>k v (.d x) _ _ (Grow.refl R.sub R.reel) (r _) trivial q⟩
theorem pv_int {i:Int} {j pos}:PV X rl (.Constant (.int i) j pos) (vC (.int i)):=pv_const pe_int fun _=>.int i
theorem pv_bl {i:Bool} {j pos}:PV X rl (.Constant (.bool i) j pos) (vC (.bool i)):=pv_const pe_bl fun _=>.bl i
theorem pv_non {j pos}:PV X rl (.Constant .none j pos) (vC .none):=pv_const pe_non fun _=>.non
theorem pv_str {x:Str} {j pos}:PV X rl (.Constant (.str x) j pos) (vC (.str x)):=pv_const pe_str fun _=>.str x
noncomputable def vVar (i:Nat):TV:=fun ρ Q=>∃ w,ρ[i]? = some (some w) /\ Q w.peek
theorem vn (i:Nat) {x:Str} {pos:Pos} (hN:X.N[i]? = some x:=by rfl) (hv:Vis X.env.scope x:=by first | exact Or.inl rfl | exact Or.inr (Or.inl rfl) | exact Or.inr (Or.inr rfl)) (hd:(x == ("__debug__" : Str)) = false:=by decide)
    (hcd:(x == ("__classdict__" : Str)) = false:=by decide):PV X rl (.Name x pos) (vVar i) :=
  ⟨_,pe_var hN hv hd hcd,fun R Qd Q ⟨w,e,q⟩ k=>by
    obtain ⟨v,e1,r,_⟩:=R.sl i w e
    refine ⟨v,e1,k v w.peek _ _ (Grow.refl R.sub R.reel) r.peek ?_ q⟩
    cases w <;> trivial⟩

noncomputable def vNil:TVs:=fun _ Q=>Q []
noncomputable def vCons (f:TV) (fs:TVs):TVs:=fun ρ Q=>f ρ fun w=>fs ρ fun ws=>Q (w.fz :: ws)
theorem pvs_nil:PVs X rl [] vNil:=⟨_,pa_nil,fun R Qd Q q k=>k [] [] _ _ (Grow.refl R.sub R.reel) .nil q⟩
theorem pvs_cons (h1:PV X rl e fa) (h2:PVs X rl es fs) (hs:starEach (e :: es) X.env = (false,eval e X.env) :: starEach es X.env:=by rfl):PVs X rl (e :: es) (vCons fa fs):=by
  obtain ⟨t,p1,k1⟩:=h1
  obtain ⟨ts,p2,k2⟩:=h2
  refine ⟨_,pa_cons p1 p2 hs,fun R Qd Q q k=>?_⟩
  refine k1 R _ _ q fun v w F1 H1 g1 r1 n1 q1=>?_
  obtain ⟨F2,g2,s2,r2⟩:=RelW.fz g1 r1 n1
  refine k2 (R.grow g2) _ _ q1 fun vs ws F3 H3 g3 r3 q3=>?_
  exact k (v :: vs) (w.fz :: ws) F3 H3 (g2.trans g3) (.cons (r2.grow g3) r3) q3

noncomputable def VOp (X:Cx) (rl:RlT) (r:R2) (g:W -> W -> (W -> Prop) -> Prop):Prop:=∀ {F H:Hp} {x y:V} {wx wy:W} (Qd:W -> Prop) (Q:VK),Same F H -> RAt rl F H -> RelW X.K rl F H x wx -> RelW X.K rl F H y wy -> g wx wy Qd ->
  (∀ v w F' H',Grow rl F H F' H' -> RelW X.K rl F' H' v w -> NewIn H v w -> Qd w -> Q v H') -> r x y H Q
noncomputable def vOp (g:W -> W -> (W -> Prop) -> Prop) (fa fb:TV):TV:=fun ρ Q=>fa ρ fun x=>fb ρ fun y=>g x y Q
theorem vop_of {r:R2} {g:W -> W -> (W -> Prop) -> Prop} (vo:VOp X rl r g) (ha:PV X rl a fa) (hb:PV X rl b fb) {e:Expr} (hp:∀ ta tb,PE X a ta -> PE X b tb -> PE X e (tOp r ta tb)):PV X rl e (vOp g fa fb):=by
  obtain ⟨ta,p1,k1⟩:=ha
  obtain ⟨tb,p2,k2⟩:=hb
  refine ⟨_,hp ta tb p1 p2,fun R Qd Q q k=>?_⟩
  refine k1 R _ _ q fun v w F1 H1 g1 r1 n1 q1=>?_
  refine k2 (R.grow g1) _ _ q1 fun v2 w2 F2 H2 g2 r2 n2 q2=>?_
  exact vo Qd Q g2.sub g2.reel (r1.grow g2) r2 q2 fun v3 w3 F3 H3 g3 r3 n3 q3=>k v3 w3 F3 H3 ((g1.trans g2).trans g3) r3 (by
    cases w3 with
    | ml xs=>exact fun a ea=>g1.freeB (g2.freeB (n3 a ea))
    | md xs=>exact fun a ea=>g1.freeB (g2.freeB (n3 a ea))
    | mk xs=>exact fun a ea=>g1.freeB (g2.freeB (n3 a ea))
    | nt _=>trivial
    | lk=>trivial
    | sc _=>trivial
    | fd _=>trivial
    | fw _=>trivial
    | ft _=>trivial
    | xc _ _=>trivial
    | dp _ _=>trivial
    | d _=>trivial
    | pk _=>trivial
    | reel=>trivial
    | vv _=>trivial) q3
theorem pv_op {op:Operator} {r:R2} {g:W -> W -> (W -> Prop) -> Prop} (ho:OpR X (binaryOp op) r) (vo:VOp X rl r g) (ha:PV X rl a fa) (hb:PV X rl b fb):PV X rl (.BinOp a op b pos) (vOp g fa fb) :=
  vop_of vo ha hb fun _ _ p1 p2=>pe_op ho p1 p2
noncomputable def gI (C:Int -> Int -> Prop) (g:Int -> Int -> PyData):W -> W -> (W -> Prop) -> Prop:=fun x y Q=>∃ i j,x = .d (.int i) /\ y = .d (.int j) /\ C i j /\ Q (.d (g i j))
theorem rep_int {K:W.Frag} {F:Hp} {v:V} {i:Int} (h:Rep K F v (.int i)):v = .int i:=by cases h; rfl
theorem vop_int {C:Int -> Int -> Prop} {g:Int -> Int -> V} {gd:Int -> Int -> PyData} (h:∀ K F i j,Rep K F (g i j) (gd i j)):VOp X rl (rI C g) (gI C gd):=fun {F H x y wx wy} Qd Q s ra r1 r2 q k=>by
  obtain ⟨i,j,rfl,rfl,c,q⟩:=q
  exact ⟨i,j,rep_int r1,rep_int r2,c,k _ (.d _) _ _ (Grow.refl s ra) (h _ _ i j) trivial q⟩
noncomputable def gI0 (g:Int -> Int -> PyData):W -> W -> (W -> Prop) -> Prop:=fun x y Q=>∃ i j,x = .d (.int i) /\ y = .d (.int j) /\ Q (.d (g i j))
theorem vop_int0 {g:Int -> Int -> V} {gd:Int -> Int -> PyData} (h:∀ K F i j,Rep K F (g i j) (gd i j)):VOp X rl (rI0 g) (gI0 gd):=fun {F H x y wx wy} Qd Q s ra r1 r2 q k=>by
  obtain ⟨i,j,rfl,rfl,q⟩:=q
  exact ⟨i,j,rep_int r1,rep_int r2,k _ (.d _) _ _ (Grow.refl s ra) (h _ _ i j) trivial q⟩
theorem v_add (ha:PV X rl a fa) (hb:PV X rl b fb):PV X rl (.BinOp a .Add b pos) (vOp (gI0 fun i j=>.int (i + j)) fa fb):=pv_op op_add (vop_int0 fun _ _ _ _=>.int _) ha hb
theorem v_sub (ha:PV X rl a fa) (hb:PV X rl b fb):PV X rl (.BinOp a .Sub b pos) (vOp (gI0 fun i j=>.int (i - j)) fa fb):=pv_op op_sub (vop_int0 fun _ _ _ _=>.int _) ha hb
noncomputable def Big (i:Int):Prop:=i.natAbs < 2 ^ 60000
theorem Big.bits {i:Int} (h:Big i):Builtin.Int.intBits i <= 60000:=intBits_le_iff.mpr h
noncomputable def CMulB (i j:Int):Prop:=i.natAbs < 2 ^ 64 \/ j.natAbs < 2 ^ 64 \/ (Big i /\ Big j)
theorem CMulB.lt {i j:Int} (h:i.natAbs < 2 ^ 64):CMulB i j:=.inl h
theorem CMulB.rt {i j:Int} (h:j.natAbs < 2 ^ 64):CMulB i j:=.inr (.inl h)
theorem CMulB.bb {i j:Int} (h:Big i) (h':Big j):CMulB i j:=.inr (.inr ⟨h,h'⟩)
theorem CMulB.ok {i j:Int} (h:CMulB i j):IntMulOk i j:=by
  rcases h with h | h | h
  · exact .of_left (intBits_le_iff.mpr h)
  · exact .of_right (intBits_le_iff.mpr h)
  · exact IntMulOk.of_le h.1.bits h.2.bits (by decide)
theorem op_mulB:OpR X (binaryOp .Mult) (rI CMulB fun i j=>.int (i * j)):=opI fun _ _ _ _ _ _ _ hc q=>mul_int q hc.ok
theorem v_mul (ha:PV X rl a fa) (hb:PV X rl b fb):PV X rl (.BinOp a .Mult b pos) (vOp (gI CMulB fun i j=>.int (i * j)) fa fb):=pv_op op_mulB (vop_int fun _ _ _ _=>.int _) ha hb
noncomputable def CDivB (_ j:Int):Prop:=j ≠ 0 /\ j.natAbs < 2 ^ 9000
theorem op_fdivB:OpR X (binaryOp .FloorDiv) (rI CDivB fun i j=>.int (i.fdiv j)):=opI fun _ j _ _ _ _ _ hc q=>floordiv_int hc.1 q (.inl (PyProof.noPylong_of_log2 ((Nat.log2_lt (by have:=hc.1; omega)).mpr hc.2)))
theorem v_div (ha:PV X rl a fa) (hb:PV X rl b fb):PV X rl (.BinOp a .FloorDiv b pos) (vOp (gI CDivB fun i j=>.int (i.fdiv j)) fa fb):=pv_op op_fdivB (vop_int fun _ _ _ _=>.int _) ha hb
theorem v_mod (ha:PV X rl a fa) (hb:PV X rl b fb):PV X rl (.BinOp a .Mod b pos) (vOp (gI (fun _ j=>j ≠ 0) fun i j=>.int (i.fmod j)) fa fb):=pv_op op_modN (vop_int fun _ _ _ _=>.int _) ha hb
theorem v_pow (ha:PV X rl a fa) (hb:PV X rl b fb):PV X rl (.BinOp a .Pow b pos) (vOp (gI CPow fun i j=>.int (i ^ j.toNat)) fa fb):=pv_op op_pow (vop_int fun _ _ _ _=>.int _) ha hb
noncomputable def vNeg (fa:TV):TV:=fun ρ Q=>fa ρ fun x=>∃ i,x = .d (.int i) /\ Q (.d (.int (-i)))
theorem v_neg (ha:PV X rl a fa):PV X rl (.UnaryOp .USub a pos) (vNeg fa):=by
  obtain ⟨ta,p1,k1⟩:=ha
  refine ⟨_,pe_un un_neg p1,fun R Qd Q q k=>k1 R _ _ q fun v w F1 H1 g1 r1 n1 ⟨i,ew,q1⟩=>?_⟩
  subst ew
  exact ⟨i,rep_int r1,k _ (.d _) F1 H1 g1 (.int _) trivial q1⟩

theorem v_cmp {op:CmpOp} {r:R2} {g:W -> W -> (W -> Prop) -> Prop} (ho:OpR X (compareOp op) r) (vo:VOp X rl r g) (hm:behindInMarks op b = false) (ha:PV X rl a fa) (hb:PV X rl b fb):PV X rl (.Compare a [op] [b] pos) (vOp g fa fb) :=
  vop_of vo ha hb fun _ _ p1 p2=>pe_cmpR ho p1 p2 hm
noncomputable def vTest (f:TV):TB:=fun ρ Q=>f ρ fun w=>∃ k,w = .d (.bool k) /\ Q k
theorem rep_bl {K:W.Frag} {F:Hp} {v:V} {i:Bool} (h:Rep K F v (.bool i)):v = .bl i:=by cases h; rfl
theorem vb_cmp {op:CmpOp} {r:R2} {g:W -> W -> (W -> Prop) -> Prop} (ho:OpR X (compareOp op) r) (vo:VOp X rl r g) (hm:behindInMarks op b = false) (ha:PV X rl a fa) (hb:PV X rl b fb):PB X rl (.Compare a [op] [b] pos) (vTest (vOp g fa fb)):=by
  obtain ⟨ta,p1,k1⟩:=ha
  obtain ⟨tb,p2,k2⟩:=hb
  refine ⟨_,pt_cmpR ho p1 p2 hm,fun R Qd Q q k=>?_⟩
  refine k1 R _ _ q fun v w F1 H1 g1 r1 n1 q1=>?_
  refine k2 (R.grow g1) _ _ q1 fun v2 w2 F2 H2 g2 r2 n2 q2=>?_
  refine vo _ _ g2.sub g2.reel (r1.grow g2) r2 q2 fun v3 w3 F3 H3 g3 r3 n3 ⟨kb,ew,q3⟩=>?_
  subst ew
  exact ⟨kb,rep_bl r3,k kb F3 H3 ((g1.trans g2).trans g3) q3⟩
theorem vb_val (ha:PV X rl e fa) (he:∀ whole,isTrue e X.env whole = (do let v <- whole; standAt e.pos; holding [v] (truthy v)):=by intro _; rfl):PB X rl e (vTest fa):=by
  obtain ⟨ta,p1,k1⟩:=ha
  refine ⟨_,pt_val p1 he,fun R Qd Q q k=>k1 R _ _ q fun v w F1 H1 g1 r1 n1 ⟨kb,ew,q1⟩=>?_⟩
  subst ew
  exact ⟨kb,rep_bl r1,k kb F1 H1 g1 q1⟩
abbrev gCmp (p:Int -> Int -> Bool):=gI0 fun i j=>.bool (p i j)
theorem vo_lt:VOp X rl (rI0 fun i j=>.bl (decide (i < j))) (gCmp fun i j=>decide (i < j)):=vop_int0 fun _ _ _ _=>.bl _
theorem vo_gt:VOp X rl (rI0 fun i j=>.bl (decide (j < i))) (gCmp fun i j=>decide (j < i)):=vop_int0 fun _ _ _ _=>.bl _
theorem vo_ge:VOp X rl (rI0 fun i j=>.bl (decide (j <= i))) (gCmp fun i j=>decide (j <= i)):=vop_int0 fun _ _ _ _=>.bl _
noncomputable def rEqD (K:W.Frag) (neg:Bool):R2:=fun x y H Q=>∃ dx dy,Rep K H x dx /\ Rep K H y dy /\ SeqAt.shaped dx = true /\ SeqAt.shaped dy = true /\ Q (.bl (if neg then !PyData.eqv dx dy else PyData.eqv dx dy)) H
theorem op_eqD (hu:X.A.units + 64 < cLine):OpR X (compareOp .Eq) (rEqD X.K false):=by
  intro pins s σ H x y v u Q I rx ry ⟨dx,dy,h1,h2,s1,s2,q⟩
  obtain ⟨as,a1⟩:=Rep.reads I (.refl H) h1 v rx
  obtain ⟨bs,a2⟩:=Rep.reads I (.refl H) h2 u ry
  exact SeqAt.compareEq_shaped a1 a2 s1 s2 hu ⟨.bl _,H,I,rfl,q⟩
theorem op_neD (hu:X.A.units + 64 < cLine):OpR X (compareOp .NotEq) (rEqD X.K true):=by
  intro pins s σ H x y v u Q I rx ry ⟨dx,dy,h1,h2,s1,s2,q⟩
  obtain ⟨as,a1⟩:=Rep.reads I (.refl H) h1 v rx
  obtain ⟨bs,a2⟩:=Rep.reads I (.refl H) h2 u ry
  exact SeqAt.compareNe_shaped a1 a2 s1 s2 hu ⟨.bl _,H,I,rfl,q⟩
noncomputable def gEqD (neg:Bool):W -> W -> (W -> Prop) -> Prop:=fun x y Q=>∃ dx dy,x.dat = some dx /\ y.dat = some dy /\ SeqAt.shaped dx = true /\ SeqAt.shaped dy = true /\ Q (.d (.bool (if neg then !PyData.eqv dx dy else PyData.eqv dx dy)))
theorem vo_eqD {neg:Bool}:VOp X rl (rEqD X.K neg) (gEqD neg):=fun {F H x y wx wy} Qd Q s ra r1 r2 q k=>by
  obtain ⟨dx,dy,e1,e2,s1,s2,q⟩:=q
  exact ⟨dx,dy,r1.dat s e1,r2.dat s e2,s1,s2,k _ (.d _) _ _ (Grow.refl s ra) (.bl _) trivial q⟩
noncomputable def vAnd (f g:TB):TB:=fun ρ Q=>f ρ fun b=>if b = true then g ρ Q else Q false
noncomputable def vOr (f g:TB):TB:=fun ρ Q=>f ρ fun b=>if b = true then Q true else g ρ Q
noncomputable def vNot (f:TB):TB:=fun ρ Q=>f ρ fun b=>Q (!b)
noncomputable def PBW (X:Cx) (rl:RlT) (e:Expr) (f:TB):Prop:=∃ t,PW X e t /\ ∀ {F₀ H₀ F H:Hp} {σ:St} {ρ:En},VR X.K rl F₀ H₀ F H σ ρ -> ∀ (Qd:Bool -> Prop) (Q:Bool -> Hp -> Prop),f ρ Qd ->
  (∀ b F' H',Grow rl F H F' H' -> Qd b -> Q b H') -> t σ H Q
variable {f g:TB} {rest:List Expr}
theorem PBW.pb (h:PBW X rl e f):PB X rl e f:=let ⟨t,p,k⟩:=h; ⟨t,p.pt,k⟩
theorem vb_and1 (ha:PB X rl a f):PBW X rl (.BoolOp .And [a] pos) f:=let ⟨t,p,k⟩:=ha; ⟨t,pw_and1 p,k⟩
theorem vb_or1 (ha:PB X rl a f):PBW X rl (.BoolOp .Or [a] pos) f:=let ⟨t,p,k⟩:=ha; ⟨t,pw_or1 p,k⟩
theorem vb_and (ha:PB X rl a f) (hb:PBW X rl (.BoolOp .And (b :: rest) pos) g):PBW X rl (.BoolOp .And (a :: b :: rest) pos) (vAnd f g):=by
  obtain ⟨t,p,k⟩:=ha
  obtain ⟨t2,p2,k2⟩:=hb
  refine ⟨_,pw_and p p2,fun R Qd Q q h=>k R _ _ q fun c F1 H1 g1 q1=>?_⟩
  cases c with
  | true=>exact k2 (R.grow g1) _ _ q1 fun c F2 H2 g2 q2=>h c F2 H2 (g1.trans g2) q2
  | false=>exact h false F1 H1 g1 q1
theorem vb_or (ha:PB X rl a f) (hb:PBW X rl (.BoolOp .Or (b :: rest) pos) g):PBW X rl (.BoolOp .Or (a :: b :: rest) pos) (vOr f g):=by
  obtain ⟨t,p,k⟩:=ha
  obtain ⟨t2,p2,k2⟩:=hb
  refine ⟨_,pw_or p p2,fun R Qd Q q h=>k R _ _ q fun c F1 H1 g1 q1=>?_⟩
  cases c with
  | true=>exact h true F1 H1 g1 q1
  | false=>exact k2 (R.grow g1) _ _ q1 fun c F2 H2 g2 q2=>h c F2 H2 (g1.trans g2) q2
theorem vb_not (ha:PB X rl a f):PB X rl (.UnaryOp .Not a pos) (vNot f):=by
  obtain ⟨t,p,k⟩:=ha
  exact ⟨_,pt_not p,fun R Qd Q q h=>k R _ _ q fun c F1 H1 g1 q1=>h (!c) F1 H1 g1 q1⟩
theorem NewIn.back {rl:RlT} {F H F' H':Hp} {v:V} {w:W} (g:Grow rl F H F' H') (n:NewIn H' v w):NewIn H v w:=by
  cases w with
  | ml xs=>exact fun a ea=>g.freeB (n a ea)
  | md xs=>exact fun a ea=>g.freeB (n a ea)
  | mk xs=>exact fun a ea=>g.freeB (n a ea)
  | nt _=>trivial
  | lk=>trivial
  | sc _=>trivial
  | fd _=>trivial
  | fw _=>trivial
  | ft _=>trivial
  | xc _ _=>trivial
  | dp _ _=>trivial
  | d _=>trivial
  | pk _=>trivial
  | reel=>trivial
  | vv _=>trivial
noncomputable def vIf (t:TB) (fa fb:TV):TV:=fun ρ Q=>t ρ fun c=>if c = true then fa ρ Q else fb ρ Q
theorem v_ifExp {c:Expr} (hc:PB X rl c f) (ha:PV X rl a fa) (hb:PV X rl b fb):PV X rl (.IfExp c a b pos) (vIf f fa fb):=by
  obtain ⟨t,p,k⟩:=hc
  obtain ⟨t1,p1,k1⟩:=ha
  obtain ⟨t2,p2,k2⟩:=hb
  refine ⟨_,pe_ifExp p p1 p2,fun R Qd Q q h=>k R _ _ q fun c F1 H1 g1 q1=>?_⟩
  cases c with
  | true=>exact k1 (R.grow g1) _ _ q1 fun v w F2 H2 g2 r2 n2 q2=>h v w F2 H2 (g1.trans g2) r2 (n2.back g1) q2
  | false=>exact k2 (R.grow g1) _ _ q1 fun v w F2 H2 g2 r2 n2 q2=>h v w F2 H2 (g1.trans g2) r2 (n2.back g1) q2

noncomputable def dats:List W -> Option (List PyData)
  | []=>some []
  | .d x :: r=>(dats r).map (x :: ·)
  | _ :: _=>none
theorem dats_rel {K:W.Frag} {F H:Hp}:∀ {vs:List V} {ws:List W} {ds:List PyData},RelWs K rl F H vs ws -> dats ws = some ds -> Reps K F vs ds
  | _,_,_,.nil,e=>by cases e; exact .nil
  | _,.d x :: ws,ds,.cons r rs,e=>by
    have e:(dats ws).map (x :: ·) = some ds:=e
    cases q:dats ws with
    | none=>rw [q] at e; cases e
    | some es=>rw [q] at e; cases e; exact .cons r (dats_rel rs q)
  | _,.ml x :: ws,ds,.cons r rs,e=>by cases (show none = some ds from e)
  | _,.pk x :: ws,ds,.cons r rs,e=>by cases (show none = some ds from e)
  | _,.reel :: ws,ds,.cons r rs,e=>by cases (show none = some ds from e)
  | _,.vv u :: ws,ds,.cons r rs,e=>by cases (show none = some ds from e)
  | _,.md u :: ws,ds,.cons r rs,e=>by cases (show none = some ds from e)
  | _,.nt u :: ws,ds,.cons r rs,e=>by cases (show none = some ds from e)
  | _,.lk :: ws,ds,.cons r rs,e=>by cases (show none = some ds from e)
  | _,.sc _ :: ws,ds,.cons r rs,e=>by cases (show none = some ds from e)
  | _,.fd _ :: ws,ds,.cons r rs,e=>by cases (show none = some ds from e)
  | _,.xc _ _ :: ws,ds,.cons r rs,e=>by cases (show none = some ds from e)
  | _,.mk _ :: ws,ds,.cons r rs,e=>by cases (show none = some ds from e)
  | _,.fw _ :: ws,ds,.cons r rs,e=>by cases (show none = some ds from e)
  | _,.ft _ :: ws,ds,.cons r rs,e=>by cases (show none = some ds from e)
  | _,.dp _ _ :: ws,ds,.cons r rs,e=>by cases (show none = some ds from e)
noncomputable def vTup (fs:TVs):TV:=fun ρ Q=>fs ρ fun ws=>∃ ds,dats ws = some ds /\ ds.length <= sizeLine /\ Q (.d (.tuple ds))
noncomputable def vLst (fs:TVs):TV:=fun ρ Q=>fs ρ fun ws=>∃ ds,dats ws = some ds /\ ds.length <= sizeLine /\ Q (.ml ds)
theorem v_tup {x1} (h:PVs X rl es fs):PV X rl (.Tuple es x1 pos) (vTup fs):=by
  obtain ⟨t,p,k⟩:=h
  refine ⟨_,pe_tup p,fun R Qd Q q h=>k R _ _ q fun vs ws F1 H1 g1 r1 ⟨ds,e1,z,q1⟩=>?_⟩
  have rs:=dats_rel r1 e1
  refine ⟨by rw [rs.length]; exact z,fun p hp=>?_⟩
  have g2:=g1.trans (Grow.data (a:=p) (o:=.tup vs) g1.sub g1.reel hp)
  exact h _ (.d (.tuple ds)) _ _ g2 (.tup (.inl (.inl upd_same)) (rs.mono (Grow.data (o:=.tup vs) g1.sub g1.reel hp).fs)) trivial q1
theorem own_laid {K:W.Frag} {F H:Hp} {p:Addr} {vs:List V} {ds:List PyData} (s:Same F H) (ra:RAt rl F H) (hp:H p = none) (rs:Reps K F vs ds):OwnL K rl F (upd H p (.lst vs)) (.ref p) ds:=by
  refine ⟨p,vs,rfl,s.free hp,fun e=>?_,upd_same,rs⟩
  obtain ⟨o,q⟩:=ra.live e
  rw [hp] at q
  cases q
theorem v_lst (h:PVs X rl es fs):PV X rl (.List es pos) (vLst fs):=by
  obtain ⟨t,p,k⟩:=h
  refine ⟨_,pe_lst p,fun R Qd Q q h=>k R _ _ q fun vs ws F1 H1 g1 r1 ⟨ds,e1,z,q1⟩=>?_⟩
  have rs:=dats_rel r1 e1
  refine ⟨by rw [rs.length]; exact z,fun p hp=>?_⟩
  exact h _ (.ml ds) _ _ (g1.trans (Grow.laid (a:=p) (o:=.lst vs) g1.sub g1.reel hp)) (own_laid g1.sub g1.reel hp rs) (fun a ea=>by cases ea; exact g1.freeB hp) q1

noncomputable def itemAt:PyData -> Int -> Option PyData
  | .list xs,i=>atI xs i
  | .tuple xs,i=>atI xs i
  | _,_=>none
theorem Reps.atI {K:W.Frag} {F:Hp} {vs:List V} {ds:List PyData} {i:Int} {d:PyData} (r:Reps K F vs ds) (e:L2.atI ds i = some d):∃ v,L2.atI vs i = some v /\ Rep K F v d:=by
  unfold L2.atI at e ⊢
  rw [r.length]
  cases q:ixN ds.length i with
  | none=>rw [q] at e; cases e
  | some j =>
    rw [q] at e
    exact r.get e
noncomputable def gIx:W -> W -> (W -> Prop) -> Prop:=fun x y Q=>∃ dx i z,x.dat = some dx /\ y = .d (.int i) /\ itemAt dx i = some z /\ Q (.d z)
theorem vo_ix:VOp X rl (rIx X.K) gIx:=fun {F H x y wx wy} Qd Q s ra r1 r2 q k=>by
  obtain ⟨dx,i,z,e1,rfl,e3,q⟩:=q
  have ey:=rep_int r2
  subst ey
  cases dx with
  | list xs =>
    obtain ⟨a,vs,rfl,sq,rs⟩:=r1.items s e1
    obtain ⟨v,e4,rz⟩:=Reps.atI rs e3
    exact .inl ⟨a,vs,i,v,rfl,rfl,sq,e4,k _ (.d _) _ _ (Grow.refl s ra) rz trivial q⟩
  | tuple xs =>
    obtain ⟨a,vs,rfl,sq,rs⟩:=r1.itemsT s e1
    obtain ⟨v,e4,rz⟩:=Reps.atI rs e3
    exact .inr (.inl ⟨a,vs,i,v,rfl,rfl,sq,e4,k _ (.d _) _ _ (Grow.refl s ra) rz trivial q⟩)
  | none=>cases e3
  | bool b=>cases e3
  | int b=>cases e3
  | str b=>cases e3
  | dict b=>cases e3
theorem v_ix (ha:PV X rl a fa) (hb:PV X rl b fb) (hs:PlainIx b:=by exact fun _ _=>rfl):PV X rl (.Subscript a b pos) (vOp gIx fa fb):=vop_of vo_ix ha hb fun _ _ p1 p2=>pe_ix ix_seq p1 p2 hs

noncomputable def VCall (X:Cx) (rl:RlT) (r:List V -> Hp -> VK -> Prop) (g:List W -> (W -> Prop) -> Prop):Prop:=∀ {F H:Hp} {vs:List V} {ws:List W} (Qd:W -> Prop) (Q:VK),Same F H -> RAt rl F H -> RelWs X.K rl F H vs ws -> g ws Qd ->
  (∀ v w F' H',Grow rl F H F' H' -> RelW X.K rl F' H' v w -> NewIn H v w -> Qd w -> Q v H') -> r vs H Q
noncomputable def vCall (g:List W -> (W -> Prop) -> Prop) (fs:TVs):TV:=fun ρ Q=>fs ρ fun ws=>g ws Q
theorem vcall_of {r:List V -> Hp -> VK -> Prop} {g:List W -> (W -> Prop) -> Prop} {t:TA -> TE} (vc:VCall X rl r g) (ha:PVs X rl es fs) {e:Expr} (hp:∀ ta,PA X es ta -> PE X e (tCB r ta)):PV X rl e (vCall g fs):=by
  obtain ⟨ta,p1,k1⟩:=ha
  refine ⟨_,hp ta p1,fun R Qd Q q k=>k1 R _ _ q fun vs ws F1 H1 g1 r1 q1=>?_⟩
  exact vc Qd Q g1.sub g1.reel r1 q1 fun v w F2 H2 g2 r2 n2 q2=>k v w F2 H2 (g1.trans g2) r2 (n2.back g1) q2
theorem v_callB {id:String} {x:Str} {r:List V -> Hp -> VK -> Prop} {g:List W -> (W -> Prop) -> Prop} (hc:CallR X (.builtin id) r) (vc:VCall X rl r g) (hm:X.mg x = none) (hv:bootBuiltins x = some (.builtin id)) (ha:PVs X rl (e :: es) fs) (hg:Gl X x:=by rfl) (hn:x ≠ "__name__" := by decide) (hdb:(x == ("__debug__" : Str)) = false:=by decide)
    (he:starEach (e :: es) X.env = (false,eval e X.env) :: starEach es X.env:=by rfl) (hpl:(backTo pos (starEach es X.env)).any (·.1) = false:=by rfl):PV X rl (.Call (.Name x p) (e :: es) [] pos) (vCall g fs) :=
  vcall_of (t:=fun _=>tC .non) vc ha fun _ p1=>pe_callB hc hg hm hv p1 hn hdb he hpl
theorem v_callTy {T:String} {x:Str} {r:List V -> Hp -> VK -> Prop} {g:List W -> (W -> Prop) -> Prop} (hc:CallR X (.type T) r) (vc:VCall X rl r g) (hm:X.mg x = none) (hv:bootBuiltins x = some (.type T)) (ha:PVs X rl (e :: es) fs) (hg:Gl X x:=by rfl) (hn:x ≠ "__name__" := by decide) (hdb:(x == ("__debug__" : Str)) = false:=by decide)
    (he:starEach (e :: es) X.env = (false,eval e X.env) :: starEach es X.env:=by rfl) (hpl:(backTo pos (starEach es X.env)).any (·.1) = false:=by rfl):PV X rl (.Call (.Name x p) (e :: es) [] pos) (vCall g fs) :=
  vcall_of (t:=fun _=>tC .non) vc ha fun _ p1=>pe_callTy hc hg hm hv p1 hn hdb he hpl
theorem rel1 {K:W.Frag} {F H:Hp} {vs:List V} {w:W} (r:RelWs K rl F H vs [w]):∃ v,vs = [v] /\ RelW K rl F H v w:=by
  cases r with
  | cons r1 r2=>cases r2; exact ⟨_,rfl,r1⟩
theorem rel2 {K:W.Frag} {F H:Hp} {vs:List V} {w w':W} (r:RelWs K rl F H vs [w,w']):∃ v u,vs = [v,u] /\ RelW K rl F H v w /\ RelW K rl F H u w':=by
  cases r with
  | cons r1 r2 =>
    cases r2 with
    | cons r3 r4=>cases r4; exact ⟨_,_,rfl,r1,r3⟩
noncomputable def gAbs:List W -> (W -> Prop) -> Prop:=fun ws Q=>∃ i,ws = [.d (.int i)] /\ Q (.d (.int (if i < 0 then -i else i)))
theorem vc_abs:VCall X rl (fun xs H Q=>∃ i,xs = [.int i] /\ Q (.int (if i < 0 then -i else i)) H) gAbs:=fun {F H vs ws} Qd Q s ra r ⟨i,ew,q⟩ k=>by
  subst ew
  obtain ⟨v,rfl,r1⟩:=rel1 r
  have e:=rep_int r1
  subst e
  exact ⟨i,rfl,k _ (.d _) _ _ (Grow.refl s ra) (.int _) trivial q⟩
noncomputable def lenD:PyData -> Option Nat
  | .list xs=>some xs.length
  | .tuple xs=>some xs.length
  | _=>none
noncomputable def gLen:List W -> (W -> Prop) -> Prop:=fun ws Q=>∃ w d n,ws = [w] /\ w.dat = some d /\ lenD d = some n /\ Q (.d (.int n))
theorem vc_len:VCall X rl (fun xs H Q=>∃ p ys,xs = [.ref p] /\ (SqL X.K H p ys \/ SqT X.K H p ys) /\ Q (.int ys.length) H) gLen:=fun {F H vs ws} Qd Q s ra r ⟨w,d,n,ew,e1,e2,q⟩ k=>by
  subst ew
  obtain ⟨v,rfl,r1⟩:=rel1 r
  cases d with
  | list xs =>
    obtain ⟨a,vs,rfl,sq,rs⟩:=r1.items s e1
    cases e2
    exact ⟨a,vs,rfl,.inl sq,k _ (.d _) _ _ (Grow.refl s ra) (by rw [rs.length]; exact .int _) trivial q⟩
  | tuple xs =>
    obtain ⟨a,vs,rfl,sq,rs⟩:=r1.itemsT s e1
    cases e2
    exact ⟨a,vs,rfl,.inr sq,k _ (.d _) _ _ (Grow.refl s ra) (by rw [rs.length]; exact .int _) trivial q⟩
  | none=>cases e2
  | bool b=>cases e2
  | int b=>cases e2
  | str b=>cases e2
  | dict b=>cases e2
end
end L2.VL

namespace L2.VL
open PySem PySem.Spec PyProof.Rows

structure VEnds where
  nx:En -> Prop
  rt:W -> Prop
  bk:En -> Prop:=fun _=>False
  ct:En -> Prop:=fun _=>False
structure EndsOk (K:W.Frag) (rl:RlT) (F₀ H₀ Fs:Hp) (Dv:VEnds) (D:Ends):Prop where
  nx:∀ F H σ ρ,Same Fs F -> VR K rl F₀ H₀ F H σ ρ -> Dv.nx ρ -> D.nx σ H
  rt:∀ v w F H,Grow rl F₀ H₀ F H -> RelW K rl F H v w -> NewIn H₀ v w -> Dv.rt w -> D.rt v H
  bk:∀ F H σ ρ,Same Fs F -> VR K rl F₀ H₀ F H σ ρ -> Dv.bk ρ -> D.bk σ H
  ct:∀ F H σ ρ,Same Fs F -> VR K rl F₀ H₀ F H σ ρ -> Dv.ct ρ -> D.ct σ H
theorem EndsOk.on {K:W.Frag} {rl:RlT} {F₀ H₀ Fs F:Hp} {Dv:VEnds} {D:Ends} (ok:EndsOk K rl F₀ H₀ Fs Dv D) (s:Same Fs F):EndsOk K rl F₀ H₀ F Dv D :=
  ⟨fun F1 H σ ρ s1=>ok.nx F1 H σ ρ (s.trans s1),ok.rt,fun F1 H σ ρ s1=>ok.bk F1 H σ ρ (s.trans s1),fun F1 H σ ρ s1=>ok.ct F1 H σ ρ (s.trans s1)⟩
abbrev TSv:=VEnds -> En -> Prop
noncomputable def PSV (X:Cx) (rl:RlT) (st:Stmt) (t:TSv):Prop:=∃ T,PS X st T /\ ∀ {F₀ H₀ F H:Hp} {σ:St} {ρ:En},VR X.K rl F₀ H₀ F H σ ρ -> ∀ Dv D,EndsOk X.K rl F₀ H₀ F Dv D -> t Dv ρ -> T D σ H
noncomputable def PSsV (X:Cx) (rl:RlT) (st:List Stmt) (t:TSv):Prop:=∃ T,PSs X st T /\ ∀ {F₀ H₀ F H:Hp} {σ:St} {ρ:En},VR X.K rl F₀ H₀ F H σ ρ -> ∀ Dv D,EndsOk X.K rl F₀ H₀ F Dv D -> t Dv ρ -> T D σ H

section
variable {X:Cx} {rl:RlT} {st:Stmt} {rest body:List Stmt} {t u:TSv} {a b c e:Expr} {es:List Expr} {fa fb:TV} {fs:TVs} {f:TB} {pos p:Pos}
noncomputable def vNext:TSv:=fun D ρ=>D.nx ρ
noncomputable def vSeq (t u:TSv):TSv:=fun D ρ=>t { D with nx:=u D } ρ
theorem vs_nil:PSsV X rl [] vNext:=⟨_,pss_nil,fun R Dv D ok q=>ok.nx _ _ _ _ (.refl _) R q⟩
theorem vs_one (h:PSV X rl st t):PSsV X rl [st] t:=let ⟨T,p,k⟩:=h; ⟨T,pss_one p,k⟩
theorem vs_cons (h:PSV X rl st t) (h2:PSsV X rl rest u):PSsV X rl (st :: rest) (vSeq t u):=by
  obtain ⟨T,p,k⟩:=h
  obtain ⟨T2,p2,k2⟩:=h2
  exact ⟨_,pss_cons p p2,fun R Dv D ok q=>k R { Dv with nx:=u Dv } { D with nx:=T2 D } ⟨fun F H σ ρ s' R' q'=>k2 R' Dv D (ok.on s') q',ok.rt,ok.bk,ok.ct⟩ q⟩
noncomputable def vRet (fa:TV):TSv:=fun D ρ=>fa ρ D.rt
theorem vs_ret (h:PV X rl e fa):PSV X rl (.Return (some e) pos) (vRet fa):=by
  obtain ⟨t,p,k⟩:=h
  exact ⟨_,ps_ret p,fun R Dv D ok q=>k R _ _ q fun v w F1 H1 g1 r1 n1 q1=>ok.rt v w F1 H1 (R.g.trans g1) r1 (n1.back R.g) q1⟩
noncomputable def vIfS (f:TB) (t u:TSv):TSv:=fun D ρ=>f ρ fun b=>if b = true then t D ρ else u D ρ
theorem vs_if {A B:List Stmt} (hc:PB X rl c f) (ha:PSsV X rl A t) (hb:PSsV X rl B u):PSV X rl (.If c A B pos) (vIfS f t u):=by
  obtain ⟨t0,p0,k0⟩:=hc
  obtain ⟨t1,p1,k1⟩:=ha
  obtain ⟨t2,p2,k2⟩:=hb
  refine ⟨_,ps_if p0 p1 p2,fun R Dv D ok q=>k0 R _ _ q fun b F1 H1 g1 q1=>?_⟩
  cases b with
  | true=>exact k1 (R.grow g1) Dv D (ok.on g1.fs) q1
  | false=>exact k2 (R.grow g1) Dv D (ok.on g1.fs) q1
theorem vs_never:PSV X rl st (fun _ _=>False):=⟨_,ps_never,fun _ _ _ _ q=>q.elim⟩
noncomputable def W.isPk:W -> Bool
  | .pk _=>true
  | _=>false
noncomputable def vSet (i:Nat) (fa:TV):TSv:=fun D ρ=>fa ρ fun w=>w.isPk = false /\ D.nx (ρ.set i (some w))
theorem vs_set (i:Nat) {x:Str} {pos':Pos} (hN:X.N.Nodup) (he:PV X rl e fa) (hi:X.N[i]? = some x:=by rfl) (hx:Loc X.env.scope x:=by first | exact Or.inl rfl | exact Or.inr rfl)
    (hs:swapsWith e (some (.Name x pos')) pos.line X.env = pure false:=by rfl) (hf:X.fn x = true \/ X.env.scope.names.lookup x = some .local:=by first | exact .inl rfl | exact .inr rfl) :
    PSV X rl (.Assign [.Name x pos'] e pos) (vSet i fa):=by
  obtain ⟨t,p,k⟩:=he
  refine ⟨_,ps_set hN hi hx p hs hf,fun R Dv D ok q=>k R _ _ q fun v w F1 H1 g1 r1 n1 ⟨hp,q1⟩=>?_⟩
  exact ok.nx _ _ _ _ g1.fs (R.set g1 r1 n1 (fun xs z=>by subst z; cases hp) i) q1

noncomputable def NoMl (ρ:En):Prop:=∀ (i:Nat) (w:W),ρ[i]? = some (some w) -> w.own = false
theorem NoMl.set {ρ:En} (h:NoMl ρ) (i:Nat) (x:PyData):NoMl (ρ.set i (some (.d x))):=fun j w z=>by
  rw [List.getElem?_set] at z
  split at z
  · split at z
    · cases z; rfl
    · cases z
  · exact h j w z
abbrev TGv:=PyData -> En -> (En -> Prop) -> Prop
abbrev TGvs:=List PyData -> En -> (En -> Prop) -> Prop
noncomputable def PGV (X:Cx) (rl:RlT) (tg:Expr) (g:TGv):Prop:=∃ G,PG X tg G /\ ∀ {F₀ H₀ F H:Hp} {σ:St} {ρ:En},VR X.K rl F₀ H₀ F H σ ρ -> ∀ (v:V) (x:PyData) (Qd:En -> Prop) (Q:St -> Hp -> Prop),Rep X.K F v x -> g x ρ Qd ->
  (∀ F' H' σ' ρ',Grow rl F H F' H' -> (NoMl ρ -> NoMl ρ') -> VR X.K rl F₀ H₀ F' H' σ' ρ' -> Qd ρ' -> Q σ' H') -> G v σ H Q
noncomputable def PGVs (X:Cx) (rl:RlT) (tgs:List Expr) (g:TGvs):Prop:=∃ G,PGs X tgs G /\ ∀ {F₀ H₀ F H:Hp} {σ:St} {ρ:En},VR X.K rl F₀ H₀ F H σ ρ -> ∀ (vs:List V) (xs:List PyData) (Qd:En -> Prop) (Q:St -> Hp -> Prop),Reps X.K F vs xs -> g xs ρ Qd ->
  (∀ F' H' σ' ρ',Grow rl F H F' H' -> (NoMl ρ -> NoMl ρ') -> VR X.K rl F₀ H₀ F' H' σ' ρ' -> Qd ρ' -> Q σ' H') -> G vs σ H Q
noncomputable def hName (i:Nat):TGv:=fun x ρ Q=>Q (ρ.set i (some (.d x)))
theorem vg_name (i:Nat) {x:Str} (hN:X.N.Nodup) (hi:X.N[i]? = some x:=by rfl) (hx:Loc X.env.scope x:=by first | exact Or.inl rfl | exact Or.inr rfl) (hf:X.fn x = true \/ X.env.scope.names.lookup x = some .local:=by first | exact .inl rfl | exact .inr rfl):PGV X rl (.Name x pos) (hName i) :=
  ⟨_,pg_name hN hi hx hf,fun R v x Qd Q r q k=>k _ _ _ _ (Grow.refl R.sub R.reel) (fun n=>n.set i x) (R.set (w:=.d x) (Grow.refl R.sub R.reel) r trivial (fun _ z=>by cases z) i) q⟩
noncomputable def hNil:TGvs:=fun xs ρ Q=>xs = [] /\ Q ρ
noncomputable def hCons (g:TGv) (gs:TGvs):TGvs:=fun xs ρ Q=>∃ y r,xs = y :: r /\ g y ρ fun ρ'=>gs r ρ' Q
theorem vgs_nil:PGVs X rl [] hNil:=⟨_,pgs_nil,fun R vs xs Qd Q r ⟨e,q⟩ k=>by subst e; exact ⟨r.nil_iff,k _ _ _ _ (Grow.refl R.sub R.reel) (fun n=>n) R q⟩⟩
theorem vgs_cons {g:TGv} {gs:TGvs} (h1:PGV X rl e g) (h2:PGVs X rl es gs) (hs:(assignEach (e :: es) X.env).map (·.2) = assign e X.env :: (assignEach es X.env).map (·.2):=by rfl):PGVs X rl (e :: es) (hCons g gs):=by
  obtain ⟨G,p,k⟩:=h1
  obtain ⟨G2,p2,k2⟩:=h2
  refine ⟨_,pgs_cons p p2 hs,fun R vs xs Qd Q r ⟨y,ys,ex,q⟩ h=>?_⟩
  subst ex
  cases r with
  | cons r1 r2 =>
    refine ⟨_,_,rfl,k R _ y _ _ r1 q fun F1 H1 σ1 ρ1 s1 n1 R1 q1=>?_⟩
    exact k2 R1 _ ys _ _ (r2.mono s1.fs) q1 fun F2 H2 σ2 ρ2 s2 n2 R2 q2=>h F2 H2 σ2 ρ2 (s1.trans s2) (fun n=>n2 (n1 n)) R2 q2
noncomputable def hTup (n:Nat) (gs:TGvs):TGv:=fun x ρ Q=>∃ xs,x = .tuple xs /\ xs.length = n /\ gs xs ρ Q
theorem vg_tup {kk:Nat} {gs:TGvs} {n:Nat} (hc:X.calm = true) (h:PGVs X rl es gs) (hn:(assignEach es X.env).length = n:=by rfl) (hst:(assignEach es X.env).findIdx? (·.1) = none:=by rfl):PGV X rl (.Tuple es kk pos) (hTup n gs):=by
  obtain ⟨G,p,k⟩:=h
  refine ⟨_,pg_tup hc p hn hst,fun R v x Qd Q r ⟨xs,ex,hl,q⟩ h=>?_⟩
  subst ex
  cases r with
  | tup sq rs=>exact ⟨_,_,rfl,sameT R.sub sq,by rw [rs.length]; exact hl,k R _ xs _ _ rs q h⟩
noncomputable def vAsg (fa:TV) (g:TGv):TSv:=fun D ρ=>fa ρ fun w=>∃ x,w = .d x /\ g x ρ D.nx
theorem vs_asg {tg:Expr} {g:TGv} (he:PV X rl e fa) (hg:PGV X rl tg g) (hs:swapsWithSole [tg] e pos.line X.env = pure false:=by rfl) (hw:swappedStores [tg] e X.env = pure none:=by rfl)
    (h1:(assignEach [tg] X.env).map (·.2) = [assign tg X.env]:=by rfl):PSV X rl (.Assign [tg] e pos) (vAsg fa g):=by
  obtain ⟨t,p,k⟩:=he
  obtain ⟨G,p2,k2⟩:=hg
  refine ⟨_,ps_asg p p2 hs hw h1,fun R Dv D ok q=>k R _ _ q fun v w F1 H1 g1 r1 n1 ⟨x,ew,q1⟩=>?_⟩
  subst ew
  exact k2 (R.grow g1) v x _ _ r1 q1 fun F2 H2 σ2 ρ2 s2 n2 R2 q2=>ok.nx _ _ _ _ (g1.fs.trans s2.fs) R2 q2
noncomputable def vPar (i j:Nat) (fs:TVs):TSv:=fun D ρ=>fs ρ fun ws=>∃ x y,dats ws = some [x,y] /\ D.nx ((ρ.set i (some (.d x))).set j (some (.d y)))
theorem vs_par (i j:Nat) {x y:Str} {px py pt:Pos} {kt k2 pt2} (hc:X.calm = true) (hN:X.N.Nodup) (ha:PVs X rl [a,b] fs)
    (hw:swappedStores [.Tuple [.Name x px,.Name y py] kt pt] (.Tuple [a,b] k2 pt2) X.env = pure (some [x,y]):=by rfl) (hi:X.N[i]? = some x:=by rfl) (hj:X.N[j]? = some y:=by rfl) (hij:i ≠ j:=by decide)
    (hx:X.env.scope.names.lookup x = some .local:=by rfl) (hy:X.env.scope.names.lookup y = some .local:=by rfl)
    (hs:swapsWithSole [.Tuple [.Name x px,.Name y py] kt pt] (.Tuple [a,b] k2 pt2) pos.line X.env = pure false:=by rfl) :
    PSV X rl (.Assign [.Tuple [.Name x px,.Name y py] kt pt] (.Tuple [a,b] k2 pt2) pos) (vPar i j fs):=by
  obtain ⟨t,p,k⟩:=ha
  refine ⟨_,ps_par hc hN hi hj hij hx hy p hw hs,fun R Dv D ok q=>k R _ _ q fun vs ws F1 H1 g1 r1 ⟨x,y,e1,q1⟩=>?_⟩
  have rs:=dats_rel r1 e1
  cases rs with
  | cons rx rs =>
    cases rs with
    | cons ry rs =>
      cases rs
      have R1:=(R.grow g1).set (w:=.d x) (Grow.refl g1.sub g1.reel) rx trivial (fun _ z=>by cases z) i
      exact ⟨_,_,rfl,ok.nx _ _ _ _ g1.fs (R1.set (w:=.d y) (Grow.refl g1.sub g1.reel) ry trivial (fun _ z=>by cases z) j) q1⟩

structure VIt (K:W.Frag) (rl:RlT) (F:Hp) (J:It) (xs:List PyData):Prop where
  go:∀ i H x,xs[i]? = some x -> Same F H -> J.go i H
  stop:∀ i H,xs.length <= i -> Same F H -> J.stop i H
  yld:∀ {r:RlT} i H v H' x F2,xs[i]? = some x -> Same F F2 -> Same F2 H -> RAt r F2 H -> J.yld i H v H' -> ∃ F3,Grow r F2 H F3 H' /\ Rep K F3 v x
theorem VIt.of {K:W.Frag} {rl:RlT} {F:Hp} {J:It} {xs:List PyData} (go:∀ i H x,xs[i]? = some x -> Same F H -> J.go i H) (stop:∀ i H,xs.length <= i -> Same F H -> J.stop i H)
    (yld:∀ i H v H' x,xs[i]? = some x -> Same F H -> J.yld i H v H' -> H' = H /\ Rep K F v x):VIt K rl F J xs :=
  ⟨go,stop,fun i H v H' x F2 e s s2 ra y=>by
    obtain ⟨e1,r⟩:=yld i H v H' x e (s.trans s2) y
    subst e1
    exact ⟨F2,Grow.refl s2 ra,r.mono s⟩⟩
noncomputable def PIV (X:Cx) (rl:RlT) (tg iter:Expr) (fi:En -> (List PyData -> Prop) -> Prop):Prop:=∃ wi,PI X tg iter wi /\ ∀ {F₀ H₀ F H:Hp} {σ:St} {ρ:En},VR X.K rl F₀ H₀ F H σ ρ -> ∀ (Qd:List PyData -> Prop) (R:It -> Hp -> Prop),fi ρ Qd ->
  (∀ J xs F' H',Grow rl F H F' H' -> VIt X.K rl F' J xs -> Qd xs -> R J H') -> wi σ H R
end
end L2.VL

namespace L2.VL
open PySem PySem.Spec PyProof.Rows

section
variable {X:Cx} {rl:RlT} {st:Stmt} {rest body:List Stmt} {t u:TSv} {a b c e:Expr} {es:List Expr} {fa fb:TV} {fs:TVs} {f:TB} {pos p:Pos} {tg:Expr}
noncomputable def vFrz (i:Nat) (t:TSv):TSv:=fun D ρ=>∃ xs,ρ[i]? = some (some (.ml xs)) /\ t D (ρ.set i (some (.d (.list xs))))
theorem frz_same {K:W.Frag} {F₀ H₀ F H:Hp} {σ:St} {ρ:En} (r:VR K rl F₀ H₀ F H σ ρ) {i:Nat} {xs:List PyData} (e : ρ[i]? = some (some (.ml xs))):∃ F1,Same F F1 /\ VR K rl F₀ H₀ F1 H σ (ρ.set i (some (.d (.list xs)))):=by
  obtain ⟨v,h1,h2,h3⟩:=r.sl i _ e
  obtain ⟨a,vs,ev,f,hr,hh,q⟩:=(show OwnL K rl F H v xs from h2)
  obtain ⟨F1,R1⟩:=r.freeze e
  obtain ⟨v',k1,k2,k3⟩:=R1.sl i _ (List.getElem?_set_self (List.getElem?_eq_some_iff.mp e).1)
  have neF:∀ b u,F b = some u -> b ≠ a:=fun b u q z=>by subst z; rw [f] at q; cases q
  have fsm:Same F (upd F a (.lst vs)):=fun b u z=>by rw [upd_ne (neF b u z)]; exact z
  have hi:i < ρ.length:=(List.getElem?_eq_some_iff.mp e).1
  refine ⟨upd F a (.lst vs),fsm,r.g.freeze (h3 a ev) hh f hr,fun j w e1=>?_,R1.ap,R1.np,R1.len⟩
  by_cases hj:i = j
  · subst hj
    rw [List.getElem?_set_self hi] at e1
    cases e1
    exact ⟨v,h1,by rw [ev]; exact .lst upd_same (q.mono fsm),trivial⟩
  · rw [List.getElem?_set_ne hj] at e1
    obtain ⟨u,g1,g2,g3⟩:=r.sl j w e1
    refine ⟨u,g1,?_,g3⟩
    cases w with
    | d x=>exact Rep.mono fsm g2
    | reel=>exact g2
    | vv u=>exact g2
    | ml ys =>
      obtain ⟨b,us,eb,f1,f2,f3,f4⟩:=(show OwnL K rl F H u ys from g2)
      have ne:b ≠ a:=fun z=>r.ap i j _ _ v hj e e1 rfl rfl h1 (by rw [g1,eb,z,ev])
      exact ⟨b,us,eb,by rw [upd_ne ne]; exact f1,f2,f3,f4.mono fsm⟩
    | pk ys=>exact absurd e1 (r.np j ys)
    | md ys =>
      obtain ⟨b,us,eb,f1,f2,f3,f4⟩:=(show OwnD K rl F H u ys from g2)
      have ne:b ≠ a:=fun z=>r.ap i j _ _ v hj e e1 rfl rfl h1 (by rw [g1,eb,z,ev])
      exact ⟨b,us,eb,by rw [upd_ne ne]; exact f1,f2,f3,Paired.mapP f4 fun _ _ z=>⟨z.1,z.2.mono fsm⟩⟩
    | mk ys =>
      obtain ⟨b,us,eb,f1,f2,f3,f4⟩:=(show OwnK K rl F H u ys from g2)
      have ne:b ≠ a:=fun z=>r.ap i j _ _ v hj e e1 rfl rfl h1 (by rw [g1,eb,z,ev])
      exact ⟨b,us,eb,by rw [upd_ne ne]; exact f1,f2,f3,Paired.mapP f4 fun _ _ z=>⟨z.1,z.2.mono fsm⟩⟩
    | nt ds=>obtain ⟨b,us,eb,f1,f2⟩:=g2; exact ⟨b,us,eb,fsm _ _ f1,f2.mono fsm⟩
    | lk=>trivial
    | sc ns=>obtain ⟨b,eb,f1⟩:=g2; exact ⟨b,eb,sameL fsm f1⟩
    | fd kvs=>obtain ⟨b,us,eb,f1,f2⟩:=g2; exact ⟨b,us,eb,fsm _ _ f1,Paired.mapP f2 fun _ _ z=>⟨z.1,z.2.mono fsm⟩⟩
    | fw kvs=>obtain ⟨b,us,o,eb,f1,f2⟩:=g2; exact ⟨b,us,o,eb,fsm _ _ f1,Paired.mapP f2 fun _ _ z=>⟨z.1,z.2.mono fsm⟩⟩
    | ft kvs=>obtain ⟨b,us,o,eb,f1,f2⟩:=g2; exact ⟨b,us,o,eb,fsm _ _ f1,Paired.mapP f2 fun _ _ z=>⟨z.1,z.2.mono fsm⟩⟩
    | xc _ _=>obtain ⟨b,dx,us,C,eb,n,f1,f3,f2⟩:=g2; exact ⟨b,dx,us,C,eb,n,fsm _ _ f1,fsm _ _ f3,Paired.mapP f2 fun _ _ z=>⟨z.1,z.2.mono fsm⟩⟩
    | dp _ _=>obtain ⟨c,b,us,u,o,eb,f1,f3,f2,z⟩:=g2; exact ⟨c,b,us,u,o,eb,fsm _ _ f1,fsm _ _ f3,Paired.mapP f2 fun _ _ z=>⟨z.1,z.2.mono fsm⟩,z.mono fsm⟩
theorem vs_frz (i:Nat) (h:PSV X rl st t):PSV X rl st (vFrz i t):=by
  obtain ⟨T,p,k⟩:=h
  refine ⟨T,p,fun R Dv D ok ⟨xs,e,q⟩=>?_⟩
  obtain ⟨F1,s1,R1⟩:=frz_same R e
  exact k R1 Dv D (ok.on s1) q

noncomputable def iL (fa:TV):En -> (List PyData -> Prop) -> Prop:=fun ρ Q=>fa ρ fun w=>∃ xs,w.fz = .d (.list xs) /\ Q xs
noncomputable def iT (fa:TV):En -> (List PyData -> Prop) -> Prop:=fun ρ Q=>fa ρ fun w=>∃ xs,w.fz = .d (.tuple xs) /\ Q xs
theorem vi_list {l:Expr} (hl:PV X rl l fa):PIV X rl tg l (iL fa):=by
  obtain ⟨t,p,k⟩:=hl
  refine ⟨_,pi_list p,fun R Qd Q q h=>k R _ _ q fun v w F1 H1 g1 r1 n1 ⟨xs,ew,q1⟩=>?_⟩
  obtain ⟨F2,g2,s2,r2⟩:=RelW.fz g1 r1 n1
  rw [ew] at r2
  cases (show Rep X.K F2 v (.list xs) from r2) with
  | @lst a vs _ sq rs =>
    have sqH:∀ H,Same F2 H -> SqL X.K H a vs:=fun H s=>.inl (.inl (s _ _ sq))
    refine ⟨a,rfl,⟨vs,sqH H1 g2.sub⟩,h _ xs F2 H1 g2 (.of (fun i H x e s=>?_) (fun i H hl s=>⟨vs,sqH H s,by rw [rs.length]; exact hl⟩) (fun i H v H' x e s y=>?_)) q1⟩
    · obtain ⟨v,ev,_⟩:=rs.get e
      exact ⟨vs,v,sqH H s,ev⟩
    · obtain ⟨e',hy⟩:=y
      obtain ⟨v',ev,rv⟩:=rs.get e
      have:=hy vs (sqH H s)
      rw [ev] at this
      cases this
      exact ⟨e',rv⟩
theorem vi_tup {l:Expr} (hl:PV X rl l fa):PIV X rl tg l (iT fa):=by
  obtain ⟨t,p,k⟩:=hl
  refine ⟨_,pi_tup p,fun R Qd Q q h=>k R _ _ q fun v w F1 H1 g1 r1 n1 ⟨xs,ew,q1⟩=>?_⟩
  obtain ⟨F2,g2,s2,r2⟩:=RelW.fz g1 r1 n1
  rw [ew] at r2
  cases (show Rep X.K F2 v (.tuple xs) from r2) with
  | @tup a vs _ sq rs =>
    have sqH:∀ H,Same F2 H -> SqT X.K H a vs:=fun H s=>sameT s sq
    refine ⟨a,rfl,⟨vs,sqH H1 g2.sub⟩,h _ xs F2 H1 g2 (.of (fun i H x e s=>?_) (fun i H hl s=>⟨vs,sqH H s,by rw [rs.length]; exact hl⟩) (fun i H v H' x e s y=>?_)) q1⟩
    · obtain ⟨v,ev,_⟩:=rs.get e
      exact ⟨vs,v,sqH H s,ev⟩
    · obtain ⟨e',hy⟩:=y
      obtain ⟨v',ev,rv⟩:=rs.get e
      have:=hy vs (sqH H s)
      rw [ev] at this
      cases this
      exact ⟨e',rv⟩
noncomputable def rangeD (lo:Int) (n:Nat):List PyData:=(List.range n).map fun (i:Nat)=>.int (lo + i)
theorem rangeD_get {lo:Int} {n i:Nat} {x:PyData} (h:(rangeD lo n)[i]? = some x):i < n /\ x = .int (lo + i):=by
  unfold rangeD at h
  rw [List.getElem?_map] at h
  by_cases hi:i < n
  · rw [List.getElem?_eq_getElem (by simpa using hi)] at h
    simp at h
    exact ⟨hi,h.symm⟩
  · rw [List.getElem?_eq_none (by simpa using hi)] at h
    cases h
theorem rangeD_length {lo:Int} {n:Nat}:(rangeD lo n).length = n:=by simp [rangeD]
theorem vit_range {K:W.Frag} {F:Hp} (lo:Int) (n:Nat):VIt K rl F (Itr lo n) (rangeD lo n) :=
  .of (fun i H x e s=>(rangeD_get e).1) (fun i H hl s=>by rw [rangeD_length] at hl; exact hl) (fun i H v H' x e s y=>by
    obtain ⟨e1,e2⟩:=y
    subst e2
    rw [(rangeD_get e).2]
    exact ⟨e1,.int _⟩)
noncomputable def iR1 (fs:TVs):En -> (List PyData -> Prop) -> Prop:=fun ρ Q=>fs ρ fun ws=>∃ j:Int,ws = [.d (.int j)] /\ (-(2 ^ 62) <= j /\ j < 2 ^ 62) /\ Q (rangeD 0 j.toNat)
noncomputable def iR2 (fs:TVs):En -> (List PyData -> Prop) -> Prop:=fun ρ Q=>fs ρ fun ws=>∃ i j:Int,ws = [.d (.int i),.d (.int j)] /\ (-(2 ^ 62) <= i /\ i < 2 ^ 62 /\ -(2 ^ 62) <= j /\ j < 2 ^ 62) /\ Q (rangeD i (j - i).toNat)
theorem vi_range1 (hm:X.mg "range" = none) (ha:PVs X rl [a] fs) (hg:Gl X "range" := by rfl) (hs:starEach [a] X.env = [(false,eval a X.env)]:=by rfl):PIV X rl tg (.Call (.Name "range" p) [a] [] pos) (iR1 fs):=by
  obtain ⟨t,p1,k⟩:=ha
  refine ⟨_,pi_range1 hg hm p1 hs,fun R Qd Q q h=>k R _ _ q fun vs ws F1 H1 g1 r1 ⟨j,ew,b,q1⟩=>?_⟩
  subst ew
  obtain ⟨v,rfl,rv⟩:=rel1 r1
  have e:=rep_int rv
  subst e
  exact ⟨j,rfl,b.1,b.2,h _ _ F1 H1 g1 (vit_range 0 _) q1⟩
theorem vi_range2 (hm:X.mg "range" = none) (ha:PVs X rl [a,b] fs) (hg:Gl X "range" := by rfl) (hs:starEach [a,b] X.env = [(false,eval a X.env),(false,eval b X.env)]:=by rfl) (hs2:starEach [b] X.env = [(false,eval b X.env)]:=by rfl):PIV X rl tg (.Call (.Name "range" p) [a,b] [] pos) (iR2 fs):=by
  obtain ⟨t,p1,k⟩:=ha
  refine ⟨_,pi_range2 hg hm p1 hs hs2,fun R Qd Q q h=>k R _ _ q fun vs ws F1 H1 g1 r1 ⟨i,j,ew,b,q1⟩=>?_⟩
  subst ew
  obtain ⟨v,u,rfl,rv,ru⟩:=rel2 r1
  have e:=rep_int rv
  have e':=rep_int ru
  subst e e'
  exact ⟨i,j,rfl,b,h _ _ F1 H1 g1 (vit_range i _) q1⟩

theorem VR.own {K:W.Frag} {F₀ H₀ F H:Hp} {σ:St} {ρ:En} (r:VR K rl F₀ H₀ F H σ ρ) {i:Nat} {xs ys:List PyData} {a:Addr} {us:List V} (e : ρ[i]? = some (some (.ml xs))) (es : σ[i]? = some (some (.ref a))) (rs:Reps K F us ys) :
    VR K rl F₀ H₀ F (upd H a (.lst us)) σ (ρ.set i (some (.ml ys))):=by
  obtain ⟨v,h1,h2,h3⟩:=r.sl i _ e
  rw [es] at h1
  cases h1
  obtain ⟨a',vs,ev,f,hr,hh,q⟩:=(show OwnL K rl F H (.ref a) xs from h2)
  cases ev
  have n0:H₀ a = none:=h3 a rfl
  have hi:i < ρ.length:=(List.getElem?_eq_some_iff.mp e).1
  have neF:∀ b u,F b = some u -> b ≠ a:=fun b u q z=>by subst z; rw [f] at q; cases q
  have g:Grow rl F₀ H₀ F (upd H a (.lst us)):=by
    refine ⟨fun b o q1 n=>by rw [upd_ne (ne_of_none q1 n0)]; exact r.g.same b o q1 n,r.g.fs,fun b o q1=>by rw [upd_ne (neF b o q1)]; exact r.sub b o q1,r.g.old,fun y z=>?_⟩
    obtain ⟨z1,⟨u,h1,h2⟩⟩:=r.reel y z
    exact ⟨z1,⟨u,by rw [upd_ne (fun q=>hr (by rw [<- q]; exact z))]; exact h1,h2⟩⟩
  refine ⟨g,fun j w e1=>?_,fun j k ys' zs u hjk e1 e2 w1 w2 s1 s2=>?_,fun j ys' z=>?_,by simp [r.len]⟩
  · by_cases hj:i = j
    · subst hj
      rw [List.getElem?_set_self hi] at e1
      cases e1
      exact ⟨_,es,⟨a,us,rfl,f,hr,upd_same,rs⟩,h3⟩
    · rw [List.getElem?_set_ne hj] at e1
      obtain ⟨u,g1,g2,g3⟩:=r.sl j w e1
      refine ⟨u,g1,?_,g3⟩
      cases w with
      | d x=>exact g2
      | reel=>exact g2
      | vv u=>exact g2
      | ml zs =>
        obtain ⟨b,us',eb,f1,f2,f3,f4⟩:=(show OwnL K rl F H u zs from g2)
        have ne:b ≠ a:=fun z=>r.ap i j _ _ (.ref a) hj e e1 rfl rfl es (by rw [g1,eb,z])
        exact ⟨b,us',eb,f1,f2,by rw [upd_ne ne]; exact f3,f4⟩
      | pk zs=>exact absurd e1 (r.np j zs)
      | md zs =>
        obtain ⟨b,us',eb,f1,f2,f3,f4⟩:=(show OwnD K rl F H u zs from g2)
        have ne:b ≠ a:=fun z=>r.ap i j _ _ (.ref a) hj e e1 rfl rfl es (by rw [g1,eb,z])
        exact ⟨b,us',eb,f1,f2,by rw [upd_ne ne]; exact f3,f4⟩
      | mk zs =>
        obtain ⟨b,us',eb,f1,f2,f3,f4⟩:=(show OwnK K rl F H u zs from g2)
        have ne:b ≠ a:=fun z=>r.ap i j _ _ (.ref a) hj e e1 rfl rfl es (by rw [g1,eb,z])
        exact ⟨b,us',eb,f1,f2,by rw [upd_ne ne]; exact f3,f4⟩
      | nt ds=>exact g2
      | lk=>trivial
      | sc _=>exact g2
      | fd _=>exact g2
      | fw _=>exact g2
      | ft _=>exact g2
      | xc _ _=>exact g2
      | dp _ _=>exact g2
  · have nd:∀ (j:Nat) (z:W),(ρ.set i (some (W.ml ys)))[j]? = some (some z) -> z.own = true -> ∃ z',ρ[j]? = some (some z') /\ z'.own = true:=fun j zs z o=>by
      by_cases hj:i = j
      · subst hj
        exact ⟨_,e,rfl⟩
      · rw [List.getElem?_set_ne hj] at z
        exact ⟨zs,z,o⟩
    obtain ⟨_,d1,o1⟩:=nd j _ e1 w1
    obtain ⟨_,d2,o2⟩:=nd k _ e2 w2
    exact r.ap j k _ _ u hjk d1 d2 o1 o2 s1 s2
  · rw [List.getElem?_set] at z
    split at z
    · first | cases z | (split at z <;> cases z)
    · exact r.np j ys' z
noncomputable def VMut (K:W.Frag) (rl:RlT) (r:V -> List V -> Hp -> VK -> Prop) (g:List PyData -> List W -> (List PyData -> Prop) -> Prop):Prop :=
  ∀ {F H:Hp} {a:Addr} {vs args:List V} {xs:List PyData} {ws:List W} (Qn:List PyData -> Prop) (Q:VK),Same F H -> H a = some (.lst vs) -> Reps K F vs xs -> RelWs K rl F H args ws -> g xs ws Qn ->
    (∀ us ys,Reps K F us ys -> Qn ys -> Q .non (upd H a (.lst us))) -> r (.ref a) args H Q
noncomputable def vMut (i:Nat) (g:List PyData -> List W -> (List PyData -> Prop) -> Prop) (fs:TVs):TSv:=fun D ρ=>∃ xs,ρ[i]? = some (some (.ml xs)) /\ fs ρ fun ws=>g xs ws fun ys=>D.nx (ρ.set i (some (.ml ys)))
theorem vs_mut (i:Nat) {x:Str} {nm:Str} {id:String} {r:V -> List V -> Hp -> VK -> Prop} {g:List PyData -> List W -> (List PyData -> Prop) -> Prop} {px apos cpos:Pos} (slot:Slot "list" nm id) (hty:typeOf (.builtin id) = pure (.type "method_descriptor")) (hm:MtR X id r) (vm:VMut X.K rl r g) (ha:PVs X rl (e :: es) fs)
    (hN:X.N[i]? = some x:=by rfl) (hv:Vis X.env.scope x:=by first | exact Or.inl rfl | exact Or.inr (Or.inl rfl) | exact Or.inr (Or.inr rfl))
    (hd:(x == ("__debug__" : Str)) = false:=by decide) (hcd:(x == ("__classdict__" : Str)) = false:=by decide)
    (hbase:attributeBase (.Name x px) nm X.env (eval (.Name x px) X.env) = eval (.Name x px) X.env:=by rfl)
    (hfew:((backTo cpos (starEach (e :: es) X.env)).all (fun x=>!x.1) && (backToKw cpos (keywordEach [] X.env)).all (fun x=>x.1.isSome)
      && decide ((e :: es).length + ([]:List Keyword).length + (if ([]:List Keyword).isEmpty then 0 else 1) < 30)) = true:=by rfl)
    (hline:(apos.endLine == cpos.line) = true:=by rfl) (hs:starEach (e :: es) X.env = (false,eval e X.env) :: starEach es X.env:=by rfl) (hplain:(backTo cpos (starEach es X.env)).any (·.1) = false:=by rfl)
    (hsw:swapsWith (.Call (.Attribute (.Name x px) nm apos) (e :: es) [] cpos) none pos.line X.env = pure false:=by rfl) :
    PSV X rl (.Expr (.Call (.Attribute (.Name x px) nm apos) (e :: es) [] cpos) pos) (vMut i g fs):=by
  obtain ⟨t,p1,k⟩:=ha
  refine ⟨_,ps_expr (pe_bm PySem.F.plainAttrs_list slot hty hm (pe_var hN hv hd hcd) p1 hbase hfew hline hs hplain) hsw,fun {F₀ H₀ F H σ ρ} R Dv D ok ⟨xs,e1,q⟩=>?_⟩
  obtain ⟨v,h1,h2,h3⟩:=R.sl i _ e1
  obtain ⟨a,vs,rfl,f,hr,hh,rs⟩:=(show OwnL X.K rl F H v xs from h2)
  refine ⟨.ref a,h1,.inl ⟨rfl,vs,.inl (.inl hh)⟩,k R _ _ q fun args ws F1 H1 g1 r1 q1=>?_⟩
  refine vm _ _ g1.sub (g1.same a _ hh hr) (rs.mono g1.fs) r1 q1 fun us ys r2 q2=>?_
  exact ok.nx _ _ _ _ g1.fs ((R.grow g1).own e1 h1 r2) q2
noncomputable def gApp:List PyData -> List W -> (List PyData -> Prop) -> Prop:=fun xs ws Q=>∃ x,dats ws = some [x] /\ xs.length < sizeLine /\ Q (xs ++ [x])
theorem vm_app {K:W.Frag}:VMut K rl rAppend gApp:=fun {F H a vs args xs ws} Qn Q s ha rs ra ⟨x,e,z,q⟩ k=>by
  have r2:=dats_rel ra e
  cases r2 with
  | cons rx r3 =>
    cases r3
    exact ⟨a,vs,_,rfl,rfl,ha,by rw [rs.length]; exact z,k _ _ (rs.snoc rx) q⟩
theorem vs_app (i:Nat) {x:Str} {px apos cpos:Pos} (ha:PVs X rl [e] fs) (hN:X.N[i]? = some x:=by rfl) (hv:Vis X.env.scope x:=by first | exact Or.inl rfl | exact Or.inr (Or.inl rfl) | exact Or.inr (Or.inr rfl))
    (hd:(x == ("__debug__" : Str)) = false:=by decide) (hcd:(x == ("__classdict__" : Str)) = false:=by decide)
    (hbase:attributeBase (.Name x px) "append" X.env (eval (.Name x px) X.env) = eval (.Name x px) X.env:=by rfl)
    (hfew:((backTo cpos (starEach [e] X.env)).all (fun x=>!x.1) && (backToKw cpos (keywordEach [] X.env)).all (fun x=>x.1.isSome)
      && decide (([e]).length + ([]:List Keyword).length + (if ([]:List Keyword).isEmpty then 0 else 1) < 30)) = true:=by rfl)
    (hline:(apos.endLine == cpos.line) = true:=by rfl) (hs:starEach [e] X.env = (false,eval e X.env) :: starEach [] X.env:=by rfl) (hplain:(backTo cpos (starEach [] X.env)).any (·.1) = false:=by rfl)
    (hsw:swapsWith (.Call (.Attribute (.Name x px) "append" apos) [e] [] cpos) none pos.line X.env = pure false:=by rfl) :
    PSV X rl (.Expr (.Call (.Attribute (.Name x px) "append" apos) [e] [] cpos) pos) (vMut i gApp fs) :=
  vs_mut i PySem.F.slot_list_append PySem.F.type_list_append mt_append vm_app ha hN hv hd hcd hbase hfew hline hs hplain hsw

noncomputable def argOk:W -> Bool
  | .ml _=>false
  | .md _=>false
  | .mk _=>false
  | .pk _=>false
  | _=>true
noncomputable def vsp (K:W.Frag) (rl:RlT) (P:List W -> (PyData -> Prop) -> Prop):Sp:=fun vs H Q _=>∃ F ws,Same F H /\ RAt rl F H /\ RelWs K rl F H vs ws /\ ws.all argOk = true /\ P ws fun d=>∀ v F' H',Grow rl F H F' H' -> Rep K F' v d -> Q v H'
noncomputable def startV (N:List Str) (ws:List W):En:=ws.map some ++ List.replicate (N.length - ws.length) none
theorem relWs_get {K:W.Frag} {F H:Hp}:∀ {vs:List V} {ws:List W} {i:Nat} {w:W},RelWs K rl F H vs ws -> ws[i]? = some w -> ∃ v,vs[i]? = some v /\ RelW K rl F H v w
  | _,_,_,_,.nil,e=>by simp at e
  | _,_,0,_,.cons h _,e=>by simp at e; subst e; exact ⟨_,rfl,h⟩
  | _,_,i + 1,w,.cons _ r,e=>by
    obtain ⟨v,h1,h2⟩:=relWs_get (i:=i) (w:=w) r (by simpa using e)
    exact ⟨v,by simpa using h1,h2⟩
theorem start_get {N:List Str} {ws:List W} {i:Nat} {w:W} (h:(startV N ws)[i]? = some (some w)):ws[i]? = some w:=by
  unfold startV at h
  by_cases hi:i < ws.length
  · rw [List.getElem?_append_left (by simpa using hi),List.getElem?_map] at h
    cases q:ws[i]? with
    | none=>rw [q] at h; cases h
    | some x=>rw [q] at h; cases h; rfl
  · rw [List.getElem?_append_right (by simpa using hi),List.getElem?_replicate] at h
    split at h <;> cases h
theorem vr_start {K:W.Frag} {F H:Hp} {N:List Str} {vs:List V} {ws:List W} (s:Same F H) (ra:RAt rl F H) (r:RelWs K rl F H vs ws) (ok:ws.all argOk = true):VR K rl F H F H (start N vs) (startV N ws):=by
  have hl:vs.length = ws.length:=Paired.length r
  have no:∀ (i:Nat) w,(startV N ws)[i]? = some (some w) -> argOk w = true:=fun i w e=>(List.all_eq_true.mp ok) w (List.mem_of_getElem? (start_get e))
  refine ⟨Grow.refl s ra,fun i w e=>?_,fun i j xs ys v _ e1 _ o _ _ _=>(by have:=no i _ e1; cases xs <;> first | exact Bool.noConfusion o | exact Bool.noConfusion this),fun i xs e=>(by have:=no i _ e; cases this),?_⟩
  · obtain ⟨v,h1,h2⟩:=relWs_get r (start_get e)
    refine ⟨v,?_,h2,?_⟩
    · unfold start
      rw [List.getElem?_append_left (by simpa using (List.getElem?_eq_some_iff.mp h1).1),List.getElem?_map,h1]
      rfl
    · have:=no i w e
      cases w with
      | ml xs=>cases this
      | md xs=>cases this
      | mk xs=>cases this
      | nt _=>trivial
      | lk=>trivial
      | sc _=>trivial
      | fd _=>trivial
      | fw _=>trivial
      | ft _=>trivial
      | xc _ _=>trivial
      | dp _ _=>trivial
      | d _=>trivial
      | pk _=>trivial
      | reel=>trivial
      | vv _=>trivial
  · unfold startV start
    simp [hl]
noncomputable def vEnds (Q:PyData -> Prop):VEnds:=⟨fun _=>Q .none,fun w=>∃ d,w.fz = .d d /\ Q d,fun _=>False,fun _=>False⟩
theorem vfn {P:Program} {w:World} {K:W.Frag} {mg:Str -> Option Value} {base:Heap} {x qual:Str} {st:Stmt} {fa:Addr} {fd:FuncData} {N ps:List Str} {k:Nat} {Pd:List W -> (PyData -> Prop) -> Prop} {t:TSv}
    (Fn:Fun K x qual st fa fd) (S:FnScope N ps (defScope st)) (len:∀ ws Q,Pd ws Q -> ws.length = ps.length)
    (hbody:∀ (cdv:Value) (A:Around) (outer:List Env) (s:Shared) (H:Hp) (E:XK),Room k (A.deeper (envOfC qual (defScope st) s.heap.objs.size fa cdv)) ->
      PSsV (cxOf CX0 P w K mg base N qual (defScope st) fa cdv A outer s H E).nox rl (defBody st) t)
    (hread:∀ ws Q,Pd ws Q -> t (vEnds Q) (startV N ws)):FnOk P w K mg base CX0 (k + 1) fa fd ps (vsp K rl Pd):=by
  refine Fn.ok S (fun vs H Q E ⟨F,ws,_,_,r,_,q⟩=>(Paired.length r).trans (len ws _ q)) fun cdv A outer s H vs Q E hr h=>?_
  obtain ⟨F,ws,sm,ra,r,ok,q⟩:=h
  obtain ⟨T,p,kk⟩:=hbody cdv A outer s H E hr
  refine ⟨T,p,kk (vr_start sm ra r ok) (vEnds _) _ ⟨?_,?_,fun _ _ _ _ _ _ z=>False.elim z,fun _ _ _ _ _ _ z=>False.elim z⟩ (hread ws _ q)⟩
  · intro F1 H1 σ1 ρ1 _ R1 q1
    exact q1 .non F1 H1 R1.g .non
  · rintro v w1 F1 H1 g1 r1 n1 ⟨d,ed,q1⟩
    obtain ⟨F2,g2,s2,r2⟩:=RelW.fz g1 r1 n1
    rw [ed] at r2
    exact q1 v F2 H1 g2 r2
structure Dfn (P:Program) (w:World) (K:W.Frag) (mg:Str -> Option Value) (base:Heap) (rl:RlT) (x:Str) (ps:List Str) (k:Nat) (Pd:List W -> (PyData -> Prop) -> Prop):Prop where
  mono:∀ ws Q Q',(∀ d,Q d -> Q' d) -> Pd ws Q -> Pd ws Q'
  ex:∃ f fd,mg x = some (.ref f) /\ W.keepIn K (.ref f) = true /\ Binds K fd ps [] /\ FnOk P w K mg base CX0 k f fd ps (vsp K rl Pd)
noncomputable def vUse (Pd:List W -> (PyData -> Prop) -> Prop) (fs:TVs):TV:=fun ρ Q=>fs ρ fun ws=>ws.all argOk = true /\ Pd ws fun d=>Q (.d d)
theorem v_call {x:Str} {ps:List Str} {k:Nat} {Pd:List W -> (PyData -> Prop) -> Prop} (D:Dfn X.prog X.w X.K X.mg X.base rl x ps k Pd) (hr:Room k X.A) (ha:PVs X rl (e :: es) fs) (hg:Gl X x:=by rfl)
    (hdb:(x == ("__debug__" : Str)) = false:=by decide) (he:starEach (e :: es) X.env = (false,eval e X.env) :: starEach es X.env:=by rfl) (hpl:(backTo pos (starEach es X.env)).any (·.1) = false:=by rfl) :
    PV X rl (.Call (.Name x p) (e :: es) [] pos) (vUse Pd fs):=by
  obtain ⟨f,fd,hm,hk,hb,F⟩:=D.ex
  obtain ⟨t,p1,kk⟩:=ha
  refine ⟨_,pe_call F hr hg hm hk hb .nil pass0 p1 hdb he hpl,fun R Qd Q q h=>kk R _ _ q fun vs ws F1 H1 g1 r1 ⟨ok,q1⟩=>?_⟩
  refine ⟨F1,ws,g1.sub,g1.reel,by rw [List.append_nil]; exact r1,ok,?_⟩
  exact D.mono ws _ _ (fun d qd v F2 H2 g2 r2=>h v (.d d) F2 H2 (g1.trans g2) r2 trivial qd) q1
end
end L2.VL

namespace L2
open PySem PySem.Spec PyProof.Rows

theorem closure_ok {env:Env}:∀ (names:List (Str × NameKind)) (acc:List (Str × Addr)),(∀ x ∈ names,x.2 = .free -> ∃ c,env.cells.lookup x.1 = some c) -> (∀ x c,acc.lookup x = some c -> env.cells.lookup x = some c) ->
    ∃ cl,(forIn names acc (fun (x:Str × NameKind) (cs:List (Str × Addr))=>if (x.2 == NameKind.free) = true then do let c <- cellOf env x.1; pure (ForInStep.yield ((x.1,c) :: cs)) else pure (ForInStep.yield cs)):Sem (List (Str × Addr))) = pure cl /\
      (∀ x c,cl.lookup x = some c -> env.cells.lookup x = some c) /\ (∀ x,(acc.lookup x).isSome = true -> (cl.lookup x).isSome = true) /\ ∀ x,(x,NameKind.free) ∈ names -> (cl.lookup x).isSome = true
  | [],acc,_,h2=>⟨acc,rfl,h2,fun _ z=>z,fun _ z=>nomatch z⟩
  | (n,k) :: r,acc,h1,h2=>by
    by_cases hk:k = .free
    · subst hk
      obtain ⟨c,hc⟩:=h1 (n,.free) List.mem_cons_self rfl
      have h2':∀ x c',((n,c) :: acc).lookup x = some c' -> env.cells.lookup x = some c':=fun x c' z=>by
        rw [List.lookup_cons] at z
        cases e:x == n with
        | true =>
          rw [e] at z
          have e':x = n:=by simpa using e
          cases z
          rw [e']
          exact hc
        | false =>
          rw [e] at z
          exact h2 x c' z
      obtain ⟨cl,e,g1,g2,g3⟩:=closure_ok r ((n,c) :: acc) (fun x hx=>h1 x (List.mem_cons_of_mem _ hx)) h2'
      refine ⟨cl,?_,g1,fun x z=>g2 x ?_,fun x z=>?_⟩
      · rw [List.forIn_cons]
        simp only [beq_self_eq_true,if_true]
        have e0:cellOf env n = pure c:=by unfold cellOf; rw [hc]
        rw [e0,pure_bind,pure_bind]
        exact e
      · rw [List.lookup_cons]
        split
        · rfl
        · exact z
      · rcases List.mem_cons.mp z with z | z
        · cases z
          refine g2 _ ?_
          rw [List.lookup_cons]
          simp
        · exact g3 x z
    · obtain ⟨cl,e,g1,g2,g3⟩:=closure_ok r acc (fun x hx=>h1 x (List.mem_cons_of_mem _ hx)) h2
      refine ⟨cl,?_,g1,g2,fun x z=>?_⟩
      · rw [List.forIn_cons]
        have hb:(k == NameKind.free) = false:=by simpa using hk
        simp only [hb,Bool.false_eq_true,if_false]
        rw [pure_bind]
        exact e
      · rcases List.mem_cons.mp z with z | z
        · cases z; exact absurd rfl hk
        · exact g3 x z
theorem closure_for {env:Env} {scope:Scope} (h:∀ x ∈ scope.names,x.2 = .free -> ∃ c,env.cells.lookup x.1 = some c) :
    ∃ cl,closureFor scope env = pure cl /\ (∀ x c,cl.lookup x = some c -> env.cells.lookup x = some c) /\ ∀ x,(x,NameKind.free) ∈ scope.names -> (cl.lookup x).isSome = true:=by
  obtain ⟨cl,e,g1,_,g3⟩:=closure_ok scope.names [] h (fun _ _ z=>by cases z)
  refine ⟨cl,?_,g1,g3⟩
  unfold closureFor
  first
    | exact e
    | (simp only [bind_pure]; exact e)

theorem relabel_back {env:Env} {scope:Scope} {x:Str} (h:(relabel scope env).names.lookup x = some .cell \/ (relabel scope env).names.lookup x = some .free):(x,NameKind.free) ∈ scope.names \/ (x,NameKind.cell) ∈ scope.names:=by
  have key:∀ names:List (Str × NameKind),∀ k,(k = .cell \/ k = .free) ->
      (names.map fun (n,k)=>if (k == NameKind.free && env.scope.kind == .function && env.kindOf n == some .cell) then (n,NameKind.cell) else (n,k)).lookup x = some k -> (x,NameKind.free) ∈ names \/ (x,NameKind.cell) ∈ names:=by
    intro names
    induction names with
    | nil=>intro k _ z; cases z
    | cons y r ih =>
      intro k hk z
      obtain ⟨n,kn⟩:=y
      have step:((x,NameKind.free) ∈ r \/ (x,NameKind.cell) ∈ r) -> ((x,NameKind.free) ∈ (n,kn) :: r \/ (x,NameKind.cell) ∈ (n,kn) :: r):=fun z=>z.imp (List.mem_cons_of_mem _) (List.mem_cons_of_mem _)
      rw [List.map_cons] at z
      dsimp only at z
      by_cases hc:(kn == NameKind.free && env.scope.kind == .function && env.kindOf n == some .cell) = true
      · rw [if_pos hc,List.lookup_cons] at z
        have hf:kn = .free:=by
          have:=(Bool.and_eq_true_iff.mp (Bool.and_eq_true_iff.mp hc).1).1
          simpa using this
        cases e:x == n with
        | true =>
          have e':x = n:=by simpa using e
          rw [e',<- hf]
          exact .inl List.mem_cons_self
        | false =>
          rw [e] at z
          exact step (ih k hk z)
      · rw [if_neg hc,List.lookup_cons] at z
        cases e:x == n with
        | true =>
          rw [e] at z
          have e':x = n:=by simpa using e
          cases z
          rcases hk with hk | hk
          · rw [e',hk]; exact .inr List.mem_cons_self
          · rw [e',hk]; exact .inl List.mem_cons_self
        | false =>
          rw [e] at z
          exact step (ih k hk z)
  rcases h with h | h
  · exact key scope.names .cell (.inl rfl) h
  · exact key scope.names .free (.inr rfl) h

theorem cellsFrom_app:∀ (names:List (Str × NameKind)) (n:Nat) (acc:List (Str × Addr)),cellsFrom n names acc = cellsFrom n names [] ++ acc
  | [],_,_=>rfl
  | (x,k) :: r,n,acc=>by
    unfold cellsFrom
    split
    · rw [cellsFrom_app r (n + 1) ((x,n) :: acc),cellsFrom_app r (n + 1) [(x,n)],List.append_assoc]
      rfl
    · exact cellsFrom_app r n acc
theorem cellsFrom_mem {x:Str} {c:Addr}:∀ {names:List (Str × NameKind)} {n:Nat},(x,c) ∈ cellsFrom n names [] -> (x,NameKind.cell) ∈ names
  | (y,k) :: r,n,h=>by
    unfold cellsFrom at h
    split at h
    · rename_i hk
      rw [cellsFrom_app] at h
      rcases List.mem_append.mp h with h | h
      · exact List.mem_cons_of_mem _ (cellsFrom_mem h)
      · simp at h
        have:k = .cell:=by simpa using hk
        rw [h.1,this]
        exact List.mem_cons_self
    · exact List.mem_cons_of_mem _ (cellsFrom_mem h)
theorem lookup_app {a b:List (Str × Addr)} {x:Str}:(a ++ b).lookup x = (a.lookup x).or (b.lookup x):=by
  induction a with
  | nil=>simp
  | cons y a ih =>
    obtain ⟨n,c⟩:=y
    rw [List.cons_append,List.lookup_cons,List.lookup_cons]
    cases x == n <;> simp [ih]
theorem newEnv_comp {M:Model} {A:Around} {E:Value -> Shared -> Prop} {s:Shared} {scope:Scope} {globals:Addr} {cl:List (Str × Addr)} {qual:Str} {o:Env} {Q:Env -> Shared -> Prop}
    (hQ:Q { scope,locals:=s.heap.objs.size,globals,cells:=cellsFrom (s.heap.objs.size + 1) scope.names cl,qual,func:=none,code:=o.code,frame:=o.frame,builtins:=o.builtins } { s with heap:=pushCells (s.heap.push { cls:=.type "dict", data:=.dict #[] }) scope.names }) :
    wpAny M A (newFunctionEnv scope globals cl [] qual none .none (some o)) Q E s:=by
  simp only [newFunctionEnv,Option.isSome_some,if_true]
  refine wpAny_bind (wpAny_alloc ?_)
  refine wpAny_bind (wpAny_layCells _ (fun name kind cells=>by cases hkc:kind == NameKind.cell <;> simp [hkc]) _ _ _ _ ?_)
  rw [show ({ s with heap:=s.heap.push { cls:=.type "dict", data:=.dict #[] } }:Shared).heap.objs.size = s.heap.objs.size + 1 from Heap.size_push ..]
  exact wpAny_bind (wpAny_pure (wpAny_pure hQ))
noncomputable def compCx (X:Cx) (N':List Str) (scope:Scope) (cl:List (Str × Addr)) (fp:List Addr) (pn:List (Addr × Obj)) (s:Shared) (H:Hp):Cx :=
  { X with N:=N',s₀:=s,H₀:=H,env:={ compEnvC scope cl s.heap.objs.size X.env with cells:=cellsFrom (s.heap.objs.size + 1) scope.names cl },outer:=X.stack,ex:=fp,fn:=fun x=>scope.names.lookup x == some .cell,pn:=pn,xe:=fun _ _=>False }
abbrev testsOf (ifs:List Expr) (env:Env):Sem Bool:=forIn ifs true fun c r=>if r = true then do let ok <- isTrue c env (eval c env); pure (ForInStep.yield ok) else pure (ForInStep.yield r)
noncomputable def PTs (X:Cx) (ifs:List Expr) (t:TT):Prop :=
  ∀ (pins:List (Addr × Obj)) (s:Shared) (σ:St) (H:Hp) (Q:Bool -> Hp -> Prop),Inv X pins σ H s -> t σ H Q -> wpAny (model X.prog X.w) X.A (testsOf ifs X.env) (TP X pins σ Q) X.xe s
theorem pts_nil {X:Cx}:PTs X [] (fun _ H Q=>Q true H):=fun _ _ _ H _ I h=>wpAny_tests_nil ⟨H,I,h⟩
theorem comp_loop {prog:Program} {w:World} {A:Around} {R:Result -> Shared -> Prop} {s:Shared} {elt target iter:Expr} {ifs:List Expr} {scope:Scope} {pos:Pos} {it acc:Value} {env:Env} (I:Nat -> Shared -> Prop)
    (turn:∀ n s,I n s -> wpAny (model prog w) A (pyNext it) (fun r s₁=>(r = none /\ R (.ok .next) s₁) \/ ∃ v,r = some v /\
      wpAny (model prog w) A (letOwnedTupleGo target it v) (fun _ s₂=>wpAny (model prog w) A (assign target env v) (fun _ s₃=>wpAny (model prog w) A (testsOf ifs env) (fun ok s₄ =>
        if ok = true then wpAny (model prog w) A (eval elt env) (fun x s₅=>wpAny (model prog w) A (call (.builtin "list.append") [acc,x]) (fun _ s₆=>∃ m,m < n /\ I m s₆) (fun _ _=>False) s₅) (fun _ _=>False) s₄
        else ∃ m,m < n /\ I m s₄) (fun _ _=>False) s₃) (fun _ _=>False) s₂) (fun _ _=>False) s₁) (fun _ _=>False) s)
    (n:Nat) (h:I n s):codeAny (model prog w) A (.compLoop (.ListComp elt [⟨target,iter,ifs,0⟩] scope pos) 0 it acc env) R s:=by
  refine codeAny_loop rfl I (fun n s hI=>?_) n h
  show wpAny _ A ((compTurn (.ListComp elt [⟨target,iter,ifs,0⟩] scope pos) 0 it acc env).onRaise (fun x=>do noteFrame x env; theTreesLotGoes x)) _ _ s
  refine wpAny_noted ?_
  rw [compTurn_list]
  refine wpAny_bind (wpAny_standAt (wpAny_bind (wpAny_mono (turn n s hI) (fun r s₁ h₁=>?_) fun _ _ h'=>h'.elim)))
  rcases h₁ with ⟨rfl,h₁⟩ | ⟨v,rfl,h₁⟩
  · exact wpAny_pure h₁
  · refine wpAny_bind (wpAny_mono h₁ (fun _ s₂ h₂=>wpAny_bind (wpAny_mono h₂ (fun _ s₃ h₃=>wpAny_bind (wpAny_mono h₃ (fun ok s₄ h₄=>?_) fun _ _ z=>z.elim)) fun _ _ z=>z.elim)) fun _ _ z=>z.elim)
    cases ok with
    | false=>exact wpAny_pure ⟨rfl,h₄⟩
    | true=>exact wpAny_bind (wpAny_bind (wpAny_mono h₄ (fun x s₅ h₅=>wpAny_bind (wpAny_mono h₅ (fun _ s₆ h₆=>wpAny_pure (wpAny_pure ⟨rfl,h₆⟩)) fun _ _ z=>z.elim)) fun _ _ z=>z.elim))

noncomputable def frIn (fr:List (Option Nat)) (σ:St):St:=fr.map fun o=>o.bind fun j=>(σ[j]?).join
noncomputable def frOk (fr:List (Option Nat)) (N' N:List Str) (sc scX:Scope):Bool :=
  decide (fr.length = N'.length) && (List.range fr.length).all fun i=>match fr[i]? with
    | some (some j)=>match N'[i]? with
      | some x=>decide (N[j]? = some x) && decide (sc.names.lookup x = some .free) && (decide (scX.names.lookup x = some .cell) || decide (scX.names.lookup x = some .free))
      | none=>false
    | _=>true
noncomputable def scOk (sc scX:Scope):Bool :=
  decide (sc.kind = .function) && sc.names.all fun y=>(decide (y.2 ≠ .cell) || decide (sc.names.lookup y.1 = some .cell)) && (decide (y.2 ≠ .local) || decide (sc.names.lookup y.1 = some .local)) &&
    (decide (y.2 ≠ .free) || (decide (scX.names.lookup y.1 = some .cell) || decide (scX.names.lookup y.1 = some .free)))
theorem frOk.get {fr:List (Option Nat)} {N' N:List Str} {sc scX:Scope} (h:frOk fr N' N sc scX = true):fr.length = N'.length /\ ∀ (i j:Nat),fr[i]? = some (some j) -> ∃ x,N'[i]? = some x /\ N[j]? = some x /\ sc.names.lookup x = some .free /\ (scX.names.lookup x = some .cell \/ scX.names.lookup x = some .free):=by
  unfold frOk at h
  obtain ⟨h1,h2⟩:=Bool.and_eq_true_iff.mp h
  refine ⟨of_decide_eq_true h1,fun i j e=>?_⟩
  have hi:i < fr.length:=(List.getElem?_eq_some_iff.mp e).1
  have q:=List.all_eq_true.mp h2 i (List.mem_range.mpr hi)
  rw [e] at q
  dsimp only at q
  cases en:N'[i]? with
  | none=>rw [en] at q; cases q
  | some x =>
    rw [en] at q
    dsimp only at q
    obtain ⟨q1,q2⟩:=Bool.and_eq_true_iff.mp q
    obtain ⟨q3,q4⟩:=Bool.and_eq_true_iff.mp q1
    exact ⟨x,rfl,of_decide_eq_true q3,of_decide_eq_true q4,(Bool.or_eq_true_iff.mp q2).imp of_decide_eq_true of_decide_eq_true⟩
theorem lookup_mem {x:Str} {k:NameKind}:∀ {names:List (Str × NameKind)},names.lookup x = some k -> (x,k) ∈ names:=fun h=>PySem.mem_of_lookup h

structure CompA where
  cl:List (Str × Addr)
  fp:List Addr
  pn:List (Addr × Obj)
  s:Shared
  H:Hp
abbrev blk (X:Cx) (N':List Str) (scope:Scope) (y:CompA):Cx:=compCx X N' scope y.cl y.fp y.pn y.s y.H
noncomputable def tComp (wi:TI) (fr:List (Option Nat)) (g:CompA -> TG) (tt:CompA -> TT) (te:CompA -> TE):TE:=fun σ H Q=>wi σ H fun J H1=>∀ D,H1 D = none -> ∃ Wv:Nat -> Nat -> List V -> St -> Hp -> Prop,(∃ m,Wv 0 m [] (frIn fr σ) (upd H1 D (.lst []))) /\
  ∀ (z:CompA) i m acc σc H,Wv i m acc σc H -> (J.stop i H /\ Q (.ref D) H) \/ (J.go i H /\ ∀ x H',J.yld i H x H' -> g z x σc H' fun σ2 H2=>tt z σ2 H2 fun b H3 =>
    if b = true then te z σ2 H3 fun y H4=>H4 D = some (.lst acc) /\ acc.length < sizeLine /\ ∃ m',m' < m /\ Wv (i + 1) m' (acc ++ [y]) σ2 (upd H4 D (.lst (acc ++ [y]))) else ∃ m',m' < m /\ Wv (i + 1) m' acc σ2 H3)
theorem relabel_free {env:Env}:∀ {names:List (Str × NameKind)} {x:Str},names.lookup x = some .free ->
    (names.map fun (n,k)=>if (k == NameKind.free && env.scope.kind == .function && env.kindOf n == some .cell) then (n,NameKind.cell) else (n,k)).lookup x = some .cell \/
    (names.map fun (n,k)=>if (k == NameKind.free && env.scope.kind == .function && env.kindOf n == some .cell) then (n,NameKind.cell) else (n,k)).lookup x = some .free
  | [],_,h=>by simp at h
  | (n,k) :: r,x,h=>by
    have ih:=@relabel_free env r x
    rw [List.map_cons]
    dsimp only
    cases hx:x == n with
    | true =>
      simp only [List.lookup_cons,hx] at h
      cases h
      by_cases hc:((NameKind.free == NameKind.free) && env.scope.kind == .function && env.kindOf n == some .cell) = true
      · rw [if_pos hc]; simp [List.lookup_cons,hx]
      · rw [if_neg hc]; simp [List.lookup_cons,hx]
    | false =>
      simp only [List.lookup_cons,hx] at h
      by_cases hc:(k == NameKind.free && env.scope.kind == .function && env.kindOf n == some .cell) = true
      · rw [if_pos hc]; simp only [List.lookup_cons,hx]; exact ih h
      · rw [if_neg hc]; simp only [List.lookup_cons,hx]; exact ih h
theorem comp_blockG {X:Cx} {ex tg:Expr} {scope:Scope} {pins:List (Addr × Obj)} {σ:St} {H3:Hp} {s3:Shared} {it D:Addr} {fp:List Addr} {tn:Nat -> Heap -> Prop} {J:It} {Q:VK}
    {cl:List (Str × Addr)} (N':List Str) (fr:List (Option Nat)) (hc:X.calm = true) (hkind:scope.kind = .function) (hcell:∀ y ∈ scope.names,y.2 = .cell -> scope.names.lookup y.1 = some .cell)
    (hfree:∀ y ∈ scope.names,y.2 = .free -> X.env.kindOf y.1 = some .cell \/ X.env.kindOf y.1 = some .free) (frl:fr.length = N'.length)
    (frg:∀ (i j:Nat),fr[i]? = some (some j) -> ∃ x,N'[i]? = some x /\ X.N[j]? = some x /\ scope.names.lookup x = some .free /\ (X.env.scope.names.lookup x = some .cell \/ X.env.scope.names.lookup x = some .free))
    (cl1:∀ x c,cl.lookup x = some c -> X.env.cells.lookup x = some c) (cl2:∀ x,(x,NameKind.free) ∈ scope.names -> (cl.lookup x).isSome = true)
    (I3:Inv X pins σ H3 s3) (T:Turn X.prog X.w X.K tg J fp it tn) (tn3:tn 0 s3.heap) (fpD:∀ b ∈ fp,H3 b = none) (fp3:∀ b ∈ fp,b < s3.heap.objs.size)
    (fpk:∀ b ∈ fp,b ≠ X.env.locals /\ b ∉ X.fs /\ (b ∈ X.ex \/ X.s₀.heap.objs.size <= b) /\ (∀ x c,X.env.cells.lookup x = some c -> c ≠ b) /\ ∀ p ∈ X.pn ++ pins,p.1 ≠ b)
    (loop:∀ s',Inv (compCx X N' scope cl fp (X.pn ++ pins) s3 H3) [] (frIn fr σ) H3 s' -> tn 0 s'.heap -> (∀ {H':Hp},(∀ b ∈ fp,H' b = none) -> ∀ b ∈ fp,FpOk (compCx X N' scope cl fp (X.pn ++ pins) s3 H3) [] H' b) ->
      codeAny (model X.prog X.w) X.A (.compStart ex 0 (.ref it) (.ref D) (compCx X N' scope cl fp (X.pn ++ pins) s3 H3).env) (fun r s5=>r = .ok .next /\ ∃ σ5 H4,Inv (compCx X N' scope cl fp (X.pn ++ pins) s3 H3) [] σ5 H4 s5 /\ Q (.ref D) H4) s')
    {Rp:Addr -> Result -> Shared -> Prop} (fin:∀ s5 H4 m,s5.heap.Ns s3.heap.objs.size m -> (∀ h',Heap.SameBut s3.heap.objs.size s5.heap h' -> Inv X pins σ H4 { s5 with heap:=h' }) -> FpOk X pins H4 s3.heap.objs.size -> Q (.ref D) H4 -> Rp s3.heap.objs.size (.ok .next) s5) :
    wpAny (model X.prog X.w) X.A (newFunctionEnv scope X.env.globals cl [] X.env.qual none .none (some X.env)) (fun cenv s₄ =>
      codeAny (model X.prog X.w) X.A (.compStart ex 0 (.ref it) (.ref D) { cenv with scope:=relabel scope X.env })
        (Rp cenv.locals) s₄) X.xe s3:=by
  refine newEnv_comp ?_
  have ok:=cellsFrom_ok scope.names (s3.heap.push { cls:=.type "dict", data:=.dict #[] }) (s3.heap.objs.size + 1) [] ⟨fun _ _ hm=>(nomatch hm),List.Pairwise.nil⟩ (by rw [Heap.size_push]; exact Nat.le_refl _)
  rw [Heap.size_push] at ok
  have kp:∀ b o,s3.heap.get? b = some o -> (pushCells (s3.heap.push { cls:=.type "dict", data:=.dict #[] }) scope.names).get? b = some o:=fun b o e=>pushCells_keeps _ _ b o (Heap.get?_push_of_some _ e)
  have hns₁:(pushCells (s3.heap.push { cls:=.type "dict", data:=.dict #[] }) scope.names).Ns s3.heap.objs.size (fun _=>none):=(Heap.Ns.new s3.heap (.type "dict")).keeps (pushCells_keeps _ _)
  generalize pushCells (s3.heap.push { cls:=.type "dict", data:=.dict #[] }) scope.names = h₁ at ok kp hns₁ ⊢
  have cs:∀ x c,(cellsFrom (s3.heap.objs.size + 1) scope.names cl).lookup x = some c -> (cellsFrom (s3.heap.objs.size + 1) scope.names []).lookup x = some c \/ cl.lookup x = some c:=fun x c e=>by
    rw [cellsFrom_app,lookup_app] at e
    cases q:(cellsFrom (s3.heap.objs.size + 1) scope.names []).lookup x with
    | none=>rw [q] at e; exact .inr (by simpa using e)
    | some c'=>rw [q] at e; exact .inl (by simpa using e)
  have own:∀ x c,(cellsFrom (s3.heap.objs.size + 1) scope.names []).lookup x = some c -> h₁.IsCell c none /\ s3.heap.objs.size + 1 <= c:=fun x c e=>ok.empty x c (PySem.mem_of_lookup e)
  have clt:∀ x c,cl.lookup x = some c -> c < s3.heap.objs.size:=fun x c e=>by
    obtain ⟨v,o,ho,_⟩:=I3.cell x c (cl1 x c e)
    exact Heap.lt_size ho
  have frn:∀ x,scope.names.lookup x = some .free -> (cellsFrom (s3.heap.objs.size + 1) scope.names []).lookup x = none:=fun x e=>by
    cases q:(cellsFrom (s3.heap.objs.size + 1) scope.names []).lookup x with
    | none=>rfl
    | some c =>
      have:=hcell (x,.cell) (cellsFrom_mem (PySem.mem_of_lookup q)) rfl
      rw [e] at this
      cases this
  have notC:∀ b o,s3.heap.get? b = some o -> b ≠ s3.heap.objs.size:=fun b o e=>Nat.ne_of_lt (Heap.lt_size e)
  have fpstk:∀ b ∈ fp,b ∉ frs X.stack:=fun b hb z=>(List.mem_cons.mp (I3.stkSub b z)).elim (fpk b hb).1 (fpk b hb).2.1
  have cellK:∀ c v,s3.heap.IsCell c v -> h₁.IsCell c v:=fun c v ⟨o,ho,hd⟩=>⟨o,kp c o ho,hd⟩
  have IY:Inv (compCx X N' scope cl fp (X.pn ++ pins) s3 H3) [] (frIn fr σ) H3 { s3 with heap:=h₁ }:=by
    refine ⟨⟨I3.ok.mod,hkind,I3.ok.glob,I3.ok.blt,Nat.le_refl _,fun x y c e1 e2=>?_,fun x hx=>?_,fun x c _ e=>?_,I3.ok.hd,I3.ok.frames,.inl rfl,
      fun b hb=>⟨Nat.ne_of_lt (fp3 b hb),fun x c e=>?_⟩,I3.bs,Nat.le_trans I3.ok.bsz I3.sz,fun b o e hb=>?_,fun b hb=>fpstk b hb,I3.stack,I3.stkFree⟩,
      rfl,I3.bare,Un.kept kp,⟨_,hns₁,fun i x v e1 e2 e3=>?_⟩,fun x c e=>?_,I3.hok.fresh (Nat.le_refl _),fun x c e=>?_,fun p hp=>?_,I3.hok.kept kp,?_⟩
    · rcases cs x c e1 with q1 | q1 <;> rcases cs y c e2 with q2 | q2
      · exact name_of_addr ok.apart (PySem.mem_of_lookup q1) (PySem.mem_of_lookup q2)
      · exact absurd (Nat.lt_of_lt_of_le (clt y c q2) (Nat.le_of_succ_le (own x c q1).2)) (Nat.lt_irrefl _)
      · exact absurd (Nat.lt_of_lt_of_le (clt x c q1) (Nat.le_of_succ_le (own y c q2).2)) (Nat.lt_irrefl _)
      · exact I3.ok.inj x y c (cl1 x c q1) (cl1 y c q2)
    · refine Option.isSome_iff_exists.mp ?_
      show ((cellsFrom (s3.heap.objs.size + 1) scope.names cl).lookup x).isSome = true
      rcases relabel_back hx with q | q
      · exact W.cellsFrom_some _ _ _ (.inr (cl2 x q))
      · exact W.cellsFrom_some _ _ _ (.inl (hcell _ q rfl))
    · rename_i hfn
      rcases cs x c e with q | q
      · have:=(own x c q).2
        show s3.heap.objs.size <= c
        omega
      · have hfn:(scope.names.lookup x == some NameKind.cell) = true:=hfn
        have hl:scope.names.lookup x = some .cell:=by simpa using hfn
        obtain ⟨c',ec'⟩:=Option.isSome_iff_exists.mp (W.cellsFrom_some scope.names (s3.heap.objs.size + 1) [] (.inl hl))
        have e':(cellsFrom (s3.heap.objs.size + 1) scope.names cl).lookup x = some c:=e
        rw [cellsFrom_app,lookup_app,ec'] at e'
        simp at e'
        subst e'
        exact Nat.le_of_succ_le (own x c' ec').2
    · rcases cs x c e with q | q
      · exact fun z=>absurd (Nat.lt_of_lt_of_le (fp3 b hb) (Nat.le_of_succ_le (by rw [<- z]; exact (own x c q).2))) (Nat.lt_irrefl _)
      · exact (fpk b hb).2.2.2.1 x c (cl1 x c q)
    · rcases (fpk b hb).2.2.1 with z | z
      · exact I3.ok.noex b o e z
      · exact absurd (Nat.lt_of_lt_of_le (Heap.lt_size e) (Nat.le_trans I3.ok.bsz z)) (Nat.lt_irrefl _)
    · have e2':(fr[i]?).map (fun o=>o.bind fun j=>(σ[j]?).join) = some (some v):=by unfold frIn at e2; rw [List.getElem?_map] at e2; exact e2
      cases ef:fr[i]? with
      | none=>rw [ef] at e2'; cases e2'
      | some o =>
        cases o with
        | none=>rw [ef] at e2'; cases e2'
        | some j =>
          rw [ef] at e2'
          have e3':(σ[j]?).join = some v:=Option.some.inj e2'
          have e4 : σ[j]? = some (some v):=by
            cases q : σ[j]? with
            | none=>rw [q] at e3'; cases e3'
            | some z=>rw [q] at e3'; cases e3'; rfl
          obtain ⟨x',n1,n2,n3,n4⟩:=frg i j ef
          have ex:x' = x:=Option.some.inj (n1.symm.trans e1)
          subst ex
          obtain ⟨m,hn,hl⟩:=I3.loc
          obtain ⟨u,ru,lk⟩:=hl j x' v n2 e4 (n4.elim (fun z=>.inr (.inl z)) fun z=>.inr (.inr z))
          refine ⟨u,ru,?_⟩
          rcases lk with ⟨kl,_⟩ | ⟨_,c,ec,hcl⟩
          · exact absurd (show X.env.scope.names.lookup x' = some .local from kl) (by rcases n4 with z | z <;> rw [z] <;> decide)
          · obtain ⟨c',ec'⟩:=Option.isSome_iff_exists.mp (cl2 x' (lookup_mem n3))
            have:=cl1 x' c' ec'
            rw [ec] at this
            cases this
            refine .inr ⟨relabel_free n3,c,?_,cellK _ _ hcl⟩
            show (cellsFrom (s3.heap.objs.size + 1) scope.names cl).lookup x' = some c
            rw [cellsFrom_app,lookup_app,frn x' n3]
            simpa using ec'
    · rcases cs x c e with q | q
      · exact ⟨_,(own x c q).1⟩
      · obtain ⟨v,z⟩:=I3.cell x c (cl1 x c q)
        exact ⟨v,cellK _ _ z⟩
    · rcases cs x c e with q | q
      · exact I3.hok.fresh (by have:=(own x c q).2; omega)
      · exact I3.freeC x c (cl1 x c q)
    · rw [List.append_nil] at hp
      obtain ⟨e,n,ne,nf,d⟩:=I3.pin p hp
      exact ⟨kp _ _ e,n,notC _ _ e,fun z=>(List.mem_cons.mp (I3.stkSub p.1 z)).elim ne nf,d⟩
    · unfold frIn
      rw [List.length_map]
      exact frl
  have stat:∀ {H':Hp},(∀ b ∈ fp,H' b = none) -> ∀ b ∈ fp,FpOk (compCx X N' scope cl fp (X.pn ++ pins) s3 H3) [] H' b:=fun hn b hb =>
    ⟨hn b hb,Nat.ne_of_lt (fp3 b hb),fpstk b hb,.inl hb,fun x c e=>(by
      rcases cs x c e with q | q
      · exact fun z=>absurd (Nat.lt_of_lt_of_le (fp3 b hb) (Nat.le_of_succ_le (by rw [<- z]; exact (own x c q).2))) (Nat.lt_irrefl _)
      · exact (fpk b hb).2.2.2.1 x c (cl1 x c q)),fun p hp=>by rw [List.append_nil] at hp; exact (fpk b hb).2.2.2.2 p hp⟩
  refine codeAny_mono (loop _ IY (T.keep _ _ _ tn3 fun b _ o e=>kp b o e) stat) fun r s5 ⟨hr,σ5,H4,I5,qn⟩=>?_
  subst hr
  obtain ⟨m,hn,_⟩:=I5.loc
  refine fin s5 H4 m hn (fun h' hs'=>?_) (I3.fpOk (Nat.le_refl _) I5.free) qn
  have k':∀ b o,b ≠ s3.heap.objs.size -> s5.heap.get? b = some o -> h'.get? b = some o:=fun b o nb e=>hs'.extBut b o nb e
  have u5:Un (frs X.stack) fp H3 H4 s3.heap s5.heap:=I5.base
  have un:Un (frs X.stack) fp H3 H4 s3.heap h' :=
    ⟨fun b o e n hb hx=>k' b o (notC b o e) (u5.keep b o e n hb hx),fun b o e n hb hx=>by obtain ⟨sl,q⟩:=u5.slot b o e n hb hx; exact ⟨sl,k' b _ (notC b o e) q⟩,u5.free,
      fun b o e hx=>by obtain ⟨o',q⟩:=u5.there b o e hx; exact ⟨o',k' b _ (notC b o e) q⟩,u5.tups,u5.frzs,u5.tbls⟩
  have nC:H4 s3.heap.objs.size = none:=I5.free
  have hok':HOk X.prog X.w H4 h':=fun b u e=>(I5.hok b u e).stay (fun c v hcv q=>k' c v (by
    rintro rfl
    rcases hcv with z | z
    · rw [<- z] at e; rw [nC] at e; cases e
    · rw [nC] at z; cases z) q) (fun _ q=>q) fun _ _ q=>q
  obtain ⟨hh,g5,d5,t5,os5⟩:=s5
  have os':os5 = s3.os:=I5.os
  subst os'
  have I':=Inv.call (s:=s3) (h':=h') (g':=g5) (d':=d5) (t':=t5) (ch:=fp) I3 un hok' I5.bare (fun b hb=>⟨(fpk b hb).2.2.1,(fpk b hb).1,(fpk b hb).2.2.2.1,(fpk b hb).2.2.2.2⟩)
  exact I'
theorem comp_block {X:Cx} {elt tg iter:Expr} {ifs:List Expr} {scope:Scope} {pos:Pos} {g:TG} {tt:TT} {te:TE} {pins:List (Addr × Obj)} {σ:St} {H3:Hp} {s3:Shared} {it D:Addr} {fp:List Addr} {tn:Nat -> Heap -> Prop} {J:It} {Q:VK}
    {cl:List (Str × Addr)} (N':List Str) (fr:List (Option Nat)) (hc:X.calm = true) (hkind:scope.kind = .function) (hcell:∀ y ∈ scope.names,y.2 = .cell -> scope.names.lookup y.1 = some .cell)
    (hfree:∀ y ∈ scope.names,y.2 = .free -> X.env.kindOf y.1 = some .cell \/ X.env.kindOf y.1 = some .free) (frl:fr.length = N'.length)
    (frg:∀ (i j:Nat),fr[i]? = some (some j) -> ∃ x,N'[i]? = some x /\ X.N[j]? = some x /\ scope.names.lookup x = some .free /\ (X.env.scope.names.lookup x = some .cell \/ X.env.scope.names.lookup x = some .free))
    (cl1:∀ x c,cl.lookup x = some c -> X.env.cells.lookup x = some c) (cl2:∀ x,(x,NameKind.free) ∈ scope.names -> (cl.lookup x).isSome = true)
    (I3:Inv X pins σ H3 s3) (T:Turn X.prog X.w X.K tg J fp it tn) (tn3:tn 0 s3.heap) (fpD:∀ b ∈ fp,H3 b = none) (fp3:∀ b ∈ fp,b < s3.heap.objs.size)
    (fpk:∀ b ∈ fp,b ≠ X.env.locals /\ b ∉ X.fs /\ (b ∈ X.ex \/ X.s₀.heap.objs.size <= b) /\ (∀ x c,X.env.cells.lookup x = some c -> c ≠ b) /\ ∀ p ∈ X.pn ++ pins,p.1 ≠ b)
    (hg:PG (compCx X N' scope cl fp (X.pn ++ pins) s3 H3) tg g) (ht:PTs (compCx X N' scope cl fp (X.pn ++ pins) s3 H3) ifs tt) (he:PE (compCx X N' scope cl fp (X.pn ++ pins) s3 H3) elt te)
    {Wv:Nat -> Nat -> List V -> St -> Hp -> Prop} {m0:Nat} (w0:Wv 0 m0 [] (frIn fr σ) H3)
    (turn:∀ i m acc σc H,Wv i m acc σc H -> (J.stop i H /\ Q (.ref D) H) \/ (J.go i H /\ ∀ x H',J.yld i H x H' -> g x σc H' fun σ2 H2=>tt σ2 H2 fun b H3 =>
      if b = true then te σ2 H3 fun y H4=>H4 D = some (.lst acc) /\ acc.length < sizeLine /\ ∃ m',m' < m /\ Wv (i + 1) m' (acc ++ [y]) σ2 (upd H4 D (.lst (acc ++ [y]))) else ∃ m',m' < m /\ Wv (i + 1) m' acc σ2 H3))
    {Rp:Addr -> Result -> Shared -> Prop} (fin:∀ s5 H4 m,s5.heap.Ns s3.heap.objs.size m -> (∀ h',Heap.SameBut s3.heap.objs.size s5.heap h' -> Inv X pins σ H4 { s5 with heap:=h' }) -> FpOk X pins H4 s3.heap.objs.size -> Q (.ref D) H4 -> Rp s3.heap.objs.size (.ok .next) s5) :
    wpAny (model X.prog X.w) X.A (newFunctionEnv scope X.env.globals cl [] X.env.qual none .none (some X.env)) (fun cenv s₄ =>
      codeAny (model X.prog X.w) X.A (.compStart (.ListComp elt [⟨tg,iter,ifs,0⟩] scope pos) 0 (.ref it) (.ref D) { cenv with scope:=relabel scope X.env })
        (Rp cenv.locals) s₄) X.xe s3:=by
  refine comp_blockG N' fr hc hkind hcell hfree frl frg cl1 cl2 I3 T tn3 fpD fp3 fpk (fun s' IY tY stat=>?_) fin
  have loop:codeAny (model X.prog X.w) X.A (.compLoop (.ListComp elt [⟨tg,iter,ifs,0⟩] scope pos) 0 (.ref it) (.ref D) (compCx X N' scope cl fp (X.pn ++ pins) s3 H3).env)
      (fun r s5=>r = .ok .next /\ ∃ σ5 H4,Inv (compCx X N' scope cl fp (X.pn ++ pins) s3 H3) [] σ5 H4 s5 /\ Q (.ref D) H4) s':=by
    refine comp_loop (fun n s'=>∃ i acc σ' H',Inv (compCx X N' scope cl fp (X.pn ++ pins) s3 H3) [] σ' H' s' /\ tn i s'.heap /\ (∀ b ∈ fp,H' b = none) /\ Wv i n acc σ' H') ?_ m0
      ⟨0,[],_,_,IY,tY,fpD,w0⟩
    rintro n s4 ⟨i,acc,σ4,H4,I4,st4,fr4,w4⟩
    rcases turn i n acc σ4 H4 w4 with ⟨stop,qn⟩ | ⟨go,step⟩
    · exact thn (T.done (compCx X N' scope cl fp (X.pn ++ pins) s3 H3) rfl rfl rfl hc i [] s4 σ4 H4 (fun _ _=>False) I4 (stat fr4) st4 stop) fun r s5 ⟨hr,I5⟩=>.inl ⟨hr,rfl,σ4,H4,I5,qn⟩
    · refine thn (T.item (compCx X N' scope cl fp (X.pn ++ pins) s3 H3) rfl rfl rfl hc i [] s4 σ4 H4 (fun _ _=>False) I4 (stat fr4) st4 go) fun r s5 ⟨u,hr,h5⟩=>.inr ⟨u,hr,?_⟩
      refine thn h5 fun _ s6 ⟨x,H6,I6,r6,y6,st6,fr6⟩=>?_
      have I6':=I6.pinned (stat fr6) (T.obj _ _ st6)
      have again:∀ {σ7:St} {H7:Hp} {s7:Shared},Inv (compCx X N' scope cl fp (X.pn ++ pins) s3 H3) ([] ++ pinsAt fp s6.heap) σ7 H7 s7 -> ∀ {acc':List V} {m':Nat},m' < n -> Wv (i + 1) m' acc' σ7 H7 ->
          ∃ m,m < n /\ ∃ i acc σ' H',Inv (compCx X N' scope cl fp (X.pn ++ pins) s3 H3) [] σ' H' s7 /\ tn i s7.heap /\ (∀ b ∈ fp,H' b = none) /\ Wv i m acc σ' H':=fun {σ7 H7 s7} I7 {acc' m'} hm w7=>by
        refine ⟨m',hm,i + 1,acc',σ7,H7,I7.unpinned,T.keep _ _ _ st6 fun b hb o e=>(I7.pin (b,o) (List.mem_append_right _ (List.mem_append_right _ (mem_pinsAt hb e)))).1,fun b hb=>?_,w7⟩
        obtain ⟨o,e,d⟩:=T.obj _ _ st6 b hb
        exact (I7.pin (b,o) (List.mem_append_right _ (List.mem_append_right _ (mem_pinsAt hb e)))).2.1
      refine thn (hg _ s6 σ4 H6 x u _ I6' r6 (step x H6 y6)) fun _ s7 ⟨σ7,H7,I7,q7⟩=>?_
      refine thn (ht _ s7 σ7 H7 _ I7 q7) fun ok s8 ⟨H8,I8,q8⟩=>?_
      cases ok with
      | false =>
        rw [if_neg Bool.false_ne_true] at q8 ⊢
        obtain ⟨m',hm,w8⟩:=q8
        exact again I8 hm w8
      | true =>
        rw [if_pos rfl] at q8 ⊢
        refine thn (he _ s8 σ7 H8 _ I8 q8) fun y s9 ⟨yv,H9,I9,r9,eD,hl,m',hm,w9⟩=>?_
        exact thn (mt_append (X:=compCx X N' scope cl fp (X.pn ++ pins) s3 H3) _ s9 σ7 H9 (.ref D) [yv] (.ref D) [y] (fun _ H'=>H' = upd H9 D (.lst (acc ++ [yv]))) I9 rfl (.cons r9 .nil) ⟨D,acc,yv,rfl,rfl,eD,hl,rfl⟩)
          fun _ s10 ⟨_,H10,I10,_,e10⟩=>by subst e10; exact again I10 hm w9
  exact codeAny_compStart_list loop (T.self X.A 0 _ _ _ tY loop)
section
variable {X:Cx} {elt tg iter:Expr} {ifs:List Expr} {scope:Scope} {pos:Pos} {wi:TI} {g:CompA -> TG} {tt:CompA -> TT} {te:CompA -> TE}
theorem pe_lcomp (N':List Str) (fr:List (Option Nat)) (hc:X.calm = true) (hi:PI X tg iter wi) (hfr:frOk fr N' X.N scope X.env.scope = true) (hsc:scOk scope X.env.scope = true)
    (hg:∀ y,PG (blk X N' scope y) tg (g y)) (ht:∀ y,PTs (blk X N' scope y) ifs (tt y)) (he:∀ y,PE (blk X N' scope y) elt (te y))
    (hs:∀ x,foldedSetIterable iter X.env x = pure x:=by intro _; rfl):PE X (.ListComp elt [⟨tg,iter,ifs,0⟩] scope pos) (tComp wi fr g tt te):=by
  intro pins s σ H Q I h
  obtain ⟨sk,sn⟩:=Bool.and_eq_true_iff.mp hsc
  have hkind:scope.kind = .function:=of_decide_eq_true sk
  have hall:=List.all_eq_true.mp sn
  have hcell:∀ y ∈ scope.names,y.2 = .cell -> scope.names.lookup y.1 = some .cell:=fun y hy hl=>by
    rcases Bool.or_eq_true_iff.mp (Bool.and_eq_true_iff.mp (Bool.and_eq_true_iff.mp (hall y hy)).1).1 with z | z
    · exact absurd hl (of_decide_eq_true z)
    · exact of_decide_eq_true z
  have hnames:∀ y ∈ scope.names,y.2 = .local -> scope.names.lookup y.1 = some .local:=fun y hy hl=>by
    rcases Bool.or_eq_true_iff.mp (Bool.and_eq_true_iff.mp (Bool.and_eq_true_iff.mp (hall y hy)).1).2 with z | z
    · exact absurd hl (of_decide_eq_true z)
    · exact of_decide_eq_true z
  have hfree:∀ y ∈ scope.names,y.2 = .free -> X.env.kindOf y.1 = some .cell \/ X.env.kindOf y.1 = some .free:=fun y hy hl=>by
    rcases Bool.or_eq_true_iff.mp (Bool.and_eq_true_iff.mp (hall y hy)).2 with z | z
    · exact absurd hl (of_decide_eq_true z)
    · exact (Bool.or_eq_true_iff.mp z).imp of_decide_eq_true of_decide_eq_true
  obtain ⟨frl,frg⟩:=frOk.get hfr
  obtain ⟨cl,hclos,cl1,cl2⟩:=closure_for (env:=X.env) (scope:=scope) fun y hy hl=>I.ok.has y.1 (hfree y hy hl)
  rw [eval_ListComp]
  refine wpAny_comprehension_free (use:=none) rfl hs hclos hkind hnames (thn (hi pins s σ H _ I h) fun v s1 h1=>thn h1 fun itv s2 h2=>?_)
  obtain ⟨it,fp,tn,J,H2,e,I2,T,st2,f2,q2⟩:=h2
  subst e
  refine wpAny_newObj_type ?_
  have hD:H2 s2.heap.objs.size = none:=I2.hok.fresh (Nat.le_refl _)
  have I3:Inv X pins σ (upd H2 s2.heap.objs.size (.lst [])) { s2 with heap:=s2.heap.push { cls:=.type "list", data:=.seq ([]:List Value).toArray } } :=
    I2.laid (t':=s2.toks) (fun b u e=>Heap.get?_push_of_some _ e) (Nat.le_refl _) ⟨by show 0 <= sizeLine; exact Nat.zero_le _,[],0,.nil,Heap.get?_push_size _ rfl⟩
  obtain ⟨Wv,⟨m0,w0⟩,turn⟩:=q2 _ hD
  have tn3:tn 0 (s2.heap.push { cls:=.type "list", data:=.seq ([]:List Value).toArray }):=T.keep _ _ _ st2 fun b _ o e=>Heap.get?_push_of_some _ e
  have fpD:∀ b ∈ fp,(upd H2 s2.heap.objs.size (.lst [])) b = none:=fun b hb=>by
    obtain ⟨o,e,_⟩:=T.obj _ _ st2 b hb
    rw [upd_ne (Nat.ne_of_lt (Heap.lt_size e))]
    exact (f2 b hb).1
  have fp3:∀ b ∈ fp,b < (s2.heap.push { cls:=.type "list", data:=.seq ([]:List Value).toArray }).objs.size:=fun b hb=>by
    obtain ⟨o,e,_⟩:=T.obj _ _ tn3 b hb
    exact Heap.lt_size e
  exact comp_block N' fr hc hkind hcell hfree frl frg cl1 cl2 I3 T tn3 fpD fp3 (fun b hb=>(f2 b hb).2) (hg ⟨cl,fp,X.pn ++ pins,_,_⟩) (ht ⟨cl,fp,X.pn ++ pins,_,_⟩) (he ⟨cl,fp,X.pn ++ pins,_,_⟩) w0 (turn ⟨cl,fp,X.pn ++ pins,_,_⟩)
    (Rp:=compPost (model X.prog X.w) X.A X.xe none (EP X pins σ Q) (.ref s2.heap.objs.size)) fun s5 H4 m hn k _ qn=>⟨m,hn,fun h' hs'=>⟨.ref _,H4,k h' hs',rfl,qn⟩⟩
theorem ps_setcomp {b:Bool} {x:Str} {px spos:Pos} {ix:Nat} (N':List Str) (fr:List (Option Nat)) (hc:X.calm = true) (hi:PI X tg iter wi) (hfr:frOk fr N' X.N scope X.env.scope = true) (hsc:scOk scope X.env.scope = true)
    (hg:∀ y,PG (blk X N' scope y) tg (g y)) (ht:∀ y,PTs (blk X N' scope y) ifs (tt y)) (he:∀ y,PE (blk X N' scope y) elt (te y)) (hN:X.N.Nodup) (hix:X.N[ix]? = some x) (hx:Loc X.env.scope x)
    (hf:X.fn x = true \/ X.env.scope.names.lookup x = some .local) (hsw:swapsWith (.ListComp elt [⟨tg,iter,ifs,0⟩] scope pos) (some (.Name x px)) spos.line X.env = pure b)
    (hs:∀ x,foldedSetIterable iter X.env x = pure x):PS X (.Assign [.Name x px] (.ListComp elt [⟨tg,iter,ifs,0⟩] scope pos) spos) (tAsg (tComp wi fr g tt te) (gName ix)):=by
  cases b with
  | false=>exact ps_set hN hix hx (pe_lcomp N' fr hc hi hfr hsc hg ht he hs) hsw hf
  | true =>
  intro pins s σ H DD I h
  obtain ⟨sk,sn⟩:=Bool.and_eq_true_iff.mp hsc
  have hkind:scope.kind = .function:=of_decide_eq_true sk
  have hall:=List.all_eq_true.mp sn
  have hcell:∀ y ∈ scope.names,y.2 = .cell -> scope.names.lookup y.1 = some .cell:=fun y hy hl=>by
    rcases Bool.or_eq_true_iff.mp (Bool.and_eq_true_iff.mp (Bool.and_eq_true_iff.mp (hall y hy)).1).1 with z | z
    · exact absurd hl (of_decide_eq_true z)
    · exact of_decide_eq_true z
  have hnames:∀ y ∈ scope.names,y.2 = .local -> scope.names.lookup y.1 = some .local:=fun y hy hl=>by
    rcases Bool.or_eq_true_iff.mp (Bool.and_eq_true_iff.mp (Bool.and_eq_true_iff.mp (hall y hy)).1).2 with z | z
    · exact absurd hl (of_decide_eq_true z)
    · exact of_decide_eq_true z
  have hfree:∀ y ∈ scope.names,y.2 = .free -> X.env.kindOf y.1 = some .cell \/ X.env.kindOf y.1 = some .free:=fun y hy hl=>by
    rcases Bool.or_eq_true_iff.mp (Bool.and_eq_true_iff.mp (hall y hy)).2 with z | z
    · exact absurd hl (of_decide_eq_true z)
    · exact (Bool.or_eq_true_iff.mp z).imp of_decide_eq_true of_decide_eq_true
  obtain ⟨frl,frg⟩:=frOk.get hfr
  obtain ⟨cl,hclos,cl1,cl2⟩:=closure_for (env:=X.env) (scope:=scope) fun y hy hl=>I.ok.has y.1 (hfree y hy hl)
  rw [exec_Assign_Name_used _ _ _ _ hsw]
  refine wpAny_bind (wpAny_standAt (wpAny_bind ?_))
  show wpAny _ X.A (do let _ <- comprehension (.ListComp elt [⟨tg,iter,ifs,0⟩] scope pos) scope X.env _ (newList []) false (eval iter X.env) (some (assign (.Name x px) X.env))) _ _ s
  refine wpAny_bind (wpAny_mono (wpAny_comprehension_free (use:=some (assign (.Name x px) X.env)) (Q:=fun _ s'=>SP X pins DD .next s') rfl hs hclos hkind hnames
    (thn (hi pins s σ H _ I h) fun v s1 h1=>thn h1 fun itv s2 h2=>?_)) (fun _ s' hq=>wpAny_pure (wpAny_pure hq)) fun _ _ e=>e)
  obtain ⟨it,fp,tn,J,H2,e,I2,T,st2,f2,q2⟩:=h2
  subst e
  refine wpAny_newObj_type ?_
  have hD:H2 s2.heap.objs.size = none:=I2.hok.fresh (Nat.le_refl _)
  have I3:Inv X pins σ (upd H2 s2.heap.objs.size (.lst [])) { s2 with heap:=s2.heap.push { cls:=.type "list", data:=.seq ([]:List Value).toArray } } :=
    I2.laid (t':=s2.toks) (fun b u e=>Heap.get?_push_of_some _ e) (Nat.le_refl _) ⟨by show 0 <= sizeLine; exact Nat.zero_le _,[],0,.nil,Heap.get?_push_size _ rfl⟩
  obtain ⟨Wv,⟨m0,w0⟩,turn⟩:=q2 _ hD
  have tn3:tn 0 (s2.heap.push { cls:=.type "list", data:=.seq ([]:List Value).toArray }):=T.keep _ _ _ st2 fun b _ o e=>Heap.get?_push_of_some _ e
  have fpD:∀ b ∈ fp,(upd H2 s2.heap.objs.size (.lst [])) b = none:=fun b hb=>by
    obtain ⟨o,e,_⟩:=T.obj _ _ st2 b hb
    rw [upd_ne (Nat.ne_of_lt (Heap.lt_size e))]
    exact (f2 b hb).1
  have fp3:∀ b ∈ fp,b < (s2.heap.push { cls:=.type "list", data:=.seq ([]:List Value).toArray }).objs.size:=fun b hb=>by
    obtain ⟨o,e,_⟩:=T.obj _ _ tn3 b hb
    exact Heap.lt_size e
  refine comp_block (Q:=fun v H1=>gName ix v σ H1 DD.nx) N' fr hc hkind hcell hfree frl frg cl1 cl2 I3 T tn3 fpD fp3 (fun b hb=>(f2 b hb).2) (hg ⟨cl,fp,X.pn ++ pins,_,_⟩) (ht ⟨cl,fp,X.pn ++ pins,_,_⟩) (he ⟨cl,fp,X.pn ++ pins,_,_⟩) w0 (turn ⟨cl,fp,X.pn ++ pins,_,_⟩)
    (Rp:=compPost (model X.prog X.w) X.A X.xe (some (assign (.Name x px) X.env)) (fun _ s'=>SP X pins DD .next s') (.ref s2.heap.objs.size)) fun s5 H4 m hn k fpo qn=>?_
  show wpAny _ X.A (assign (.Name x px) X.env (.ref s2.heap.objs.size)) _ _ s5
  have I5:Inv X pins σ H4 s5:=k s5.heap (Heap.SameBut.refl _ _)
  obtain ⟨f0,f1,f2',f3,f4,f5⟩:=fpo
  refine wpAny_assign_Name (store_ok2 I5 hN hix hx (v:=.ref s2.heap.objs.size) rfl (fun s6 I6 sb=>?_) hf)
  obtain ⟨a,sb,ha⟩:=sb
  have hne:(s2.heap.push { cls:=.type "list", data:=.seq ([]:List Value).toArray }).objs.size ≠ a:=by
    rcases ha with rfl | ha
    · exact f1
    · exact fun z=>f4 x a ha z.symm
  refine ⟨m,hn.at' fun o e=>sb.extBut _ o hne e,fun h' hs'=>?_⟩
  exact ⟨_,H4,I6.turned (t':=s6.toks) (fun b o hb e=>hs'.extBut b o hb e) f0 f1 f3 f4 f5,qn⟩
end
end L2

namespace L2.VL
open PySem PySem.Spec PyProof.Rows

noncomputable def W.cap:W -> Option W
  | .d x=>some (.d x)
  | .reel=>some .reel
  | .vv u=>some (.vv u)
  | .sc ns=>some (.sc ns)
  | .fd kvs=>some (.fd kvs)
  | .fw kvs=>some (.fw kvs)
  | .ft kvs=>some (.ft kvs)
  | .xc x fs=>some (.xc x fs)
  | .dp kvs x=>some (.dp kvs x)
  | _=>none
noncomputable def frEn (fr:List (Option Nat)) (ρ:En):En:=fr.map fun o=>o.bind fun j=>((ρ[j]?).join).bind W.cap
noncomputable def PTVs (X:Cx) (rl:RlT) (ifs:List Expr) (f:TB):Prop:=∃ t,PTs X ifs t /\ ∀ {F₀ H₀ F H:Hp} {σ:St} {ρ:En},VR X.K rl F₀ H₀ F H σ ρ -> ∀ (Qd:Bool -> Prop) (Q:Bool -> Hp -> Prop),f ρ Qd ->
  (∀ b F' H',Grow rl F H F' H' -> Qd b -> Q b H') -> t σ H Q
theorem vt_nil {X:Cx} {rl:RlT}:PTVs X rl [] (fun _ Q=>Q true):=⟨_,pts_nil,fun R Qd Q q k=>k true _ _ (Grow.refl R.sub R.reel) q⟩
theorem frIn_get {fr:List (Option Nat)} {ρ:En} {i:Nat} {w:W} (h:(frEn fr ρ)[i]? = some (some w)):∃ j w',fr[i]? = some (some j) /\ ρ[j]? = some (some w') /\ w'.cap = some w:=by
  unfold frEn at h
  rw [List.getElem?_map] at h
  cases ef:fr[i]? with
  | none=>rw [ef] at h; cases h
  | some o =>
    cases o with
    | none=>rw [ef] at h; cases h
    | some j =>
      rw [ef] at h
      have h':((ρ[j]?).join).bind W.cap = some w:=Option.some.inj h
      cases q : ρ[j]? with
      | none=>rw [q] at h'; cases h'
      | some o =>
        cases o with
        | none=>rw [q] at h'; cases h'
        | some w'=>rw [q] at h'; exact ⟨j,w',rfl,q,h'⟩
theorem cap_eq {w' w:W} (h:w'.cap = some w):w = w' /\ w.own = false /\ ∀ xs,w ≠ .pk xs:=by
  cases w' <;> cases h <;> exact ⟨rfl,rfl,(fun _ z=>by cases z)⟩
theorem vr_block {K:W.Frag} {rl:RlT} {F₀ H₀ F H:Hp} {σ:St} {ρ:En} {fr:List (Option Nat)} {H':Hp} (R:VR K rl F₀ H₀ F H σ ρ) (g:Grow rl F H F H'):VR K rl F H F H' (frIn fr σ) (frEn fr ρ):=by
  refine ⟨g,fun i w e=>?_,fun i j xs ys v _ e1 _ o1 _ _ _=>?_,fun i xs e=>?_,by simp [frIn,frEn]⟩
  · obtain ⟨j,w',e1,e2,e3⟩:=frIn_get e
    obtain ⟨rfl,n1,n2⟩:=cap_eq e3
    obtain ⟨v,s1,r1,_⟩:=R.sl j w e2
    refine ⟨v,?_,r1.grow g,?_⟩
    · unfold frIn
      rw [List.getElem?_map,e1]
      show some ((σ[j]?).join) = _
      rw [s1]
      rfl
    · cases w with
      | ml xs=>cases n1
      | md xs=>cases n1
      | mk xs=>cases n1
      | nt _=>trivial
      | lk=>trivial
      | sc _=>trivial
      | fd _=>trivial
      | fw _=>trivial
      | ft _=>trivial
      | xc _ _=>trivial
      | dp _ _=>trivial
      | d _=>trivial
      | pk _=>trivial
      | reel=>trivial
      | vv _=>trivial
  · obtain ⟨_,_,_,_,e3⟩:=frIn_get e1
    rw [(cap_eq e3).2.1] at o1
    cases o1
  · obtain ⟨_,_,_,_,e3⟩:=frIn_get e
    exact absurd rfl ((cap_eq e3).2.2 xs)
theorem noMl_block {fr:List (Option Nat)} {ρ:En}:NoMl (frEn fr ρ):=fun i xs e=>by
  obtain ⟨_,_,_,_,e3⟩:=frIn_get e
  exact (cap_eq e3).2.1
theorem VR.other {K:W.Frag} {rl:RlT} {F₀ H₀ F H:Hp} {σ:St} {ρ:En} (R:VR K rl F₀ H₀ F H σ ρ) (n:NoMl ρ) {D:Addr} {o:HO} (h0:H₀ D = none) (f:F D = none) (hr:rl.a ≠ some D):VR K rl F₀ H₀ F (upd H D o) σ ρ:=by
  have neF:∀ b u,F b = some u -> b ≠ D:=fun b u q z=>by subst z; rw [f] at q; cases q
  have g:Grow rl F₀ H₀ F (upd H D o):=by
    refine ⟨fun b o q1 n=>by rw [upd_ne (ne_of_none q1 h0)]; exact R.g.same b o q1 n,R.g.fs,fun b o q1=>by rw [upd_ne (neF b o q1)]; exact R.sub b o q1,R.g.old,fun y z=>?_⟩
    obtain ⟨z1,⟨u,h1,h2⟩⟩:=R.reel y z
    exact ⟨z1,⟨u,by rw [upd_ne (fun q=>hr (by rw [<- q]; exact z))]; exact h1,h2⟩⟩
  refine ⟨g,fun i w e=>?_,R.ap,R.np,R.len⟩
  obtain ⟨v,h1,h2,h3⟩:=R.sl i w e
  refine ⟨v,h1,?_,h3⟩
  cases w with
  | d x=>exact h2
  | reel=>exact h2
  | vv u=>exact h2
  | ml xs=>cases n i _ e
  | md xs=>cases n i _ e
  | mk xs=>cases n i _ e
  | nt ds=>exact h2
  | lk=>trivial
  | sc _=>exact h2
  | fd _=>exact h2
  | fw _=>exact h2
  | ft _=>exact h2
  | xc _ _=>exact h2
  | dp _ _=>exact h2
  | pk xs=>exact absurd e (R.np i xs)

section
variable {X:Cx} {rl:RlT} {elt tg iter:Expr} {ifs:List Expr} {scope:Scope} {pos:Pos} {fi:En -> (List PyData -> Prop) -> Prop} {g:TGv} {ft:TB} {fe:TV}
end
end L2.VL

namespace L2.VL
open PySem PySem.Spec PyProof.Rows

mutual
def Nice:PyData -> Prop
  | .none=>True
  | .bool _=>True
  | .int i=>i.natAbs < 2 ^ 1900
  | .str x=>PyData.strOk x = true
  | .list xs=>NiceAll xs
  | .tuple xs=>NiceAll xs
  | .dict _=>False
def NiceAll:List PyData -> Prop
  | []=>True
  | x :: xs=>Nice x /\ NiceAll xs
end
theorem log2_lt_of {n k:Nat} (h:n < 2 ^ k) (hk : 0 < k):n.log2 < k:=by
  by_cases h0:n = 0
  · subst h0; simpa using hk
  · exact (Nat.log2_lt h0).mpr h
mutual
theorem Nice.facts:∀ d:PyData,Nice d -> d.showable = true /\ d.canLay0 = true /\ d.hasDict = false /\ d.leavesShort 1921 = true
  | .none,_=>⟨rfl,rfl,rfl,rfl⟩
  | .bool _,_=>⟨rfl,rfl,rfl,rfl⟩
  | .int i,h=>by
    have hl:i.natAbs.log2 < 1920:=log2_lt_of (Nat.lt_of_lt_of_le (show i.natAbs < 2 ^ 1900 from h) (Nat.pow_le_pow_right (by decide) (by decide))) (by decide)
    refine ⟨by simp [PyData.showable,hl],rfl,rfl,?_⟩
    simp only [PyData.leavesShort,decide_eq_true_eq]
    exact int_text_len_1921 hl
  | .str x,h=>by
    refine ⟨rfl,(show PyData.canLay0 (.str x) = true by simp only [PyData.canLay0]; exact h),rfl,?_⟩
    have h:x.cps.all (· < 0x110000) = true:=h
    simp only [PyData.leavesShort]
    rw [List.all_eq_true]
    intro c hc
    have:=(Array.all_eq_true_iff_forall_mem.mp h) c (by simpa using hc)
    simp at this ⊢
    omega
  | .list xs,h=>by
    obtain ⟨a,b,c,d⟩:=NiceAll.facts xs h
    exact ⟨by simpa [PyData.showable] using a,by simpa [PyData.canLay0] using b,by simpa [PyData.hasDict] using c,by simpa [PyData.leavesShort] using d⟩
  | .tuple xs,h=>by
    obtain ⟨a,b,c,d⟩:=NiceAll.facts xs h
    exact ⟨by simpa [PyData.showable] using a,by simpa [PyData.canLay0] using b,by simpa [PyData.hasDict] using c,by simpa [PyData.leavesShort] using d⟩
  | .dict _,h=>False.elim h
theorem NiceAll.facts:∀ xs:List PyData,NiceAll xs -> PyData.showableAll xs = true /\ PyData.canLayAll0 xs = true /\ PyData.hasDictAll xs = false /\ PyData.leavesShortAll 1921 xs = true
  | [],_=>⟨rfl,rfl,rfl,rfl⟩
  | x :: xs,h=>by
    obtain ⟨a,b,c,d⟩:=Nice.facts x h.1
    obtain ⟨a',b',c',d'⟩:=NiceAll.facts xs h.2
    exact ⟨by simp [PyData.showableAll,a,a'],by simp [PyData.canLayAll0,b,b'],by simp [PyData.hasDictAll,c,c'],by simp [PyData.leavesShortAll,d,d']⟩
end
noncomputable def Shw (d:PyData):Prop:=Nice d /\ d.depth <= 60 /\ d.bulk <= 8000
theorem Shw.len {d:PyData} (h:Shw d):d.shown.length <= sizeLine:=by
  have q:=PyData.shown_le_bulk 1921 (by decide) d (Nice.facts d h.1).2.2.2
  have:=h.2.2
  have e:sizeLine = 16777216:=by decide
  omega

section
variable {X:Cx} {rl:RlT} {a b e:Expr} {es:List Expr} {fa fb fc:TV} {fs:TVs} {pos p:Pos}
noncomputable def rRepr (K:W.Frag):List V -> Hp -> VK -> Prop:=fun xs H Q=>∃ x d,xs = [x] /\ Rep K H x d /\ Shw d /\ Q (.str d.shown) H
theorem call_repr (hgd:X.A.guards = some []) (hu:X.A.units + 64 < cLine):CallR X (.builtin "repr") (rRepr X.K):=by
  intro pins s σ H xs us Q I r ⟨x,d,ex,rx,sh,q⟩
  subst ex
  obtain ⟨u,rfl,ru⟩:=vals1 r
  have fin:∀ tk h' , (∀ b o,s.heap.get? b = some o -> h'.get? b = some o) -> ∀ t,EP X pins σ Q (.str d.shown t) { s with heap:=h',toks:=tk }:=fun tk h' k t=>⟨.str d.shown,H,I.kept k,⟨t,rfl⟩,q⟩
  obtain ⟨as,rd⟩:=Rep.reads I (.refl H) rx u ru
  have hs:=(Nice.facts d sh.1)
  cases rx with
  | non=>cases (show u = Value.none from ru); exact P.repr_of_none (fin _ _ (fun _ _ e=>e) _)
  | bl b=>cases (show u = Value.bool b from ru); exact P.repr_of_bool (fin _ _ (fun _ _ e=>e) _)
  | int i =>
    obtain ⟨t,e⟩:=(show ∃ t,u = Value.int i t from ru)
    cases e
    exact P.repr_of_int (by simpa [PyData.showable] using hs.1) (fin _ _ (fun _ _ e=>e) _)
  | str x =>
    obtain ⟨t,e⟩:=(show ∃ t,u = Value.str x t from ru)
    cases e
    exact P.repr_of_str (fin _ _ (fun _ _ e=>e) _) sh.len
  | tup sq rs =>
    cases (show u = Value.ref _ from ru)
    exact repr_of_reads' rd hs.1 (PyData.noDict_hsm hs.2.2.1) hgd (by have:=sh.2.1; omega) (fun _ _ e=>e) (fun h' t tk hk=>fin tk h' hk t) sh.len
  | lst sq rs =>
    cases (show u = Value.ref _ from ru)
    exact repr_of_reads' rd hs.1 (PyData.noDict_hsm hs.2.2.1) hgd (by have:=sh.2.1; omega) (fun _ _ e=>e) (fun h' t tk hk=>fin tk h' hk t) sh.len
noncomputable def gRepr:List W -> (W -> Prop) -> Prop:=fun ws Q=>∃ w d,ws = [w] /\ w.dat = some d /\ Shw d /\ Q (.d (.str d.shown))
theorem vc_repr:VCall X rl (rRepr X.K) gRepr:=fun {F H vs ws} Qd Q s ra r ⟨w,d,ew,e1,sh,q⟩ k=>by
  subst ew
  obtain ⟨v,rfl,r1⟩:=rel1 r
  exact ⟨v,d,rfl,r1.dat s e1,sh,k _ (.d _) _ _ (Grow.refl s ra) (.str _) trivial q⟩
theorem v_repr (hr:Room 0 X.A) (hm:X.mg "repr" = none) (ha:PVs X rl [e] fs) (hg:Gl X "repr" := by rfl) (he:starEach [e] X.env = (false,eval e X.env) :: starEach [] X.env:=by rfl) (hpl:(backTo pos (starEach [] X.env)).any (·.1) = false:=by rfl) :
    PV X rl (.Call (.Name "repr" p) [e] [] pos) (vCall gRepr fs):=v_callB (call_repr hr.gd hr.units) vc_repr hm (by first | rfl | exact boot_repr) ha hg (by decide) (by decide) he hpl

theorem v_len (hm:X.mg "len" = none) (ha:PVs X rl [a] fs) (hg:Gl X "len" := by rfl) (he:starEach [a] X.env = (false,eval a X.env) :: starEach [] X.env:=by rfl) (hpl:(backTo pos (starEach [] X.env)).any (·.1) = false:=by rfl) :
    PV X rl (.Call (.Name "len" p) [a] [] pos) (vCall gLen fs):=v_callB call_len_seq vc_len hm boot_len ha hg (by decide) (by decide) he hpl
theorem v_abs (hm:X.mg "abs" = none) (ha:PVs X rl [a] fs) (hg:Gl X "abs" := by rfl) (he:starEach [a] X.env = (false,eval a X.env) :: starEach [] X.env:=by rfl) (hpl:(backTo pos (starEach [] X.env)).any (·.1) = false:=by rfl) :
    PV X rl (.Call (.Name "abs" p) [a] [] pos) (vCall gAbs fs):=v_callB call_abs vc_abs hm (by first | rfl | exact boot_abs) ha hg (by decide) (by decide) he hpl
end
end L2.VL

namespace L2.VL
open PySem PySem.Spec PyProof.Rows

structure FnIn (K:W.Frag) (mg:Str -> Option Value) (x:Str) (st:Stmt) (ps:List Str):Prop where
  ex:∃ f fd,mg x = some (.ref f) /\ Fun K x x st f fd /\ Binds K fd ps []
structure Bz (mg:Str -> Option Value):Prop where
  int_:mg "int" = none
  bool_:mg "bool" = none
  str_:mg "str" = none
  list_:mg "list" = none
  tuple_:mg "tuple" = none
  dict_:mg "dict" = none
  isinstance_:mg "isinstance" = none
  len_:mg "len" = none
  abs_:mg "abs" = none
  repr_:mg "repr" = none
  range_:mg "range" = none
  all_:mg "all" = none
  any_:mg "any" = none
  sum_:mg "sum" = none
  min_:mg "min" = none
  max_:mg "max" = none
  sorted_:mg "sorted" = none
  zip_:mg "zip" = none
  enumerate_:mg "enumerate" = none
  reversed_:mg "reversed" = none
  divmod_:mg "divmod" = none
  set_:mg "set" = none
section
variable {P:Program} {w:World} {K:W.Frag} {mg:Str -> Option Value} {base:Heap} {rl:RlT} {x:Str} {st:Stmt} {N ps:List Str} {k:Nat} {Pd:List W -> (PyData -> Prop) -> Prop} {t:TSv}
theorem Dfn.of (Fn:FnIn K mg x st ps) (S:FnScope N ps (defScope st)) (mono:∀ ws Q Q',(∀ d,Q d -> Q' d) -> Pd ws Q -> Pd ws Q') (len:∀ ws Q,Pd ws Q -> ws.length = ps.length)
    (hbody:∀ {f:Addr} (cdv:Value) (A:Around) (outer:List Env) (s:Shared) (H:Hp) (E:XK),Room k (A.deeper (envOfC x (defScope st) s.heap.objs.size f cdv)) ->
      PSsV (cxOf CX0 P w K mg base N x (defScope st) f cdv A outer s H E).nox rl (defBody st) t)
    (hread:∀ ws Q,Pd ws Q -> t (vEnds Q) (startV N ws)):Dfn P w K mg base rl x ps (k + 1) Pd:=by
  obtain ⟨f,fd,hm,F,hb⟩:=Fn.ex
  exact ⟨mono,f,fd,hm,F.kp,hb,vfn F S len hbody hread⟩
end
section
variable {X:Cx} {rl:RlT} {e:Expr} {es:List Expr} {fa fb fc:TV} {fs:TVs} {pos p:Pos}
end
theorem fz_d (x:PyData):(W.d x).fz = .d x:=rfl
theorem fz_ml (x:List PyData):(W.ml x).fz = .d (.list x):=rfl
theorem fz_pk (x:List PyData):(W.pk x).fz = .pk x:=rfl
theorem fz_reel:W.reel.fz = .reel:=rfl
theorem fz_vv (x:V):(W.vv x).fz = .vv x:=rfl
theorem pk_d (x:PyData):L2.VL.W.peek (.d x) = .d x:=rfl
theorem pk_ml (x:List PyData):L2.VL.W.peek (.ml x) = .pk x:=rfl
theorem pk_reel:L2.VL.W.peek .reel = .reel:=rfl
theorem pk_vv (x:V):L2.VL.W.peek (.vv x) = .vv x:=rfl
theorem dat_d (x:PyData):(W.d x).dat = some x:=rfl
theorem dat_ml (x:List PyData):(W.ml x).dat = some (.list x):=rfl
theorem dat_pk (x:List PyData):(W.pk x).dat = some (.list x):=rfl
theorem isPk_d (x:PyData):(W.d x).isPk = false:=rfl
theorem isPk_ml (x:List PyData):(W.ml x).isPk = false:=rfl
theorem isPk_reel:W.reel.isPk = false:=rfl
theorem dats_nil:dats [] = some []:=rfl
theorem dats_d (x:PyData) (r:List W):dats (.d x :: r) = (dats r).map (x :: ·):=rfl
theorem arg_d (x:PyData):argOk (.d x) = true:=rfl
theorem arg_reel:argOk .reel = true:=rfl
theorem item_l (xs:List PyData) (i:Int):L2.VL.itemAt (.list xs) i = L2.atI xs i:=rfl
theorem item_t (xs:List PyData) (i:Int):L2.VL.itemAt (.tuple xs) i = L2.atI xs i:=rfl
theorem len_l (xs:List PyData):lenD (.list xs) = some xs.length:=rfl
theorem len_t (xs:List PyData):lenD (.tuple xs) = some xs.length:=rfl
theorem at0 {α:Type} (x : α) (r:List α):L2.atI (x :: r) 0 = some x:=by simp [L2.atI,L2.ixN]
theorem at1 {α:Type} (x y : α) (r:List α):L2.atI (x :: y :: r) 1 = some y:=by
  have:(1:Int) < ((x :: y :: r).length:Int):=by simp; omega
  simp only [L2.atI,L2.ixN]
  rw [if_pos (by decide),if_pos this]
  rfl
end L2.VL

namespace L2.VL
open PySem PySem.Spec PyProof.Rows
theorem fmod_abs_lt {x y:Int} (h:y ≠ 0):(x.fmod y).natAbs < y.natAbs:=by
  rcases Int.lt_or_gt_of_ne h with hy | hy
  · have h1:=Int.fmod_add_mul_fdiv x y
    have e:x.fmod y = -((-x).fmod (-y)):=by
      have:=Int.neg_fmod_neg x y
      omega
    have p : 0 < -y:=by omega
    have b1:=Int.fmod_nonneg_of_pos (-x) p
    have b2:=Int.fmod_lt_of_pos (-x) p
    omega
  · have b1:=Int.fmod_nonneg_of_pos x hy
    have b2:=Int.fmod_lt_of_pos x hy
    omega
theorem gcd_fmod (x y:Int):Int.gcd y (x.fmod y) = Int.gcd x y:=by
  have e:x.fmod y = x + y * (-(x.fdiv y)):=by
    have:=Int.fmod_add_mul_fdiv x y
    rw [Int.mul_neg]
    omega
  rw [e,Int.gcd_add_mul_left_right]
  exact Int.gcd_comm y x
theorem eqv_ii (a b:Int):PyData.eqv (.int a) (.int b) = (a == b):=by simp [PyData.eqv]
theorem shaped_i (a:Int):SeqAt.shaped (.int a) = true:=rfl
theorem shaped_b (a:Bool):SeqAt.shaped (.bool a) = true:=rfl
theorem CDivB.of {i j:Int} (h:j ≠ 0) (b:j.natAbs < 2 ^ 64):CDivB i j:=⟨h,Nat.lt_of_lt_of_le b (Nat.pow_le_pow_right (by decide) (by decide))⟩
theorem gcd_pos {a b:Int} (h:b ≠ 0) : 0 < (Int.gcd a b:Int):=by
  have:=Int.gcd_pos_of_ne_zero_right a h
  omega
theorem gcd_le {a b:Int} (h:b ≠ 0):(Int.gcd a b) <= b.natAbs:=Nat.le_of_dvd (by omega) (Int.gcd_dvd_natAbs_right a b)
end L2.VL

namespace L2.VL
open PySem PySem.Spec PyProof.Rows
structure Lf (d:PyData):Prop where
  nice:Nice d
  dep:d.depth <= 2
  wt:d.bulk <= 2000
theorem Lf.int {i:Int} (h:i.natAbs < 2 ^ 1000):Lf (.int i) :=
  ⟨Nat.lt_trans h (Nat.pow_lt_pow_right (by decide) (by decide)),by simp [PyData.depth],by simp [PyData.bulk]⟩
theorem at_in {α:Type} {xs:List α} {k:Int} (h0 : 0 <= k) (h1:k < (xs.length:Int)):∃ z,L2.atI xs k = some z /\ z ∈ xs:=by
  obtain ⟨n,rfl⟩:=Int.eq_ofNat_of_zero_le h0
  have hn:n < xs.length:=by omega
  exact ⟨xs[n],atI_nat (List.getElem?_eq_getElem hn),List.getElem_mem hn⟩

theorem rep_str {K:W.Frag} {F:Hp} {v:V} {i:Str} (h:Rep K F v (.str i)):v = .str i:=by cases h; rfl
noncomputable def gEqS (neg:Bool):W -> W -> (W -> Prop) -> Prop:=fun x y Q=>∃ a b:Str,x = .d (.str a) /\ y = .d (.str b) /\ Q (.d (.bool (if neg then !decide (a = b) else decide (a = b))))
theorem vo_neS {X:Cx} {rl:RlT}:VOp X rl rNe (gEqS true):=fun {F H x y wx wy} Qd Q s ra r1 r2 q k=>by
  obtain ⟨a,b,rfl,rfl,q⟩:=q
  have e1:=rep_str r1
  have e2:=rep_str r2
  subst e1 e2
  have e:decide (V.str a = V.str b) = decide (a = b):=by
    by_cases h:a = b
    · subst h; simp
    · rw [decide_eq_false h,decide_eq_false fun z=>h (by injection z)]
  exact ⟨rfl,by rw [e]; exact k _ (.d _) _ _ (Grow.refl s ra) (.bl _) trivial q⟩
section
variable {P:Program} {w:World} {K:W.Frag} {mg:Str -> Option Value} {base:Heap} {rl:RlT} {x:Str} {st:Stmt} {N ps:List Str} {k:Nat} {Pd:List W -> (List PyData -> Prop) -> Prop} {t:TSv}
end
section
variable {X:Cx} {rl:RlT} {e:Expr} {es:List Expr} {fs:TVs} {pos p:Pos}
theorem pss_any (X:Cx) (rest:List Stmt):PSs X rest (fun D σ H=>∀ pins s,Inv X pins σ H s -> wpAny (model X.prog X.w) X.A (execs rest X.env) (SP X pins D) X.xe s):=fun pins s σ H D I h=>h pins s I
end
end L2.VL

namespace L2.VL
open PySem PySem.Spec PyProof.Rows
section
variable {X:Cx} {rl:RlT} {a b c e:Expr} {es:List Expr} {fa fb fc:TV} {fs:TVs} {pos p:Pos}
noncomputable def seqD:PyData -> Option (List PyData)
  | .list xs=>some xs
  | .tuple xs=>some xs
  | _=>none
theorem seq_l (xs:List PyData):seqD (.list xs) = some xs:=rfl
theorem seq_t (xs:List PyData):seqD (.tuple xs) = some xs:=rfl
theorem seqD.of {o:Option PyData} {d:PyData} {xs:List PyData} (h:o = some d) (e:seqD d = some xs):o = some (.list xs) \/ o = some (.tuple xs):=by
  cases d <;> cases e
  · exact .inl h
  · exact .inr h
noncomputable def gTupO:List W -> (W -> Prop) -> Prop:=fun ws Q=>∃ w d xs,ws = [w] /\ w.dat = some d /\ seqD d = some xs /\ Q (.d (.tuple xs))
theorem vc_tup:VCall X rl (fun xs H Q=>∃ p ys,xs = [.ref p] /\ ((SqL X.K H p ys /\ ∀ l,H l = none -> Q (.ref l) (upd H l (.tup ys))) \/ (SqT X.K H p ys /\ Q (.ref p) H))) gTupO:=fun {F H vs ws} Qd Q s ra r ⟨w,d,xs,ew,ed1,ed2,q⟩ k=>by
  have ed:=seqD.of ed1 ed2
  subst ew
  obtain ⟨v,rfl,r1⟩:=rel1 r
  rcases ed with ed | ed
  · obtain ⟨a,us,rfl,sq,rs⟩:=r1.items s ed
    refine ⟨a,us,rfl,.inl ⟨sq,fun l hl=>?_⟩⟩
    have g:=Grow.data (a:=l) (o:=.tup us) s ra hl
    exact k _ (.d (.tuple xs)) _ _ g (.tup (.inl (.inl upd_same)) (rs.mono g.fs)) trivial q
  · cases w with
    | d y =>
      cases ed
      cases (show Rep X.K F v (.tuple xs) from r1) with
      | tup sq rs=>exact ⟨_,_,rfl,.inr ⟨sameT s sq,k _ (.d (.tuple xs)) _ _ (Grow.refl s ra) (.tup sq rs) trivial q⟩⟩
    | ml ys=>cases ed
    | pk ys=>cases ed
    | reel=>cases ed
    | vv u=>cases ed
    | md u=>cases ed
    | mk u=>cases ed
    | lk=>cases ed
    | sc _=>cases ed
    | fd _=>cases ed
    | fw _=>cases ed
    | ft _=>cases ed
    | xc _ _=>cases ed
    | dp _ _=>cases ed
    | nt ds =>
      cases ed
      obtain ⟨b,us,rfl,h,q'⟩:=r1
      exact ⟨_,_,rfl,.inr ⟨.inl (.inl (s _ _ h)),k _ (.d (.tuple xs)) _ _ (Grow.refl s ra) (.tup (.inl (.inl h)) q') trivial q⟩⟩
theorem v_tuple (hm:X.mg "tuple" = none) (ha:PVs X rl [a] fs) (hg:Gl X "tuple" := by rfl) (he:starEach [a] X.env = (false,eval a X.env) :: starEach [] X.env:=by rfl) (hpl:(backTo pos (starEach [] X.env)).any (·.1) = false:=by rfl) :
    PV X rl (.Call (.Name "tuple" p) [a] [] pos) (vCall gTupO fs):=v_callTy call_tuple_of vc_tup hm (by rfl) ha hg (by decide) (by decide) he hpl
end
end L2.VL
namespace L2.VL
open PySem PySem.Spec PyProof.Rows
section
variable {X:Cx} {rl:RlT}
end
end L2.VL

namespace L2.VL
open PySem PySem.Spec PyProof.Rows
section
variable {X:Cx} {rl:RlT} {a b c e:Expr} {es:List Expr} {fa fb fc:TV} {fs:TVs} {pos p p2:Pos}
noncomputable def gI2 (f:Int -> Int -> PyData):List W -> (W -> Prop) -> Prop:=fun ws Q=>∃ i j,ws = [.d (.int i),.d (.int j)] /\ Q (.d (f i j))
theorem vc_i2 {f:Int -> Int -> V} {g:Int -> Int -> PyData} (h:∀ K F i j,Rep K F (f i j) (g i j)):VCall X rl (fun xs H Q=>∃ i j,xs = [.int i,.int j] /\ Q (f i j) H) (gI2 g):=fun {F H vs ws} Qd Q s ra r ⟨i,j,ew,q⟩ k=>by
  subst ew
  obtain ⟨v,u,rfl,r1,r2⟩:=rel2 r
  have e1:=rep_int r1
  have e2:=rep_int r2
  subst e1 e2
  exact ⟨i,j,rfl,k _ (.d _) _ _ (Grow.refl s ra) (h _ _ i j) trivial q⟩
theorem v_max2 (hm:X.mg "max" = none) (ha:PVs X rl [a,b] fs) (hc:X.calm = true:=by rfl) (hg:Gl X "max" := by rfl) (he:starEach [a,b] X.env = (false,eval a X.env) :: starEach [b] X.env:=by rfl) (hpl:(backTo pos (starEach [b] X.env)).any (·.1) = false:=by rfl) :
    PV X rl (.Call (.Name "max" p) [a,b] [] pos) (vCall (gI2 fun i j=>.int (max i j)) fs) :=
  v_callB (call_max2 hc) (vc_i2 (f:=fun i j=>.int (if j > i then j else i)) fun _ _ i j=>(show (if j > i then j else i) = max i j by split <;> omega) ▸ .int _) hm (by rfl) ha hg (by decide) (by decide) he hpl
noncomputable def gDivmod:List W -> (W -> Prop) -> Prop:=fun ws Q=>∃ i j,ws = [.d (.int i),.d (.int j)] /\ 0 < j /\ j < 1073741824 /\ Q (.d (.tuple [.int (i / j),.int (i % j)]))
theorem vc_divmod:VCall X rl (fun xs H Q=>∃ i j,xs = [.int i,.int j] /\ CDiv i j /\ ∀ p,H p = none -> Q (.ref p) (upd H p (.tup [.int (i / j),.int (i % j)]))) gDivmod:=fun {F H vs ws} Qd Q s ra r ⟨i,j,ew,h1,h2,q⟩ k=>by
  subst ew
  obtain ⟨v,u,rfl,r1,r2⟩:=rel2 r
  have e1:=rep_int r1
  have e2:=rep_int r2
  subst e1 e2
  refine ⟨i,j,rfl,⟨h1,h2⟩,fun p hp=>?_⟩
  have g:=Grow.data (a:=p) (o:=.tup [.int (i / j),.int (i % j)]) s ra hp
  exact k _ (.d _) _ _ g (.tup (.inl (.inl upd_same)) (.cons (.int _) (.cons (.int _) .nil))) trivial q
theorem v_divmod (hm:X.mg "divmod" = none) (ha:PVs X rl [a,b] fs) (hg:Gl X "divmod" := by rfl) (he:starEach [a,b] X.env = (false,eval a X.env) :: starEach [b] X.env:=by rfl) (hpl:(backTo pos (starEach [b] X.env)).any (·.1) = false:=by rfl) :
    PV X rl (.Call (.Name "divmod" p) [a,b] [] pos) (vCall gDivmod fs):=v_callB call_divmod vc_divmod hm (by rfl) ha hg (by decide) (by decide) he hpl
noncomputable def gInt1:List W -> (W -> Prop) -> Prop:=fun ws Q=>(∃ i,ws = [.d (.int i)] /\ Q (.d (.int i))) \/ ∃ k:Bool,ws = [.d (.bool k)] /\ Q (.d (.int (if k then 1 else 0)))
theorem vc_int1:VCall X rl (fun xs H Q=>(∃ i,xs = [.int i] /\ Q (.int i) H) \/ ∃ k,xs = [.bl k] /\ Q (.int (if k then 1 else 0)) H) gInt1:=fun {F H vs ws} Qd Q s ra r h k=>by
  rcases h with ⟨i,ew,q⟩ | ⟨i,ew,q⟩
  · subst ew
    obtain ⟨v,rfl,r1⟩:=rel1 r
    have e1:=rep_int r1
    subst e1
    exact .inl ⟨i,rfl,k _ (.d _) _ _ (Grow.refl s ra) (.int _) trivial q⟩
  · subst ew
    obtain ⟨v,rfl,r1⟩:=rel1 r
    have e1:=rep_bl r1
    subst e1
    exact .inr ⟨i,rfl,k _ (.d _) _ _ (Grow.refl s ra) (.int _) trivial q⟩
theorem v_int1 (hm:X.mg "int" = none) (ha:PVs X rl [a] fs) (hg:Gl X "int" := by rfl) (he:starEach [a] X.env = (false,eval a X.env) :: starEach [] X.env:=by rfl) (hpl:(backTo pos (starEach [] X.env)).any (·.1) = false:=by rfl) :
    PV X rl (.Call (.Name "int" p) [a] [] pos) (vCall gInt1 fs):=v_callTy call_int1 vc_int1 hm (by rfl) ha hg (by decide) (by decide) he hpl
noncomputable def ipC (C:Int -> Int -> Prop) (f:Int -> Int -> Int):TIp:=fun x y H Q=>∃ i j,x = .int i /\ y = .int j /\ C i j /\ Q (.int (f i j)) H
theorem ip_mulC:PIp X .Mult (ipC CMulB fun i j=>i * j):=by
  intro pins s σ H x y v u Q I r1 r2 h
  obtain ⟨i,j,e1,e2,hc,q⟩:=h
  subst e1; subst e2
  obtain ⟨t,rfl⟩:=r1
  obtain ⟨t',rfl⟩:=r2
  exact imul_int ⟨.int _,H,I.tok _,⟨_,rfl⟩,q⟩ hc.ok
noncomputable def vAug (i:Nat) (C:Int -> Int -> Prop) (f:Int -> Int -> Int) (fa:TV):TSv:=fun D ρ=>∃ n,ρ[i]? = some (some (.d (.int n))) /\ fa ρ fun w=>∃ m,w = .d (.int m) /\ C n m /\ D.nx (ρ.set i (some (.d (.int (f n m)))))
theorem vs_aug (i:Nat) {x:Str} {op:Operator} {C:Int -> Int -> Prop} {f:Int -> Int -> Int} {pos':Pos} (hN:X.N.Nodup) (ho:PIp X op (ipC C f)) (he:PV X rl e fa) (hi:X.N[i]? = some x:=by rfl) (hx:Loc X.env.scope x:=by first | exact Or.inl rfl | exact Or.inr rfl)
    (hf:X.fn x = true \/ X.env.scope.names.lookup x = some .local:=by first | exact .inl rfl | exact .inr rfl):PSV X rl (.AugAssign (.Name x pos') op e pos) (vAug i C f fa):=by
  obtain ⟨t,p,k⟩:=he
  refine ⟨_,ps_aug hN hi hx p ho hf,fun R Dv D ok ⟨n,e1,q⟩=>?_⟩
  obtain ⟨v,s1,r1,_⟩:=R.sl i _ e1
  have ev:=rep_int r1
  subst ev
  refine ⟨_,s1,k R _ _ q fun v w F1 H1 g1 r1 n1 ⟨m,ew,hc,q1⟩=>?_⟩
  subst ew
  have ev:=rep_int r1
  subst ev
  exact ⟨n,m,rfl,rfl,hc,ok.nx _ _ _ _ g1.fs (R.set g1 (v:=.int (f n m)) (w:=.d (.int (f n m))) (.int _) trivial (fun _ z=>by cases z) i) q1⟩
noncomputable def cutD (xs:List PyData) (lo hi:Option Int):List PyData:=(xs.drop (HT.sIx xs.length 0 lo)).take (HT.sIx xs.length xs.length hi - HT.sIx xs.length 0 lo)
theorem Reps.cut {K:W.Frag} {F:Hp} {vs:List V} {ds:List PyData} (r:Reps K F vs ds) (lo hi:Option Int):Reps K F (cutV vs lo hi) (cutD ds lo hi):=by
  unfold cutV cutD
  rw [r.length]
  exact (r.drop _).take _
abbrev TOv:=En -> (Option Int -> Prop) -> Prop
noncomputable def PVO (X:Cx) (rl:RlT) (o:Option Expr) (f:TOv):Prop:=∃ t,PO X o t /\ ∀ {F₀ H₀ F H:Hp} {σ:St} {ρ:En},VR X.K rl F₀ H₀ F H σ ρ -> ∀ (Qd:Option Int -> Prop) (Q:Option Int -> Hp -> Prop),f ρ Qd ->
  (∀ o F' H',Grow rl F H F' H' -> Qd o -> Q o H') -> t σ H Q
noncomputable def oNo:TOv:=fun _ Q=>Q none
noncomputable def oIt (fa:TV):TOv:=fun ρ Q=>fa ρ fun w=>∃ i,w = .d (.int i) /\ Q (some i)
theorem vo_none:PVO X rl none oNo:=⟨_,po_none,fun R Qd Q q k=>k _ _ _ (Grow.refl R.sub R.reel) q⟩
theorem vo_some (h:PV X rl e fa):PVO X rl (some e) (oIt fa):=by
  obtain ⟨t,p,k⟩:=h
  refine ⟨_,po_some p,fun R Qd Q q h=>k R _ _ q fun v w F1 H1 g1 r1 n1 ⟨i,ew,q1⟩=>?_⟩
  subst ew
  exact ⟨i,rep_int r1,h _ F1 H1 g1 q1⟩
noncomputable def vSlL (fa:TV) (fl fh:TOv):TV:=fun ρ Q=>fa ρ fun w=>fl ρ fun l=>fh ρ fun h=>∃ xs,w.dat = some (.list xs) /\ Q (.ml (cutD xs l h))
noncomputable def gCatD:W -> W -> (W -> Prop) -> Prop:=fun x y Q=>∃ xs ys,x.dat = some (.list xs) /\ y.dat = some (.list ys) /\ xs.length + ys.length <= sizeLine /\ Q (.ml (xs ++ ys))
theorem RelW.lst {K:W.Frag} {F H:Hp} {v:V} {w:W} {xs:List PyData} (s:Same F H) (r:RelW K rl F H v w) (e:w.dat = some (.list xs)):∃ a vs,v = .ref a /\ H a = some (.lst vs) /\ Reps K F vs xs:=by
  have own:OwnL K rl F H v xs -> ∃ a vs,v = .ref a /\ H a = some (.lst vs) /\ Reps K F vs xs:=fun ⟨a,vs,e1,_,_,e2,e3⟩=>⟨a,vs,e1,e2,e3⟩
  cases w with
  | d y =>
    cases e
    cases (show Rep K F v (.list xs) from r) with
    | lst h q=>exact ⟨_,_,rfl,s _ _ h,q⟩
  | ml ys=>cases e; exact own r
  | pk ys=>cases e; exact own r
  | reel=>cases e
  | vv u=>cases e
  | md u=>cases e
  | mk u=>cases e
  | nt u=>cases e
  | lk=>cases e
  | sc _=>cases e
  | fd _=>cases e
  | fw _=>cases e
  | ft _=>cases e
  | xc _ _=>cases e
  | dp _ _=>cases e
theorem vo_catD:VOp X rl rCat gCatD:=fun {F H x y wx wy} Qd Q s ra r1 r2 q k=>by
  obtain ⟨xs,ys,e1,e2,z,q⟩:=q
  obtain ⟨a,vs,rfl,h1,q1⟩:=r1.lst s e1
  obtain ⟨b,us,rfl,h2,q2⟩:=r2.lst s e2
  refine ⟨a,b,vs,us,rfl,rfl,h1,h2,by rw [q1.length,q2.length]; exact z,fun p hp=>?_⟩
  exact k _ (.ml _) _ _ (Grow.laid s ra hp) (own_laid s ra hp (q1.append q2)) (fun a ea=>by cases ea; exact hp) q
theorem v_catD (ha:PV X rl a fa) (hb:PV X rl b fb):PV X rl (.BinOp a .Add b pos) (vOp gCatD fa fb):=pv_op op_cat vo_catD ha hb
end
end L2.VL

namespace L2
open PySem PySem.Spec PyProof.Rows
section
variable {X:Cx} {a b:Expr} {ta:TA} {p q pos pos2:Pos}
end
end L2
namespace L2.VL
open PySem PySem.Spec PyProof.Rows
section
variable {X:Cx} {rl:RlT} {a b c e:Expr} {es:List Expr} {fa fb fc:TV} {fs:TVs} {pos pos2 p q:Pos}
end
end L2.VL

namespace L2.VL
open PySem PySem.Spec PyProof.Rows
end L2.VL
namespace L2.VL
open PySem PySem.Spec PyProof.Rows
end L2.VL
namespace L2.VL
open PySem PySem.Spec PyProof.Rows
end L2.VL
namespace L2.VL
open PySem PySem.Spec PyProof.Rows
structure Sm (dp bk:Nat) (d:PyData):Prop where
  nice:Nice d
  dep:d.depth <= dp
  blk:d.bulk <= bk
theorem niceAll_of:∀ {xs:List PyData},(∀ d ∈ xs,Nice d) -> NiceAll xs
  | [],_=>trivial
  | x :: xs,h=>⟨h x List.mem_cons_self,niceAll_of fun d hd=>h d (List.mem_cons_of_mem _ hd)⟩
theorem depthAll_le {k:Nat}:∀ {xs:List PyData},(∀ d ∈ xs,d.depth <= k) -> PyData.depthAll xs <= k + 1
  | [],_=>by simp [PyData.depthAll]
  | x :: xs,h=>by
    have h1:=h x List.mem_cons_self
    have h2:=depthAll_le (k:=k) (xs:=xs) fun d hd=>h d (List.mem_cons_of_mem _ hd)
    simp only [PyData.depthAll]
    omega
theorem bulkAll_le {k:Nat}:∀ {xs:List PyData},(∀ d ∈ xs,d.bulk <= k) -> PyData.bulkAll xs <= (k + 1) * xs.length
  | [],_=>by simp [PyData.bulkAll]
  | x :: xs,h=>by
    have h1:=h x List.mem_cons_self
    have h2:=bulkAll_le (k:=k) (xs:=xs) fun d hd=>h d (List.mem_cons_of_mem _ hd)
    simp only [PyData.bulkAll,List.length_cons,Nat.mul_succ]
    omega
theorem Sm.seq {dp bk n:Nat} {xs:List PyData} (h:∀ d ∈ xs,Sm dp bk d) (hl:xs.length <= n):Sm (dp + 2) ((bk + 1) * n) (.tuple xs) /\ Sm (dp + 2) ((bk + 1) * n) (.list xs):=by
  have a:=niceAll_of fun d hd=>(h d hd).nice
  have b:=depthAll_le fun d hd=>(h d hd).dep
  have c:PyData.bulkAll xs <= (bk + 1) * n:=Nat.le_trans (bulkAll_le fun d hd=>(h d hd).blk) (Nat.mul_le_mul_left _ hl)
  refine ⟨⟨a,?_,c⟩,⟨a,?_,c⟩⟩ <;> simp only [PyData.depth] <;> omega
theorem Sm.shw {dp bk:Nat} {d:PyData} (h:Sm dp bk d) (h1:dp <= 60) (h2:bk <= 8000):Shw d:=⟨h.nice,by have:=h.dep; omega,by have:=h.blk; omega⟩
theorem Sm.int {i:Int} (h:i.natAbs < 2 ^ 1000):Sm 0 0 (.int i):=⟨(Lf.int h).nice,by simp [PyData.depth],by simp [PyData.bulk]⟩
end L2.VL

namespace L2
open PySem PySem.Spec PyProof.Rows
section
variable {X:Cx} {tg e:Expr} {ta te:TE} {p p2 pos:Pos}
end
end L2
namespace L2.VL
open PySem PySem.Spec PyProof.Rows
section
variable {X:Cx} {rl:RlT} {a b c e tg:Expr} {es:List Expr} {fa fb fc:TV} {fs:TVs} {pos pos2 p p2 q:Pos}
theorem Reps.rev {K:W.Frag} {F:Hp}:∀ {vs:List V} {ds:List PyData},Reps K F vs ds -> Reps K F vs.reverse ds.reverse
  | _,_,.nil=>.nil
  | _,_,.cons h r=>by rw [List.reverse_cons,List.reverse_cons]; exact (Reps.rev r).snoc h
end
end L2.VL

namespace L2
open PySem PySem.Spec PyProof.Rows
section
variable {X:Cx}
theorem bls_get {bs:List Bool} {its:List Value} (r:Vals (bs.map V.bl) its) {i:Nat} {v:Value} (e:its[i]? = some v):v = .bool (bs.getD i false):=by
  have hl:=r.length
  rw [List.length_map] at hl
  have hi:i < bs.length:=by have:=(List.getElem?_eq_some_iff.mp e).1; omega
  have hb:(bs.map V.bl)[i]? = some (.bl bs[i]):=by simp [hi]
  obtain ⟨u,hu,ru⟩:=r.get hb
  rw [e] at hu
  cases hu
  have:bs.getD i false = bs[i]:=by simp [List.getD,hi]
  rw [this]
  exact ru
theorem range_all {bs:List Bool}:(List.range bs.length).all (fun i=>bs.getD i false) = bs.all id:=by
  have:bs = (List.range bs.length).map fun i=>bs.getD i false:=by
    apply List.ext_getElem
    · simp
    · intro i h1 h2
      simp [List.getD,h1]
  conv=>rhs; rw [this,List.all_map]
  rfl
theorem call_all (hc:X.calm = true):CallR X (.builtin "all") (fun xs H Q=>∃ (p:Addr) (bs:List Bool),xs = [.ref p] /\ SqL X.K H p (bs.map V.bl) /\ Q (.bl (bs.all id)) H):=by
  intro pins s σ H xs us Q I r ⟨p,bs,ex,hq,q⟩
  subst ex
  obtain ⟨u,rfl,ru⟩:=vals1 r
  cases ru
  obtain ⟨its,rv,pl,hz⟩:=I.list hq
  have hl:=rv.length
  rw [List.length_map] at hl
  refine call_all_walk (wpAny_pyIter_list pl.isList ?_)
  have ne:p ≠ s.heap.objs.size:=by obtain ⟨o,ho,_⟩:=pl.isList; exact Nat.ne_of_lt (Heap.lt_size ho)
  refine ⟨s.heap.objs.size,_,_,_,_,_,fun i=>bs.getD i false,rfl,Walks.list (A:=X.A.in1) (I.ok.hd hc) s.heap.objs.size p ne its.toArray,⟨⟨_,Heap.get?_push_size _ rfl,rfl,rfl⟩,pl.isList.push _⟩,fun i v s' Q' E' hP hQ=>?_,fun h' tk k=>?_⟩
  · rw [bls_get rv (show its[i]? = some v by simpa using hP)]
    exact wpAny_truthy_bool hQ
  · have e:(List.range its.toArray.size).all (fun i=>bs.getD i false) = bs.all id:=by rw [List.size_toArray,<- hl]; exact range_all
    rw [e]
    exact ⟨.bl _,H,I.kept (t':=tk) fun b o eb=>k b o (by simp; exact Nat.ne_of_lt (Heap.lt_size eb)) (Heap.get?_push_of_some _ eb),rfl,q⟩
end
end L2
namespace L2.VL
open PySem PySem.Spec PyProof.Rows
section
variable {X:Cx} {rl:RlT} {a b c e:Expr} {es:List Expr} {fa fb fc:TV} {fs:TVs} {pos p p2:Pos}
theorem reps_bl {K:W.Frag} {F:Hp}:∀ {vs:List V} {bs:List Bool},Reps K F vs (bs.map .bool) -> vs = bs.map V.bl
  | _,[],h=>h.nil_iff
  | _,b :: bs,.cons h r=>by rw [rep_bl h,reps_bl r]; rfl
noncomputable def gAll (f:List Bool -> Bool):List W -> (W -> Prop) -> Prop:=fun ws Q=>∃ (w:W) (bs:List Bool),ws = [w] /\ w.dat = some (.list (bs.map .bool)) /\ Q (.d (.bool (f bs)))
theorem vc_all {f:List Bool -> Bool}:VCall X rl (fun xs H Q=>∃ (p:Addr) (bs:List Bool),xs = [.ref p] /\ SqL X.K H p (bs.map V.bl) /\ Q (.bl (f bs)) H) (gAll f):=fun {F H vs ws} Qd Q s ra r ⟨w,bs,ew,ed,q⟩ k=>by
  subst ew
  obtain ⟨v,rfl,r1⟩:=rel1 r
  obtain ⟨a,us,rfl,sq,rs⟩:=r1.items s ed
  have e:=reps_bl rs
  subst e
  exact ⟨a,bs,rfl,sq,k _ (.d _) _ _ (Grow.refl s ra) (.bl _) trivial q⟩
theorem v_all (hm:X.mg "all" = none) (ha:PVs X rl [a] fs) (hc:X.calm = true:=by rfl) (hg:Gl X "all" := by rfl) (he:starEach [a] X.env = (false,eval a X.env) :: starEach [] X.env:=by rfl) (hpl:(backTo pos (starEach [] X.env)).any (·.1) = false:=by rfl) :
    PV X rl (.Call (.Name "all" p) [a] [] pos) (vCall (gAll fun bs=>bs.all id) fs):=v_callB (call_all hc) vc_all hm (by rfl) ha hg (by decide) (by decide) he hpl
end
end L2.VL

namespace L2.TM
open PySem PySem.Spec PyProof.Rows
section
variable {prog:Program} {w:World} {A:Around} {E:Value -> Shared -> Prop} {s:Shared} {k:Int} {t:Tok} {l:Addr} {its:Array Value}
end
end L2.TM
namespace L2
open PySem PySem.Spec PyProof.Rows
section
variable {X:Cx}
end
end L2
namespace L2.VL
open PySem PySem.Spec PyProof.Rows
section
variable {X:Cx} {rl:RlT} {a b c e:Expr} {es:List Expr} {fa fb fc:TV} {fs:TVs} {pos p p2:Pos}
noncomputable def gCatT:W -> W -> (W -> Prop) -> Prop:=fun x y Q=>∃ xs ys,x = .d (.tuple xs) /\ y = .d (.tuple ys) /\ xs ≠ [] /\ xs.length + ys.length <= sizeLine /\ Q (.d (.tuple (xs ++ ys)))
theorem vo_catT:VOp X rl (rCatT X.K) gCatT:=fun {F H x y wx wy} Qd Q s ra r1 r2 q k=>by
  obtain ⟨xs,ys,rfl,rfl,hne,hz,q⟩:=q
  cases (show Rep X.K F x (.tuple xs) from r1) with
  | @tup a vs _ sq rs =>
    cases (show Rep X.K F y (.tuple ys) from r2) with
    | @tup b us _ sq2 rs2 =>
      refine ⟨a,b,vs,us,rfl,rfl,sameT s sq,sameT s sq2,fun z=>hne ?_,by rw [rs.length,rs2.length]; exact hz,fun e=>?_,fun e p hp=>?_⟩
      · subst z; cases rs; rfl
      · subst e
        cases rs2
        rw [List.append_nil] at q
        exact k _ (.d (.tuple xs)) _ _ (Grow.refl s ra) (.tup sq rs) trivial q
      · have g:=Grow.data (a:=p) (o:=.tup (vs ++ us)) s ra hp
        exact k _ (.d _) _ _ g (.tup (.inl (.inl upd_same)) ((rs.append rs2).mono g.fs)) trivial q
end
end L2.VL

namespace L2
open PySem PySem.Spec PyProof.Rows
section
variable {X:Cx}
noncomputable def rCat0 (K:W.Frag):R2:=fun x y H Q=>∃ a b ys,x = .ref a /\ y = .ref b /\ SqT K H a [] /\ SqT K H b ys /\ Q (.ref b) H
theorem op_cat0:OpR X (binaryOp .Add) (rCat0 X.K):=by
  intro pins s σ H x y v u Q I rx ry h
  obtain ⟨a,b,ys,rfl,rfl,ha,hb,q⟩:=h
  cases rx
  cases ry
  obtain ⟨its,r1,p1,_⟩:=I.tuple ha
  obtain ⟨its2,r2,p2,_⟩:=I.tuple hb
  cases r1
  obtain ⟨⟨c1,d1,e1,sl1⟩,ho,hc,n,hd⟩:=p1
  obtain ⟨⟨c2,d2,e2,sl2⟩,ho2,hc2,n2,hd2⟩:=p2
  cases hc; cases hd; cases hc2; cases hd2
  exact concat_meets ⟨_,ho,rfl⟩ ⟨_,ho2,rfl⟩ noFill_tuple_add seq_tuple_add PySem.F.slot_tuple_add PySem.F.entry_tuple_add (PySem.F.args_tuple_add_2 _ _)
    (tuple_addW0 a b _ its2.toArray n n2 d1 d2 sl1 sl2 rfl) ⟨ho,ho2,⟨.ref b,H,I,rfl,q⟩⟩
noncomputable def rCatA (K:W.Frag):R2:=fun x y H Q=>rCatT K x y H Q \/ rCat0 K x y H Q
theorem op_catA:OpR X (binaryOp .Add) (rCatA X.K):=fun pins s σ H x y v u Q I rx ry h=>h.elim (op_catT pins s σ H x y v u Q I rx ry) (op_cat0 pins s σ H x y v u Q I rx ry)
section
variable {prog:Program} {w:World} {A:Around} {E:Value -> Shared -> Prop} {s:Shared}
end
end
end L2
namespace L2.VL
open PySem PySem.Spec PyProof.Rows
section
variable {X:Cx} {rl:RlT} {a b c e:Expr} {es:List Expr} {fa fb fc:TV} {fs:TVs} {pos p p2:Pos}
noncomputable def gCatA:W -> W -> (W -> Prop) -> Prop:=fun x y Q=>∃ xs ys,x = .d (.tuple xs) /\ y = .d (.tuple ys) /\ xs.length + ys.length <= sizeLine /\ Q (.d (.tuple (xs ++ ys)))
theorem vo_catA:VOp X rl (rCatA X.K) gCatA:=fun {F H x y wx wy} Qd Q s ra r1 r2 q k=>by
  obtain ⟨xs,ys,rfl,rfl,hz,q⟩:=q
  by_cases hx:xs = []
  · subst hx
    cases (show Rep X.K F x (.tuple []) from r1) with
    | @tup a vs _ sq rs =>
      cases rs
      cases (show Rep X.K F y (.tuple ys) from r2) with
      | @tup b us _ sq2 rs2=>exact .inr ⟨a,b,us,rfl,rfl,sameT s sq,sameT s sq2,k _ (.d (.tuple ys)) _ _ (Grow.refl s ra) (.tup sq2 rs2) trivial q⟩
  · exact .inl (vo_catT Qd Q s ra r1 r2 ⟨xs,ys,rfl,rfl,hx,hz,q⟩ k)
theorem v_catA (ha:PV X rl a fa) (hb:PV X rl b fb):PV X rl (.BinOp a .Add b pos) (vOp gCatA fa fb):=pv_op op_catA vo_catA ha hb
theorem reps_int {K:W.Frag} {F:Hp}:∀ {vs:List V} {ns:List Int},Reps K F vs (ns.map .int) -> vs = ns.map V.int
  | _,[],h=>h.nil_iff
  | _,n :: ns,.cons h r=>by rw [rep_int h,reps_int r]; rfl
end
end L2.VL

namespace L2.TO
open PySem PySem.Spec PyProof.Rows
section
variable {prog:Program} {w:World} {A:Around} {E:Value -> Shared -> Prop} {s:Shared}
theorem places_rev (n:Nat):Builtin.Slice.slicePlaces ((n:Int) - 1) (-1) (-1) = n:=by
  unfold Builtin.Slice.slicePlaces
  rw [if_neg (by decide)]
  by_cases h:n = 0
  · subst h; decide
  · rw [if_pos (by omega),show (- -1:Int) = 1 by decide,Int.ediv_one]; omega
theorem applied_rev {sl:Addr} {vk:Value} {n:Nat} {Q:Int × Int × Nat -> Shared -> Prop} (hs:s.heap.IsSliceOf sl .none .none vk) (pk:IsPart vk (some (-1)))
    (h:Q ((n:Int) - 1,-1,n) s):wpAny (model prog w) A (Builtin.Slice.sliceApplied (.ref sl) (pure (n:Int))) Q E s:=by
  obtain ⟨o1,hos,_,hds⟩:=hs; unfold Builtin.Slice.sliceApplied Builtin.Slice.sliceFields
  refine wpAny_bind (wpAny_bind (wpAny_field hos hds (x:=.none) rfl (wpAny_bind (wpAny_field hos hds (x:=.none) rfl (wpAny_bind (wpAny_field hos hds (x:=vk) rfl (wpAny_pure ?_)))))))
  refine wpAny_bind (HT.slicePart_ pk ?_)
  show wpAny _ _ (if ((-1:Int) == 0) = true then _ else _) _ _ s
  rw [if_neg (by decide)]
  refine wpAny_bind (HT.slicePart_ .none (wpAny_bind (HT.slicePart_ .none (wpAny_bind (wpAny_pure ?_)))))
  show wpAny _ _ (pure ((n:Int) - 1,(-1:Int),Builtin.Slice.slicePlaces ((n:Int) - 1) (-1) (-1))) _ _ s
  rw [places_rev]
  exact wpAny_pure h
theorem pick_rev (xs:Array Value):((List.range xs.size).filterMap fun (k:Nat)=>xs[((xs.size:Int) - 1 + (k:Int) * -1).toNat]?).toArray = xs.toList.reverse.toArray:=by
  have e:(fun (k:Nat)=>xs[((xs.size:Int) - 1 + (k:Int) * -1).toNat]?) = fun k=>xs[xs.size - 1 - k]?:=by
    funext k
    have:((xs.size:Int) - 1 + (k:Int) * -1).toNat = xs.size - 1 - k:=by omega
    rw [this]
  rw [e]
  have e2:(List.range xs.size).filterMap (fun k=>xs[xs.size - 1 - k]?) = ((List.range xs.size).map fun k=>xs.size - 1 - k).filterMap (xs[·]?):=by rw [List.filterMap_map]; rfl
  rw [e2,W.krv_range,List.filterMap_reverse,W.krv_all]
theorem get_rev {t sl:Addr} {items:Array Value} {vk:Value} {Q:Value -> Shared -> Prop} (ht:IsTup s.heap t items) (hs:s.heap.IsSliceOf sl .none .none vk) (pk:IsPart vk (some (-1)))
    (h:Q (.ref s.heap.objs.size) { s with heap:=s.heap.push { cls:=.type "tuple", data:=.seq items.toList.reverse.toArray } })
    (hsz:items.size <= sizeLine):wpAny (model prog w) A (getItem (.ref t) (.ref sl)) Q E s:=by
  have hz:sizeOk (.seq items.toList.reverse.toArray):=by
    show items.toList.reverse.toArray.size <= sizeLine
    rw [List.size_toArray,List.length_reverse,Array.length_toList]
    exact hsz
  have ty:s.TypeIs (.ref sl) "slice" := let ⟨o,h1,h2,_⟩:=hs; ⟨o,h1,h2⟩
  have key:wpAny (model prog w) A (call (.builtin "tuple.__getitem__") [.ref t,.ref sl]) Q E s:=by
    refine wpAny_call_entry PyProof.Rows.slot_tuple_getitem ht.typeIs entry_tuple_getitem ?_ (args_tuple_getitem _ _)
    show wpAny _ _ (Builtin.Tuple.tupleItemsOf (.ref t) >>= _) _ _ s; refine wpAny_bind (tupleItemsOf_ ht (wpAny_bind (wpAny_typeOf ty ?_)))
    rw [if_pos (by decide)]
    refine wpAny_bind (applied_rev hs pk ?_)
    show wpAny _ _ (if ((items.size:Int) - 1 == 0 && (-1:Int) == 1 && items.size == items.size) = true then _ else _) _ _ s
    rw [if_neg (by simp),pick_rev]
    first
      | exact wpAny_bind (m:=Builtin.Tuple.tupleExact _) (wpAny_newObj_type (wpAny_pure ⟨_,rfl,h⟩) hz)
      | exact wpAny_bind (m:=Builtin.Tuple.tupleExact _) (wpAny_newObj_type (wpAny_bind (wpAny_pure (wpAny_pure ⟨_,rfl,h⟩))) hz)
      | exact wpAny_bind (wpAny_bind (m:=Builtin.Tuple.tupleExact _) (wpAny_newObj_type (wpAny_pure (wpAny_pure ⟨_,rfl,h⟩)) hz))
      | exact wpAny_bind (wpAny_bind (m:=Builtin.Tuple.tupleExact _) (wpAny_newObj_type (wpAny_pure ⟨_,rfl,h⟩) hz))
  unfold getItem; try with_reducible refine wpAny_holding ?_
  first | exact wpAny_bind (wpAny_pure (wpAny_bind (wpAny_sequenceKey ht.typeIs (by decide) (wpAny_bind (wpAny_callSpecial?_slot (name:=Str.ofString "__getitem__") ht.typeIs PyProof.Rows.slot_tuple_getitem (thn key fun v s' q=>wpAny_pure q)))))) | exact wpAny_bind (wpAny_sequenceKey ht.typeIs (by decide) (wpAny_bind (wpAny_callSpecial?_slot (name:=Str.ofString "__getitem__") ht.typeIs PyProof.Rows.slot_tuple_getitem (thn key fun v s' q=>wpAny_pure q))))
end
end L2.TO
namespace L2
open PySem PySem.Spec PyProof.Rows
section
variable {X:Cx} {a b e:Expr} {ta:TA} {te:TE} {p p2 q pos pos2:Pos}
noncomputable def tRevT (K:W.Frag) (te:TE):TE:=fun σ H Q=>te σ H fun x H1=>∃ a xs,x = .ref a /\ SqT K H1 a xs /\ ∀ l,H1 l = none -> Q (.ref l) (upd H1 l (.tup xs.reverse))
theorem pe_revT {j:Nat} {p3 p4:Pos} (he:PE X e te):PE X (.Subscript e (.Slice none none (some (.UnaryOp .USub (.Constant (.int 1) j p3) p4)) p2) pos) (tRevT X.K te):=by
  intro pins s σ H Q I h
  refine Subscript_ (thn (he pins s σ H _ I h) fun v s1 ⟨x,H1,I1,r1,q1⟩=>?_)
  obtain ⟨a,xs,rfl,hq,q⟩:=q1
  cases r1
  refine wpAny_Slice ?_
  rw [evalPart_none]
  refine wpAny_pure (wpAny_pure ?_)
  refine thn (po_some (X:=X) (pe_un un_neg pe_int) pins s1 σ H1 (fun o H=>o = some (-1) /\ H = H1) I1 ⟨1,rfl,-1,rfl,rfl,rfl⟩) fun vk s3 ⟨o,H3,I3,pk,eo,eH⟩=>?_
  subst eo eH
  have I4:Inv X pins σ H3 { s3 with heap:=s3.heap.push { cls:=.type "slice", data:=.fields #[.none,.none,vk] } }:=I3.kept (t':=s3.toks) fun b ob q=>Heap.get?_push_of_some _ q
  obtain ⟨its,rv,p,hz⟩:=I4.tuple hq
  have hl:=rv.length
  refine tail_any (ops:=[.ref a,.ref s3.heap.objs.size]) p.typeIs PyProof.Rows.slot_tuple_getitem.lookup ?_ (by with_unfolding_all rfl)
  refine TO.get_rev p (Heap.IsSliceOf.new ..) pk ?_ (by rw [List.size_toArray] <;> omega)
  refine ⟨.ref _,_,I4.laid (t':=s3.toks) (o:=.tup xs.reverse) (fun b ob q=>Heap.get?_push_of_some _ q) (Nat.le_refl _) ?_,rfl,q _ (I4.hok.fresh (Nat.le_refl _))⟩
  exact ⟨by rw [List.length_reverse]; exact hz,its.reverse,rv.reverse,IsTupD.new _ _⟩
end
end L2
namespace L2.VL
open PySem PySem.Spec PyProof.Rows
section
variable {X:Cx} {rl:RlT} {a b c e:Expr} {es:List Expr} {fa fb fc:TV} {fs:TVs} {pos pos2 p q p2:Pos}
noncomputable def vRevT (fa:TV):TV:=fun ρ Q=>fa ρ fun w=>∃ xs,w = .d (.tuple xs) /\ Q (.d (.tuple xs.reverse))
theorem v_revT {j:Nat} {p3 p4:Pos} (ha:PV X rl e fa):PV X rl (.Subscript e (.Slice none none (some (.UnaryOp .USub (.Constant (.int 1) j p3) p4)) p2) pos) (vRevT fa):=by
  obtain ⟨t,p1,k⟩:=ha
  refine ⟨_,pe_revT p1,fun R Qd Q q h=>k R _ _ q fun v w F1 H1 g1 r1 n1 ⟨xs,ew,q1⟩=>?_⟩
  subst ew
  cases (show Rep X.K F1 v (.tuple xs) from r1) with
  | @tup a vs _ sq rs =>
    refine ⟨a,vs,rfl,sameT g1.sub sq,fun l hl=>?_⟩
    have g:=Grow.data (a:=l) (o:=.tup vs.reverse) g1.sub g1.reel hl
    exact h _ (.d _) _ _ (g1.trans g) (.tup (.inl (.inl upd_same)) (rs.rev.mono g.fs)) trivial q1
end
end L2.VL

namespace L2.TW
open PySem PySem.Spec PyProof.Rows
section
variable {prog:Program} {w:World} {A:Around} {E:Value -> Shared -> Prop} {s:Shared}
theorem get_whole {t sl:Addr} {items:Array Value} {vl vu:Value} {lo hi:Option Int} {Q:Value -> Shared -> Prop} (ht:IsTup s.heap t items) (hs:s.heap.IsSliceOf sl vl vu .none) (pl:IsPart vl lo) (pu:IsPart vu hi)
    (hw:HT.sIx items.size 0 lo = 0 /\ HT.sIx items.size items.size hi = items.size) (h:Q (.ref t) s):wpAny (model prog w) A (getItem (.ref t) (.ref sl)) Q E s:=by
  have ty:s.TypeIs (.ref sl) "slice" := let ⟨o,h1,h2,_⟩:=hs; ⟨o,h1,h2⟩
  have key:wpAny (model prog w) A (call (.builtin "tuple.__getitem__") [.ref t,.ref sl]) Q E s:=by
    refine wpAny_call_entry PyProof.Rows.slot_tuple_getitem ht.typeIs entry_tuple_getitem ?_ (args_tuple_getitem _ _)
    show wpAny _ _ (Builtin.Tuple.tupleItemsOf (.ref t) >>= _) _ _ s; refine wpAny_bind (tupleItemsOf_ ht (wpAny_bind (wpAny_typeOf ty ?_)))
    rw [if_pos (by decide)]
    refine wpAny_bind (HT.sliceApplied_gen hs pl pu ?_)
    rw [hw.1,hw.2,Nat.sub_zero]
    show wpAny _ _ (if (((0:Nat):Int) == 0 && (1:Int) == 1 && items.size == items.size) = true then _ else _) _ _ s
    rw [if_pos (by simp)]
    unfold Builtin.Tuple.tupleIsExact
    refine wpAny_bind (wpAny_bind (wpAny_typeOf ht.typeIs (wpAny_pure ?_)))
    rw [if_pos (by decide)]
    exact wpAny_bind (wpAny_rule (wpAny_bind (wpAny_pure (wpAny_pure ⟨_,rfl,h⟩))))
  unfold getItem; try with_reducible refine wpAny_holding ?_
  first | exact wpAny_bind (wpAny_pure (wpAny_bind (wpAny_sequenceKey ht.typeIs (by decide) (wpAny_bind (wpAny_callSpecial?_slot (name:=Str.ofString "__getitem__") ht.typeIs PyProof.Rows.slot_tuple_getitem (thn key fun v s' q=>wpAny_pure q)))))) | exact wpAny_bind (wpAny_sequenceKey ht.typeIs (by decide) (wpAny_bind (wpAny_callSpecial?_slot (name:=Str.ofString "__getitem__") ht.typeIs PyProof.Rows.slot_tuple_getitem (thn key fun v s' q=>wpAny_pure q))))
end
end L2.TW
namespace L2
open PySem PySem.Spec PyProof.Rows
section
variable {X:Cx}
noncomputable def rSlA (K:W.Frag):V -> Option Int -> Option Int -> Hp -> VK -> Prop:=fun x lo hi H Q=>rSlT K x lo hi H Q \/ ∃ a xs,x = .ref a /\ SqT K H a xs /\ (HT.sIx xs.length 0 lo = 0 /\ HT.sIx xs.length xs.length hi = xs.length) /\ Q (.ref a) H
theorem sl_tupA:SlR X (rSlA X.K):=by
  intro pins s σ H x v vl vu lo hi sl Q I rx hs pl pu h
  rcases h with h | ⟨a,xs,rfl,hx,hw,q⟩
  · exact sl_tup pins s σ H x v vl vu lo hi sl Q I rx hs pl pu h
  · cases rx
    obtain ⟨its,r,ht,hz⟩:=I.tuple hx
    have hlen:its.toArray.size = xs.length:=by rw [List.size_toArray]; exact r.length.symm
    exact ⟨"tuple", _,PyProof.Rows.slot_tuple_getitem.lookup,ht.typeIs,TW.get_whole ht hs pl pu (by rw [hlen]; exact hw) ⟨.ref a,H,I,rfl,q⟩⟩
end
end L2
namespace L2.VL
open PySem PySem.Spec PyProof.Rows
section
variable {X:Cx} {rl:RlT} {a b c e:Expr} {es:List Expr} {fa fb fc:TV} {fs:TVs} {pos p p2:Pos}
theorem cut_whole {xs:List PyData} {l u:Option Int} (h:HT.sIx xs.length 0 l = 0 /\ HT.sIx xs.length xs.length u = xs.length):cutD xs l u = xs:=by
  unfold cutD
  rw [h.1,h.2]
  simp
noncomputable def vSlA (fa:TV) (fl fh:TOv):TV:=fun ρ Q=>fa ρ fun w=>fl ρ fun l=>fh ρ fun h=>∃ xs,w = .d (.tuple xs) /\ Q (.d (.tuple (cutD xs l h)))
theorem v_slA {lo hi:Option Expr} {fl fh:TOv} (ha:PV X rl a fa) (hl:PVO X rl lo fl) (hh:PVO X rl hi fh):PV X rl (.Subscript a (.Slice lo hi none p2) pos) (vSlA fa fl fh):=by
  obtain ⟨t,p,k⟩:=ha
  obtain ⟨tl,pl,kl⟩:=hl
  obtain ⟨th,ph,kh⟩:=hh
  refine ⟨_,pe_slice sl_tupA p pl ph,fun R Qd Q q h=>k R _ _ q fun v w F1 H1 g1 r1 n1 q1=>?_⟩
  refine kl (R.grow g1) _ _ q1 fun l F2 H2 g2 q2=>kh ((R.grow g1).grow g2) _ _ q2 fun u F3 H3 g3 q3=>?_
  obtain ⟨xs,rfl,q3⟩:=q3
  have r3:=(r1.grow g2).grow g3
  have g:=(g1.trans g2).trans g3
  cases (show Rep X.K F3 v (.tuple xs) from r3) with
  | @tup a vs _ sq rs =>
    by_cases hw:HT.sIx xs.length 0 l = 0 /\ HT.sIx xs.length xs.length u = xs.length
    · rw [cut_whole hw] at q3
      exact .inr ⟨a,vs,rfl,sameT g3.sub sq,by rw [rs.length]; exact hw,h _ (.d _) _ _ g (.tup sq rs) trivial q3⟩
    · refine .inl ⟨a,vs,rfl,sameT g3.sub sq,by rw [rs.length]; exact hw,fun p hp=>?_⟩
      have g':=Grow.data (a:=p) (o:=.tup (cutV vs l u)) g3.sub g3.reel hp
      exact h _ (.d _) _ _ (g.trans g') (.tup (.inl (.inl upd_same)) ((rs.cut l u).mono g'.fs)) trivial q3
end
end L2.VL

namespace L2
open PySem PySem.Spec PyProof.Rows
abbrev tabD (D:List (Str × Int)):List (PyData × PyData):=(D.map fun q=>(q.1,PyData.int q.2)).map fun q=>(PyData.str q.1,q.2)
section
variable {X:Cx} {e:Expr} {ty:TE} {px apos cpos:Pos}
end
end L2
namespace L2.VL
open PySem PySem.Spec PyProof.Rows
section
variable {X:Cx} {rl:RlT} {a b c e:Expr} {es:List Expr} {fa fb fc:TV} {fs:TVs} {pos p p2 px apos cpos:Pos}
end
end L2.VL

set_option exponentiation.threshold 10000
namespace L2.VL
open PySem PySem.Spec PyProof.Rows
noncomputable def lowD (a b:Int):PyData:=.tuple [.int (a.fdiv (Int.gcd a b)),.int (b.fdiv (Int.gcd a b))]
theorem gcd_div {a b:Int} (hb : 0 < b) (z:b.natAbs < 2 ^ 8000) (i:Int):CDivB i (Int.gcd a b:Int):=by
  have h1:=gcd_pos (a:=a) (b:=b) (by omega)
  have h2:=gcd_le (a:=a) (b:=b) (by omega)
  exact ⟨by omega,Nat.lt_of_le_of_lt (by omega) (Nat.lt_of_lt_of_le z (Nat.pow_le_pow_right (by decide) (by decide)))⟩
noncomputable def exD (p:List Int):PyData:=.tuple (p.map .int)
end L2.VL
namespace L2.VL
open PySem PySem.Spec PyProof.Rows
noncomputable def GoodB (bs:List Int):Prop:=bs.length = 4 /\ (∀ b ∈ bs,2 <= b /\ b <= 16) /\ bs.Pairwise fun x y=>Int.gcd x y = 1
instance (bs:List Int):Decidable (GoodB bs):=by unfold GoodB; infer_instance
theorem sIx_int {n d:Nat} {k:Int} (h : 0 <= k):HT.sIx n d (some k) = min k.toNat n:=by
  obtain ⟨m,rfl⟩:=Int.eq_ofNat_of_zero_le h
  exact HT.sIx_nat n d m
theorem cut_from {xs:List PyData} {k:Int} (h : 0 <= k):cutD xs (some k) none = xs.drop k.toNat:=by
  unfold cutD
  rw [sIx_int h,HT.sIx_none]
  by_cases hk:k.toNat <= xs.length
  · rw [Nat.min_eq_left hk]
    exact List.take_of_length_le (by simp)
  · rw [Nat.min_eq_right (by omega),List.drop_length,List.drop_of_length_le (by omega)]
    simp
theorem cut_to {xs:List PyData} {k:Int} (h : 0 <= k):cutD xs none (some k) = xs.take k.toNat:=by
  unfold cutD
  rw [sIx_int h,HT.sIx_none,List.drop_zero,Nat.sub_zero]
  by_cases hk:k.toNat <= xs.length
  · rw [Nat.min_eq_left hk]
  · rw [Nat.min_eq_right (by omega),List.take_of_length_le (Nat.le_refl _),List.take_of_length_le (by omega)]
end L2.VL
namespace L2.VL
open PySem PySem.Spec PyProof.Rows
noncomputable def pr (a b:Int):PyData:=.tuple [.int a,.int b]
end L2.VL
namespace L2.VL
open PySem PySem.Spec PyProof.Rows
theorem pow_le_pow {b:Int} (h : 1 <= b) {i j:Nat} (hij:i <= j):b ^ i <= b ^ j:=by
  induction hij with
  | refl=>exact Int.le_refl _
  | step _ ih =>
    rw [Int.pow_succ]
    have : 0 <= b ^ i:=Int.le_of_lt (Int.pow_pos (by omega))
    exact Int.le_trans ih (by
      rename_i m _
      have hm : 0 < b ^ m:=Int.pow_pos (by omega)
      have:=Int.mul_le_mul_of_nonneg_left h (Int.le_of_lt hm)
      omega)
theorem pow_mono {a b:Int} (h0 : 0 <= a) (h:a <= b):∀ k:Nat,a ^ k <= b ^ k
  | 0=>by simp
  | k + 1=>by
    rw [Int.pow_succ,Int.pow_succ]
    exact Int.mul_le_mul (pow_mono h0 h k) h h0 (Int.pow_nonneg (by omega))
theorem two_pow_le {b:Int} (h : 2 <= b):∀ k:Nat,(2:Int) ^ k <= b ^ k
  | 0=>by simp
  | k + 1=>by
    rw [Int.pow_succ,Int.pow_succ]
    have:=two_pow_le h k
    have h0:(0:Int) <= 2 ^ k:=Int.le_of_lt (Int.pow_pos (by omega))
    calc (2:Int) ^ k * 2 <= b ^ k * 2:=Int.mul_le_mul_of_nonneg_right this (by omega)
      _ <= b ^ k * b:=Int.mul_le_mul_of_nonneg_left h (by omega)
end L2.VL
namespace L2.VL
open PySem PySem.Spec PyProof.Rows
end L2.VL
namespace L2.VL
open PySem PySem.Spec PyProof.Rows
end L2.VL
namespace L2.VL
open PySem PySem.Spec PyProof.Rows
end L2.VL
namespace L2.VL
open PySem PySem.Spec PyProof.Rows
end L2.VL
namespace L2.VL
open PySem PySem.Spec PyProof.Rows
end L2.VL

set_option exponentiation.threshold 10000
namespace L2.VL
open PySem PySem.Spec PyProof.Rows
noncomputable def digsF (b:Nat):Nat -> Nat -> List Nat
  | 0,_=>[]
  | k + 1,n=>if 2 <= b /\ 0 < n then (n % b) :: digsF b k (n / b) else []
noncomputable def digs (b n:Nat):List Nat:=digsF b n n
theorem digsF_st {b:Nat} (hb : 2 <= b):∀ k n l:Nat,n <= k -> n <= l -> digsF b k n = digsF b l n:=by
  intro k
  induction k with
  | zero =>
    intro n l h1 _
    have z:n = 0:=by omega
    subst z
    cases l with
    | zero=>rfl
    | succ l=>rw [digsF,digsF,if_neg (by omega)]
  | succ k ih =>
    intro n l h1 h2
    cases l with
    | zero =>
      have z:n = 0:=by omega
      subst z
      rw [digsF,digsF,if_neg (by omega)]
    | succ l =>
      rw [digsF,digsF]
      by_cases h : 0 < n
      · have q:=Nat.div_lt_self h hb
        rw [ih (n / b) l (by omega) (by omega)]
      · rw [if_neg (by omega),if_neg (by omega)]
theorem digs_zero (b:Nat):digs b 0 = []:=rfl
theorem digs_pos {b n:Nat} (hb : 2 <= b) (hn : 0 < n):digs b n = (n % b) :: digs b (n / b):=by
  cases n with
  | zero=>omega
  | succ n =>
    have q:=Nat.div_lt_self hn hb
    show digsF b (n + 1) (n + 1) = _ :: digsF b ((n + 1) / b) ((n + 1) / b)
    rw [digsF,if_pos (by omega),digsF_st hb n ((n + 1) / b) ((n + 1) / b) (by omega) (Nat.le_refl _)]
theorem digs_lt {b:Nat} (hb : 2 <= b):∀ n:Nat,∀ a ∈ digs b n,a < b:=by
  intro n
  induction n using Nat.strongRecOn with
  | ind n ih =>
    intro a ha
    by_cases hn : 0 < n
    · rw [digs_pos hb hn] at ha
      rcases List.mem_cons.mp ha with rfl | ha
      · exact Nat.mod_lt _ (by omega)
      · exact ih (n / b) (Nat.div_lt_self hn hb) a ha
    · have:n = 0:=by omega
      subst this
      rw [digs_zero] at ha
      cases ha
noncomputable def stepT (b:Int) (p:List Int) (t:Int) (a:Nat):Int:=t * b + p.getD a 0
theorem div_int {b n:Int} (hb : 0 <= b) (hn : 0 <= n):n / b = ((n.toNat / b.toNat:Nat):Int):=by
  obtain ⟨k,rfl⟩:=Int.eq_ofNat_of_zero_le hb
  obtain ⟨m,rfl⟩:=Int.eq_ofNat_of_zero_le hn
  simp
theorem mod_int2 {b n:Int} (hb : 0 <= b) (hn : 0 <= n):n % b = ((n.toNat % b.toNat:Nat):Int):=by
  obtain ⟨k,rfl⟩:=Int.eq_ofNat_of_zero_le hb
  obtain ⟨m,rfl⟩:=Int.eq_ofNat_of_zero_le hn
  simp
end L2.VL
namespace L2.VL
open PySem PySem.Spec PyProof.Rows
noncomputable def unI:PyData -> Int
  | .int i=>i
  | _=>0
end L2.VL
namespace L2.VL
open PySem PySem.Spec PyProof.Rows
end L2.VL

namespace L2.VL
open PySem PySem.Spec PyProof.Rows
section
variable {P:Program} {w:World} {K:W.Frag} {mg:Str -> Option Value} {base:Heap} {rl:RlT} {x:Str} {st:Stmt} {N ps:List Str} {k:Nat} {Pd:List W -> (List PyData -> Prop) -> Prop} {t:TSv}
end
section
variable {X:Cx} {rl:RlT} {a b c e:Expr} {es:List Expr} {fa fb fc:TV} {fs:TVs} {pos p p2 px apos cpos:Pos}
end
end L2.VL

namespace L2.IX
open PySem PySem.Spec PyProof.Rows
section
variable {prog:Program} {w:World} {A:Around} {E:Value -> Shared -> Prop} {s:Shared}
end
end L2.IX
namespace L2
open PySem PySem.Spec PyProof.Rows
section
variable {X:Cx}
end
end L2
namespace L2.VL
open PySem PySem.Spec PyProof.Rows
section
variable {X:Cx} {rl:RlT} {a b c e:Expr} {es:List Expr} {fa fb fc:TV} {fs:TVs} {pos p p2 px apos cpos:Pos}
noncomputable def isNonD:PyData -> Bool
  | .none=>true
  | _=>false
noncomputable def gIsN (neg:Bool):W -> W -> (W -> Prop) -> Prop:=fun x y Q=>∃ d,x.dat = some d /\ y = .d .none /\ Q (.d (.bool (if neg then !isNonD d else isNonD d)))
theorem rep_non {K:W.Frag} {F:Hp} {v:V} {d:PyData} (h:Rep K F v d):decide (v = V.non) = isNonD d:=by
  cases h <;> first | rfl | exact decide_eq_false (fun z=>by cases z)
theorem vo_notN:VOp X rl (fun x y H Q=>y = .non /\ Q (.bl (!decide (x = .non))) H) (gIsN true):=fun {F H x y wx wy} Qd Q s ra r1 r2 q k=>by
  obtain ⟨d,e1,rfl,q⟩:=q
  have e2:y = .non:=by cases (show Rep X.K F y .none from r2); rfl
  refine ⟨e2,?_⟩
  rw [rep_non (r1.dat s e1)]
  exact k _ (.d _) _ _ (Grow.refl s ra) (.bl _) trivial q
noncomputable def gRepL:W -> W -> (W -> Prop) -> Prop:=fun x y Q=>∃ xs k,x.dat = some (.list xs) /\ y = .d (.int k) /\ -(2 ^ 63) <= k /\ k < 2 ^ 63 /\ xs.length * k.toNat <= sizeLine /\ Q (.ml (List.replicate k.toNat xs).flatten)
theorem repsL {K:W.Frag} {F:Hp} {vs:List V} {ds:List PyData} (r:Reps K F vs ds):∀ n:Nat,Reps K F (List.replicate n vs).flatten (List.replicate n ds).flatten
  | 0=>.nil
  | n + 1=>by rw [List.replicate_succ,List.replicate_succ,List.flatten_cons,List.flatten_cons]; exact r.append (repsL r n)
theorem vo_repL:VOp X rl rRep gRepL:=fun {F H x y wx wy} Qd Q s ra r1 r2 q k=>by
  obtain ⟨xs,n,e1,rfl,h1,h2,hz,q⟩:=q
  have ey:=rep_int r2
  subst ey
  obtain ⟨a,vs,rfl,hh,rs⟩:=r1.lst s e1
  refine ⟨a,n,vs,rfl,rfl,hh,h1,h2,by rw [rs.length]; exact hz,fun p hp=>?_⟩
  exact k _ (.ml _) _ _ (Grow.laid s ra hp) (own_laid s ra hp (repsL rs n.toNat)) (fun a ea=>by cases ea; exact hp) q
theorem v_repL (ha:PV X rl a fa) (hb:PV X rl b fb):PV X rl (.BinOp a .Mult b pos) (vOp gRepL fa fb):=pv_op op_rep vo_repL ha hb
end
end L2.VL

namespace L2.ZP
open PySem PySem.Spec PyProof.Rows
section
variable {prog:Program} {w:World} {A:Around} {E:Value -> Shared -> Prop} {s:Shared} {it a:Addr} {k:Nat} {xs:Array Value} {v:Value}
theorem tn_item {Q:Value -> Shared -> Prop} (st:s.heap.IsTupleIter it a k) (tu:s.heap.IsTuple a xs) (e:xs[k]? = some v)
    (q:∀ g,g.IsTupleIter it a (k + 1) -> Heap.SameBut it s.heap g -> Q v { s with heap:=g }):wpAny (model prog w) A (Builtin.SmallTypes.nextOf (.ref it)) Q E s:=by
  have ty:=st.typeIs
  obtain ⟨o,oe,oc,od⟩:=st
  obtain ⟨l,le,_,_,ld⟩:=tu
  unfold Builtin.SmallTypes.nextOf
  have sl:=F.slot_tuple_iterator_next
  refine wpAny_bind (wpAny_callSpecial?_slot (name:=Str.ofString "__next__") ty sl (wpAny_call_entry sl ty F.entry_tuple_iterator_next ?_ (F.args_tuple_iterator_next_1 _)))
  show wpAny _ _ (do let z <- field (.ref it) 0; _) _ _ s
  refine wpAny_bind (wpAny_field oe od (x:=.ref a) rfl ?_)
  show wpAny _ _ (ite ((Value.ref a == Value.none) = true) _ _) _ _ s
  rw [if_neg (show ¬ (Value.ref a == .none) = true by intro z; cases z)]
  show wpAny _ _ (do let z <- field (.ref it) 1; _) _ _ s
  refine wpAny_bind (wpAny_field oe od (x:=.int k 0) rfl ?_)
  show wpAny _ _ (do let z <- seqItems? (.ref a); _) _ _ s
  refine wpAny_bind (wpAny_seqItems le ld ?_)
  simp only [Int.toNat_natCast,e]
  refine wpAny_bind (wpAny_setField oe od (by simp) (wpAny_pure ⟨v,rfl,wpAny_pure (q _ ?_ (Heap.SameBut.update ..))⟩))
  refine ⟨_,Heap.get?_update_self _ oe (Obj.isFreed_of_fields (Obj.data_mapFields od _)),?_,?_⟩
  · exact (Obj.cls_mapFields ..).trans oc
  · rw [Obj.data_mapFields od]; simp [rawInt]
theorem tn_end {Q:Value -> Shared -> Prop} (hd:A.handled = none) (st:s.heap.IsTupleIter it a k) (tu:s.heap.IsTuple a xs) (e:xs[k]? = none)
    (q:∀ g x,Heap.ExtBut it s.heap g -> (∃ o,g.get? x = some o /\ o.cls = .type "StopIteration") -> E (.ref x) { s with heap:=g }):wpAny (model prog w) A (Builtin.SmallTypes.nextOf (.ref it)) Q E s:=by
  have ty:=st.typeIs
  obtain ⟨o,oe,oc,od⟩:=st
  obtain ⟨l,le,_,_,ld⟩:=tu
  unfold Builtin.SmallTypes.nextOf
  have sl:=F.slot_tuple_iterator_next
  refine wpAny_bind (wpAny_callSpecial?_slot (name:=Str.ofString "__next__") ty sl (wpAny_call_entry sl ty F.entry_tuple_iterator_next ?_ (F.args_tuple_iterator_next_1 _)))
  show wpAny _ _ (do let z <- field (.ref it) 0; _) _ _ s
  refine wpAny_bind (wpAny_field oe od (x:=.ref a) rfl ?_)
  show wpAny _ _ (ite ((Value.ref a == Value.none) = true) _ _) _ _ s
  rw [if_neg (show ¬ (Value.ref a == .none) = true by intro z; cases z)]
  show wpAny _ _ (do let z <- field (.ref it) 1; _) _ _ s
  refine wpAny_bind (wpAny_field oe od (x:=.int k 0) rfl ?_)
  show wpAny _ _ (do let z <- seqItems? (.ref a); _) _ _ s
  refine wpAny_bind (wpAny_seqItems le ld ?_)
  simp only [Int.toNat_natCast,e]
  refine wpAny_bind (wpAny_rule (wpAny_bind (wpAny_setField oe od (by simp) ?_)))
  show wpAny _ _ (do let z <- newExc (.type "StopIteration") []; _) _ _ _
  refine wpAny_bind ?_
  simp only [newExc,newTuple]
  refine wpAny_bind (wpAny_newObj_type ?_ (by size_fits))
  refine wpAny_bind (m:=firstArgMember _ _) (wpAny_of_eq (a:=.none) (by first | rfl | (simp only [firstArgMember]; rfl)) (wpAny_newObj_type ?_ (by size_fits)))
  simp only [raiseNew]
  refine wpAny_bind (wpAny_handled ?_)
  first
    | rw [show A.in1.handled = none from hd]
    | rw [hd]
  refine wpAny_bind (wpAny_pure (wpAny_throw ?_))
  exact q _ _ (((Heap.SameBut.update ..).extBut.push _).push _) ⟨_,Heap.get?_push_size _ rfl,rfl⟩
end
noncomputable def It1 (h:Heap) (it a:Addr) (xs:Array Value) (k:Nat):Prop:=(h.IsListIter it a k /\ h.IsList a xs) \/ (h.IsTupleIter it a k /\ h.IsTuple a xs)
section
variable {prog:Program} {w:World} {A:Around} {E:Value -> Shared -> Prop} {s:Shared} {it a:Addr} {k:Nat} {xs:Array Value} {v:Value}
theorem It1.item {Q:Value -> Shared -> Prop} (st:It1 s.heap it a xs k) (ne:a ≠ it) (e:xs[k]? = some v)
    (q:∀ g,It1 g it a xs (k + 1) -> Heap.SameBut it s.heap g -> Q v { s with heap:=g }):wpAny (model prog w) A (Builtin.SmallTypes.nextOf (.ref it)) Q E s:=by
  rcases st with ⟨h1,h2⟩ | ⟨h1,h2⟩
  · exact wpAny_nextOf_list_item h1 h2 e fun g h3 h4=>q g (.inl ⟨h3,h2.extBut h4.extBut ne⟩) h4
  · exact tn_item h1 h2 e fun g h3 h4=>q g (.inr ⟨h3,h2.extBut h4.extBut ne⟩) h4
theorem It1.fin {Q:Value -> Shared -> Prop} (hd:A.handled = none) (st:It1 s.heap it a xs k) (e:xs[k]? = none)
    (q:∀ g x,Heap.ExtBut it s.heap g -> (∃ o,g.get? x = some o /\ o.cls = .type "StopIteration") -> E (.ref x) { s with heap:=g }):wpAny (model prog w) A (Builtin.SmallTypes.nextOf (.ref it)) Q E s:=by
  rcases st with ⟨h1,h2⟩ | ⟨h1,h2⟩
  · exact wpAny_nextOf_list_end hd h1 h2 e q
  · exact tn_end hd h1 h2 e q
theorem It1.keep {h h':Heap} (st:It1 h it a xs k) (e1:∀ o,h.get? it = some o -> h'.get? it = some o) (e2:∀ o,h.get? a = some o -> h'.get? a = some o):It1 h' it a xs k:=by
  rcases st with ⟨⟨o,h1,r1⟩,⟨p,h2,r2⟩⟩ | ⟨⟨o,h1,r1⟩,⟨p,h2,r2⟩⟩
  · exact .inl ⟨⟨o,e1 _ h1,r1⟩,⟨p,e2 _ h2,r2⟩⟩
  · exact .inr ⟨⟨o,e1 _ h1,r1⟩,⟨p,e2 _ h2,r2⟩⟩
end
end L2.ZP
namespace L2.ZP
open PySem PySem.Spec PyProof.Rows
section
variable {prog:Program} {w:World} {A:Around} {E:Value -> Shared -> Prop} {s:Shared} {z ti to i1 i2 a1 a2:Addr} {k1 k2:Nat} {xs ys:Array Value} {x y p q:Value}
theorem SameBut.keep {a b:Addr} {h h':Heap} (sb:Heap.SameBut a h h') (ne:b ≠ a):∀ o,h.get? b = some o -> h'.get? b = some o:=fun o e=>sb.extBut _ _ ne e
theorem zn_item {Q:Value -> Shared -> Prop} (D:ZipApart z ti to i1 i2 a1 a2) (oz:IsZip s.heap z ti to .none) (oi:IsPair s.heap ti (.ref i1) (.ref i2)) (oo:IsPair s.heap to p q)
    (s1:It1 s.heap i1 a1 xs k1) (s2:It1 s.heap i2 a2 ys k2) (ex:xs[k1]? = some x) (ey:ys[k2]? = some y)
    (done:∀ g,IsZip g z ti to (rawInt s.heap.objs.size) -> IsPair g to x y -> It1 g i1 a1 xs (k1 + 1) -> It1 g i2 a2 ys (k2 + 1) -> IsPair g s.heap.objs.size x y -> g.objs.size = s.heap.objs.size + 1 ->
      (∀ b o,b ≠ z -> b ≠ to -> b ≠ i1 -> b ≠ i2 -> s.heap.get? b = some o -> g.get? b = some o) -> Q (.ref s.heap.objs.size) { s with heap:=g }) :
    wpAny (model prog w) A (Builtin.«zip.__next__» ⟨[.ref z],[]⟩) (fun r s'=>∃ u,r = .done (.ret u) /\ Q u s') E s:=by
  show wpAny _ _ (do let c <- field (.ref z) 2; _) _ _ _
  refine wpAny_bind (wpAny_field oz rfl (x:=.bool false) rfl ?_)
  show wpAny _ _ (do let c <- field (.ref z) 3; _) _ _ _
  refine wpAny_bind (wpAny_field oz rfl (x:=.ref ti) rfl ?_)
  refine wpAny_bind (wpAny_seqItems oi rfl ?_)
  show wpAny _ _ (do let c <- Builtin.SmallTypes.ownedTupleIsFree (.ref z); _) _ _ _
  refine wpAny_bind ?_
  unfold Builtin.SmallTypes.ownedTupleIsFree
  refine wpAny_bind (wpAny_field oz rfl (x:=Value.none) rfl (wpAny_pure ?_))
  simp only [if_true]
  refine wpAny_bind (wpAny_rule (wpAny_bind (wpAny_field oz rfl (x:=.ref to) rfl (wpAny_bind (wpAny_setField_rec oz (by simp) fun g1 z1 b1=>?_)))))
  have z1:IsZip g1 z ti to .ellipsis:=z1
  refine wpAny_bind ?_
  simp only [List.forIn_cons,List.forIn_nil,List.zipIdx_cons,List.zipIdx_nil]
  have s1a:It1 g1 i1 a1 xs k1:=s1.keep (SameBut.keep b1 D.i1z) (SameBut.keep b1 D.l1z)
  refine wpAny_bind (wpAny_bind (wpAny_onRaise ?_))
  show wpAny _ _ (do let c <- Builtin.SmallTypes.nextOf (.ref i1); _) _ _ _
  refine wpAny_bind (s1a.item D.l1i1 ex fun g2 s1b b2=>wpAny_pure ?_)
  have o2:IsPair g2 to p q:=b2.extBut _ _ D.TOi1 (b1.extBut _ _ D.TOz oo)
  refine wpAny_bind (wpAny_seqItems o2 rfl (wpAny_bind (wpAny_updateSeq_pair o2 fun g3 o3 b3=>?_)))
  have o3:IsPair g3 to x q:=o3
  refine wpAny_bind (wpAny_letGo (wpAny_pure ?_))
  have s2a:It1 g3 i2 a2 ys k2:=((s2.keep (SameBut.keep b1 D.i2z) (SameBut.keep b1 D.l2z)).keep (SameBut.keep b2 D.i12.symm) (SameBut.keep b2 D.l2i1)).keep (SameBut.keep b3 D.TOi2.symm) (SameBut.keep b3 D.l2TO)
  refine wpAny_bind (wpAny_bind (wpAny_onRaise ?_))
  show wpAny _ _ (do let c <- Builtin.SmallTypes.nextOf (.ref i2); _) _ _ _
  refine wpAny_bind (s2a.item D.l2i2 ey fun g4 s2b b4=>wpAny_pure ?_)
  have o4:IsPair g4 to x q:=b4.extBut _ _ D.TOi2 o3
  refine wpAny_bind (wpAny_seqItems o4 rfl (wpAny_bind (wpAny_updateSeq_pair o4 fun g5 o5 b5=>?_)))
  have o5:IsPair g5 to x y:=o5
  refine wpAny_bind (wpAny_letGo (wpAny_pure (wpAny_pure ?_)))
  refine wpAny_bind (wpAny_seqItems o5 rfl (wpAny_bind (wpAny_newTuple ?_)))
  have size:g5.objs.size = s.heap.objs.size:=by rw [b5.1,b4.1,b3.1,b2.1,b1.1]
  have z5:IsZip g5 z ti to .ellipsis:=b5.extBut _ _ D.TOz.symm (b4.extBut _ _ D.i2z.symm (b3.extBut _ _ D.TOz.symm (b2.extBut _ _ D.i1z.symm z1)))
  have kp:∀ b o,b ≠ z -> b ≠ to -> b ≠ i1 -> b ≠ i2 -> s.heap.get? b = some o -> g5.get? b = some o:=fun b o n1 n2 n3 n4 e=>b5.extBut _ _ n2 (b4.extBut _ _ n4 (b3.extBut _ _ n2 (b2.extBut _ _ n3 (b1.extBut _ _ n1 e))))
  have s1c:It1 g5 i1 a1 xs (k1 + 1):=((s1b.keep (SameBut.keep b3 D.TOi1.symm) (SameBut.keep b3 D.l1TO)).keep (SameBut.keep b4 D.i12) (SameBut.keep b4 D.l1i2)).keep (SameBut.keep b5 D.TOi1.symm) (SameBut.keep b5 D.l1TO)
  have s2c:It1 g5 i2 a2 ys (k2 + 1):=s2b.keep (SameBut.keep b5 D.TOi2.symm) (SameBut.keep b5 D.l2TO)
  have zl:z < g5.objs.size:=Heap.lt_size z5
  show wpAny _ _ (do Builtin.SmallTypes.ownedTupleHandOut (.ref z) (.ref g5.objs.size); _) _ _ _
  refine wpAny_bind ?_
  unfold Builtin.SmallTypes.ownedTupleHandOut
  have z6:IsZip (g5.push { cls:=.type "tuple", data:=.seq #[x,y] }) z ti to .ellipsis:=Heap.get?_push_of_some _ z5
  refine wpAny_bind (wpAny_setField_rec z6 (by simp) fun g7 z7 b7=>?_)
  have z7:IsZip g7 z ti to (rawInt g5.objs.size):=z7
  refine wpAny_setField_rec z7 (by simp) fun g8 z8 b8=>?_
  have z8:IsZip g8 z ti to (rawInt g5.objs.size):=z8
  have up:∀ b o,b ≠ z -> g5.get? b = some o -> g8.get? b = some o:=fun b o n e=>b8.extBut _ _ n (b7.extBut _ _ n (Heap.get?_push_of_some _ e))
  have t8:IsPair g8 g5.objs.size x y:=b8.extBut _ _ (Nat.ne_of_gt zl) (b7.extBut _ _ (Nat.ne_of_gt zl) (Heap.get?_push_size _ rfl))
  have l8:g8.objs.size = g5.objs.size + 1:=by rw [b8.1,b7.1,Heap.size_push]
  rw [size] at z8 t8 l8
  refine wpAny_pure ⟨_,rfl,?_⟩
  show Q (.ref g5.objs.size) _
  rw [size]
  exact done g8 z8 (up _ _ D.TOz o5) (s1c.keep (fun o e=>up _ o D.i1z e) fun o e=>up _ o D.l1z e) (s2c.keep (fun o e=>up _ o D.i2z e) fun o e=>up _ o D.l2z e) t8 l8 fun b o n1 n2 n3 n4 e=>up b o n1 (kp b o n1 n2 n3 n4 e)
theorem zn_end {Q:Fin -> Shared -> Prop} (hd:A.handled = none) (D:ZipApart z ti to i1 i2 a1 a2) (oz:IsZip s.heap z ti to .none) (oi:IsPair s.heap ti (.ref i1) (.ref i2)) (oo:IsPair s.heap to p q)
    (s1:It1 s.heap i1 a1 xs k1) (s2:It1 s.heap i2 a2 ys k2) (e:xs[k1]? = none \/ ys[k2]? = none)
    (q':∀ g x,(∀ b o,b ≠ z -> b ≠ to -> b ≠ i1 -> b ≠ i2 -> s.heap.get? b = some o -> g.get? b = some o) -> (∃ o,g.get? x = some o /\ o.cls = .type "StopIteration") -> E (.ref x) { s with heap:=g }) :
    wpAny (model prog w) A (Builtin.«zip.__next__» ⟨[.ref z],[]⟩) Q E s:=by
  show wpAny _ _ (do let c <- field (.ref z) 2; _) _ _ _
  refine wpAny_bind (wpAny_field oz rfl (x:=.bool false) rfl ?_)
  show wpAny _ _ (do let c <- field (.ref z) 3; _) _ _ _
  refine wpAny_bind (wpAny_field oz rfl (x:=.ref ti) rfl ?_)
  refine wpAny_bind (wpAny_seqItems oi rfl ?_)
  show wpAny _ _ (do let c <- Builtin.SmallTypes.ownedTupleIsFree (.ref z); _) _ _ _
  refine wpAny_bind ?_
  unfold Builtin.SmallTypes.ownedTupleIsFree
  refine wpAny_bind (wpAny_field oz rfl (x:=Value.none) rfl (wpAny_pure ?_))
  simp only [if_true]
  refine wpAny_bind (wpAny_rule (wpAny_bind (wpAny_field oz rfl (x:=.ref to) rfl (wpAny_bind (wpAny_setField_rec oz (by simp) fun g1 z1 b1=>?_)))))
  have z1:IsZip g1 z ti to .ellipsis:=z1
  refine wpAny_bind ?_
  simp only [List.forIn_cons,List.forIn_nil,List.zipIdx_cons,List.zipIdx_nil]
  have s1a:It1 g1 i1 a1 xs k1:=s1.keep (SameBut.keep b1 D.i1z) (SameBut.keep b1 D.l1z)
  refine wpAny_bind (wpAny_bind (wpAny_onRaise ?_))
  show wpAny _ _ (do let c <- Builtin.SmallTypes.nextOf (.ref i1); _) _ _ _
  have last:∀ (g g':Heap) (u:Addr) (o:Obj),g.get? u = some o -> o.cls = .type "StopIteration" -> IsZip g z ti to .ellipsis -> Heap.SameBut z g g' -> ∃ o,g'.get? u = some o /\ o.cls = .type "StopIteration" := fun g g' u o h1 h2 h3 sb=>by
    have ne:u ≠ z:=fun c=>by rw [c,h3] at h1; cases h1; simp at h2
    exact ⟨o,sb.extBut _ _ ne h1,h2⟩
  cases ex:xs[k1]? with
  | none =>
    refine wpAny_bind (s1a.fin hd ex fun g2 u b2 ⟨o,ou,oc⟩=>?_)
    have z2:IsZip g2 z ti to .ellipsis:=b2 _ _ D.i1z.symm z1
    exact wpAny_setField_rec z2 (by simp) fun g3 _ b3=>q' g3 u (fun b o n1 _ n3 _ e=>b3.extBut _ _ n1 (b2 _ _ n3 (b1.extBut _ _ n1 e))) (last g2 g3 u o ou oc z2 b3)
  | some x =>
    have ey:ys[k2]? = none:=e.elim (fun h=>by rw [ex] at h; cases h) id
    refine wpAny_bind (s1a.item D.l1i1 ex fun g2 s1b b2=>wpAny_pure ?_)
    have o2:IsPair g2 to p q:=b2.extBut _ _ D.TOi1 (b1.extBut _ _ D.TOz oo)
    refine wpAny_bind (wpAny_seqItems o2 rfl (wpAny_bind (wpAny_updateSeq_pair o2 fun g3 o3 b3=>?_)))
    refine wpAny_bind (wpAny_letGo (wpAny_pure ?_))
    have s2a:It1 g3 i2 a2 ys k2:=((s2.keep (SameBut.keep b1 D.i2z) (SameBut.keep b1 D.l2z)).keep (SameBut.keep b2 D.i12.symm) (SameBut.keep b2 D.l2i1)).keep (SameBut.keep b3 D.TOi2.symm) (SameBut.keep b3 D.l2TO)
    refine wpAny_bind (wpAny_bind (wpAny_onRaise ?_))
    show wpAny _ _ (do let c <- Builtin.SmallTypes.nextOf (.ref i2); _) _ _ _
    refine wpAny_bind (s2a.fin hd ey fun g4 u b4 ⟨o,ou,oc⟩=>?_)
    have z4:IsZip g4 z ti to .ellipsis:=b4 _ _ D.i2z.symm (b3.extBut _ _ D.TOz.symm (b2.extBut _ _ D.i1z.symm z1))
    exact wpAny_setField_rec z4 (by simp) fun g5 _ b5=>q' g5 u (fun b o n1 n2 n3 n4 e=>b5.extBut _ _ n1 (b4 _ _ n4 (b3.extBut _ _ n2 (b2.extBut _ _ n3 (b1.extBut _ _ n1 e))))) (last g4 g5 u o ou oc z4 b5)
end
end L2.ZP
namespace L2.ZP
open PySem PySem.Spec PyProof.Rows
noncomputable def Sq1 (b:Bool) (h:Heap) (a:Addr) (xs:Array Value):Prop:=bif b then h.IsTuple a xs else h.IsList a xs
noncomputable def itc (b:Bool):String:=bif b then "tuple_iterator" else "list_iterator"
theorem Sq1.push {b:Bool} {h:Heap} {a:Addr} {xs:Array Value} (q:Sq1 b h a xs) (o:Obj):Sq1 b (h.push o) a xs:=by
  cases b with
  | true=>exact Heap.IsTuple.push q o
  | false=>exact Heap.IsList.push q o
section
variable {prog:Program} {w:World} {A:Around} {E:Value -> Shared -> Prop} {s:Shared} {b b1 b2:Bool} {a a1 a2:Addr} {xs ys:Array Value}
theorem iter1 {Q:Value -> Shared -> Prop} (st:Sq1 b s.heap a xs) (q:Q (.ref s.heap.objs.size) { s with heap:=s.heap.push { cls:=.type (itc b),data:=.fields #[.ref a,.int 0 0] } }):wpAny (model prog w) A (pyIter (.ref a)) Q E s:=by
  cases b with
  | true=>exact wpAny_pyIter_tuple st q
  | false=>exact wpAny_pyIter_list st q
abbrev y1 (h:Heap) (b1:Bool) (a1:Addr):Heap:=h.push { cls:=.type (itc b1),data:=.fields #[.ref a1,.int 0 0] }
abbrev y2 (h:Heap) (b1 b2:Bool) (a1 a2:Addr):Heap:=(y1 h b1 a1).push { cls:=.type (itc b2),data:=.fields #[.ref a2,.int 0 0] }
abbrev y3 (h:Heap) (b1 b2:Bool) (a1 a2:Addr):Heap:=(y2 h b1 b2 a1 a2).push { cls:=.type "tuple", data:=.seq #[.ref h.objs.size,.ref (y1 h b1 a1).objs.size] }
abbrev y4 (h:Heap) (b1 b2:Bool) (a1 a2:Addr):Heap:=(y3 h b1 b2 a1 a2).push { cls:=.type "tuple", data:=.seq #[.none,.none] }
abbrev y5 (h:Heap) (b1 b2:Bool) (a1 a2:Addr):Heap:=(y4 h b1 b2 a1 a2).push { cls:=.type "zip", data:=.fields #[.none,.bool false,.bool false,.ref (y2 h b1 b2 a1 a2).objs.size,.ref (y3 h b1 b2 a1 a2).objs.size] }
theorem zip_new (b1 b2:Bool) (a1 a2:Addr) (xs ys:Array Value) :
    Meets (Builtin.«zip.__new__» ⟨[.type "zip", .ref a1,.ref a2],[]⟩) (fun _ R s=>Sq1 b1 s.heap a1 xs /\ Sq1 b2 s.heap a2 ys /\ R (.ok (.ret (.ref (y4 s.heap b1 b2 a1 a2).objs.size))) { s with heap:=y5 s.heap b1 b2 a1 a2 }) :=
  .of_wp fun prog w A R s h=>by
    obtain ⟨hp,g,d,tk,os⟩:=s
    obtain ⟨q1,q2,h⟩:=h
    have hsub:=sub_zip
    have k1:Sq1 b1 (Shared.heap ⟨hp,g,d,tk,os⟩) a1 xs:=q1
    have k2:Sq1 b2 (Shared.heap ⟨hp.push { cls:=.type (itc b1),data:=.fields #[.ref a1,.int 0 0] },g,d,tk,os⟩) a2 ys:=q2.push _
    wp_walk using iter1 k1,iter1 k2
    exact ⟨_,rfl,h⟩
theorem call_zip {Q:Value -> Shared -> Prop} (q1:Sq1 b1 s.heap a1 xs) (q2:Sq1 b2 s.heap a2 ys)
    (k:∀ g,IsZip g (s.heap.objs.size + 4) (s.heap.objs.size + 2) (s.heap.objs.size + 3) .none -> IsPair g (s.heap.objs.size + 2) (.ref s.heap.objs.size) (.ref (s.heap.objs.size + 1)) -> IsPair g (s.heap.objs.size + 3) .none .none ->
      It1 g s.heap.objs.size a1 xs 0 -> It1 g (s.heap.objs.size + 1) a2 ys 0 -> g.objs.size = s.heap.objs.size + 5 -> (∀ c o,s.heap.get? c = some o -> g.get? c = some o) -> Q (.ref (s.heap.objs.size + 4)) { s with heap:=g }) :
    wpAny (model prog w) A (call (.type "zip") [.ref a1,.ref a2]) Q E s:=by
  refine callType_new F.called_zip (by decide) (F.typeCall_zip_2 _ _) (F.newCall_zip_2 _ _) (fun u=>F.args_object_init_3 u _ _) F.entry_zip_new (zip_new b1 b2 a1 a2 xs ys) ⟨q1,q2,?_⟩
  have n1:(y1 s.heap b1 a1).objs.size = s.heap.objs.size + 1:=Heap.size_push ..
  have n2:(y2 s.heap b1 b2 a1 a2).objs.size = s.heap.objs.size + 2:=by rw [Heap.size_push,n1]
  have n3:(y3 s.heap b1 b2 a1 a2).objs.size = s.heap.objs.size + 3:=by rw [Heap.size_push,n2]
  have n4:(y4 s.heap b1 b2 a1 a2).objs.size = s.heap.objs.size + 4:=by rw [Heap.size_push,n3]
  have n5:(y5 s.heap b1 b2 a1 a2).objs.size = s.heap.objs.size + 5:=by rw [Heap.size_push,n4]
  have pu:∀ {h:Heap} {o u:Obj} {c:Addr},h.get? c = some u -> (h.push o).get? c = some u:=fun e=>Heap.get?_push_of_some _ e
  have kp:∀ c o,s.heap.get? c = some o -> (y5 s.heap b1 b2 a1 a2).get? c = some o:=fun c o e=>pu (pu (pu (pu (pu e))))
  have f5:(y5 s.heap b1 b2 a1 a2).get? (y4 s.heap b1 b2 a1 a2).objs.size = some _:=Heap.get?_push_size _ rfl
  have f4:(y5 s.heap b1 b2 a1 a2).get? (y3 s.heap b1 b2 a1 a2).objs.size = some _:=pu (Heap.get?_push_size _ rfl)
  have f3:(y5 s.heap b1 b2 a1 a2).get? (y2 s.heap b1 b2 a1 a2).objs.size = some _:=pu (pu (Heap.get?_push_size _ rfl))
  have f2:(y5 s.heap b1 b2 a1 a2).get? (y1 s.heap b1 a1).objs.size = some _:=pu (pu (pu (Heap.get?_push_size _ rfl)))
  have f1:(y5 s.heap b1 b2 a1 a2).get? s.heap.objs.size = some _:=pu (pu (pu (pu (Heap.get?_push_size _ rfl))))
  show _ /\ _
  rw [n2,n3,n4] at f5
  rw [n1,n2] at f3
  rw [n3] at f4
  rw [n1] at f2
  rw [n4]
  have mk:∀ {b:Bool} {i a:Addr} {zs:Array Value},(y5 s.heap b1 b2 a1 a2).get? i = some { cls:=.type (itc b),data:=.fields #[.ref a,.int 0 0] } -> Sq1 b s.heap a zs -> It1 (y5 s.heap b1 b2 a1 a2) i a zs 0:=fun {b i a zs} e q=>by
    cases b with
    | true=>obtain ⟨o,h1,h2⟩:=(show s.heap.IsTuple a zs from q); exact .inr ⟨⟨_,e,rfl,rfl⟩,⟨o,kp _ _ h1,h2⟩⟩
    | false=>obtain ⟨o,h1,h2⟩:=(show s.heap.IsList a zs from q); exact .inl ⟨⟨_,e,rfl,rfl⟩,⟨o,kp _ _ h1,h2⟩⟩
  exact ⟨⟨_,f5,rfl⟩,k _ f5 f3 f4 (mk f1 q1) (mk f2 q2) n5 kp⟩
end
end L2.ZP
namespace L2
open PySem PySem.Spec PyProof.Rows L2.ZP
theorem Inv.turnedL {X:Cx} {pins:List (Addr × Obj)} {σ:St} {H:Hp} {s:Shared} {h':Heap} {t':Nat} {ch:List Addr} (I:Inv X pins σ H s) (k:∀ b o,b ∉ ch -> s.heap.get? b = some o -> h'.get? b = some o) (hn:∀ b ∈ ch,FpOk X pins H b) :
    Inv X pins σ H { s with heap:=h',toks:=t' }:=by
  have nit:∀ b u,H b = some u -> b ∉ ch:=fun b u e z=>by rw [(hn b z).1] at e; cases e
  refine I.step (g':=s.gens) (d':=s.drawn) (ch:=ch) (fun b hb=>?_) (fun b o _ _ hc e _=>k b o hc e) (fun b o _ _ hc e _=>⟨o.slots,k b o hc e⟩) (fun _ _ _ _ n=>n) (fun b o hc e=>⟨o,k b o hc e⟩) (fun _ _ e=>e) (fun _ _ _ e=>e) (fun b ps e=>⟨#[],by rw [e]; simp⟩) (fun m hm=>?_) (fun b u e=>?_) I.bare
  · obtain ⟨_,h2,_,h4,h5,h6⟩:=hn b hb
    exact ⟨h4,h2,h5,h6⟩
  · obtain ⟨o,es,ep,ho,r⟩:=hm
    exact ⟨o,es,ep,k _ o (fun z=>(hn _ z).2.1 rfl) ho,r⟩
  · refine (I.hok b u e).stay (fun c v hc q=>k c v ?_ q) (fun _ q=>q) fun _ _ q=>q
    rcases hc with z | z
    · rw [z]; exact nit b u e
    · exact nit c _ z
noncomputable def SqB (b:Bool) (K:W.Frag) (H:Hp) (a:Addr) (xs:List V):Prop:=bif b then SqT K H a xs else SqL K H a xs
theorem Inv.sqB {X:Cx} {pins:List (Addr × Obj)} {σ:St} {H:Hp} {s:Shared} {b:Bool} {a:Addr} {xs:List V} (I:Inv X pins σ H s) (h:SqB b X.K H a xs):∃ its,Vals xs its /\ Sq1 b s.heap a its.toArray:=by
  cases b with
  | true =>
    obtain ⟨its,r,t,z⟩:=I.tuple h
    exact ⟨its,r,t⟩
  | false =>
    obtain ⟨its,r,p,z⟩:=I.list h
    exact ⟨its,r,p.isList⟩
theorem Inv.sqB_inj {X:Cx} {pins:List (Addr × Obj)} {σ:St} {H:Hp} {s:Shared} {b:Bool} {a:Addr} {xs ys:List V} (I:Inv X pins σ H s) (h:SqB b X.K H a xs) (h':SqB b X.K H a ys):xs = ys:=by
  cases b with
  | true=>exact I.tuple_inj h h'
  | false=>exact I.list_inj h h'
noncomputable def Itz (K:W.Frag) (b1 b2:Bool) (a1 a2:Addr):It :=
  ⟨fun i H=>∃ xs ys x y,SqB b1 K H a1 xs /\ SqB b2 K H a2 ys /\ xs[i]? = some x /\ ys[i]? = some y,
   fun i H v H'=>∃ x y p,(∀ xs,SqB b1 K H a1 xs -> xs[i]? = some x) /\ (∀ ys,SqB b2 K H a2 ys -> ys[i]? = some y) /\ H p = none /\ v = .ref p /\ H' = upd H p (.tup [x,y]),
   fun i H=>∃ xs ys,SqB b1 K H a1 xs /\ SqB b2 K H a2 ys /\ (xs.length <= i \/ ys.length <= i)⟩
noncomputable def Ir1 (b:Bool) (h:Heap) (it a:Addr) (k:Nat):Prop:=bif b then h.IsTupleIter it a k else h.IsListIter it a k
theorem Ir1.it1 {b:Bool} {h:Heap} {it a:Addr} {k:Nat} {xs:Array Value} (q:Ir1 b h it a k) (r:Sq1 b h a xs):It1 h it a xs k:=by
  cases b with
  | true=>exact .inr ⟨q,r⟩
  | false=>exact .inl ⟨q,r⟩
theorem Ir1.keep {b:Bool} {h h':Heap} {it a:Addr} {k:Nat} (q:Ir1 b h it a k) (e:∀ o,h.get? it = some o -> h'.get? it = some o):Ir1 b h' it a k:=by
  cases b with
  | true=>obtain ⟨o,h1,r⟩:=(show h.IsTupleIter it a k from q); exact ⟨o,e _ h1,r⟩
  | false=>obtain ⟨o,h1,r⟩:=(show h.IsListIter it a k from q); exact ⟨o,e _ h1,r⟩
theorem Ir1.obj {b:Bool} {h:Heap} {it a:Addr} {k:Nat} (q:Ir1 b h it a k):∃ o,h.get? it = some o /\ ∀ v,o.data ≠ .cell v:=by
  cases b with
  | true=>obtain ⟨o,h1,_,d⟩:=(show h.IsTupleIter it a k from q); exact ⟨o,h1,fun v z=>by rw [d] at z; cases z⟩
  | false=>obtain ⟨o,h1,_,d⟩:=(show h.IsListIter it a k from q); exact ⟨o,h1,fun v z=>by rw [d] at z; cases z⟩
theorem It1.ir {b:Bool} {h:Heap} {it a:Addr} {k j:Nat} {xs:Array Value} {h0:Heap} (q:It1 h it a xs k) (r:Ir1 b h0 it a j) (s:Sq1 b h a xs):Ir1 b h it a k:=by
  cases b with
  | true =>
    rcases q with ⟨_,⟨o,e,c,_⟩⟩ | ⟨q,_⟩
    · obtain ⟨o',e',c',_⟩:=(show h.IsTuple a xs from s)
      rw [e] at e'; cases e'; rw [c] at c'; injection c' with z; exact absurd z (by decide)
    · exact q
  | false =>
    rcases q with ⟨q,_⟩ | ⟨_,⟨o,e,c,_⟩⟩
    · exact q
    · obtain ⟨o',e',c',_⟩:=(show h.IsList a xs from s)
      rw [e] at e'; cases e'; rw [c] at c'; injection c' with z; exact absurd z (by decide)
noncomputable def ZS (b1 b2:Bool) (z ti to i1 i2 a1 a2:Addr) (i:Nat) (h:Heap):Prop:=IsZip h z ti to .none /\ IsPair h ti (.ref i1) (.ref i2) /\ (∃ p q,IsPair h to p q) /\ Ir1 b1 h i1 a1 i /\ Ir1 b2 h i2 a2 i
theorem Sq1.of {b:Bool} {h h':Heap} {a:Addr} {xs:Array Value} (q:Sq1 b h a xs) (e:∀ o,h.get? a = some o -> h'.get? a = some o):Sq1 b h' a xs:=by
  cases b with
  | true=>obtain ⟨o,h1,r⟩:=(show h.IsTuple a xs from q); exact ⟨o,e _ h1,r⟩
  | false=>obtain ⟨o,h1,r⟩:=(show h.IsList a xs from q); exact ⟨o,e _ h1,r⟩
theorem turn_zip {P:Program} {w:World} {K:W.Frag} {elts:List Expr} {kt:Nat} {pt:Pos} (b1 b2:Bool) (z ti to i1 i2 a1 a2:Addr) (D:ZipApart z ti to i1 i2 a1 a2) :
    Turn P w K (.Tuple elts kt pt) (Itz K b1 b2 a1 a2) [z,ti,to,i1,i2] z (ZS b1 b2 z ti to i1 i2 a1 a2) where
  mem:=by simp
  obj:=fun i h ⟨h1,h2,⟨p,q,h3⟩,h4,h5⟩ b hb=>by
    simp at hb
    rcases hb with rfl | rfl | rfl | rfl | rfl
    · exact ⟨_,h1,fun v c=>by cases c⟩
    · exact ⟨_,h2,fun v c=>by cases c⟩
    · exact ⟨_,h3,fun v c=>by cases c⟩
    · exact h4.obj
    · exact h5.obj
  keep:=fun i h h' ⟨h1,h2,⟨p,q,h3⟩,h4,h5⟩ k=>⟨k z (by simp) _ h1,k ti (by simp) _ h2,⟨p,q,k to (by simp) _ h3⟩,h4.keep fun o e=>k i1 (by simp) o e,h5.keep fun o e=>k i2 (by simp) o e⟩
  item:=by
    intro X hP hw hK hc i pins s σ H E I hf st hg
    subst hP hw hK
    obtain ⟨h1,h2,⟨p,q,h3⟩,h4,h5⟩:=st
    obtain ⟨xs,ys,x,y,q1,q2,ex,ey⟩:=hg
    obtain ⟨its,r1,t1⟩:=I.sqB q1
    obtain ⟨jts,r2,t2⟩:=I.sqB q2
    obtain ⟨u,hu,ru⟩:=r1.get ex
    obtain ⟨v,hv,rv⟩:=r2.get ey
    have ty:s.TypeIs (.ref z) "zip" := ⟨_,h1,rfl⟩
    unfold pyNext
    refine wpAny_bind (wpAny_attempt (wpAny_callSpecial?_slot (name:=Str.ofString "__next__") ty F.slot_zip_next (wpAny_call_entry F.slot_zip_next ty F.entry_zip_next
      (zn_item D h1 h2 h3 (h4.it1 t1) (h5.it1 t2) (by simpa using hu) (by simpa using hv) fun g e1 e2 e3 e4 e5 e6 e7=>wpAny_pure ?_) (F.args_zip_next_1 _))))
    have hz:s.heap.objs.size ≠ z:=Nat.ne_of_gt (Heap.lt_size h1)
    refine ⟨.ref s.heap.objs.size,rfl,wpAny_letOwnedTupleGo_zip e1 fun g' f1 fb=>?_⟩
    have hp:H s.heap.objs.size = none:=I.hok.fresh (Nat.le_refl _)
    have I1:Inv X pins σ (upd H s.heap.objs.size (.tup [x,y])) { s with heap:=s.heap.push { cls:=.type "tuple", data:=.seq [u,v].toArray } } :=
      I.laid (t':=s.toks) (o:=.tup [x,y]) (fun b ob e=>Heap.get?_push_of_some _ e) (Nat.le_refl _) ⟨(by show 2 <= sizeLine; decide),[u,v],.cons ru (.cons rv .nil),IsTupD.new _ _⟩
    have ne:∀ b ∈ [z,ti,to,i1,i2],b ≠ s.heap.objs.size:=fun b hb e=>by
      simp at hb
      rcases hb with rfl | rfl | rfl | rfl | rfl
      · exact hz e.symm
      · exact absurd (Heap.lt_size h2) (by rw [e]; exact Nat.lt_irrefl _)
      · exact absurd (Heap.lt_size h3) (by rw [e]; exact Nat.lt_irrefl _)
      · obtain ⟨o,ho,_⟩:=h4.obj
        exact absurd (Heap.lt_size ho) (by rw [e]; exact Nat.lt_irrefl _)
      · obtain ⟨o,ho,_⟩:=h5.obj
        exact absurd (Heap.lt_size ho) (by rw [e]; exact Nat.lt_irrefl _)
    have kg:∀ b o,b ∉ [z,ti,to,i1,i2] -> (s.heap.push { cls:=.type "tuple", data:=.seq [u,v].toArray }).get? b = some o -> g'.get? b = some o:=fun b o hb e=>by
      simp at hb
      obtain ⟨n1,n2,n3,n4,n5⟩:=hb
      refine fb.extBut _ _ n1 ?_
      by_cases hbn:b = s.heap.objs.size
      · subst hbn
        rw [Heap.get?_push_size _ rfl] at e
        cases e
        exact e5
      · exact e7 b o n1 n3 n4 n5 (by rw [Heap.get?_push_ne _ _ _ hbn] at e; exact e)
    have fp1:∀ b ∈ [z,ti,to,i1,i2],FpOk X pins (upd H s.heap.objs.size (.tup [x,y])) b:=fun b hb=>by
      obtain ⟨f0,fr⟩:=hf b hb
      exact ⟨by rw [upd_ne (ne b hb)]; exact f0,fr⟩
    have I2:Inv X pins σ (upd H s.heap.objs.size (.tup [x,y])) { s with heap:=g' }:=I1.turnedL (t':=s.toks) kg fp1
    have k8:∀ b o,b ≠ z -> g.get? b = some o -> g'.get? b = some o:=fun b o n e=>fb.extBut _ _ n e
    have t1':Sq1 b1 g a1 its.toArray:=Sq1.of t1 fun o e=>e7 _ o D.l1z D.l1TO D.l1i1 D.l1i2 e
    have t2':Sq1 b2 g a2 jts.toArray:=Sq1.of t2 fun o e=>e7 _ o D.l2z D.l2TO D.l2i1 D.l2i2 e
    refine ⟨.ref s.heap.objs.size,_,I2,rfl,⟨x,y,_,fun xs' q'=>by rw [I.sqB_inj q' q1]; exact ex,fun ys' q'=>by rw [I.sqB_inj q' q2]; exact ey,hp,rfl,rfl⟩,⟨f1,k8 _ _ D.TIz (e7 _ _ D.TIz D.TITO D.TIi1 D.TIi2 h2),⟨_,_,k8 _ _ D.TOz e2⟩,(It1.ir e3 h4 t1').keep fun o e=>k8 _ o D.i1z e,(It1.ir e4 h5 t2').keep fun o e=>k8 _ o D.i2z e⟩,fun b hb=>(fp1 b hb).1⟩
  done:=by
    intro X hP hw hK hc i pins s σ H E I hf st hg
    subst hP hw hK
    obtain ⟨h1,h2,⟨p,q,h3⟩,h4,h5⟩:=st
    obtain ⟨xs,ys,q1,q2,ex⟩:=hg
    obtain ⟨its,r1,t1⟩:=I.sqB q1
    obtain ⟨jts,r2,t2⟩:=I.sqB q2
    have l1:=r1.length
    have l2:=r2.length
    have ty:s.TypeIs (.ref z) "zip" := ⟨_,h1,rfl⟩
    unfold pyNext
    refine wpAny_bind (wpAny_attempt (wpAny_callSpecial?_slot (name:=Str.ofString "__next__") ty F.slot_zip_next (wpAny_call_entry F.slot_zip_next ty F.entry_zip_next
      (zn_end (I.ok.hd hc) D h1 h2 h3 (h4.it1 t1) (h5.it1 t2) (by simp; omega) fun g e kg ⟨o,ho,hoc⟩=>?_) (F.args_zip_next_1 _))))
    refine wpAny_bind (wpAny_isInstance (T := "StopIteration") (b:=true) ⟨o,ho,hoc⟩ isSubtype_stop (wpAny_pure ⟨rfl,?_⟩))
    exact I.turnedL (t':=s.toks) (fun b o hb e=>by simp at hb; exact kg b o hb.1 hb.2.2.1 hb.2.2.2.1 hb.2.2.2.2 e) hf
  self:=fun _ _ _ _ _ st h=>wpAny_pyIter_zip st.1 h
end L2

namespace L2
open PySem PySem.Spec PyProof.Rows L2.ZP
section
variable {X:Cx} {e1 e2:Expr} {ta:TA} {elts:List Expr} {kt:Nat} {pt p pos:Pos}
noncomputable def iZip (K:W.Frag) (b1 b2:Bool) (t:TA):TI:=fun σ H R=>t σ H fun vs H1=>∃ a1 a2 xs ys,vs = [.ref a1,.ref a2] /\ SqB b1 K H1 a1 xs /\ SqB b2 K H1 a2 ys /\ R (Itz K b1 b2 a1 a2) H1
theorem pi_zip (b1 b2:Bool) (hg:Gl X "zip") (hm:X.mg "zip" = none) (ha:PA X [e1,e2] ta) (hs:starEach [e1,e2] X.env = (false,eval e1 X.env) :: starEach [e2] X.env:=by rfl) (hpl:(backTo pos (starEach [e2] X.env)).any (·.1) = false:=by rfl) :
    PI X (.Tuple elts kt pt) (.Call (.Name "zip" p) [e1,e2] [] pos) (iZip X.K b1 b2 ta):=by
  intro pins s σ H R I h
  refine Call_ (ld_blt I hg hm (by rfl) (PyProof.Rows.callWith_type1 (thn (ha pos pins s σ H _ I h) fun us s1 ⟨vs,H1,I1,r1,q1⟩=>?_) hs hpl) (by decide) (by decide))
  obtain ⟨a1,a2,xs,ys,ev,q1,q2,q⟩:=q1
  subst ev
  cases r1 with
  | cons r rr =>
    cases rr with
    | cons r' rr =>
      cases rr
      cases r
      cases r'
      obtain ⟨its,v1,t1⟩:=I1.sqB q1
      obtain ⟨jts,v2,t2⟩:=I1.sqB q2
      refine call_zip t1 t2 fun g f1 f2 f3 f4 f5 f6 kp=>wpAny_pyIter_zip f1 ?_
      have lt1:a1 < s1.heap.objs.size /\ a2 < s1.heap.objs.size:=by
        constructor
        · cases b1 with
          | true=>obtain ⟨o,ho,_⟩:=(show s1.heap.IsTuple a1 _ from t1); exact Heap.lt_size ho
          | false=>obtain ⟨o,ho,_⟩:=(show s1.heap.IsList a1 _ from t1); exact Heap.lt_size ho
        · cases b2 with
          | true=>obtain ⟨o,ho,_⟩:=(show s1.heap.IsTuple a2 _ from t2); exact Heap.lt_size ho
          | false=>obtain ⟨o,ho,_⟩:=(show s1.heap.IsList a2 _ from t2); exact Heap.lt_size ho
      obtain ⟨l1,l2⟩:=lt1
      have ap:∀ {n c:Nat},c < n -> ∀ k:Nat,c ≠ n + k:=fun h k e=>by omega
      have D:ZipApart (s1.heap.objs.size + 4) (s1.heap.objs.size + 2) (s1.heap.objs.size + 3) s1.heap.objs.size (s1.heap.objs.size + 1) a1 a2:=by
        generalize hN:s1.heap.objs.size = N at l1 l2
        exact ⟨by simp,by simp,by simp,by simp,by simp,by simp,by simp,by simp,by simp,by simp,ap l1 4,ap l1 3,ap l1 0,ap l1 1,ap l2 4,ap l2 3,ap l2 0,ap l2 1⟩
      have kg:∀ b o,s1.heap.get? b = some o -> g.get? b = some o:=kp
      have I2:Inv X pins σ H1 { s1 with heap:=g }:=I1.kept (t':=s1.toks) kg
      have ir:∀ {b:Bool} {it a:Addr} {zs:Array Value},It1 g it a zs 0 -> Sq1 b s1.heap a zs -> Ir1 b g it a 0:=fun {b it a zs} q r=>by
        have r':=Sq1.of r fun o e=>kg _ o e
        cases b with
        | true =>
          rcases q with ⟨_,⟨o,e,c,_⟩⟩ | ⟨q,_⟩
          · obtain ⟨o',e',c',_⟩:=(show g.IsTuple a zs from r')
            rw [e] at e'; cases e'; rw [c] at c'; injection c' with z; exact absurd z (by decide)
          · exact q
        | false =>
          rcases q with ⟨q,_⟩ | ⟨_,⟨o,e,c,_⟩⟩
          · exact q
          · obtain ⟨o',e',c',_⟩:=(show g.IsList a zs from r')
            rw [e] at e'; cases e'; rw [c] at c'; injection c' with z; exact absurd z (by decide)
      refine ⟨_,[s1.heap.objs.size + 4,s1.heap.objs.size + 2,s1.heap.objs.size + 3,s1.heap.objs.size,s1.heap.objs.size + 1],_,_,H1,rfl,I2,turn_zip b1 b2 _ _ _ _ _ a1 a2 D,⟨f1,f2,⟨_,_,f3⟩,ir f4 t1,ir f5 t2⟩,fun b hb=>?_,q⟩
      have hb':s1.heap.objs.size <= b:=by
        simp at hb
        rcases hb with rfl | rfl | rfl | rfl | rfl
        · exact Nat.le_add_right _ 4
        · exact Nat.le_add_right _ 2
        · exact Nat.le_add_right _ 3
        · exact Nat.le_refl _
        · exact Nat.le_add_right _ 1
      exact I1.fpOk hb' (I1.hok.fresh hb')
end
end L2
namespace L2.VL
open PySem PySem.Spec PyProof.Rows
section
variable {X:Cx} {rl:RlT} {a b:Expr} {elts:List Expr} {kt:Nat} {pt p pos:Pos} {fs:TVs}
noncomputable def zipD (xs ys:List PyData):List PyData:=List.zipWith (fun x y=>.tuple [x,y]) xs ys
noncomputable def kindB:PyData -> Bool
  | .tuple _=>true
  | _=>false
theorem rep_sq {K:W.Frag} {F:Hp} {v:V} {d:PyData} {xs:List PyData} (r:Rep K F v d) (e:seqD d = some xs):∃ a vs,v = .ref a /\ Reps K F vs xs /\ ∀ H,Same F H -> SqB (kindB d) K H a vs:=by
  cases r with
  | tup sq rs=>cases e; exact ⟨_,_,rfl,rs,fun H s=>sameT s sq⟩
  | lst h rs=>cases e; exact ⟨_,_,rfl,rs,fun H s=>.inl (.inl (s _ _ h))⟩
  | non=>cases e
  | bl b=>cases e
  | int i=>cases e
  | str x=>cases e
theorem zipD_get {xs ys:List PyData} {i:Nat} {d:PyData} (h:(zipD xs ys)[i]? = some d):∃ x y,xs[i]? = some x /\ ys[i]? = some y /\ d = .tuple [x,y]:=by
  unfold zipD at h
  rw [List.getElem?_zipWith] at h
  cases ex:xs[i]? with
  | none=>rw [ex] at h; cases h
  | some x =>
    cases ey:ys[i]? with
    | none=>rw [ex,ey] at h; cases h
    | some y=>rw [ex,ey] at h; cases h; exact ⟨x,y,rfl,rfl,rfl⟩
theorem vi_zip (b1 b2:Bool) (hm:X.mg "zip" = none) (ha:PVs X rl [a,b] fs) (hg:Gl X "zip" := by rfl) (hs:starEach [a,b] X.env = (false,eval a X.env) :: starEach [b] X.env:=by rfl) (hpl:(backTo pos (starEach [b] X.env)).any (·.1) = false:=by rfl) :
    PIV X rl (.Tuple elts kt pt) (.Call (.Name "zip" p) [a,b] [] pos) (fun ρ Q=>fs ρ fun ws=>∃ dx dy xs ys,ws = [.d dx,.d dy] /\ seqD dx = some xs /\ seqD dy = some ys /\ kindB dx = b1 /\ kindB dy = b2 /\ Q (zipD xs ys)):=by
  obtain ⟨t,p1,k⟩:=ha
  refine ⟨_,pi_zip b1 b2 hg hm p1 hs hpl,fun R Qd Q q h=>k R _ _ q fun vs ws F1 H1 g1 r1 ⟨dx,dy,xs,ys,ew,e1,e2,kb1,kb2,q1⟩=>?_⟩
  subst ew kb1 kb2
  obtain ⟨v,u,rfl,rv,ru⟩:=rel2 r1
  obtain ⟨a1,vs,rfl,rs,sq1⟩:=rep_sq rv e1
  obtain ⟨a2,us,rfl,rt,sq2⟩:=rep_sq ru e2
  refine ⟨a1,a2,vs,us,rfl,sq1 _ g1.sub,sq2 _ g1.sub,h _ (zipD xs ys) F1 H1 g1 ⟨fun i H x e s=>?_,fun i H hl s=>?_,fun i H v H' x F2 e s s2 ra y=>?_⟩ q1⟩
  · obtain ⟨x1,y1,ex,ey,_⟩:=zipD_get e
    obtain ⟨v1,ev1,_⟩:=rs.get ex
    obtain ⟨u1,eu1,_⟩:=rt.get ey
    exact ⟨vs,us,v1,u1,sq1 _ s,sq2 _ s,ev1,eu1⟩
  · refine ⟨vs,us,sq1 _ s,sq2 _ s,?_⟩
    unfold zipD at hl
    rw [List.length_zipWith] at hl
    rw [rs.length,rt.length]
    omega
  · obtain ⟨x1,y1,ex,ey,ed⟩:=zipD_get e
    obtain ⟨vx,vy,pp,hx,hy,hp,ev,eH⟩:=y
    obtain ⟨v1,ev1,rv1⟩:=rs.get ex
    obtain ⟨u1,eu1,ru1⟩:=rt.get ey
    have h1:=hx vs (sq1 _ (s.trans s2))
    have h2:=hy us (sq2 _ (s.trans s2))
    rw [ev1] at h1
    rw [eu1] at h2
    cases h1
    cases h2
    subst ev eH ed
    have g:=Grow.data (a:=pp) (o:=.tup [vx,vy]) s2 ra hp
    exact ⟨_,g,.tup (.inl (.inl upd_same)) (.cons ((rv1.mono s).mono g.fs) (.cons ((ru1.mono s).mono g.fs) .nil))⟩
noncomputable def iZb (b1 b2:Bool) (fs:TVs):En -> (List PyData -> Prop) -> Prop:=fun ρ Q=>fs ρ fun ws=>∃ dx dy xs ys,ws = [.d dx,.d dy] /\ seqD dx = some xs /\ seqD dy = some ys /\ kindB dx = b1 /\ kindB dy = b2 /\ Q (zipD xs ys)
theorem vi_zipTL (hm:X.mg "zip" = none) (ha:PVs X rl [a,b] fs) (hg:Gl X "zip" := by rfl) (hs:starEach [a,b] X.env = (false,eval a X.env) :: starEach [b] X.env:=by rfl) (hpl:(backTo pos (starEach [b] X.env)).any (·.1) = false:=by rfl) :
    PIV X rl (.Tuple elts kt pt) (.Call (.Name "zip" p) [a,b] [] pos) (iZb true false fs):=vi_zip true false hm ha hg hs hpl
end
end L2.VL

namespace L2.VL
open PySem PySem.Spec PyProof.Rows
theorem nr {α:Sort u} {a b : α} (h:a = b):a = b:=h
abbrev Mo (α:Type):=(α -> Prop) -> Prop
noncomputable def ret {α:Type} (a : α):Mo α:=fun Q=>Q a
noncomputable def bnd {α β:Type} (m:Mo α) (f : α -> Mo β):Mo β:=fun Q=>m fun a=>f a Q
noncomputable def grd {α:Type} (P:Prop) (m:Mo α):Mo α:=fun Q=>P /\ m Q
noncomputable def stk {α:Type}:Mo α:=fun _=>False
noncomputable def anyM {α:Type} (P : α -> Prop):Mo α:=fun Q=>∀ a,P a -> Q a
noncomputable def optM {α β:Type} (o:Option α) (f : α -> Mo β):Mo β:=match o with
  | some a=>f a
  | none=>stk
section
variable {α β γ:Type}
theorem bnd_ret (a : α) (f : α -> Mo β):bnd (ret a) f = f a:=nr rfl
theorem bnd_bnd (m:Mo α) (f : α -> Mo β) (g : β -> Mo γ):bnd (bnd m f) g = bnd m fun a=>bnd (f a) g:=nr rfl
theorem bnd_grd (P:Prop) (m:Mo α) (f : α -> Mo β):bnd (grd P m) f = grd P (bnd m f):=nr rfl
theorem bnd_stk (f : α -> Mo β):bnd stk f = stk:=nr rfl
theorem bnd_ite (c:Prop) [Decidable c] (a b:Mo α) (f : α -> Mo β):bnd (if c then a else b) f = if c then bnd a f else bnd b f:=by split <;> rfl
theorem bnd_opt (o:Option α) (k : α -> Mo β) (f : β -> Mo γ):bnd (optM o k) f = optM o fun a=>bnd (k a) f:=by cases o <;> rfl
theorem opt_some (a : α) (k : α -> Mo β):optM (some a) k = k a:=nr rfl
theorem opt_none (k : α -> Mo β):optM none k = stk:=nr rfl
theorem grd_t {P:Prop} (h:P) (m:Mo α):grd P m = m:=by funext Q; exact propext ⟨fun z=>z.2,fun z=>⟨h,z⟩⟩
theorem grd_T (m:Mo α):grd True m = m:=grd_t trivial m
theorem ite_ap (c:Prop) [Decidable c] (a b:Mo α) (Q : α -> Prop):(if c then a else b) Q = if c then a Q else b Q:=by split <;> rfl
theorem mo_ext {m n:Mo α} (h:∀ Q,m Q ↔ n Q):m = n:=funext fun Q=>propext (h Q)
end
noncomputable def asI:W -> Option Int
  | .d (.int i)=>some i
  | _=>none
noncomputable def asB:W -> Option Bool
  | .d (.bool b)=>some b
  | _=>none
noncomputable def asS:W -> Option Str
  | .d (.str b)=>some b
  | _=>none
noncomputable def asD:W -> Option PyData
  | .d x=>some x
  | _=>none
noncomputable def lstD:PyData -> Option (List PyData)
  | .list xs=>some xs
  | _=>none
noncomputable def tupD:PyData -> Option (List PyData)
  | .tuple xs=>some xs
  | _=>none
noncomputable def asL (w:W):Option (List PyData):=w.dat.bind lstD
noncomputable def asT (w:W):Option (List PyData):=(asD w).bind tupD
noncomputable def asQ (w:W):Option (List PyData):=w.dat.bind seqD
noncomputable def toI:W -> Option Int
  | .d (.int i)=>some i
  | .d (.bool b)=>some (if b then 1 else 0)
  | _=>none
noncomputable def isiT:W -> Option String
  | .vv (.ty T)=>some T
  | _=>none
noncomputable def blsD:List PyData -> Option (List Bool)
  | []=>some []
  | .bool b :: r=>(blsD r).map (b :: ·)
  | _=>none
noncomputable def intsD:List PyData -> Option (List Int)
  | []=>some []
  | .int b :: r=>(intsD r).map (b :: ·)
  | _=>none
theorem blsD_map:∀ bs:List Bool,blsD (bs.map .bool) = some bs
  | []=>rfl
  | b :: bs=>by show (blsD (bs.map .bool)).map (b :: ·) = _; rw [blsD_map bs]; rfl
theorem blsD_of:∀ {xs:List PyData} {bs:List Bool},blsD xs = some bs -> xs = bs.map .bool
  | [],bs,h=>by cases h; rfl
  | .bool b :: r,bs,h=>by
    have h:(blsD r).map (b :: ·) = some bs:=h
    cases q:blsD r with
    | none=>rw [q] at h; cases h
    | some cs=>rw [q] at h; cases h; rw [blsD_of q]; rfl
  | .none :: _,_,h=>by cases h
  | .int _ :: _,_,h=>by cases h
  | .str _ :: _,_,h=>by cases h
  | .list _ :: _,_,h=>by cases h
  | .tuple _ :: _,_,h=>by cases h
  | .dict _ :: _,_,h=>by cases h
theorem intsD_map:∀ bs:List Int,intsD (bs.map .int) = some bs
  | []=>rfl
  | b :: bs=>by show (intsD (bs.map .int)).map (b :: ·) = _; rw [intsD_map bs]; rfl
theorem intsD_of:∀ {xs:List PyData} {bs:List Int},intsD xs = some bs -> xs = bs.map .int
  | [],bs,h=>by cases h; rfl
  | .int b :: r,bs,h=>by
    have h:(intsD r).map (b :: ·) = some bs:=h
    cases q:intsD r with
    | none=>rw [q] at h; cases h
    | some cs=>rw [q] at h; cases h; rw [intsD_of q]; rfl
  | .none :: _,_,h=>by cases h
  | .bool _ :: _,_,h=>by cases h
  | .str _ :: _,_,h=>by cases h
  | .list _ :: _,_,h=>by cases h
  | .tuple _ :: _,_,h=>by cases h
  | .dict _ :: _,_,h=>by cases h
theorem asI_d (i:Int):asI (.d (.int i)) = some i:=rfl
theorem asB_d (i:Bool):asB (.d (.bool i)) = some i:=rfl
theorem asS_d (i:Str):asS (.d (.str i)) = some i:=rfl
theorem asD_d (i:PyData):asD (.d i) = some i:=rfl
theorem asT_d (x:PyData):asT (.d x) = tupD x:=rfl
theorem asL_d (x:PyData):asL (.d x) = lstD x:=rfl
theorem asL_ml (x:List PyData):asL (.ml x) = some x:=rfl
theorem asL_pk (x:List PyData):asL (.pk x) = some x:=rfl
theorem asQ_d (x:PyData):asQ (.d x) = seqD x:=rfl
theorem asQ_ml (x:List PyData):asQ (.ml x) = some x:=rfl
theorem asQ_pk (x:List PyData):asQ (.pk x) = some x:=rfl
theorem lstD_l (x:List PyData):lstD (.list x) = some x:=rfl
theorem tupD_t (x:List PyData):tupD (.tuple x) = some x:=rfl
theorem toI_i (i:Int):toI (.d (.int i)) = some i:=rfl
theorem toI_b (i:Bool):toI (.d (.bool i)) = some (if i then 1 else 0):=rfl
theorem isiT_t (T:String):isiT (.vv (.ty T)) = some T:=rfl
theorem asI_of {w:W} {i:Int}:asI w = some i ↔ w = .d (.int i):=by
  constructor
  · intro h; unfold asI at h; split at h <;> simp_all
  · rintro rfl; rfl
theorem asB_of {w:W} {i:Bool}:asB w = some i ↔ w = .d (.bool i):=by
  constructor
  · intro h; unfold asB at h; split at h <;> simp_all
  · rintro rfl; rfl
theorem asS_of {w:W} {i:Str}:asS w = some i ↔ w = .d (.str i):=by
  constructor
  · intro h; unfold asS at h; split at h <;> simp_all
  · rintro rfl; rfl
theorem asD_of {w:W} {i:PyData}:asD w = some i ↔ w = .d i:=by
  constructor
  · intro h; unfold asD at h; split at h <;> simp_all
  · rintro rfl; rfl
theorem lstD_of {w:PyData} {i:List PyData}:lstD w = some i ↔ w = .list i:=by
  constructor
  · intro h; unfold lstD at h; split at h <;> simp_all
  · rintro rfl; rfl
theorem tupD_of {w:PyData} {i:List PyData}:tupD w = some i ↔ w = .tuple i:=by
  constructor
  · intro h; unfold tupD at h; split at h <;> simp_all
  · rintro rfl; rfl
theorem asT_of {w:W} {i:List PyData}:asT w = some i ↔ w = .d (.tuple i):=by
  constructor
  · intro h
    unfold asT at h
    cases q:asD w with
    | none=>rw [q] at h; cases h
    | some x=>rw [q] at h; rw [asD_of.mp q,tupD_of.mp h]
  · rintro rfl; rfl
theorem asL_of {w:W} {i:List PyData}:asL w = some i ↔ w.dat = some (.list i):=by
  unfold asL
  constructor
  · intro h
    cases q:w.dat with
    | none=>rw [q] at h; cases h
    | some x=>rw [q] at h; rw [lstD_of.mp h]
  · intro h; rw [h]; rfl
theorem opt_iff {α β:Type} {o:Option α} {k : α -> Mo β} {Q : β -> Prop}:optM o k Q ↔ ∃ a,o = some a /\ k a Q:=by
  cases o with
  | none=>exact ⟨fun z=>z.elim,fun ⟨_,z,_⟩=>by cases z⟩
  | some a=>exact ⟨fun z=>⟨a,rfl,z⟩,fun ⟨_,e,z⟩=>by cases e; exact z⟩
section
variable {fa fb fc:TV} {fs:TVs} {f g:TB} {ρ:En} {t u:TSv}
theorem m_vC (x:PyData):vC x ρ = ret (.d x):=nr rfl
theorem m_vVar (i:Nat):vVar i ρ = optM ((ρ[i]?).join) fun w=>ret w.peek:=by
  refine mo_ext fun Q=>?_
  rw [opt_iff]
  constructor
  · rintro ⟨w,e,q⟩; exact ⟨w,by rw [e]; rfl,q⟩
  · rintro ⟨w,e,q⟩
    refine ⟨w,?_,q⟩
    cases h : ρ[i]? with
    | none=>rw [h] at e; cases e
    | some o=>rw [h] at e; cases o with
      | none=>cases e
      | some x=>cases e; rfl
theorem m_vNil:vNil ρ = ret []:=nr rfl
theorem m_vCons {f:TV}:vCons f fs ρ = bnd (f ρ) fun w=>bnd (fs ρ) fun ws=>ret (w.fz :: ws):=nr rfl
theorem m_vOp (h:W -> W -> (W -> Prop) -> Prop):vOp h fa fb ρ = bnd (fa ρ) fun x=>bnd (fb ρ) fun y=>h x y:=nr rfl
theorem m_gI (C:Int -> Int -> Prop) (h:Int -> Int -> PyData) (x y:W):gI C h x y = optM (asI x) fun i=>optM (asI y) fun j=>grd (C i j) (ret (.d (h i j))):=by
  refine mo_ext fun Q=>?_
  simp only [opt_iff,asI_of,gI,grd,ret]
  exact ⟨fun ⟨i,j,a,b,c,q⟩=>⟨i,a,j,b,c,q⟩,fun ⟨i,a,j,b,c,q⟩=>⟨i,j,a,b,c,q⟩⟩
theorem m_gI0 (h:Int -> Int -> PyData) (x y:W):gI0 h x y = optM (asI x) fun i=>optM (asI y) fun j=>ret (.d (h i j)):=by
  refine mo_ext fun Q=>?_
  simp only [opt_iff,asI_of,gI0,ret]
  exact ⟨fun ⟨i,j,a,b,q⟩=>⟨i,a,j,b,q⟩,fun ⟨i,a,j,b,q⟩=>⟨i,j,a,b,q⟩⟩
theorem m_vNeg:vNeg fa ρ = bnd (fa ρ) fun x=>optM (asI x) fun i=>ret (.d (.int (-i))):=by
  refine mo_ext fun Q=>?_
  simp only [vNeg,bnd,opt_iff,asI_of,ret]
theorem m_vTest {f:TV}:vTest f ρ = bnd (f ρ) fun w=>optM (asB w) ret:=by
  refine mo_ext fun Q=>?_
  simp only [vTest,bnd,opt_iff,asB_of,ret]
theorem m_gEqD (neg:Bool) (x y:W):gEqD neg x y = optM x.dat fun dx=>optM y.dat fun dy=>grd (SeqAt.shaped dx = true) (grd (SeqAt.shaped dy = true) (ret (.d (.bool (if neg then !PyData.eqv dx dy else PyData.eqv dx dy))))):=by
  refine mo_ext fun Q=>?_
  simp only [opt_iff,gEqD,grd,ret]
  exact ⟨fun ⟨i,j,a,b,c,d,q⟩=>⟨i,a,j,b,c,d,q⟩,fun ⟨i,a,j,b,c,d,q⟩=>⟨i,j,a,b,c,d,q⟩⟩
theorem m_vAnd:vAnd f g ρ = bnd (f ρ) fun b=>if b = true then g ρ else ret false:=by
  refine mo_ext fun Q=>?_
  simp only [vAnd,bnd,ite_ap,ret]
theorem m_vOr:vOr f g ρ = bnd (f ρ) fun b=>if b = true then ret true else g ρ:=by
  refine mo_ext fun Q=>?_
  simp only [vOr,bnd,ite_ap,ret]
theorem m_vNot:vNot f ρ = bnd (f ρ) fun b=>ret (!b):=nr rfl
theorem m_vIf {t:TB}:vIf t fa fb ρ = bnd (t ρ) fun c=>if c = true then fa ρ else fb ρ:=by
  refine mo_ext fun Q=>?_
  simp only [vIf,bnd,ite_ap]
theorem m_vTup:vTup fs ρ = bnd (fs ρ) fun ws=>optM (dats ws) fun ds=>grd (ds.length <= sizeLine) (ret (.d (.tuple ds))):=by
  refine mo_ext fun Q=>?_
  simp only [vTup,bnd,opt_iff,grd,ret]
theorem m_vLst:vLst fs ρ = bnd (fs ρ) fun ws=>optM (dats ws) fun ds=>grd (ds.length <= sizeLine) (ret (.ml ds)):=by
  refine mo_ext fun Q=>?_
  simp only [vLst,bnd,opt_iff,grd,ret]
theorem m_gIx (x y:W):gIx x y = optM x.dat fun dx=>optM (asI y) fun i=>optM (itemAt dx i) fun z=>ret (.d z):=by
  refine mo_ext fun Q=>?_
  simp only [gIx,opt_iff,asI_of,ret]
  exact ⟨fun ⟨i,j,z,a,b,c,q⟩=>⟨i,a,j,b,z,c,q⟩,fun ⟨i,a,j,b,z,c,q⟩=>⟨i,j,z,a,b,c,q⟩⟩
theorem m_vCall (h:List W -> (W -> Prop) -> Prop):vCall h fs ρ = bnd (fs ρ) h:=nr rfl
theorem m_gAbs (w:W):gAbs [w] = optM (asI w) fun i=>ret (.d (.int (if i < 0 then -i else i))):=by
  refine mo_ext fun Q=>?_
  simp only [gAbs,opt_iff,asI_of,ret,List.cons.injEq,and_true]
theorem m_gLen (w:W):gLen [w] = optM w.dat fun d=>optM (lenD d) fun n=>ret (.d (.int n)):=by
  refine mo_ext fun Q=>?_
  simp only [gLen,opt_iff,ret,List.cons.injEq,and_true]
  exact ⟨fun ⟨w',d,n,e,a,b,q⟩=>by subst e; exact ⟨d,a,n,b,q⟩,fun ⟨d,a,n,b,q⟩=>⟨w,d,n,rfl,a,b,q⟩⟩
theorem m_gRepr (w:W):gRepr [w] = optM w.dat fun d=>grd (Shw d) (ret (.d (.str d.shown))):=by
  refine mo_ext fun Q=>?_
  simp only [gRepr,opt_iff,ret,grd,List.cons.injEq,and_true]
  exact ⟨fun ⟨w',d,e,a,b,q⟩=>by subst e; exact ⟨d,a,b,q⟩,fun ⟨d,a,b,q⟩=>⟨w,d,rfl,a,b,q⟩⟩
theorem m_gTupO (w:W):gTupO [w] = optM (asQ w) fun xs=>ret (.d (.tuple xs)):=by
  refine mo_ext fun Q=>?_
  simp only [gTupO,opt_iff,ret,List.cons.injEq,and_true]
  constructor
  · rintro ⟨w',d,xs,e,a,b,q⟩; subst e; exact ⟨xs,by unfold asQ; rw [a]; exact b,q⟩
  · rintro ⟨xs,e,q⟩
    unfold asQ at e
    cases h:w.dat with
    | none=>rw [h] at e; cases e
    | some d=>rw [h] at e; exact ⟨w,d,xs,rfl,h,e,q⟩
theorem m_gIsN (neg:Bool) (x:W):gIsN neg x (.d .none) = optM x.dat fun d=>ret (.d (.bool (if neg then !isNonD d else isNonD d))):=by
  refine mo_ext fun Q=>?_
  simp only [opt_iff,gIsN,ret,true_and]
theorem m_gI2 (h:Int -> Int -> PyData) (x y:W):gI2 h [x,y] = optM (asI x) fun i=>optM (asI y) fun j=>ret (.d (h i j)):=by
  refine mo_ext fun Q=>?_
  simp only [opt_iff,asI_of,gI2,ret,List.cons.injEq,and_true]
  exact ⟨fun ⟨i,j,⟨a,b⟩,q⟩=>⟨i,a,j,b,q⟩,fun ⟨i,a,j,b,q⟩=>⟨i,j,⟨a,b⟩,q⟩⟩
theorem m_gDivmod (x y:W):gDivmod [x,y] = optM (asI x) fun i=>optM (asI y) fun j=>grd (0 < j) (grd (j < 1073741824) (ret (.d (.tuple [.int (i / j),.int (i % j)])))):=by
  refine mo_ext fun Q=>?_
  simp only [opt_iff,asI_of,gDivmod,grd,ret,List.cons.injEq,and_true]
  exact ⟨fun ⟨i,j,⟨a,b⟩,c,d,q⟩=>⟨i,a,j,b,c,d,q⟩,fun ⟨i,a,j,b,c,d,q⟩=>⟨i,j,⟨a,b⟩,c,d,q⟩⟩
theorem toI_of {w:W} {i:Int}:toI w = some i ↔ (w = .d (.int i) \/ ∃ b:Bool,w = .d (.bool b) /\ i = if b then 1 else 0):=by
  constructor
  · intro h
    unfold toI at h
    split at h
    · cases h; exact .inl rfl
    · cases h; exact .inr ⟨_,rfl,rfl⟩
    · cases h
  · rintro (rfl | ⟨b,rfl,rfl⟩) <;> rfl
theorem m_gInt1 (w:W):gInt1 [w] = optM (toI w) fun i=>ret (.d (.int i)):=by
  refine mo_ext fun Q=>?_
  simp only [opt_iff,toI_of,gInt1,ret,List.cons.injEq,and_true]
  constructor
  · rintro (⟨i,rfl,q⟩ | ⟨k,rfl,q⟩)
    · exact ⟨i,.inl rfl,q⟩
    · exact ⟨_,.inr ⟨k,rfl,rfl⟩,q⟩
  · rintro ⟨i,rfl | ⟨b,rfl,rfl⟩,q⟩
    · exact .inl ⟨i,rfl,q⟩
    · exact .inr ⟨b,rfl,q⟩
theorem m_oNo:oNo ρ = ret none:=nr rfl
theorem m_oIt:oIt fa ρ = bnd (fa ρ) fun w=>optM (asI w) fun i=>ret (some i):=by
  refine mo_ext fun Q=>?_
  simp only [oIt,bnd,opt_iff,asI_of,ret]
theorem m_vSlL {fl fh:TOv}:vSlL fa fl fh ρ = bnd (fa ρ) fun w=>bnd (fl ρ) fun l=>bnd (fh ρ) fun h=>optM (asL w) fun xs=>ret (.ml (cutD xs l h)):=by
  refine mo_ext fun Q=>?_
  simp only [vSlL,bnd,opt_iff,asL_of,ret]
theorem m_vSlA {fl fh:TOv}:vSlA fa fl fh ρ = bnd (fa ρ) fun w=>bnd (fl ρ) fun l=>bnd (fh ρ) fun h=>optM (asT w) fun xs=>ret (.d (.tuple (cutD xs l h))):=by
  refine mo_ext fun Q=>?_
  simp only [vSlA,bnd,opt_iff,asT_of,ret]
theorem m_gCatD (x y:W):gCatD x y = optM (asL x) fun xs=>optM (asL y) fun ys=>grd (xs.length + ys.length <= sizeLine) (ret (.ml (xs ++ ys))):=by
  refine mo_ext fun Q=>?_
  simp only [gCatD,opt_iff,asL_of,grd,ret]
  exact ⟨fun ⟨i,j,a,b,c,q⟩=>⟨i,a,j,b,c,q⟩,fun ⟨i,a,j,b,c,q⟩=>⟨i,j,a,b,c,q⟩⟩
theorem m_gCatA (x y:W):gCatA x y = optM (asT x) fun xs=>optM (asT y) fun ys=>grd (xs.length + ys.length <= sizeLine) (ret (.d (.tuple (xs ++ ys)))):=by
  refine mo_ext fun Q=>?_
  simp only [gCatA,opt_iff,asT_of,grd,ret]
  exact ⟨fun ⟨i,j,a,b,c,q⟩=>⟨i,a,j,b,c,q⟩,fun ⟨i,a,j,b,c,q⟩=>⟨i,j,a,b,c,q⟩⟩
noncomputable def two (ws:List W):Option (Int × Int):=match ws with
  | [a,b]=>(asI a).bind fun i=>(asI b).map fun j=>(i,j)
  | _=>none
theorem two_d (a b:Int):two [.d (.int a),.d (.int b)] = some (a,b):=rfl
theorem two_of {ws:List W} {p:Int × Int}:two ws = some p ↔ ws = [.d (.int p.1),.d (.int p.2)]:=by
  constructor
  · intro h
    match ws with
    | []=>cases h
    | [_]=>cases h
    | _ :: _ :: _ :: _=>cases h
    | [a,b] =>
      have h:((asI a).bind fun i=>(asI b).map fun j=>(i,j)) = some p:=h
      cases ha:asI a with
      | none=>rw [ha] at h; cases h
      | some i =>
        cases hb:asI b with
        | none=>rw [ha,hb] at h; cases h
        | some j=>rw [ha,hb] at h; cases h; rw [asI_of.mp ha,asI_of.mp hb]
  · rintro rfl; rfl
theorem m_iL:iL fa ρ = bnd (fa ρ) fun w=>optM ((asD w.fz).bind lstD) ret:=by
  show (bnd (fa ρ) fun w=>fun (Q:List PyData -> Prop)=>∃ xs,w.fz = .d (.list xs) /\ Q xs) = _
  congr 1; funext w
  refine mo_ext fun Q=>?_
  simp only [opt_iff,ret]
  constructor
  · rintro ⟨xs,e,q⟩; exact ⟨xs,by rw [e]; rfl,q⟩
  · rintro ⟨xs,e,q⟩
    cases h:asD w.fz with
    | none=>rw [h] at e; cases e
    | some x=>rw [h] at e; rw [asD_of.mp h,lstD_of.mp e]; exact ⟨xs,rfl,q⟩
theorem m_iT:iT fa ρ = bnd (fa ρ) fun w=>optM ((asD w.fz).bind tupD) ret:=by
  show (bnd (fa ρ) fun w=>fun (Q:List PyData -> Prop)=>∃ xs,w.fz = .d (.tuple xs) /\ Q xs) = _
  congr 1; funext w
  refine mo_ext fun Q=>?_
  simp only [opt_iff,ret]
  constructor
  · rintro ⟨xs,e,q⟩; exact ⟨xs,by rw [e]; rfl,q⟩
  · rintro ⟨xs,e,q⟩
    cases h:asD w.fz with
    | none=>rw [h] at e; cases e
    | some x=>rw [h] at e; rw [asD_of.mp h,tupD_of.mp e]; exact ⟨xs,rfl,q⟩
theorem m_iR1:iR1 fs ρ = bnd (fs ρ) fun ws=>optM (ws.head?.bind asI) fun j=>grd (ws.length = 1) (grd (-(2 ^ 62) <= j /\ j < 2 ^ 62) (ret (rangeD 0 j.toNat))):=by
  show (bnd (fs ρ) fun ws=>fun (Q:List PyData -> Prop)=>∃ j:Int,ws = [.d (.int j)] /\ (-(2 ^ 62) <= j /\ j < 2 ^ 62) /\ Q (rangeD 0 j.toNat)) = _
  congr 1; funext ws
  refine mo_ext fun Q=>?_
  simp only [opt_iff,grd,ret]
  constructor
  · rintro ⟨j,rfl,a,q⟩; exact ⟨j,rfl,rfl,a,q⟩
  · rintro ⟨j,e,l,a,q⟩
    match ws,l with
    | [w],_=>rw [show w = .d (.int j) from asI_of.mp e]; exact ⟨j,rfl,a,q⟩
theorem m_iR2:iR2 fs ρ = bnd (fs ρ) fun ws=>optM (two ws) fun p=>grd (-(2 ^ 62) <= p.1 /\ p.1 < 2 ^ 62 /\ -(2 ^ 62) <= p.2 /\ p.2 < 2 ^ 62) (ret (rangeD p.1 (p.2 - p.1).toNat)):=by
  show (bnd (fs ρ) fun ws=>fun (Q:List PyData -> Prop)=>∃ i j:Int,ws = [.d (.int i),.d (.int j)] /\ (-(2 ^ 62) <= i /\ i < 2 ^ 62 /\ -(2 ^ 62) <= j /\ j < 2 ^ 62) /\ Q (rangeD i (j - i).toNat)) = _
  congr 1; funext ws
  refine mo_ext fun Q=>?_
  simp only [opt_iff,two_of,grd,ret]
  exact ⟨fun ⟨i,j,a,b,q⟩=>⟨(i,j),a,b,q⟩,fun ⟨p,a,b,q⟩=>⟨p.1,p.2,a,b,q⟩⟩
noncomputable def zipO (b1 b2:Bool) (ws:List W):Option (List PyData):=match ws with
  | [.d x,.d y]=>if kindB x = b1 /\ kindB y = b2 then (seqD x).bind fun xs=>(seqD y).map fun ys=>zipD xs ys else none
  | _=>none
theorem m_iZb (b1 b2:Bool):iZb b1 b2 fs ρ = bnd (fs ρ) fun ws=>optM (zipO b1 b2 ws) ret:=by
  show (bnd (fs ρ) fun ws=>fun (Q:List PyData -> Prop)=>∃ dx dy xs ys,ws = [.d dx,.d dy] /\ seqD dx = some xs /\ seqD dy = some ys /\ kindB dx = b1 /\ kindB dy = b2 /\ Q (zipD xs ys)) = _
  congr 1; funext ws
  refine mo_ext fun Q=>?_
  simp only [opt_iff,ret]
  constructor
  · rintro ⟨dx,dy,xs,ys,rfl,a,b,c,d,q⟩
    exact ⟨_,by show (if kindB dx = b1 /\ kindB dy = b2 then (seqD dx).bind fun xs=>(seqD dy).map fun ys=>zipD xs ys else none) = _; rw [if_pos ⟨c,d⟩,a,b]; rfl,q⟩
  · rintro ⟨zs,e,q⟩
    unfold zipO at e
    split at e
    · rename_i dx dy
      split at e
      · rename_i c
        cases ha:seqD dx with
        | none=>rw [ha] at e; cases e
        | some xs =>
          cases hb:seqD dy with
          | none=>rw [ha,hb] at e; cases e
          | some ys=>rw [ha,hb] at e; cases e; exact ⟨dx,dy,xs,ys,rfl,ha,hb,c.1,c.2,q⟩
      · cases e
    · cases e
theorem m_vUse (Pd:List W -> (PyData -> Prop) -> Prop):vUse Pd fs ρ = bnd (fs ρ) fun ws=>grd (ws.all argOk = true) (bnd (Pd ws) fun d=>ret (.d d)):=nr rfl
theorem m_gAll (h:List Bool -> Bool) (w:W):gAll h [w] = optM ((asL w).bind blsD) fun bs=>ret (.d (.bool (h bs))):=by
  refine mo_ext fun Q=>?_
  simp only [gAll,opt_iff,ret,List.cons.injEq,and_true]
  constructor
  · rintro ⟨w',bs,rfl,e,q⟩; exact ⟨bs,by rw [asL_of.mpr e]; exact blsD_map bs,q⟩
  · rintro ⟨bs,e,q⟩
    cases hl:asL w with
    | none=>rw [hl] at e; cases e
    | some xs=>rw [hl] at e; refine ⟨w,bs,rfl,?_,q⟩; rw [<- blsD_of e]; exact asL_of.mp hl
theorem m_gRepL (x y:W):gRepL x y = optM (asL x) fun xs=>optM (asI y) fun k=>grd (-(2 ^ 63) <= k /\ k < 2 ^ 63 /\ xs.length * k.toNat <= sizeLine) (ret (.ml (List.replicate k.toNat xs).flatten)):=by
  refine mo_ext fun Q=>?_
  simp only [gRepL,opt_iff,asL_of,asI_of,grd,ret]
  exact ⟨fun ⟨i,j,a,b,c,d,e,q⟩=>⟨i,a,j,b,⟨c,d,e⟩,q⟩,fun ⟨i,a,j,b,⟨c,d,e⟩,q⟩=>⟨i,j,a,b,c,d,e,q⟩⟩
theorem m_vRevT:vRevT fa ρ = bnd (fa ρ) fun w=>optM (asT w) fun xs=>ret (.d (.tuple xs.reverse)):=by
  refine mo_ext fun Q=>?_
  simp only [vRevT,bnd,opt_iff,asT_of,ret]
theorem m_gEqS (neg:Bool) (x y:W):gEqS neg x y = optM (asS x) fun i=>optM (asS y) fun j=>ret (.d (.bool (if neg then !decide (i = j) else decide (i = j)))):=by
  refine mo_ext fun Q=>?_
  simp only [opt_iff,asS_of,gEqS,ret]
  exact ⟨fun ⟨i,j,a,b,q⟩=>⟨i,a,j,b,q⟩,fun ⟨i,a,j,b,q⟩=>⟨i,j,a,b,q⟩⟩
end
inductive Fl where
  | nx (ρ:En) | rt (w:W) | bk (ρ:En) | ct (ρ:En)
noncomputable def mS (t:TSv) (ρ:En):Mo Fl:=fun Q=>t ⟨fun ρ=>Q (.nx ρ),fun w=>Q (.rt w),fun ρ=>Q (.bk ρ),fun ρ=>Q (.ct ρ)⟩ ρ
noncomputable def sq (m:Mo Fl) (k:En -> Mo Fl):Mo Fl:=bnd m fun fl=>match fl with
  | .nx ρ=>k ρ
  | .rt w=>ret (.rt w)
  | .bk ρ=>ret (.bk ρ)
  | .ct ρ=>ret (.ct ρ)
noncomputable def endQ (Q:PyData -> Prop):Fl -> Prop
  | .nx _=>Q .none
  | .rt w=>∃ d,w.fz = .d d /\ Q d
  | _=>False
section
variable {fa fb fc:TV} {fs:TVs} {f g:TB} {ρ:En} {t u:TSv} {k:En -> Mo Fl}
theorem read_of {Q:PyData -> Prop} (h:mS t ρ (endQ Q)):t (vEnds Q) ρ:=h
theorem end_d (Q:PyData -> Prop) (d:PyData):endQ Q (.rt (.d d)) = Q d:=propext ⟨fun ⟨_,e,q⟩=>by cases e; exact q,fun q=>⟨d,rfl,q⟩⟩
theorem end_ml (Q:PyData -> Prop) (d:List PyData):endQ Q (.rt (.ml d)) = Q (.list d):=propext ⟨fun ⟨_,e,q⟩=>by cases e; exact q,fun q=>⟨_,rfl,q⟩⟩
theorem end_nx (Q:PyData -> Prop) (ρ:En):endQ Q (.nx ρ) = Q .none:=nr rfl
theorem sq_nx:sq (ret (.nx ρ)) k = k ρ:=nr rfl
theorem sq_rt (w:W):sq (ret (.rt w)) k = ret (.rt w):=nr rfl
theorem sq_bk:sq (ret (.bk ρ)) k = ret (.bk ρ):=nr rfl
theorem sq_ct:sq (ret (.ct ρ)) k = ret (.ct ρ):=nr rfl
theorem sq_grd (P:Prop) (m:Mo Fl):sq (grd P m) k = grd P (sq m k):=nr rfl
theorem sq_stk:sq stk k = stk:=nr rfl
theorem sq_ite (c:Prop) [Decidable c] (a b:Mo Fl):sq (if c then a else b) k = if c then sq a k else sq b k:=by split <;> rfl
theorem sq_opt {α:Type} (o:Option α) (h : α -> Mo Fl):sq (optM o h) k = optM o fun a=>sq (h a) k:=by cases o <;> rfl
theorem s_next:mS vNext ρ = ret (.nx ρ):=nr rfl
theorem s_seq:mS (vSeq t u) ρ = sq (mS t ρ) (mS u):=by
  refine mo_ext fun Q=>?_
  show t ⟨fun ρ=>u ⟨_,_,_,_⟩ ρ,_,_,_⟩ ρ ↔ _
  exact Iff.rfl
theorem s_ret:mS (vRet fa) ρ = bnd (fa ρ) fun w=>ret (.rt w):=nr rfl
theorem s_ifS:mS (vIfS f t u) ρ = bnd (f ρ) fun b=>if b = true then mS t ρ else mS u ρ:=by
  refine mo_ext fun Q=>?_
  simp only [mS,vIfS,bnd,ite_ap]
theorem s_set (i:Nat):mS (vSet i fa) ρ = bnd (fa ρ) fun w=>grd (w.isPk = false) (ret (.nx (ρ.set i (some w)))):=nr rfl
theorem s_never:mS (fun _ _=>False) ρ = stk:=nr rfl
theorem m_hName (i:Nat) (x:PyData):hName i x ρ = ret (ρ.set i (some (.d x))):=nr rfl
theorem m_hNil (xs:List PyData):hNil xs ρ = grd (xs = []) (ret ρ):=nr rfl
theorem m_hCons {g:TGv} {gs:TGvs} (xs:List PyData):hCons g gs xs ρ = optM (match xs with | []=>none | y :: r=>some (y,r)) fun p=>bnd (g p.1 ρ) fun ρ'=>gs p.2 ρ':=by
  refine mo_ext fun Q=>?_
  simp only [opt_iff,hCons,bnd]
  constructor
  · rintro ⟨y,r,rfl,q⟩; exact ⟨(y,r),rfl,q⟩
  · rintro ⟨p,e,q⟩
    cases xs with
    | nil=>cases e
    | cons y r=>cases e; exact ⟨y,r,rfl,q⟩
theorem m_hCons_c {g:TGv} {gs:TGvs} (y:PyData) (r:List PyData):hCons g gs (y :: r) ρ = bnd (g y ρ) fun ρ'=>gs r ρ':=by rw [m_hCons]; rfl
theorem m_hNil_n:hNil [] ρ = ret ρ:=by rw [m_hNil,grd_t rfl]
theorem m_hTup (n:Nat) {gs:TGvs} (x:PyData):hTup n gs x ρ = optM (tupD x) fun xs=>grd (xs.length = n) (gs xs ρ):=by
  refine mo_ext fun Q=>?_
  simp only [opt_iff,tupD_of,hTup,grd]
theorem s_asg {g:TGv}:mS (vAsg fa g) ρ = bnd (fa ρ) fun w=>optM (asD w) fun x=>bnd (g x ρ) fun ρ'=>ret (.nx ρ'):=by
  refine mo_ext fun Q=>?_
  simp only [mS,vAsg,bnd,opt_iff,asD_of,ret]
theorem s_par (i j:Nat):mS (vPar i j fs) ρ = bnd (fs ρ) fun ws=>optM (dats ws) fun ds=>optM (match ds with | [x,y]=>some (x,y) | _=>none) fun p=>ret (.nx ((ρ.set i (some (.d p.1))).set j (some (.d p.2)))):=by
  show (bnd (fs ρ) fun ws=>fun (Q:Fl -> Prop)=>∃ x y,dats ws = some [x,y] /\ Q (.nx ((ρ.set i (some (.d x))).set j (some (.d y))))) = _
  congr 1; funext ws
  refine mo_ext fun Q=>?_
  simp only [opt_iff,ret]
  constructor
  · rintro ⟨x,y,e,q⟩; exact ⟨_,e,(x,y),rfl,q⟩
  · rintro ⟨ds,e,p,e2,q⟩
    split at e2
    · cases e2; exact ⟨_,_,e,q⟩
    · cases e2
noncomputable def slI (ρ:En) (i:Nat):Option Int:=((ρ[i]?).join).bind asI
noncomputable def asM:W -> Option (List PyData)
  | .ml xs=>some xs
  | _=>none
noncomputable def slM (ρ:En) (i:Nat):Option (List PyData):=((ρ[i]?).join).bind asM
theorem asM_ml (xs:List PyData):asM (.ml xs) = some xs:=rfl
theorem asM_of {w:W} {xs:List PyData}:asM w = some xs ↔ w = .ml xs:=by
  constructor
  · intro h; unfold asM at h; split at h <;> simp_all
  · rintro rfl; rfl
theorem slM_of {i:Nat} {xs:List PyData}:slM ρ i = some xs ↔ ρ[i]? = some (some (.ml xs)):=by
  unfold slM
  constructor
  · intro h
    cases q : ρ[i]? with
    | none=>rw [q] at h; cases h
    | some o=>rw [q] at h; cases o with
      | none=>cases h
      | some w=>rw [asM_of.mp h]
  · intro h; rw [h]; rfl
theorem slI_of {i:Nat} {n:Int}:slI ρ i = some n ↔ ρ[i]? = some (some (.d (.int n))):=by
  unfold slI
  constructor
  · intro h
    cases q : ρ[i]? with
    | none=>rw [q] at h; cases h
    | some o=>rw [q] at h; cases o with
      | none=>cases h
      | some w=>rw [asI_of.mp h]
  · intro h; rw [h]; rfl
theorem s_aug (i:Nat) (C:Int -> Int -> Prop) (h:Int -> Int -> Int):mS (vAug i C h fa) ρ = optM (slI ρ i) fun n=>bnd (fa ρ) fun w=>optM (asI w) fun m=>grd (C n m) (ret (.nx (ρ.set i (some (.d (.int (h n m))))))):=by
  refine mo_ext fun Q=>?_
  simp only [mS,vAug,bnd,opt_iff,slI_of,asI_of,grd,ret]
theorem s_frz (i:Nat):mS (vFrz i t) ρ = optM (slM ρ i) fun xs=>mS t (ρ.set i (some (.d (.list xs)))):=by
  refine mo_ext fun Q=>?_
  simp only [mS,vFrz,opt_iff,slM_of]
theorem s_mut (i:Nat) (h:List PyData -> List W -> (List PyData -> Prop) -> Prop):mS (vMut i h fs) ρ = optM (slM ρ i) fun xs=>bnd (fs ρ) fun ws=>bnd (h xs ws) fun ys=>ret (.nx (ρ.set i (some (.ml ys)))):=by
  refine mo_ext fun Q=>?_
  simp only [mS,vMut,bnd,opt_iff,slM_of,ret]
theorem m_gApp (xs:List PyData) (w:W):gApp xs [w] = optM (asD w) fun x=>grd (xs.length < sizeLine) (ret (xs ++ [x])):=by
  refine mo_ext fun Q=>?_
  simp only [gApp,opt_iff,asD_of,grd,ret]
  constructor
  · rintro ⟨x,e,a,q⟩
    cases w <;> first | (cases e; exact ⟨_,rfl,a,q⟩) | cases e
  · rintro ⟨x,rfl,a,q⟩; exact ⟨x,rfl,a,q⟩
end
end L2.VL

namespace L2.VL
open PySem PySem.Spec PyProof.Rows
noncomputable def Le (a b:En):Prop:=a.length = b.length /\ ∀ (i:Nat) w,a[i]? = some (some w) -> b[i]? = some (some w)
theorem Le.refl (a:En):Le a a:=⟨rfl,fun _ _ h=>h⟩
theorem Le.trans {a b c:En} (h:Le a b) (h':Le b c):Le a c:=⟨h.1.trans h'.1,fun i w e=>h'.2 i w (h.2 i w e)⟩
theorem le_nil:Le [] [] = True:=propext ⟨fun _=>trivial,fun _=>Le.refl _⟩
theorem le_cn (x:Option W) (a b:En):Le (none :: a) (x :: b) = Le a b:=by
  refine propext ⟨fun h=>⟨by have:=h.1; simpa using this,fun i w e=>by have:=h.2 (i + 1) w (by simpa using e); simpa using this⟩,fun h=>⟨by simp [h.1],fun i w e=>?_⟩⟩
  cases i with
  | zero=>simp at e
  | succ i=>simpa using h.2 i w (by simpa using e)
theorem le_cs (x:Option W) (a b:En):Le (x :: a) (x :: b) = Le a b:=by
  refine propext ⟨fun h=>⟨by have:=h.1; simpa using this,fun i w e=>by have:=h.2 (i + 1) w (by simpa using e); simpa using this⟩,fun h=>⟨by simp [h.1],fun i w e=>?_⟩⟩
  cases i with
  | zero=>simpa using e
  | succ i=>simpa using h.2 i w (by simpa using e)
theorem VR.le {K:W.Frag} {rl:RlT} {F₀ H₀ F H:Hp} {σ:St} {ρ ρ0:En} (R:VR K rl F₀ H₀ F H σ ρ) (h:Le ρ0 ρ):VR K rl F₀ H₀ F H σ ρ0 :=
  ⟨R.g,fun i w e=>R.sl i w (h.2 i w e),fun i j x y v n e1 e2=>R.ap i j x y v n (h.2 i x e1) (h.2 j y e2),fun i xs e=>R.np i xs (h.2 i _ e),h.1.trans R.len⟩
noncomputable def fo:List Nat -> En -> En
  | [],ρ=>ρ
  | i :: l,ρ=>fo l (ρ.set i none)
theorem le_set (ρ:En) (i:Nat):Le (ρ.set i none) ρ:=by
  refine ⟨by simp,fun j w e=>?_⟩
  rw [List.getElem?_set] at e
  split at e
  · split at e
    · cases e
    · cases e
  · exact e
theorem le_fo:∀ (l:List Nat) (ρ:En),Le (fo l ρ) ρ
  | [],ρ=>Le.refl ρ
  | i :: l,ρ=>(le_fo l (ρ.set i none)).trans (le_set ρ i)
theorem fo_nil (ρ:En):fo [] ρ = ρ:=rfl
theorem fo_cons (i:Nat) (l:List Nat) (ρ:En):fo (i :: l) ρ = fo l (ρ.set i none):=rfl
noncomputable def vLoopF (fl:List Nat) (g:TGv) (t:TSv):List PyData -> TSv
  | [],D,ρ=>D.nx ρ
  | x :: xs,D,ρ=>g x ρ fun ρ2=>t { D with nx:=fun ρ'=>vLoopF fl g t xs D (fo fl ρ'),ct:=fun ρ'=>vLoopF fl g t xs D (fo fl ρ'),bk:=fun ρ'=>D.nx (fo fl ρ') } ρ2
noncomputable def vForF (fl:List Nat) (fi:En -> (List PyData -> Prop) -> Prop) (g:TGv) (t:TSv):TSv:=fun D ρ=>fi ρ fun xs=>vLoopF fl g t xs D (fo fl ρ)
section
variable {X:Cx} {rl:RlT} {st:Stmt} {rest body:List Stmt} {t u:TSv} {a b c e:Expr} {es:List Expr} {fa fb:TV} {fs:TVs} {f:TB} {pos p:Pos}
theorem vs_forF (fl:List Nat) {tg iter:Expr} {fi:En -> (List PyData -> Prop) -> Prop} {g:TGv} (hp:PassesOwn (model X.prog X.w) X.A X.env X.xe) (hc:X.calm = true) (hi:PIV X rl tg iter fi) (hg:PGV X rl tg g) (hb:PSsV X rl body t)
    (hs:∀ x,foldedSetIterable iter X.env x = pure x:=by intro _; rfl):PSV X rl (.For tg iter body [] pos) (vForF fl fi g t):=by
  obtain ⟨wi,p0,k0⟩:=hi
  obtain ⟨G,p1,k1⟩:=hg
  obtain ⟨T,p2,k2⟩:=hb
  refine ⟨_,ps_for hp hc p0 p1 p2 hs,fun {F₀ H₀ F H σ ρ} R Dv D ok q=>k0 R _ _ q fun J xs F1 H1 g1 vi q1=>?_⟩
  refine ⟨fun i m σ H=>m = xs.length - i /\ i <= xs.length /\ ∃ F ρ,Same F1 F /\ VR X.K rl F₀ H₀ F H σ ρ /\ vLoopF fl g t (xs.drop i) Dv ρ,⟨xs.length,by simp,Nat.zero_le _,F1,fo fl ρ,.refl _,(R.grow g1).le (le_fo fl ρ),by simpa using q1⟩,?_⟩
  rintro i m σ H ⟨rfl,hi,F2,ρ2,s2,R2,j2⟩
  have sH:Same F1 H:=s2.trans R2.sub
  by_cases hlt:i < xs.length
  · have ei:xs[i]? = some xs[i]:=by simp [hlt]
    rw [List.drop_eq_getElem_cons hlt] at j2
    refine .inr ⟨vi.go i H _ ei sH,fun σ' H'=>∃ F ρ,Same F1 F /\ VR X.K rl F₀ H₀ F H' σ' ρ /\ vLoopF fl g t (xs.drop (i + 1)) Dv ρ,fun σ' H' z=>⟨xs.length - (i + 1),by omega,rfl,hlt,z⟩,fun v H' y=>?_⟩
    obtain ⟨Fy,gy,rv⟩:=vi.yld i H v H' _ F2 ei s2 R2.sub R2.reel y
    refine k1 (R2.grow gy) v _ _ _ rv j2 fun F3 H3 σ3 ρ3 s3 n3 R3 q3=>?_
    have s13:Same F1 F3:=s2.trans (gy.fs.trans s3.fs)
    exact k2 R3 { Dv with nx:=fun ρ'=>vLoopF fl g t (xs.drop (i + 1)) Dv (fo fl ρ'),ct:=fun ρ'=>vLoopF fl g t (xs.drop (i + 1)) Dv (fo fl ρ'),bk:=fun ρ'=>Dv.nx (fo fl ρ') } _
      ⟨fun F4 H4 σ4 ρ4 s4 R4 q4=>⟨F4,fo fl ρ4,s13.trans s4,R4.le (le_fo fl ρ4),q4⟩,ok.rt,fun F4 H4 σ4 ρ4 s4 R4 q4=>ok.nx _ _ _ _ (g1.fs.trans (s13.trans s4)) (R4.le (le_fo fl ρ4)) q4,fun F4 H4 σ4 ρ4 s4 R4 q4=>⟨F4,fo fl ρ4,s13.trans s4,R4.le (le_fo fl ρ4),q4⟩⟩ q3
  · have e:i = xs.length:=by omega
    subst e
    rw [List.drop_length] at j2
    exact .inl ⟨vi.stop _ H (Nat.le_refl _) sH,ok.nx _ _ _ _ (g1.fs.trans s2) R2 j2⟩
noncomputable def vWh (fl:List Nat) (f:TB) (t:TSv) (m:Nat):TSv:=fun D ρ=>f ρ fun b=>if b = true then t { D with nx:=fun ρ'=>∃ k,∃ h:k < m,vWh fl f t k D (fo fl ρ'),ct:=fun ρ'=>∃ k,∃ h:k < m,vWh fl f t k D (fo fl ρ'),bk:=fun ρ'=>D.nx (fo fl ρ') } ρ else D.nx ρ
termination_by m
noncomputable def vWhileF (fl:List Nat) (f:TB) (t:TSv):TSv:=fun D ρ=>∃ m,vWh fl f t m D (fo fl ρ)
theorem vWh_eq (fl:List Nat) (f:TB) (t:TSv) (m:Nat) (D:VEnds) (ρ:En):vWh fl f t m D ρ = f ρ fun b=>if b = true then t { D with nx:=fun ρ'=>∃ k,∃ h:k < m,vWh fl f t k D (fo fl ρ'),ct:=fun ρ'=>∃ k,∃ h:k < m,vWh fl f t k D (fo fl ρ'),bk:=fun ρ'=>D.nx (fo fl ρ') } ρ else D.nx ρ:=by
  conv=>lhs; unfold vWh
theorem vs_whileF (fl:List Nat) (hp:PassesOwn (model X.prog X.w) X.A X.env X.xe) (hc:PB X rl c f) (hb:PSsV X rl body t):PSV X rl (.While c body [] pos) (vWhileF fl f t):=by
  obtain ⟨t0,p0,k0⟩:=hc
  obtain ⟨t1,p1,k1⟩:=hb
  refine ⟨_,ps_while hp p0 p1,fun {F₀ H₀ F H σ ρ} R Dv D ok q=>?_⟩
  obtain ⟨m,j0⟩:=q
  refine ⟨fun m σ' H'=>∃ F' ρ',Same F F' /\ VR X.K rl F₀ H₀ F' H' σ' ρ' /\ vWh fl f t m Dv ρ',⟨m,F,fo fl ρ,.refl _,R.le (le_fo fl ρ),j0⟩,?_⟩
  rintro m σ2 H2 ⟨F2,ρ2,s2,R2,j⟩
  rw [vWh_eq] at j
  refine k0 R2 _ _ j fun b F1 H1 g1 q1=>?_
  cases b with
  | false=>exact ok.nx _ _ _ _ (s2.trans g1.fs) (R2.grow g1) q1
  | true =>
    refine ⟨fun σ' H'=>∃ F' ρ',Same F F' /\ VR X.K rl F₀ H₀ F' H' σ' ρ' /\ ∃ m',m' < m /\ vWh fl f t m' Dv ρ',fun σ' H' ⟨F',ρ',s',R',m',hm,j⟩=>⟨m',hm,F',ρ',s',R',j⟩,?_⟩
    exact k1 (R2.grow g1) { Dv with nx:=fun ρ'=>∃ k,∃ h:k < m,vWh fl f t k Dv (fo fl ρ'),ct:=fun ρ'=>∃ k,∃ h:k < m,vWh fl f t k Dv (fo fl ρ'),bk:=fun ρ'=>Dv.nx (fo fl ρ') } _
      ⟨fun F3 H3 σ3 ρ3 s3 R3 ⟨m',hm,q3⟩=>⟨F3,fo fl ρ3,(s2.trans g1.fs).trans s3,R3.le (le_fo fl ρ3),m',hm,q3⟩,ok.rt,fun F3 H3 σ3 ρ3 s3 R3 q3=>ok.nx _ _ _ _ ((s2.trans g1.fs).trans s3) (R3.le (le_fo fl ρ3)) q3,fun F3 H3 σ3 ρ3 s3 R3 ⟨m',hm,q3⟩=>⟨F3,fo fl ρ3,(s2.trans g1.fs).trans s3,R3.le (le_fo fl ρ3),m',hm,q3⟩⟩ q1
end
noncomputable def lpK (fl:List Nat) (k:En -> Mo Fl):Fl -> Mo Fl
  | .nx ρ=>k (fo fl ρ)
  | .ct ρ=>k (fo fl ρ)
  | .bk ρ=>ret (.nx (fo fl ρ))
  | .rt w=>ret (.rt w)
noncomputable def loopM (fl:List Nat) (b:PyData -> En -> Mo Fl):List PyData -> En -> Mo Fl
  | [],ρ=>ret (.nx ρ)
  | x :: xs,ρ=>bnd (b x ρ) (lpK fl (loopM fl b xs))
theorem loop_eq (fl:List Nat) (g:TGv) (t:TSv):∀ (xs:List PyData) (ρ:En),mS (vLoopF fl g t xs) ρ = loopM fl (fun x ρ=>bnd (g x ρ) (mS t)) xs ρ
  | [],ρ=>rfl
  | x :: xs,ρ=>by
    refine mo_ext fun Q=>?_
    show (g x ρ fun ρ2=>t ⟨fun ρ'=>mS (vLoopF fl g t xs) (fo fl ρ') Q,fun w=>Q (.rt w),fun ρ'=>Q (.nx (fo fl ρ')),fun ρ'=>mS (vLoopF fl g t xs) (fo fl ρ') Q⟩ ρ2) ↔ _
    simp only [loop_eq fl g t xs]
    exact Iff.rfl
noncomputable def bdy (g:TGv) (t:TSv):PyData -> En -> Mo Fl:=fun x ρ=>bnd (g x ρ) (mS t)
theorem bdy_ap (g:TGv) (t:TSv) (x:PyData) (ρ:En):bdy g t x ρ = bnd (g x ρ) (mS t):=nr rfl
theorem s_for (fl:List Nat) (fi:En -> (List PyData -> Prop) -> Prop) (g:TGv) (t:TSv) (ρ:En):mS (vForF fl fi g t) ρ = bnd (fi ρ) fun xs=>loopM fl (bdy g t) xs (fo fl ρ):=by
  refine mo_ext fun Q=>?_
  show (fi ρ fun xs=>mS (vLoopF fl g t xs) (fo fl ρ) Q) ↔ _
  simp only [loop_eq]
  exact Iff.rfl
noncomputable def lpQ (fl:List Nat) (J:En -> Prop) (Q:Fl -> Prop):Fl -> Prop
  | .nx ρ=>J (fo fl ρ)
  | .ct ρ=>J (fo fl ρ)
  | .bk ρ=>Q (.nx (fo fl ρ))
  | .rt w=>Q (.rt w)
section
variable {α σ:Type} {fl:List Nat} {b:PyData -> En -> Mo Fl}
theorem loop_inv (J:Nat -> En -> Prop) {Q:Fl -> Prop}:∀ {xs:List PyData} {ρ:En} (n:Nat),J n ρ -> (∀ i x ρ,xs[i]? = some x -> J (n + i) ρ -> ∀ k:Fl -> Prop,(∀ r,lpQ fl (J (n + i + 1)) Q r -> k r) -> b x ρ k) -> (∀ ρ,J (n + xs.length) ρ -> Q (.nx ρ)) -> loopM fl b xs ρ Q
  | [],ρ,n,h0,_,fin=>fin ρ h0
  | x :: xs,ρ,n,h0,step,fin=>by
    refine step 0 x ρ rfl h0 (fun r=>lpK fl (loopM fl b xs) r Q) fun r hr=>?_
    have rc:∀ ρ',J (n + 1) ρ' -> loopM fl b xs ρ' Q:=fun ρ' h'=>loop_inv J (n + 1) h' (fun i y ρ e j k hk=>step (i + 1) y ρ (by simpa using e) (by rw [show n + (i + 1) = n + 1 + i by omega]; exact j) k (by rw [show n + (i + 1) + 1 = n + 1 + i + 1 by omega]; exact hk)) (fun ρ j=>fin ρ (by rw [List.length_cons,show n + (xs.length + 1) = n + 1 + xs.length by omega]; exact j))
    cases r with
    | nx ρ'=>exact rc _ hr
    | ct ρ'=>exact rc _ hr
    | bk ρ'=>exact hr
    | rt w=>exact hr
theorem loop_by {xs:List α} {enc : α -> PyData} {ρ:En} {Q:Fl -> Prop} (J:Nat -> En -> Prop) (h0:J 0 ρ)
    (step:∀ i (h:i < xs.length) ρ,J i ρ -> ∀ k:Fl -> Prop,(∀ r,lpQ fl (J (i + 1)) Q r -> k r) -> b (enc xs[i]) ρ k) (fin:∀ ρ,J xs.length ρ -> Q (.nx ρ)):loopM fl b (xs.map enc) ρ Q:=by
  refine loop_inv J 0 h0 (fun i x ρ e j k hk=>?_) (fun ρ j=>fin ρ (by simpa using j))
  have hi:i < xs.length:=by have:=(List.getElem?_eq_some_iff.mp e).1; simpa using this
  rw [List.getElem?_map,List.getElem?_eq_getElem hi] at e
  cases e
  rw [Nat.zero_add] at j hk
  exact step i hi ρ j k hk
theorem loop_byR {lo:Int} {n:Nat} {ρ:En} {Q:Fl -> Prop} (J:Nat -> En -> Prop) (h0:J 0 ρ)
    (step:∀ i,i < n -> ∀ ρ,J i ρ -> ∀ k:Fl -> Prop,(∀ r,lpQ fl (J (i + 1)) Q r -> k r) -> b (.int (lo + i)) ρ k) (fin:∀ ρ,J n ρ -> Q (.nx ρ)):loopM fl b (rangeD lo n) ρ Q:=by
  refine loop_by (xs:=List.range n) J h0 (fun i h ρ j k hk=>?_) (fun ρ j=>fin ρ (by simpa using j))
  rw [List.getElem_range]
  exact step i (by simpa using h) ρ j k hk
theorem loop_fold {xs:List α} {enc : α -> PyData} (st : σ -> En) (f : σ -> α -> σ) (s : σ) (I : σ -> Prop) (h0:I s) (step:∀ x ∈ xs,∀ s,I s -> I (f s x) /\ ∃ ρ',b (enc x) (st s) = ret (.nx ρ') /\ fo fl ρ' = st (f s x)):loopM fl b (xs.map enc) (st s) = ret (.nx (st (xs.foldl f s))):=by
  induction xs generalizing s with
  | nil=>rfl
  | cons x xs ih =>
    obtain ⟨h1,ρ',e1,e2⟩:=step x List.mem_cons_self s h0
    show bnd (b (enc x) (st s)) (lpK fl (loopM fl b (xs.map enc))) = _
    rw [e1,bnd_ret]
    show loopM fl b (xs.map enc) (fo fl ρ') = _
    rw [e2]
    exact ih (f s x) h1 fun y hy=>step y (List.mem_cons_of_mem _ hy)
theorem loop_foldR {lo:Int} {n:Nat} (st:Nat -> En) (h0:∀ i,i < n -> ∃ ρ',b (.int (lo + i)) (st i) = ret (.nx ρ') /\ fo fl ρ' = st (i + 1)):loopM fl b (rangeD lo n) (st 0) = ret (.nx (st n)):=by
  have key:∀ k m,m + k = n -> loopM fl b ((rangeD lo n).drop m) (st m) = ret (.nx (st n)):=by
    intro k
    induction k with
    | zero => intro m e; have e : m = n := by omega
              subst e; rw [List.drop_of_length_le (by rw [rangeD_length]; omega)]; rfl
    | succ k ih =>
      intro m e
      have hm:m < (rangeD lo n).length:=by rw [rangeD_length]; omega
      rw [List.drop_eq_getElem_cons hm]
      have ex:(rangeD lo n)[m] = .int (lo + m):=by simp [rangeD]
      rw [ex]
      obtain ⟨ρ',e1,e2⟩:=h0 m (by omega)
      show bnd (b (.int (lo + m)) (st m)) (lpK fl (loopM fl b ((rangeD lo n).drop (m + 1)))) = _
      rw [e1,bnd_ret]
      show loopM fl b _ (fo fl ρ') = _
      rw [e2]
      exact ih (m + 1) (by omega)
  have:=key n 0 (by omega)
  simpa using this
end
noncomputable def whileM (fl:List Nat) (f:TB) (t:TSv) (ρ:En):Mo Fl:=fun Q=>∃ m,mS (vWh fl f t m) ρ Q
theorem s_while (fl:List Nat) (f:TB) (t:TSv) (ρ:En):mS (vWhileF fl f t) ρ = whileM fl f t (fo fl ρ):=nr rfl
theorem wh_eq (fl:List Nat) (f:TB) (t:TSv) (m:Nat) (ρ:En):mS (vWh fl f t m) ρ = bnd (f ρ) fun b=>if b = true then bnd (mS t ρ) (lpK fl fun ρ'=>fun Q=>∃ k,∃ h:k < m,mS (vWh fl f t k) ρ' Q) else ret (.nx ρ):=by
  refine mo_ext fun Q=>?_
  show vWh fl f t m _ ρ ↔ _
  rw [vWh_eq]
  simp only [bnd,ite_ap]
  exact Iff.rfl
theorem while_f {fl:List Nat} {f:TB} {t:TSv} {ρ:En} (h:f ρ = ret false):whileM fl f t ρ = ret (.nx ρ):=by
  refine mo_ext fun Q=>?_
  constructor
  · rintro ⟨m,q⟩; rw [wh_eq,h,bnd_ret,if_neg (by decide)] at q; exact q
  · intro q; refine ⟨0,?_⟩; rw [wh_eq,h,bnd_ret,if_neg (by decide)]; exact q
theorem while_t {fl:List Nat} {f:TB} {t:TSv} {ρ ρ':En} (h:f ρ = ret true) (h2:mS t ρ = ret (.nx ρ')):whileM fl f t ρ = whileM fl f t (fo fl ρ'):=by
  refine mo_ext fun Q=>?_
  constructor
  · rintro ⟨m,q⟩; rw [wh_eq,h,bnd_ret,if_pos rfl,h2,bnd_ret] at q; obtain ⟨k,_,q⟩:=q; exact ⟨k,q⟩
  · rintro ⟨m,q⟩; refine ⟨m + 1,?_⟩; rw [wh_eq,h,bnd_ret,if_pos rfl,h2,bnd_ret]; exact ⟨m,Nat.lt_succ_self m,q⟩
theorem while_det {σ:Type} {fl:List Nat} {f:TB} {t:TSv} (st : σ -> En) (c : σ -> Bool) (nxt : σ -> σ) (μ : σ -> Nat) (I : σ -> Prop)
    (hf:∀ s,I s -> f (st s) = ret (c s)) (ht:∀ s,I s -> c s = true -> I (nxt s) /\ μ (nxt s) < μ s /\ ∃ ρ',mS t (st s) = ret (.nx ρ') /\ fo fl ρ' = st (nxt s)) (s : σ) (hs:I s):∃ s',I s' /\ c s' = false /\ whileM fl f t (st s) = ret (.nx (st s')):=by
  induction hm : μ s using Nat.strongRecOn generalizing s with
  | ind n ih =>
    subst hm
    cases hc:c s with
    | false=>exact ⟨s,hs,hc,while_f (by rw [hf s hs,hc])⟩
    | true =>
      obtain ⟨i1,m1,ρ',e1,e2⟩:=ht s hs hc
      obtain ⟨s',a,b,e⟩:=ih _ m1 (nxt s) i1 rfl
      exact ⟨s',a,b,by rw [while_t (by rw [hf s hs,hc]) e1,e2,e]⟩
noncomputable def vGoR (ρ0:En) (g:TGv) (ft:TB) (fe:TV):List PyData -> List PyData -> (List PyData -> Prop) -> Prop
  | [],acc,Q=>Q acc
  | x :: xs,acc,Q=>g x ρ0 fun ρ2=>Le ρ0 ρ2 /\ ft ρ2 fun b=>if b = true then fe ρ2 fun w=>∃ d,w.fz = .d d /\ acc.length < sizeLine /\ vGoR ρ0 g ft fe xs (acc ++ [d]) Q else vGoR ρ0 g ft fe xs acc Q
noncomputable def vCompR (fi:En -> (List PyData -> Prop) -> Prop) (fr:List (Option Nat)) (g:TGv) (ft:TB) (fe:TV):TV:=fun ρ Q=>fi ρ fun xs=>vGoR (frEn fr ρ) g ft fe xs [] fun ds=>Q (.ml ds)
section
variable {X:Cx} {rl:RlT} {elt tg iter:Expr} {ifs:List Expr} {scope:Scope} {pos:Pos} {fi:En -> (List PyData -> Prop) -> Prop} {g:TGv} {ft:TB} {fe:TV}
theorem lcompR_k {N':List Str} {wi:TI} (fr:List (Option Nat)) (k0:∀ {F₀ H₀ F H:Hp} {σ:St} {ρ:En},VR X.K rl F₀ H₀ F H σ ρ -> ∀ (Qd:List PyData -> Prop) (R:It -> Hp -> Prop),fi ρ Qd ->
      (∀ J xs F' H',Grow rl F H F' H' -> VIt X.K rl F' J xs -> Qd xs -> R J H') -> wi σ H R)
    (hg:∀ y,PGV (blk X N' scope y) rl tg g) (ht:∀ y,PTVs (blk X N' scope y) rl ifs ft) (he:∀ y,PV (blk X N' scope y) rl elt fe)
    {F₀ H₀ F H:Hp} {σ:St} {ρ:En} (R:VR X.K rl F₀ H₀ F H σ ρ) (Qd:W -> Prop) (Q:VK) (q:vCompR fi fr g ft fe ρ Qd)
    (k:∀ v w F' H',Grow rl F H F' H' -> RelW X.K rl F' H' v w -> NewIn H v w -> Qd w -> Q v H'):tComp wi fr (fun y=>Classical.choose (hg y)) (fun y=>Classical.choose (ht y)) (fun y=>Classical.choose (he y)) σ H Q:=by
  refine k0 R _ _ q fun J xs F1 H1 g1 vi q1=>?_
  intro D hD
  have rD:rl.a ≠ some D:=fun e=>by obtain ⟨o,z⟩:=g1.reel.live e; rw [hD] at z; cases z
  have FD:F1 D = none:=g1.sub.free hD
  have gD:Grow rl F1 H1 F1 (upd H1 D (.lst [])):=Grow.laid g1.sub g1.reel hD
  have R1:=R.grow g1
  have n0:NoMl (frEn fr ρ):=noMl_block
  refine ⟨fun i m acc σc Hc=>m = xs.length - i /\ i <= xs.length /\ ∃ Fc ds,VR X.K rl F1 H1 Fc Hc σc (frEn fr ρ) /\ Hc D = some (.lst acc) /\ Fc D = none /\ Reps X.K Fc acc ds /\ vGoR (frEn fr ρ) g ft fe (xs.drop i) ds (fun ds=>Qd (.ml ds)),
    ⟨xs.length,by simp,Nat.zero_le _,F1,[],vr_block R1 gD,upd_same,FD,.nil,by simpa using q1⟩,?_⟩
  rintro z i m acc σc Hc ⟨rfl,hi,Fc,ds,Rc,hDc,fDc,rs,q2⟩
  have sH:Same F1 Hc:=Rc.g.fs.trans Rc.sub
  by_cases hlt:i < xs.length
  · have ei:xs[i]? = some xs[i]:=by simp [hlt]
    have ed:xs.drop i = xs[i] :: xs.drop (i + 1):=List.drop_eq_getElem_cons hlt
    rw [ed] at q2
    refine .inr ⟨vi.go i Hc _ ei sH,fun v H' y=>?_⟩
    obtain ⟨Fy,gy,rv⟩:=vi.yld i Hc v H' _ Fc ei Rc.g.fs Rc.sub Rc.reel y
    refine (Classical.choose_spec (hg z)).2 (Rc.grow gy) v _ _ _ rv q2 fun F3 H3 σ3 ρ3 g3 n3 R3 ⟨le3,q3⟩=>?_
    refine (Classical.choose_spec (ht z)).2 R3 _ _ q3 fun b F4 H4 g4 q4=>?_
    have R4:=R3.grow g4
    have g34:=(gy.trans g3).trans g4
    have keepD:∀ {Fx Hx:Hp},Grow rl Fc Hc Fx Hx -> Hx D = some (.lst acc) /\ Fx D = none:=fun gx=>⟨gx.same D _ hDc rD,by rw [gx.old D _ hDc]; exact fDc⟩
    cases b with
    | false=>exact ⟨xs.length - (i + 1),by omega,rfl,hlt,F4,ds,R4.le le3,(keepD g34).1,(keepD g34).2,rs.mono g34.fs,q4⟩
    | true =>
      refine (Classical.choose_spec (he z)).2 R4 _ _ q4 fun v5 w5 F5 H5 g5 r5 n5 ⟨d,ed5,hl,q5⟩=>?_
      obtain ⟨F6,g6,s6,r6⟩:=RelW.fz g5 r5 n5
      rw [ed5] at r6
      have g36:=g34.trans g6
      refine ⟨(keepD g36).1,by rw [rs.length]; exact hl,xs.length - (i + 1),by omega,rfl,hlt,F6,ds ++ [d],((R4.grow g6).le le3).other n0 hD (keepD g36).2 rD,upd_same,(keepD g36).2,(rs.mono g36.fs).snoc r6,q5⟩
  · have e:i = xs.length:=by omega
    subst e
    rw [List.drop_length] at q2
    refine .inl ⟨vi.stop _ Hc (Nat.le_refl _) sH,k _ (.ml ds) Fc Hc (g1.trans Rc.g) ⟨D,acc,rfl,fDc,rD,hDc,rs⟩ (fun a ea=>by cases ea; exact g1.freeB hD) q2⟩
theorem v_lcompR (N':List Str) (fr:List (Option Nat)) (hc:X.calm = true) (hi:PIV X rl tg iter fi)
    (hg:∀ y,PGV (blk X N' scope y) rl tg g) (ht:∀ y,PTVs (blk X N' scope y) rl ifs ft) (he:∀ y,PV (blk X N' scope y) rl elt fe)
    (hfr:frOk fr N' X.N scope X.env.scope = true:=by rfl) (hsc:scOk scope X.env.scope = true:=by rfl)
    (hs:∀ x,foldedSetIterable iter X.env x = pure x:=by intro _; rfl):PV X rl (.ListComp elt [⟨tg,iter,ifs,0⟩] scope pos) (vCompR fi fr g ft fe):=by
  obtain ⟨wi,p0,k0⟩:=hi
  exact ⟨_,pe_lcomp N' fr hc p0 hfr hsc (fun y=>(Classical.choose_spec (hg y)).1) (fun y=>(Classical.choose_spec (ht y)).1) (fun y=>(Classical.choose_spec (he y)).1) hs,fun R Qd Q q k=>lcompR_k fr k0 hg ht he R Qd Q q k⟩
end
noncomputable def itM (ρ0:En) (g:TGv) (ft:TB) (fe:TV) (x:PyData):Mo (Option PyData):=bnd (g x ρ0) fun ρ2=>grd (Le ρ0 ρ2) (bnd (ft ρ2) fun b=>if b = true then bnd (fe ρ2) fun w=>optM (asD w.fz) fun d=>ret (some d) else ret none)
noncomputable def compM (b:PyData -> Mo (Option PyData)):List PyData -> List PyData -> Mo (List PyData)
  | [],acc=>ret acc
  | x :: xs,acc=>bnd (b x) fun o=>match o with
    | some d=>grd (acc.length < sizeLine) (compM b xs (acc ++ [d]))
    | none=>compM b xs acc
theorem comp_eq (ρ0:En) (g:TGv) (ft:TB) (fe:TV):∀ (xs acc:List PyData),vGoR ρ0 g ft fe xs acc = compM (itM ρ0 g ft fe) xs acc
  | [],acc=>rfl
  | x :: xs,acc=>by
    refine mo_ext fun Q=>?_
    show (g x ρ0 fun ρ2=>Le ρ0 ρ2 /\ ft ρ2 fun b=>if b = true then fe ρ2 fun w=>∃ d,w.fz = .d d /\ acc.length < sizeLine /\ vGoR ρ0 g ft fe xs (acc ++ [d]) Q else vGoR ρ0 g ft fe xs acc Q) ↔ (bnd (itM ρ0 g ft fe x) _) Q
    simp only [comp_eq ρ0 g ft fe xs]
    have:∀ (ρ2:En) (b:Bool),(if b = true then fe ρ2 fun w=>∃ d,w.fz = .d d /\ acc.length < sizeLine /\ compM (itM ρ0 g ft fe) xs (acc ++ [d]) Q else compM (itM ρ0 g ft fe) xs acc Q) = (bnd (if b = true then bnd (fe ρ2) fun w=>optM (asD w.fz) fun d=>ret (some d) else ret none) fun o=>match o with
    | some d=>grd (acc.length < sizeLine) (compM (itM ρ0 g ft fe) xs (acc ++ [d]))
    | none=>compM (itM ρ0 g ft fe) xs acc) Q:=by
      intro ρ2 b
      cases b with
      | false=>rfl
      | true =>
        rw [if_pos rfl,if_pos rfl]
        show _ = fe ρ2 fun w=>_
        congr 1
        funext w
        refine propext ?_
        show _ ↔ (bnd (optM (asD w.fz) fun d=>ret (some d)) _) Q
        rw [bnd_opt,opt_iff]
        simp only [asD_of]
        exact Iff.rfl
    simp only [this]
    exact Iff.rfl
theorem m_comp (fi:En -> (List PyData -> Prop) -> Prop) (fr:List (Option Nat)) (g:TGv) (ft:TB) (fe:TV) (ρ:En):vCompR fi fr g ft fe ρ = bnd (fi ρ) fun xs=>bnd (compM (itM (frEn fr ρ) g ft fe) xs []) fun ds=>ret (.ml ds):=by
  refine mo_ext fun Q=>?_
  show (fi ρ fun xs=>vGoR (frEn fr ρ) g ft fe xs [] fun ds=>Q (.ml ds)) ↔ _
  simp only [comp_eq]
  exact Iff.rfl
section
variable {α:Type} {b:PyData -> Mo (Option PyData)}
theorem compM_acc {enc : α -> PyData} (f : α -> Option PyData):∀ (xs:List α) (acc:List PyData),(∀ x ∈ xs,b (enc x) = ret (f x)) -> acc.length + xs.length <= sizeLine -> compM b (xs.map enc) acc = ret (acc ++ xs.filterMap f)
  | [],acc,_,_=>by simp [compM]
  | x :: xs,acc,h,hl=>by
    show bnd (b (enc x)) _ = _
    rw [h x List.mem_cons_self,bnd_ret]
    simp at hl
    cases e:f x with
    | none =>
      show compM b (xs.map enc) acc = _
      rw [compM_acc f xs acc (fun y hy=>h y (List.mem_cons_of_mem _ hy)) (by omega),List.filterMap_cons_none e]
    | some d =>
      show grd (acc.length < sizeLine) (compM b (xs.map enc) (acc ++ [d])) = _
      rw [grd_t (by omega),compM_acc f xs (acc ++ [d]) (fun y hy=>h y (List.mem_cons_of_mem _ hy)) (by simp; omega),List.filterMap_cons_some e]
      simp
theorem comp_fm {xs:List α} {enc : α -> PyData} (f : α -> Option PyData) (h:∀ x ∈ xs,b (enc x) = ret (f x)) (hl:xs.length <= sizeLine):compM b (xs.map enc) [] = ret (xs.filterMap f):=by
  have:=compM_acc f xs [] h (by simpa using hl)
  simpa using this
theorem comp_map {xs:List α} {enc : α -> PyData} (f : α -> PyData) (h:∀ x ∈ xs,b (enc x) = ret (some (f x))) (hl:xs.length <= sizeLine):compM b (xs.map enc) [] = ret (xs.map f):=by
  rw [comp_fm (fun x=>some (f x)) h hl,List.filterMap_eq_map']
theorem comp_any_acc {enc : α -> PyData} (R : α -> PyData -> Prop) {Q:List PyData -> Prop}:∀ (xs:List α) (acc:List PyData),(∀ x ∈ xs,∀ k:Option PyData -> Prop,(∀ d,R x d -> k (some d)) -> b (enc x) k) -> acc.length + xs.length <= sizeLine -> (∀ ds,Paired R xs ds -> Q (acc ++ ds)) -> compM b (xs.map enc) acc Q
  | [],acc,_,_,fin=>by have:=fin [] .nil; rw [List.append_nil] at this; exact this
  | x :: xs,acc,h,hl,fin=>by
    simp at hl
    refine h x List.mem_cons_self _ fun d r=>?_
    refine ⟨by omega,comp_any_acc R xs (acc ++ [d]) (fun y hy=>h y (List.mem_cons_of_mem _ hy)) (by simp; omega) fun ds ps=>?_⟩
    have:=fin (d :: ds) (.cons r ps)
    simpa using this
theorem comp_any {xs:List α} {enc : α -> PyData} (R : α -> PyData -> Prop) {Q:List PyData -> Prop} (h:∀ x ∈ xs,∀ k:Option PyData -> Prop,(∀ d,R x d -> k (some d)) -> b (enc x) k) (hl:xs.length <= sizeLine) (fin:∀ ds,Paired R xs ds -> Q ds):compM b (xs.map enc) [] Q :=
  comp_any_acc R xs [] h (by simpa using hl) (by simpa using fin)
theorem comp_anyR {lo:Int} {n:Nat} (P:PyData -> Prop) {Q:List PyData -> Prop} (h:∀ j,j < n -> ∀ k:Option PyData -> Prop,(∀ d,P d -> k (some d)) -> b (.int (lo + j)) k) (hl:n <= sizeLine) (fin:∀ ds:List PyData,ds.length = n -> (∀ d ∈ ds,P d) -> Q ds):compM b (rangeD lo n) [] Q:=by
  refine comp_any (xs:=List.range n) (fun _ d=>P d) (fun j hj=>h j (List.mem_range.mp hj)) (by simpa using hl) fun ds ps=>?_
  refine fin ds ?_ ?_
  · have:=Paired.length ps; simpa using this.symm
  · clear fin h hl
    intro d hd
    generalize List.range n = l at ps
    induction ps with
    | nil=>cases hd
    | cons r _ ih=>exact (List.mem_cons.mp hd).elim (fun e=>by rw [e]; exact r) ih
end
section
variable (c:Prop) [Decidable c]
theorem ite_nx (a b:En):(if c then ret (Fl.nx a) else ret (Fl.nx b)) = ret (Fl.nx (if c then a else b)):=by split <;> rfl
theorem ite_rt (a b:W):(if c then ret (Fl.rt a) else ret (Fl.rt b)) = ret (Fl.rt (if c then a else b)):=by split <;> rfl
theorem ite_retd (a b:PyData):(if c then ret (W.d a) else ret (W.d b)) = ret (W.d (if c then a else b)):=by split <;> rfl
theorem ite_retb (a b:Bool):(if c then ret a else ret b) = ret (if c then a else b):=by split <;> rfl
theorem ite_rets (a b:PyData):(if c then ret (some a) else ret (some b)) = ret (some (if c then a else b)):=by split <;> rfl
theorem ite_cons {α:Type} (x y : α) (l m:List α):(if c then x :: l else y :: m) = (if c then x else y) :: (if c then l else m):=by split <;> rfl
theorem ite_some {α:Type} (x y : α):(if c then some x else some y) = some (if c then x else y):=by split <;> rfl
theorem ite_d (a b:PyData):(if c then W.d a else W.d b) = W.d (if c then a else b):=by split <;> rfl
theorem ite_pi (a b:Int):(if c then PyData.int a else PyData.int b) = PyData.int (if c then a else b):=by split <;> rfl
theorem ite_pb (a b:Bool):(if c then PyData.bool a else PyData.bool b) = PyData.bool (if c then a else b):=by split <;> rfl
theorem itb_tt (b y:Bool):(if b = true then true else y) = (b || y):=by cases b <;> rfl
theorem itb_ff (b y:Bool):(if b = true then y else false) = (b && y):=by cases b <;> rfl
theorem itb_ft (b y:Bool):(if b = true then false else y) = (!b && y):=by cases b <;> rfl
theorem itb_tf (b y:Bool):(if b = true then y else true) = (!b || y):=by cases b <;> rfl
end
theorem len_ok {n:Nat} (h:n <= 1000):(n <= sizeLine) = True:=by have:=PySem.sizeLine_eq; exact propext ⟨fun _=>trivial,fun _=>by omega⟩
theorem tup2 (x y:PyData):(match [x,y] with | [x,y]=>some (x,y) | _=>none) = some (x,y):=rfl
theorem bnd_tt {α β:Type} (a : α) (f : α -> Mo β):bnd (fun Q=>Q a) f = f a:=nr rfl
section
variable {α β:Type}
theorem any_step {P : α -> Prop} {f : α -> Mo β} {Q : β -> Prop} (h:∀ a,P a -> f a Q):bnd (anyM P) f Q:=h
theorem grd_step {P:Prop} {m:Mo α} {Q : α -> Prop} (h:P) (h':m Q):grd P m Q:=⟨h,h'⟩
theorem ite_step {c:Prop} [Decidable c] {a b:Mo α} {Q : α -> Prop} (h:c -> a Q) (h':¬ c -> b Q):(if c then a else b) Q:=by split <;> simp_all
end
theorem rt_end {Q:PyData -> Prop} {d:PyData} (h:Q d):ret (Fl.rt (.d d)) (endQ Q):=⟨d,rfl,h⟩
theorem rt_endL {Q:PyData -> Prop} {d:List PyData} (h:Q (.list d)):ret (Fl.rt (.ml d)) (endQ Q):=⟨_,rfl,h⟩
section
variable {α:Type} {k:En -> Mo Fl} {Q:Fl -> Prop}
theorem sqb {m:Mo α} {h : α -> Mo Fl} (z:bnd m (fun a=>sq (h a) k) Q):sq (bnd m h) k Q:=z
theorem sqo {o:Option α} {h : α -> Mo Fl} (z:optM o (fun a=>sq (h a) k) Q):sq (optM o h) k Q:=by rw [sq_opt]; exact z
noncomputable def kc (k1 k2:En -> Mo Fl):En -> Mo Fl:=fun ρ=>sq (k1 ρ) k2
theorem kc_ap (k1 k2:En -> Mo Fl) (ρ:En):kc k1 k2 ρ = sq (k1 ρ) k2:=nr rfl
theorem sq_sq (m:Mo Fl) (k1 k2:En -> Mo Fl):sq (sq m k1) k2 = sq m (kc k1 k2):=by
  refine mo_ext fun Q=>?_
  show m _ ↔ m _
  have:∀ fl:Fl,(sq (match fl with | .nx ρ=>k1 ρ | .rt w=>ret (.rt w) | .bk ρ=>ret (.bk ρ) | .ct ρ=>ret (.ct ρ)) k2) Q = (match fl with | .nx ρ=>kc k1 k2 ρ | .rt w=>ret (.rt w) | .bk ρ=>ret (.bk ρ) | .ct ρ=>ret (.ct ρ):Mo Fl) Q:=by intro fl; cases fl <;> rfl
  exact Iff.of_eq (congrArg m (funext this))
theorem sqb_any {P : α -> Prop} {f : α -> Mo Fl} (z:∀ a,P a -> sq (f a) k Q):sq (bnd (anyM P) f) k Q:=z
end
end L2.VL

namespace L2.VL
open PySem PySem.Spec PyProof.Rows
theorem pk_sc (x:List Int):L2.VL.W.peek (.sc x) = .sc x:=rfl
theorem fz_sc (x:List Int):(W.sc x).fz = .sc x:=rfl
theorem arg_sc (x:List Int):argOk (.sc x) = true:=rfl
theorem isPk_sc (x:List Int):(W.sc x).isPk = false:=rfl
section
variable {X:Cx} {rl:RlT} {a b c e:Expr} {es:List Expr} {fa fb fc:TV} {fs:TVs} {pos p p2:Pos} {ρ:En}
noncomputable def gLenS:List W -> (W -> Prop) -> Prop:=fun ws Q=>∃ ns,ws = [.sc ns] /\ Q (.d (.int ns.length))
theorem vc_lenS:VCall X rl (fun xs H Q=>∃ p ys,xs = [.ref p] /\ (SqL X.K H p ys \/ SqT X.K H p ys) /\ Q (.int ys.length) H) gLenS:=fun {F H vs ws} Qd Q s ra r ⟨ns,ew,q⟩ k=>by
  subst ew
  obtain ⟨v,rfl,⟨a,rfl,sq⟩⟩:=rel1 r
  exact ⟨a,_,rfl,.inl (sameL s sq),k _ (.d _) _ _ (Grow.refl s ra) (by rw [List.length_map]; exact .int _) trivial q⟩
theorem v_lenSc (hm:X.mg "len" = none) (ha:PVs X rl [a] fs) (hg:Gl X "len" := by rfl) (he:starEach [a] X.env = (false,eval a X.env) :: starEach [] X.env:=by rfl) (hpl:(backTo pos (starEach [] X.env)).any (·.1) = false:=by rfl) :
    PV X rl (.Call (.Name "len" p) [a] [] pos) (vCall gLenS fs):=v_callB call_len_seq vc_lenS hm boot_len ha hg (by decide) (by decide) he hpl
noncomputable def asSc:W -> Option (List Int)
  | .sc ns=>some ns
  | _=>none
theorem asSc_s (ns:List Int):asSc (.sc ns) = some ns:=rfl
theorem asSc_of {w:W} {i:List Int}:asSc w = some i ↔ w = .sc i:=by
  constructor
  · intro h; unfold asSc at h; split at h <;> simp_all
  · rintro rfl; rfl
theorem m_gLenS (w:W):gLenS [w] = optM (asSc w) fun ns=>ret (.d (.int ns.length)):=by
  refine mo_ext fun Q=>?_
  simp only [gLenS,opt_iff,asSc_of,ret,List.cons.injEq,and_true]
noncomputable def gIxS:W -> W -> (W -> Prop) -> Prop:=fun x y Q=>∃ ns i n,x = .sc ns /\ y = .d (.int i) /\ atI ns i = some n /\ Q (.d (.int n))
theorem atI_map {α β:Type} (f : α -> β) (xs:List α) (i:Int):atI (xs.map f) i = (atI xs i).map f:=by
  unfold atI
  rw [List.length_map]
  cases ixN xs.length i <;> simp
theorem vo_ixS:VOp X rl (rIx X.K) gIxS:=fun {F H x y wx wy} Qd Q s ra r1 r2 q k=>by
  obtain ⟨ns,i,n,rfl,rfl,e,q⟩:=q
  obtain ⟨a,rfl,sq⟩:=r1
  have ey:=rep_int r2
  subst ey
  exact .inl ⟨a,_,i,.int n,rfl,rfl,sameL s sq,by rw [atI_map,e]; rfl,k _ (.d _) _ _ (Grow.refl s ra) (.int n) trivial q⟩
theorem v_ixSc (ha:PV X rl a fa) (hb:PV X rl b fb) (hs:PlainIx b:=by exact fun _ _=>rfl):PV X rl (.Subscript a b pos) (vOp gIxS fa fb):=vop_of vo_ixS ha hb fun _ _ p1 p2=>pe_ix ix_seq p1 p2 hs
theorem m_gIxS (x y:W):gIxS x y = optM (asSc x) fun ns=>optM (asI y) fun i=>optM (atI ns i) fun n=>ret (.d (.int n)):=by
  refine mo_ext fun Q=>?_
  simp only [gIxS,opt_iff,asSc_of,asI_of,ret]
  exact ⟨fun ⟨i,j,z,a,b,c,q⟩=>⟨i,a,j,b,z,c,q⟩,fun ⟨i,a,j,b,z,c,q⟩=>⟨i,j,z,a,b,c,q⟩⟩
theorem reps_is {K:W.Frag} {F:Hp}:∀ ns:List Int,Reps K F (ns.map V.int) (ns.map PyData.int)
  | []=>.nil
  | n :: ns=>.cons (.int n) (reps_is ns)
noncomputable def vSlS (fa:TV) (fl fh:TOv):TV:=fun ρ Q=>fa ρ fun w=>fl ρ fun l=>fh ρ fun h=>∃ ns:List Int,w = .sc ns /\ Q (.ml (cutD (ns.map .int) l h))
theorem v_slSc {lo hi:Option Expr} {fl fh:TOv} (ha:PV X rl a fa) (hl:PVO X rl lo fl) (hh:PVO X rl hi fh):PV X rl (.Subscript a (.Slice lo hi none p2) pos) (vSlS fa fl fh):=by
  obtain ⟨t,p,k⟩:=ha
  obtain ⟨tl,pl,kl⟩:=hl
  obtain ⟨th,ph,kh⟩:=hh
  refine ⟨_,pe_slice sl_list p pl ph,fun R Qd Q q h=>k R _ _ q fun v w F1 H1 g1 r1 n1 q1=>?_⟩
  refine kl (R.grow g1) _ _ q1 fun l F2 H2 g2 q2=>kh ((R.grow g1).grow g2) _ _ q2 fun u F3 H3 g3 q3=>?_
  obtain ⟨ns,rfl,q3⟩:=q3
  obtain ⟨a,rfl,sq⟩:=(r1.grow g2).grow g3
  have g:=(g1.trans g2).trans g3
  exact ⟨a,_,rfl,sameL g3.sub sq,fun p hp=>h _ (.ml _) _ _ (g.trans (Grow.laid g3.sub g3.reel hp)) (own_laid g3.sub g3.reel hp ((reps_is ns).cut l u)) (fun a ea=>by cases ea; exact g.freeB hp) q3⟩
theorem m_vSlS {fl fh:TOv}:vSlS fa fl fh ρ = bnd (fa ρ) fun w=>bnd (fl ρ) fun l=>bnd (fh ρ) fun h=>optM (asSc w) fun ns=>ret (.ml (cutD (ns.map .int) l h)):=by
  refine mo_ext fun Q=>?_
  simp only [vSlS,bnd,opt_iff,asSc_of,ret]
end
noncomputable def spR (K:W.Frag) (pre:List W -> Prop):Sp:=fun vs H Q _=>∃ F ws,Same F H /\ RelWs K RlT.no F H vs ws /\ ws.all argOk = true /\ pre ws /\ ∀ r F' H',H r = none -> Grow RlT.no F H F' H' -> RAt (RlT.at' r BM) F' H' -> Q (.ref r) H'
structure DfnR (P:Program) (w:World) (K:W.Frag) (mg:Str -> Option Value) (base:Heap) (x:Str) (ps:List Str) (k:Nat) (pre:List W -> Prop):Prop where
  ex:∃ f fd,mg x = some (.ref f) /\ W.keepIn K (.ref f) = true /\ Binds K fd ps [] /\ FnOk P w K mg base CX0 k f fd ps (spR K pre)
noncomputable def nR1:Option W -> Option W
  | some .reel=>none
  | o=>o
noncomputable def nR (ρ:En):En:=ρ.map nR1
noncomputable def W.isR:W -> Bool
  | .reel=>true
  | _=>false
noncomputable def vNewR (i:Nat) (pre:List W -> Prop) (fs:TVs) (t:TSv):TSv:=fun D ρ=>fs ρ fun ws=>ws.all argOk = true /\ pre ws /\ t ⟨fun ρ'=>D.nx (nR ρ'),fun w=>w.isR = false /\ D.rt w,fun ρ'=>D.bk (nR ρ'),fun ρ'=>D.ct (nR ρ')⟩ (ρ.set i (some .reel))
theorem grow_in {F₀ H₀ F H:Hp} {r:Addr} (g:Grow RlT.no F₀ H₀ F H) (ra:RAt (RlT.at' r BM) F H):Grow (RlT.at' r BM) F₀ H₀ F H:=⟨fun b o e _=>g.same b o e (by simp),g.fs,g.sub,g.old,ra⟩
theorem grow_out {F₀ H₀ F H:Hp} {r:Addr} {n':Nat} (g:Grow (RlT.at' r n') F₀ H₀ F H) (n:H₀ r = none):Grow RlT.no F₀ H₀ F H:=⟨fun b o e _=>g.same b o e (fun z=>by cases z; rw [n] at e; cases e),g.fs,g.sub,g.old,fun _ z=>by cases z⟩
theorem rel_in {K:W.Frag} {F H:Hp} {r:Addr} {v:V} {w:W} (h:RelW K RlT.no F H v w) (ne:∀ a,w.own = true \/ (∃ xs,w = .pk xs) -> v = .ref a -> a ≠ r):RelW K (RlT.at' r BM) F H v w:=by
  cases w with
  | d x=>exact h
  | ml xs=>obtain ⟨a,vs,e,f,_,g⟩:=h; exact ⟨a,vs,e,f,fun z=>ne a (.inl rfl) e (by cases z; rfl),g⟩
  | pk xs=>obtain ⟨a,vs,e,f,_,g⟩:=h; exact ⟨a,vs,e,f,fun z=>ne a (.inr ⟨_,rfl⟩) e (by cases z; rfl),g⟩
  | reel=>obtain ⟨_,z,_⟩:=h; cases z
  | vv u=>exact h
  | md kvs=>obtain ⟨a,vs,e,f,_,g⟩:=h; exact ⟨a,vs,e,f,fun z=>ne a (.inl rfl) e (by cases z; rfl),g⟩
  | mk kvs=>obtain ⟨a,vs,e,f,_,g⟩:=h; exact ⟨a,vs,e,f,fun z=>ne a (.inl rfl) e (by cases z; rfl),g⟩
  | nt ds=>exact h
  | lk=>trivial
  | sc ns=>exact h
  | fd _=>exact h
  | fw _=>exact h
  | ft _=>exact h
  | xc _ _=>exact h
  | dp _ _=>exact h
theorem rel_out {K:W.Frag} {F H:Hp} {r:Addr} {n':Nat} {v:V} {w:W} (h:RelW K (RlT.at' r n') F H v w) (n:w.isR = false):RelW K RlT.no F H v w:=by
  cases w with
  | d x=>exact h
  | ml xs=>obtain ⟨a,vs,e,f,_,g⟩:=h; exact ⟨a,vs,e,f,by simp,g⟩
  | pk xs=>obtain ⟨a,vs,e,f,_,g⟩:=h; exact ⟨a,vs,e,f,by simp,g⟩
  | reel=>cases n
  | vv u=>exact h
  | md kvs=>obtain ⟨a,vs,e,f,_,g⟩:=h; exact ⟨a,vs,e,f,by simp,g⟩
  | mk kvs=>obtain ⟨a,vs,e,f,_,g⟩:=h; exact ⟨a,vs,e,f,by simp,g⟩
  | nt ds=>exact h
  | lk=>trivial
  | sc ns=>exact h
  | fd _=>exact h
  | fw _=>exact h
  | ft _=>exact h
  | xc _ _=>exact h
  | dp _ _=>exact h
theorem nR_get {ρ:En} {i:Nat} {w:W} (h:(nR ρ)[i]? = some (some w)) : ρ[i]? = some (some w) /\ w.isR = false:=by
  unfold nR at h
  rw [List.getElem?_map] at h
  cases e : ρ[i]? with
  | none=>rw [e] at h; cases h
  | some o =>
    rw [e] at h
    cases o with
    | none=>cases h
    | some u=>cases u <;> first | (cases h; exact ⟨rfl,rfl⟩) | cases h
theorem VR.out {K:W.Frag} {r:Addr} {n':Nat} {F₀ H₀ F H:Hp} {σ:St} {ρ:En} (R:VR K (RlT.at' r n') F₀ H₀ F H σ ρ) (n:H₀ r = none):VR K RlT.no F₀ H₀ F H σ (nR ρ):=by
  refine ⟨grow_out R.g n,fun i w e=>?_,fun i j x y v hn e1 e2=>R.ap i j x y v hn (nR_get e1).1 (nR_get e2).1,fun i xs e=>R.np i xs (nR_get e).1,?_⟩
  · obtain ⟨e1,e2⟩:=nR_get e
    obtain ⟨v,h1,h2,h3⟩:=R.sl i w e1
    exact ⟨v,h1,rel_out h2 e2,h3⟩
  · have:=R.len; simpa [nR] using this
theorem VR.into {K:W.Frag} {r:Addr} {F₀ H₀ F H F' H':Hp} {σ:St} {ρ:En} (R:VR K RlT.no F₀ H₀ F H σ ρ) (n:H r = none) (g:Grow RlT.no F H F' H') (ra:RAt (RlT.at' r BM) F' H') (i:Nat):VR K (RlT.at' r BM) F₀ H₀ F' H' (σ.set i (some (.ref r))) (ρ.set i (some .reel)):=by
  have R1:=R.grow g
  refine ⟨grow_in R1.g ra,fun j w e=>?_,fun j k x y v hn e1 e2 o1 o2 s1 s2=>?_,fun j xs e=>?_,by simp [R.len]⟩
  · by_cases hj:i = j
    · subst hj
      have hi:i < ρ.length:=by
        rw [List.getElem?_set] at e
        by_cases hi:i < ρ.length
        · exact hi
        · simp [hi] at e
      rw [List.getElem?_set_self hi] at e
      cases e
      exact ⟨.ref r,by rw [List.getElem?_set_self (by rw [<- R.len]; exact hi)],⟨r,rfl,rfl⟩,trivial⟩
    · rw [List.getElem?_set_ne hj] at e
      obtain ⟨v,h1,h2,h3⟩:=R1.sl j w e
      refine ⟨v,by rw [List.getElem?_set_ne hj]; exact h1,rel_in h2 fun a ow ea z=>?_,h3⟩
      obtain ⟨v0,h10,h20,_⟩:=R.sl j w e
      rw [h1] at h10
      cases h10
      rcases ow with ow | ⟨xs,rfl⟩
      · obtain ⟨b,o,eb,hb⟩:=h20.live ow
        rw [ea] at eb
        cases eb
        rw [z,n] at hb
        cases hb
      · exact absurd e (R.np j xs)
  · have key:∀ (m:Nat) (z:W),(ρ.set i (some W.reel))[m]? = some (some z) -> z.own = true -> i ≠ m /\ ρ[m]? = some (some z):=fun m z e o=>by
      by_cases hm:i = m
      · subst hm
        rw [List.getElem?_set] at e
        split at e
        · split at e
          · cases e; cases o
          · cases e
        · exact absurd rfl (by assumption)
      · rw [List.getElem?_set_ne hm] at e; exact ⟨hm,e⟩
    obtain ⟨n1,d1⟩:=key j x e1 o1
    obtain ⟨n2,d2⟩:=key k y e2 o2
    rw [List.getElem?_set_ne n1] at s1
    rw [List.getElem?_set_ne n2] at s2
    exact R1.ap j k x y v hn d1 d2 o1 o2 s1 s2
  · rw [List.getElem?_set] at e
    split at e
    · split at e
      · cases e
      · cases e
    · exact R1.np j xs e
section
variable {X:Cx} {st:Stmt} {rest body:List Stmt} {t u:TSv} {a b c e:Expr} {es:List Expr} {fa fb:TV} {fs:TVs} {pos p px cpos:Pos} {ρ:En}
end
noncomputable def unR:Fl -> Mo Fl
  | .nx ρ=>ret (.nx (nR ρ))
  | .rt w=>grd (w.isR = false) (ret (.rt w))
  | .bk ρ=>ret (.bk (nR ρ))
  | .ct ρ=>ret (.ct (nR ρ))
theorem s_newR (i:Nat) (pre:List W -> Prop) (fs:TVs) (t:TSv) (ρ:En):mS (vNewR i pre fs t) ρ = bnd (fs ρ) fun ws=>grd (ws.all argOk = true) (grd (pre ws) (bnd (mS t (ρ.set i (some .reel))) unR)):=nr rfl
theorem nR_nil:nR [] = []:=rfl
theorem nR_r (l:En):nR (some .reel :: l) = none :: nR l:=rfl
theorem nR_n (l:En):nR (none :: l) = none :: nR l:=rfl
theorem nR_d (x:PyData) (l:En):nR (some (.d x) :: l) = some (.d x) :: nR l:=rfl
theorem nR_ml (x:List PyData) (l:En):nR (some (.ml x) :: l) = some (.ml x) :: nR l:=rfl
theorem nR_sc (x:List Int) (l:En):nR (some (.sc x) :: l) = some (.sc x) :: nR l:=rfl
noncomputable def spLaw2 (K:W.Frag):Sp:=fun vs H Q _=>∃ (a:Addr) (ns:List Int),vs = [.ref a] /\ SqL K H a (ns.map V.int) /\ ns.length <= 63 /\ ∀ H',Q (.bl true) H'
noncomputable def lawE:VEnds:=⟨fun _=>False,fun w=>w = .d (.bool true),fun _=>False,fun _=>False⟩
noncomputable def lawQ:Fl -> Prop
  | .rt w=>w = .d (.bool true)
  | _=>False
theorem un_law (m:Mo Fl):bnd m unR lawQ = m lawQ:=by
  show m (fun fl=>unR fl lawQ) = m lawQ
  congr 1
  funext fl
  cases fl with
  | rt w=>exact propext ⟨fun ⟨_,h⟩=>h,fun h=>⟨by rw [show w = .d (.bool true) from h]; rfl,h⟩⟩
  | _=>rfl
theorem law_end:ret (Fl.rt (.d (.bool true))) lawQ:=rfl
section
variable {P:Program} {w:World} {K:W.Frag} {mg:Str -> Option Value} {base:Heap} {st:Stmt} {N:List Str} {k:Nat} {t:TSv} {x:Str}
theorem ok_law2 {f:Addr} {fd:FuncData} (F:Fun K "law" "law" st f fd) (S:FnScope N [x] (defScope st))
    (hbody:∀ (cdv:Value) (A:Around) (outer:List Env) (s:Shared) (H:Hp) (E:XK),Room k (A.deeper (envOfC "law" (defScope st) s.heap.objs.size f cdv)) -> PSsV (cxOf CX0 P w K mg base N "law" (defScope st) f cdv A outer s H E).nox RlT.no (defBody st) t)
    (hread:∀ ns:List Int,ns.length <= 63 -> mS t (startV N [.sc ns]) lawQ):FnOk P w K mg base CX0 (k + 1) f fd [x] (spLaw2 K):=by
  refine F.ok S (fun vs H Q E h=>?_) (fun cdv A outer s H vs Q E hr h=>?_)
  · obtain ⟨a,ns,rfl,_⟩:=h
    rfl
  · obtain ⟨a,ns,rfl,hS,hl,kq⟩:=h
    obtain ⟨T,p,kk⟩:=hbody cdv A outer s H E hr
    have rw0:RelWs K RlT.no H H [.ref a] [.sc ns]:=.cons ⟨a,rfl,hS⟩ .nil
    have R:VR K RlT.no H H H H (start N [.ref a]) (startV N [.sc ns]):=vr_start (.refl H) (fun _ z=>by cases z) rw0 rfl
    refine ⟨T,p,kk R lawE _ ⟨fun _ _ _ _ _ _ z=>False.elim z,?_,fun _ _ _ _ _ _ z=>False.elim z,fun _ _ _ _ _ _ z=>False.elim z⟩ (hread ns hl)⟩
    rintro v w1 F1 H1 g1 r1 n1 z
    have z:w1 = .d (.bool true):=z
    subst z
    have e:=rep_bl r1
    subst e
    exact kq H1
end
end L2.VL

namespace L2.VL
open PySem PySem.Spec PyProof.Rows
noncomputable def vSetZ (i:Nat) (fa:TV):TSv:=fun D ρ=>fa ρ fun w=>∃ d,w.fz = .d d /\ D.nx (ρ.set i (some (.d d)))
section
variable {X:Cx} {rl:RlT} {st:Stmt} {rest body:List Stmt} {t u:TSv} {a b c e:Expr} {es:List Expr} {fa fb:TV} {fs:TVs} {f:TB} {pos p:Pos} {ρ:En}
theorem vs_setZ (i:Nat) {x:Str} {pos':Pos} (hN:X.N.Nodup) (he:PV X rl e fa) (hi:X.N[i]? = some x:=by rfl) (hx:Loc X.env.scope x:=by first | exact Or.inl rfl | exact Or.inr rfl)
    (hs:swapsWith e (some (.Name x pos')) pos.line X.env = pure false:=by rfl) (hf:X.fn x = true \/ X.env.scope.names.lookup x = some .local:=by first | exact .inl rfl | exact .inr rfl) :
    PSV X rl (.Assign [.Name x pos'] e pos) (vSetZ i fa):=by
  obtain ⟨t,p,k⟩:=he
  refine ⟨_,ps_set hN hi hx p hs hf,fun R Dv D ok q=>k R _ _ q fun v w F1 H1 g1 r1 n1 ⟨d,ed,q1⟩=>?_⟩
  obtain ⟨F2,g2,s2,r2⟩:=RelW.fz g1 r1 n1
  rw [ed] at r2
  exact ok.nx _ _ _ _ g2.fs (R.set g2 r2 trivial (fun xs z=>by cases z) i) q1
theorem s_setZ (i:Nat):mS (vSetZ i fa) ρ = bnd (fa ρ) fun w=>optM (asD w.fz) fun d=>ret (.nx (ρ.set i (some (.d d)))):=by
  show (bnd (fa ρ) fun w=>fun (Q:Fl -> Prop)=>∃ d,w.fz = .d d /\ Q (.nx (ρ.set i (some (.d d))))) = _
  congr 1; funext w
  refine mo_ext fun Q=>?_
  simp only [opt_iff,asD_of,ret]
end
section
variable {X:Cx} {rl:RlT} {elt tg iter:Expr} {ifs:List Expr} {scope:Scope} {pos:Pos} {fi:En -> (List PyData -> Prop) -> Prop} {g:TGv} {ft:TB} {fe:TV}
end
noncomputable def tupI (xs:List Int):PyData:=.tuple (xs.map .int)
noncomputable def lstI (xs:List Int):PyData:=.list (xs.map .int)
theorem map_int_inj:∀ {xs ys:List Int},xs.map PyData.int = ys.map PyData.int ↔ xs = ys:=by
  intro xs ys
  constructor
  · intro h
    have:=congrArg intsD h
    rw [intsD_map,intsD_map] at this
    exact Option.some.inj this
  · rintro rfl; rfl
theorem tupI_inj {xs ys:List Int}:tupI xs = tupI ys ↔ xs = ys:=by
  unfold tupI
  rw [PyData.tuple.injEq,map_int_inj]
theorem lstI_inj {xs ys:List Int}:lstI xs = lstI ys ↔ xs = ys:=by
  unfold lstI
  rw [PyData.list.injEq,map_int_inj]
theorem map_inj_of {α:Type} {f : α -> PyData} (h:∀ a b,f a = f b ↔ a = b):∀ {xs ys:List α},xs.map f = ys.map f ↔ xs = ys
  | [],[]=>by simp
  | [],_ :: _=>by simp
  | _ :: _,[]=>by simp
  | x :: xs,y :: ys=>by simp [h,map_inj_of h (xs:=xs) (ys:=ys)]
noncomputable def tupT (xs:List (List Int)):PyData:=.tuple (xs.map tupI)
theorem tupT_inj {xs ys:List (List Int)}:tupT xs = tupT ys ↔ xs = ys:=by
  unfold tupT
  rw [PyData.tuple.injEq,map_inj_of fun _ _=>tupI_inj]
theorem atI_at {α:Type} {xs:List α} {i:Int} (h0 : 0 <= i) (h1:i < (xs.length:Int)):atI xs i = some (xs[i.toNat]'(by omega)):=by
  obtain ⟨n,rfl⟩:=Int.eq_ofNat_of_zero_le h0
  exact atI_nat (List.getElem?_eq_getElem (by omega))
end L2.VL

namespace L2.VL
open PySem PySem.Spec PyProof.Rows
section
variable {α σ:Type} {fl:List Nat} {b:PyData -> En -> Mo Fl} {k:En -> Mo Fl} {Q:Fl -> Prop} {ρ:En}
theorem while_go {f:TB} {t:TSv} (st : σ -> En) (c : σ -> Bool) (nxt : σ -> σ) (μ : σ -> Nat) (I : σ -> Prop) (s : σ) (h0 : ρ = st s) (hs:I s)
    (hf:∀ s,I s -> f (st s) = ret (c s)) (ht:∀ s,I s -> c s = true -> I (nxt s) /\ μ (nxt s) < μ s /\ ∃ ρ',mS t (st s) = ret (.nx ρ') /\ fo fl ρ' = st (nxt s)) (fin:∀ s,I s -> c s = false -> k (st s) Q):sq (whileM fl f t ρ) k Q:=by
  subst h0
  obtain ⟨s',a,b,e⟩:=while_det st c nxt μ I hf ht s hs
  rw [e]
  exact fin s' a b
theorem fold_go {xs:List α} {enc : α -> PyData} {xs':List PyData} (st : σ -> En) (f : σ -> α -> σ) (s : σ) (I : σ -> Prop) (h0 : ρ = st s) (hx:xs' = xs.map enc) (hs:I s) (step:∀ x ∈ xs,∀ s,I s -> I (f s x) /\ ∃ ρ',b (enc x) (st s) = ret (.nx ρ') /\ fo fl ρ' = st (f s x))
    (fin:k (st (xs.foldl f s)) Q):sq (loopM fl b xs' ρ) k Q:=by
  subst h0 hx
  rw [loop_fold st f s I hs step]
  exact fin
theorem foldR_go {lo:Int} {n:Nat} (st:Nat -> En) (h0 : ρ = st 0) (step:∀ i,i < n -> ∃ ρ',b (.int (lo + i)) (st i) = ret (.nx ρ') /\ fo fl ρ' = st (i + 1)) (fin:k (st n) Q):sq (loopM fl b (rangeD lo n) ρ) k Q:=by
  subst h0
  rw [loop_foldR st step]
  exact fin
noncomputable def lpS (fl:List Nat) (J:En -> Prop) (k:En -> Mo Fl) (Q:Fl -> Prop):Fl -> Prop
  | .nx ρ=>J (fo fl ρ)
  | .ct ρ=>J (fo fl ρ)
  | .bk ρ=>k (fo fl ρ) Q
  | .rt w=>Q (.rt w)
theorem lpS_nx {J:En -> Prop} {ρ:En} (h:J (fo fl ρ)):lpS fl J k Q (.nx ρ):=h
theorem lpS_rt {J:En -> Prop} {w:W} (h:Q (.rt w)):lpS fl J k Q (.rt w):=h
theorem invR_go {lo:Int} {n:Nat} (J:Nat -> En -> Prop) (h0:J 0 ρ)
    (step:∀ i,i < n -> ∀ ρ,J i ρ -> ∀ K:Fl -> Prop,(∀ r,lpS fl (J (i + 1)) k Q r -> K r) -> b (.int (lo + i)) ρ K) (fin:∀ ρ,J n ρ -> k ρ Q):sq (loopM fl b (rangeD lo n) ρ) k Q:=by
  refine loop_byR (Q:=fun r=>(match r with | .nx ρ=>k ρ | .rt w=>ret (.rt w) | .bk ρ=>ret (.bk ρ) | .ct ρ=>ret (.ct ρ):Mo Fl) Q) J h0 (fun i hi ρ j K hK=>step i hi ρ j K fun r hr=>hK r ?_) fin
  cases r <;> exact hr
theorem eachR_go {lo:Int} {n:Nat} (step:∀ i,i < n -> ∀ K:Fl -> Prop,(∀ r,lpS fl (fun ρ'=>ρ' = ρ) k Q r -> K r) -> b (.int (lo + i)) ρ K) (fin:k ρ Q):sq (loopM fl b (rangeD lo n) ρ) k Q :=
  invR_go (fun _ ρ'=>ρ' = ρ) rfl (fun i h ρ' e K hK=>by subst e; exact step i h K hK) fun ρ' e=>by subst e; exact fin
end
theorem endS {m:Mo Fl} {Q:Fl -> Prop} (h:sq m (fun ρ=>ret (.nx ρ)) Q):m Q:=by
  have e:(fun fl:Fl=>(match fl with | .nx ρ=>ret (.nx ρ) | .rt w=>ret (.rt w) | .bk ρ=>ret (.bk ρ) | .ct ρ=>ret (.ct ρ):Mo Fl) Q) = Q:=by
    funext fl; cases fl <;> rfl
  have h:m (fun fl:Fl=>(match fl with | .nx ρ=>ret (.nx ρ) | .rt w=>ret (.rt w) | .bk ρ=>ret (.bk ρ) | .ct ρ=>ret (.ct ρ):Mo Fl) Q):=h
  rw [e] at h
  exact h
section
variable {α β:Type} {b:PyData -> Mo (Option PyData)} {k:List PyData -> Mo β} {Q : β -> Prop}
theorem cmap_go {xs:List α} {enc : α -> PyData} {xs':List PyData} (f : α -> PyData) (hx:xs' = xs.map enc) (h:∀ x ∈ xs,b (enc x) = ret (some (f x))) (hl:xs.length <= sizeLine) (fin:k (xs.map f) Q):bnd (compM b xs' []) k Q:=by
  subst hx; rw [comp_map f h hl]; exact fin
theorem cany_go {xs:List α} {enc : α -> PyData} {xs':List PyData} (R : α -> PyData -> Prop) (hx:xs' = xs.map enc) (h:∀ x ∈ xs,∀ K:Option PyData -> Prop,(∀ d,R x d -> K (some d)) -> b (enc x) K) (hl:xs.length <= sizeLine) (fin:∀ ds,Paired R xs ds -> k ds Q):bnd (compM b xs' []) k Q:=by
  subst hx; exact comp_any R h hl fin
theorem canyR_go {lo:Int} {n:Nat} (P:PyData -> Prop) (h:∀ j,j < n -> ∀ K:Option PyData -> Prop,(∀ d,P d -> K (some d)) -> b (.int (lo + j)) K) (hl:n <= sizeLine) (fin:∀ ds:List PyData,ds.length = n -> (∀ d ∈ ds,P d) -> k ds Q):bnd (compM b (rangeD lo n) []) k Q :=
  comp_anyR P h hl fin
end
section
variable {α β:Type}
theorem menu_step {xs:List PyData} {i:Int} {k:PyData -> Mo β} {Q : β -> Prop} (h0 : 0 <= i) (h1:i < (xs.length:Int)) (h:∀ z ∈ xs,k z Q):optM (atI xs i) k Q:=by
  obtain ⟨z,e,m⟩:=at_in h0 h1
  rw [e]
  exact h z m
theorem menuA_step {xs:List α} {enc : α -> PyData} {xs':List PyData} {i:Int} {k:PyData -> Mo β} {Q : β -> Prop} (P : α -> Prop) (hx:xs' = xs.map enc) (h0 : 0 <= i) (h1:i < (xs.length:Int)) (hP:∀ z ∈ xs,P z) (h:∀ z,P z -> k (enc z) Q):optM (atI xs' i) k Q:=by
  subst hx
  refine menu_step h0 (by simpa using h1) fun z mz=>?_
  obtain ⟨x,hx,rfl⟩:=List.mem_map.mp mz
  exact h x (hP x hx)
end
theorem dec_list {α:Type} {enc : α -> PyData} {P : α -> Prop}:∀ {ds:List PyData},(∀ d ∈ ds,∃ x,P x /\ d = enc x) -> ∃ xs:List α,ds = xs.map enc /\ xs.length = ds.length /\ ∀ x ∈ xs,P x
  | [],_=>⟨[],rfl,rfl,by simp⟩
  | d :: ds,h=>by
    obtain ⟨x,hx,e⟩:=h d List.mem_cons_self
    obtain ⟨xs,e1,e2,e3⟩:=dec_list (ds:=ds) fun d hd=>h d (List.mem_cons_of_mem _ hd)
    exact ⟨x :: xs,by rw [e,e1]; rfl,by simp [e2],fun y hy=>(List.mem_cons.mp hy).elim (fun z=>by rw [z]; exact hx) (e3 y)⟩
end L2.VL

namespace L2.VL
open PySem PySem.Spec PyProof.Rows
section
variable {X:Cx} {rl:RlT} {a b c o e:Expr} {es:List Expr} {fa fb:TV} {fs:TVs} {pos p apos cpos:Pos} {ρ:En}
end
end L2.VL
namespace L2
open PySem PySem.Spec PyProof.Rows
section
variable {X:Cx} {pos:Pos}
end
end L2
namespace L2.VL
open PySem PySem.Spec PyProof.Rows
section
variable {X:Cx} {rl:RlT} {es:List Expr} {pos:Pos} {ρ:En}
end
end L2.VL

namespace L2.VL
open PySem PySem.Spec PyProof.Rows
noncomputable def BMON0:=And.intro @bnd_tt (And.intro @bnd_ret (And.intro @bnd_bnd (And.intro @bnd_grd (And.intro @bnd_stk (And.intro @bnd_ite (And.intro @bnd_opt (And.intro @opt_some (And.intro @opt_none (And.intro @grd_T (And.intro @sq_nx (And.intro @sq_rt (And.intro @sq_bk (And.intro @sq_ct (And.intro @sq_grd (And.intro @sq_stk (And.intro @sq_ite (And.intro @sq_sq (@kc_ap))))))))))))))))))
noncomputable def BITE0:=And.intro @ite_nx (And.intro @ite_rt (And.intro @ite_retd (And.intro @ite_retb (And.intro @ite_rets (And.intro @ite_cons (And.intro @ite_some (And.intro @ite_d (And.intro @ite_pi (And.intro @ite_pb (And.intro @itb_tt (And.intro @itb_ff (And.intro @itb_ft (And.intro @itb_tf (@ite_self.{1}))))))))))))))
noncomputable def BEXP0:=And.intro @m_vC (And.intro @m_vVar (And.intro @m_vNil (And.intro @m_vCons (And.intro @m_vOp (And.intro @m_gI (And.intro @m_gI0 (And.intro @m_vNeg (And.intro @m_vTest (And.intro @m_gEqD (And.intro @m_vAnd (And.intro @m_vOr (And.intro @m_vNot (And.intro @m_vIf (And.intro @m_vTup (And.intro @m_vLst (And.intro @m_gIx (And.intro @m_vCall (And.intro @m_gAbs (@m_gLen)))))))))))))))))))
noncomputable def BEXP1:=And.intro @m_gRepr (And.intro @m_gTupO (And.intro @m_gIsN (And.intro @m_gI2 (And.intro @m_gDivmod (And.intro @m_gInt1 (And.intro @m_oNo (And.intro @m_oIt (And.intro @m_vSlL (And.intro @m_vSlA (And.intro @m_gCatD (And.intro @m_gCatA (And.intro @m_iL (And.intro @m_iT (And.intro @m_iR1 (@m_iR2)))))))))))))))
noncomputable def BEXP2:=And.intro @m_iZb (And.intro @m_vUse (And.intro @m_gAll (And.intro @m_gRepL (And.intro @m_vRevT (And.intro @m_gEqS (And.intro @m_comp (And.intro @m_gLenS (And.intro @m_gIxS (@m_vSlS)))))))))
noncomputable def BSTM0:=And.intro @s_next (And.intro @s_seq (And.intro @s_ret (And.intro @s_ifS (And.intro @s_set (And.intro @s_setZ (And.intro @s_never (And.intro @s_asg (And.intro @s_par (And.intro @s_aug (And.intro @s_frz (And.intro @s_mut (And.intro @s_for (And.intro @bdy_ap (And.intro @s_while (And.intro @s_newR (And.intro @m_hName (@m_hNil_n)))))))))))))))))
noncomputable def BSTM1:=And.intro @m_hCons_c (And.intro @m_hTup (@m_gApp))
noncomputable def BPRJ0:=And.intro @pk_sc (And.intro @fz_sc (And.intro @arg_sc (And.intro @isPk_sc (And.intro @asI_d (And.intro @asB_d (And.intro @asS_d (And.intro @asD_d (And.intro @asT_d (And.intro @asL_d (And.intro @asL_ml (And.intro @asL_pk (And.intro @asQ_d (And.intro @asQ_ml (And.intro @asQ_pk (And.intro @lstD_l (And.intro @tupD_t (And.intro @toI_i (And.intro @toI_b (And.intro @isiT_t (And.intro @asM_ml (And.intro @asSc_s (And.intro @two_d (@fz_d)))))))))))))))))))))))
noncomputable def BPRJ1:=And.intro @fz_ml (And.intro @fz_pk (And.intro @fz_reel (And.intro @fz_vv (And.intro @pk_d (And.intro @pk_ml (And.intro @pk_reel (And.intro @pk_vv (And.intro @dat_d (And.intro @dat_ml (And.intro @dat_pk (And.intro @isPk_d (And.intro @isPk_ml (And.intro @isPk_reel (And.intro @dats_nil (And.intro @dats_d (And.intro @arg_d (And.intro @arg_reel (And.intro @item_l (And.intro @item_t (And.intro @len_l (And.intro @len_t (And.intro @seq_l (@seq_t)))))))))))))))))))))))
noncomputable def BPRJ2:=And.intro @at0 (And.intro @at1 (And.intro @blsD_map (And.intro @tup2 (And.intro @fo_nil (And.intro @fo_cons (And.intro @nR_nil (And.intro @nR_r (And.intro @nR_n (And.intro @nR_d (And.intro @nR_ml (And.intro @nR_sc (And.intro @le_nil (And.intro @le_cn (And.intro @le_cs (And.intro @end_d (And.intro @end_ml (And.intro @end_nx (@un_law))))))))))))))))))
noncomputable def BLST0:=And.intro @List.map_cons.{0,0} (And.intro @List.map_nil.{0,0} (And.intro @List.length_cons.{0} (And.intro @List.length_nil.{0} (And.intro @List.getElem?_cons_zero.{0} (And.intro @List.getElem?_cons_succ.{0} (And.intro @List.set_cons_zero.{0} (And.intro @List.set_cons_succ.{0} (And.intro @List.set_nil.{0} (And.intro @List.cons_append.{0} (And.intro @List.nil_append.{0} (And.intro @List.all_cons.{0} (And.intro @List.all_nil.{0} (And.intro @List.head?_cons.{0} (And.intro @Bool.and_true (And.intro @Option.some.injEq.{0} (And.intro @Option.map_some.{0,0} (And.intro @Option.bind_some.{0,0} (And.intro @Option.bind_none.{0,0} (And.intro @Option.join_some.{0} (And.intro @Option.join_none.{0} (And.intro @Bool.false_eq_true (And.intro @and_self (@and_true)))))))))))))))))))))))
noncomputable def BLST1:=And.intro @true_and (And.intro @shaped_i (And.intro @eqv_ii (And.intro @shaped_b (And.intro @Bool.true_and (And.intro @Bool.and_self (And.intro @Bool.not_true (And.intro @Bool.not_false (And.intro @List.length_map.{0,0} (And.intro @Int.toNat_natCast (And.intro @Bool.true_eq_false (And.intro @decide_true (And.intro @decide_false (And.intro @List.isEmpty_cons.{0} (And.intro @List.isEmpty_nil.{0} (@List.isEmpty_map.{0,0})))))))))))))))
end L2.VL

namespace L2.VL
open PySem PySem.Spec PyProof.Rows
section
variable {X:Cx} {rl:RlT} {e:Expr} {fa:TV} {pos dpos q1 q2 q3 q4:Pos} {ρ:En} {j1 j2 j3 j4:Nat} {a b x y:Str}
end
end L2.VL

namespace L2.VL
open PySem PySem.Spec PyProof.Rows
theorem RAt.pay {a:Option Addr} {b b':Nat} {F H:Hp} (r:RAt ⟨a,b⟩ F H) (h:b' <= b):RAt ⟨a,b'⟩ F H:=fun x e=>by
  obtain ⟨z,⟨o,q,ro⟩⟩:=r x e
  exact ⟨z,⟨o,q,ro.pay h⟩⟩
theorem Grow.pay {a:Option Addr} {b b':Nat} {F H F' H':Hp} (g:Grow ⟨a,b⟩ F H F' H') (h:b' <= b):Grow ⟨a,b'⟩ F H F' H':=⟨g.same,g.fs,g.sub,g.old,g.reel.pay h⟩
theorem Grow.tr {a:Option Addr} {b b':Nat} {F H F1 H1 F2 H2:Hp} (g:Grow ⟨a,b⟩ F H F1 H1) (g':Grow ⟨a,b'⟩ F1 H1 F2 H2):Grow ⟨a,b'⟩ F H F2 H2 :=
  ⟨fun c o e n=>g'.same c o (g.same c o e n) n,g.fs.trans g'.fs,g'.sub,fun c o e=>by obtain ⟨o',e'⟩:=g.live e; rw [g'.old c o' e',g.old c o e],g'.reel⟩
theorem RelW.on {K:W.Frag} {a:Option Addr} {b b':Nat} {F H:Hp} {v:V} {w:W} (r:RelW K ⟨a,b⟩ F H v w):RelW K ⟨a,b'⟩ F H v w:=by cases w <;> exact r
theorem RelW.gr {K:W.Frag} {a:Option Addr} {b b' b2:Nat} {F H F' H':Hp} {v:V} {w:W} (g:Grow ⟨a,b'⟩ F H F' H') (r:RelW K ⟨a,b⟩ F H v w):RelW K ⟨a,b2⟩ F' H' v w:=((r.on (b':=b')).grow g).on
theorem VR.gr {K:W.Frag} {a:Option Addr} {b b':Nat} {F₀ H₀ F H F' H':Hp} {σ:St} {ρ:En} (r:VR K ⟨a,b⟩ F₀ H₀ F H σ ρ) (g:Grow ⟨a,b'⟩ F H F' H'):VR K ⟨a,b'⟩ F₀ H₀ F' H' σ ρ :=
  ⟨r.g.tr g,fun i w e=>let ⟨v,e1,e2,e3⟩:=r.sl i w e; ⟨v,e1,e2.gr g,e3⟩,r.ap,r.np,r.len⟩
theorem VR.pay {K:W.Frag} {a:Option Addr} {b b':Nat} {F₀ H₀ F H:Hp} {σ:St} {ρ:En} (r:VR K ⟨a,b⟩ F₀ H₀ F H σ ρ) (h:b' <= b):VR K ⟨a,b'⟩ F₀ H₀ F H σ ρ:=r.gr ((Grow.refl r.sub r.reel).pay h)
theorem EndsOk.pay {K:W.Frag} {a:Option Addr} {b b':Nat} {F₀ H₀ Fs:Hp} {Dv:VEnds} {D:Ends} (ok:EndsOk K ⟨a,b'⟩ F₀ H₀ Fs Dv D) (h:b' <= b):EndsOk K ⟨a,b⟩ F₀ H₀ Fs Dv D :=
  ⟨fun F H σ ρ s R=>ok.nx F H σ ρ s (R.pay h),fun v w F H g r n=>ok.rt v w F H (g.pay h) r.on n,fun F H σ ρ s R=>ok.bk F H σ ρ s (R.pay h),fun F H σ ρ s R=>ok.ct F H σ ρ s (R.pay h)⟩
noncomputable def CV (X:Cx) (al:Option Addr) (c:Nat) (e:Expr) (f:TV):Prop:=∃ t,PE X e t /\ ∀ {b:Nat} {F₀ H₀ F H:Hp} {σ:St} {ρ:En},VR X.K ⟨al,b + c⟩ F₀ H₀ F H σ ρ -> ∀ (Qd:W -> Prop) (Q:VK),f ρ Qd ->
  (∀ v w F' H',Grow ⟨al,b⟩ F H F' H' -> RelW X.K ⟨al,b⟩ F' H' v w -> NewIn H v w -> Qd w -> Q v H') -> t σ H Q
noncomputable def CB (X:Cx) (al:Option Addr) (c:Nat) (e:Expr) (f:TB):Prop:=∃ t,PT X e t /\ ∀ {b:Nat} {F₀ H₀ F H:Hp} {σ:St} {ρ:En},VR X.K ⟨al,b + c⟩ F₀ H₀ F H σ ρ -> ∀ (Qd:Bool -> Prop) (Q:Bool -> Hp -> Prop),f ρ Qd ->
  (∀ k F' H',Grow ⟨al,b⟩ F H F' H' -> Qd k -> Q k H') -> t σ H Q
noncomputable def CVs (X:Cx) (al:Option Addr) (c:Nat) (es:List Expr) (f:TVs):Prop:=∃ t,PA X es t /\ ∀ {b:Nat} {F₀ H₀ F H:Hp} {σ:St} {ρ:En},VR X.K ⟨al,b + c⟩ F₀ H₀ F H σ ρ -> ∀ (Qd:List W -> Prop) (Q:List V -> Hp -> Prop),f ρ Qd ->
  (∀ vs ws F' H',Grow ⟨al,b⟩ F H F' H' -> RelWs X.K ⟨al,b⟩ F' H' vs ws -> Qd ws -> Q vs H') -> t σ H Q
noncomputable def CS (X:Cx) (al:Option Addr) (c:Nat) (st:Stmt) (t:TSv):Prop:=∃ T,PS X st T /\ ∀ {b:Nat} {F₀ H₀ F H:Hp} {σ:St} {ρ:En},VR X.K ⟨al,b + c⟩ F₀ H₀ F H σ ρ -> ∀ Dv D,EndsOk X.K ⟨al,b⟩ F₀ H₀ F Dv D -> t Dv ρ -> T D σ H
noncomputable def CSs (X:Cx) (al:Option Addr) (c:Nat) (st:List Stmt) (t:TSv):Prop:=∃ T,PSs X st T /\ ∀ {b:Nat} {F₀ H₀ F H:Hp} {σ:St} {ρ:En},VR X.K ⟨al,b + c⟩ F₀ H₀ F H σ ρ -> ∀ Dv D,EndsOk X.K ⟨al,b⟩ F₀ H₀ F Dv D -> t Dv ρ -> T D σ H
noncomputable def CI (X:Cx) (al:Option Addr) (c:Nat) (tg iter:Expr) (fi:En -> (List PyData -> Prop) -> Prop):Prop:=∃ wi,PI X tg iter wi /\ ∀ {b:Nat} {F₀ H₀ F H:Hp} {σ:St} {ρ:En},VR X.K ⟨al,b + c⟩ F₀ H₀ F H σ ρ -> ∀ (Qd:List PyData -> Prop) (R:It -> Hp -> Prop),fi ρ Qd ->
  (∀ J xs F' H',Grow ⟨al,b⟩ F H F' H' -> (∀ b',VIt X.K ⟨al,b'⟩ F' J xs) -> Qd xs -> R J H') -> wi σ H R
section
variable {X:Cx} {al:Option Addr} {c c1 c2 c3:Nat} {st:Stmt} {rest body:List Stmt} {t u:TSv} {a b e ec:Expr} {es:List Expr} {fa fb:TV} {fs:TVs} {f g:TB} {pos p:Pos}
theorem cv (h:∀ n,PV X ⟨al,n⟩ e fa):CV X al 0 e fa :=
  ⟨fun σ H Q=>∃ n,Classical.choose (h n) σ H Q,fun pins s σ H Q I ⟨n,z⟩=>(Classical.choose_spec (h n)).1 pins s σ H Q I z,fun {b F₀ H₀ F H σ ρ} R Qd Q q k=>⟨b,(Classical.choose_spec (h b)).2 R Qd Q q k⟩⟩
theorem cb (h:∀ n,PB X ⟨al,n⟩ e f):CB X al 0 e f :=
  ⟨fun σ H Q=>∃ n,Classical.choose (h n) σ H Q,fun pins s σ H Q I ⟨n,z⟩=>(Classical.choose_spec (h n)).1 pins s σ H Q I z,fun {b F₀ H₀ F H σ ρ} R Qd Q q k=>⟨b,(Classical.choose_spec (h b)).2 R Qd Q q k⟩⟩
theorem cvs (h:∀ n,PVs X ⟨al,n⟩ es fs):CVs X al 0 es fs :=
  ⟨fun σ H Q=>∃ n,Classical.choose (h n) σ H Q,fun p pins s σ H Q I ⟨n,z⟩=>(Classical.choose_spec (h n)).1 p pins s σ H Q I z,fun {b F₀ H₀ F H σ ρ} R Qd Q q k=>⟨b,(Classical.choose_spec (h b)).2 R Qd Q q k⟩⟩
theorem cs (h:∀ n,PSV X ⟨al,n⟩ st t):CS X al 0 st t :=
  ⟨fun D σ H=>∃ n,Classical.choose (h n) D σ H,fun pins s σ H D I ⟨n,z⟩=>(Classical.choose_spec (h n)).1 pins s σ H D I z,fun {b F₀ H₀ F H σ ρ} R Dv D ok q=>⟨b,(Classical.choose_spec (h b)).2 R Dv D ok q⟩⟩
theorem VIt.on {K:W.Frag} {r r':RlT} {F:Hp} {J:It} {xs:List PyData} (h:VIt K r F J xs):VIt K r' F J xs:=⟨h.go,h.stop,h.yld⟩
theorem ci {tg iter:Expr} {fi:En -> (List PyData -> Prop) -> Prop} (h:∀ n,PIV X ⟨al,n⟩ tg iter fi):CI X al 0 tg iter fi :=
  ⟨fun σ H Q=>∃ n,Classical.choose (h n) σ H Q,fun pins s σ H Q I ⟨n,z⟩=>(Classical.choose_spec (h n)).1 pins s σ H Q I z,fun {b F₀ H₀ F H σ ρ} R Qd Q q k=>⟨b,(Classical.choose_spec (h b)).2 R Qd Q q fun J xs F' H' g v=>k J xs F' H' g fun _=>v.on⟩⟩
theorem cvs_nil:CVs X al 0 [] vNil:=cvs fun _=>pvs_nil
theorem cvs_cons (h1:CV X al c1 e fa) (h2:CVs X al c2 es fs) (hs:starEach (e :: es) X.env = (false,eval e X.env) :: starEach es X.env:=by rfl):CVs X al (c1 + c2) (e :: es) (vCons fa fs):=by
  obtain ⟨t,p1,k1⟩:=h1
  obtain ⟨ts,p2,k2⟩:=h2
  refine ⟨_,pa_cons p1 p2 hs,fun {n _ _ _ _ _ _} R Qd Q q k=>?_⟩
  refine k1 (b:=n + c2) (R.pay (by omega)) _ _ q fun v w F1 H1 g1 r1 n1 q1=>?_
  obtain ⟨F2,g2,s2,r2⟩:=RelW.fz g1 r1 n1
  refine k2 (b:=n) (R.gr g2) _ _ q1 fun vs ws F3 H3 g3 r3 q3=>?_
  exact k (v :: vs) (w.fz :: ws) F3 H3 (g2.tr g3) (.cons (r2.gr g3) r3) q3
theorem cop_of {r:R2} {g:W -> W -> (W -> Prop) -> Prop} (vo:∀ n,VOp X ⟨al,n⟩ r g) (ha:CV X al c1 a fa) (hb:CV X al c2 b fb) {e:Expr} (hp:∀ ta tb,PE X a ta -> PE X b tb -> PE X e (tOp r ta tb)):CV X al (c1 + c2) e (vOp g fa fb):=by
  obtain ⟨ta,p1,k1⟩:=ha
  obtain ⟨tb,p2,k2⟩:=hb
  refine ⟨_,hp ta tb p1 p2,fun {n _ _ _ _ _ _} R Qd Q q k=>?_⟩
  refine k1 (b:=n + c2) (R.pay (by omega)) _ _ q fun v w F1 H1 g1 r1 n1 q1=>?_
  refine k2 (b:=n) (R.gr g1) _ _ q1 fun v2 w2 F2 H2 g2 r2 n2 q2=>?_
  exact vo n Qd Q g2.sub g2.reel (r1.gr g2) r2 q2 fun v3 w3 F3 H3 g3 r3 n3 q3=>k v3 w3 F3 H3 ((g1.tr g2).tr g3) r3 ((n3.back g2).back g1) q3
theorem c_bin {op:Operator} {r:R2} {g:W -> W -> (W -> Prop) -> Prop} (ho:OpR X (binaryOp op) r) (vo:∀ n,VOp X ⟨al,n⟩ r g) (ha:CV X al c1 a fa) (hb:CV X al c2 b fb):CV X al (c1 + c2) (.BinOp a op b pos) (vOp g fa fb) :=
  cop_of vo ha hb fun _ _ p1 p2=>pe_op ho p1 p2
theorem c_add (ha:CV X al c1 a fa) (hb:CV X al c2 b fb):CV X al (c1 + c2) (.BinOp a .Add b pos) (vOp (gI0 fun i j=>.int (i + j)) fa fb):=c_bin op_add (fun _=>vop_int0 fun _ _ _ _=>.int _) ha hb
theorem c_mul (ha:CV X al c1 a fa) (hb:CV X al c2 b fb):CV X al (c1 + c2) (.BinOp a .Mult b pos) (vOp (gI CMulB fun i j=>.int (i * j)) fa fb):=c_bin op_mulB (fun _=>vop_int fun _ _ _ _=>.int _) ha hb
theorem c_catA (ha:CV X al c1 a fa) (hb:CV X al c2 b fb):CV X al (c1 + c2) (.BinOp a .Add b pos) (vOp gCatA fa fb):=c_bin op_catA (fun _=>vo_catA) ha hb
theorem c_ix (ha:CV X al c1 a fa) (hb:CV X al c2 b fb) (hs:PlainIx b:=by exact fun _ _=>rfl):CV X al (c1 + c2) (.Subscript a b pos) (vOp gIx fa fb):=cop_of (fun _=>vo_ix) ha hb fun _ _ p1 p2=>pe_ix ix_seq p1 p2 hs
theorem cb_cmp {op:CmpOp} {r:R2} {g:W -> W -> (W -> Prop) -> Prop} (ho:OpR X (compareOp op) r) (vo:∀ n,VOp X ⟨al,n⟩ r g) (hm:behindInMarks op b = false) (ha:CV X al c1 a fa) (hb:CV X al c2 b fb):CB X al (c1 + c2) (.Compare a [op] [b] pos) (vTest (vOp g fa fb)):=by
  obtain ⟨ta,p1,k1⟩:=ha
  obtain ⟨tb,p2,k2⟩:=hb
  refine ⟨_,pt_cmpR ho p1 p2 hm,fun {n _ _ _ _ _ _} R Qd Q q k=>?_⟩
  refine k1 (b:=n + c2) (R.pay (by omega)) _ _ q fun v w F1 H1 g1 r1 n1 q1=>?_
  refine k2 (b:=n) (R.gr g1) _ _ q1 fun v2 w2 F2 H2 g2 r2 n2 q2=>?_
  refine vo n _ _ g2.sub g2.reel (r1.gr g2) r2 q2 fun v3 w3 F3 H3 g3 r3 n3 ⟨kb,ew,q3⟩=>?_
  subst ew
  exact ⟨kb,rep_bl r3,k kb F3 H3 ((g1.tr g2).tr g3) q3⟩
theorem c_ifExp {c:Expr} (hc:CB X al c1 c f) (ha:CV X al c2 a fa) (hb:CV X al c3 b fb):CV X al (c1 + (c2 + c3)) (.IfExp c a b pos) (vIf f fa fb):=by
  obtain ⟨t,p,k⟩:=hc
  obtain ⟨t1,p1,k1⟩:=ha
  obtain ⟨t2,p2,k2⟩:=hb
  refine ⟨_,pe_ifExp p p1 p2,fun {n _ _ _ _ _ _} R Qd Q q h=>k (b:=n + (c2 + c3)) (R.pay (by omega)) _ _ q fun c F1 H1 g1 q1=>?_⟩
  cases c with
  | true=>exact k1 (b:=n) ((R.gr g1).pay (by omega)) _ _ q1 fun v w F2 H2 g2 r2 n2 q2=>h v w F2 H2 (g1.tr g2) r2 (n2.back g1) q2
  | false=>exact k2 (b:=n) ((R.gr g1).pay (by omega)) _ _ q1 fun v w F2 H2 g2 r2 n2 q2=>h v w F2 H2 (g1.tr g2) r2 (n2.back g1) q2
theorem c_tup {x1} (h:CVs X al c es fs):CV X al c (.Tuple es x1 pos) (vTup fs):=by
  obtain ⟨t,p,k⟩:=h
  refine ⟨_,pe_tup p,fun R Qd Q q h=>k R _ _ q fun vs ws F1 H1 g1 r1 ⟨ds,e1,z,q1⟩=>?_⟩
  have rs:=dats_rel r1 e1
  refine ⟨by rw [rs.length]; exact z,fun p hp=>?_⟩
  have g2:=g1.tr (Grow.data (a:=p) (o:=.tup vs) g1.sub g1.reel hp)
  exact h _ (.d (.tuple ds)) _ _ g2 (.tup (.inl (.inl upd_same)) (rs.mono (Grow.data (o:=.tup vs) g1.sub g1.reel hp).fs)) trivial q1
theorem c_lst (h:CVs X al c es fs):CV X al c (.List es pos) (vLst fs):=by
  obtain ⟨t,p,k⟩:=h
  refine ⟨_,pe_lst p,fun R Qd Q q h=>k R _ _ q fun vs ws F1 H1 g1 r1 ⟨ds,e1,z,q1⟩=>?_⟩
  have rs:=dats_rel r1 e1
  refine ⟨by rw [rs.length]; exact z,fun p hp=>?_⟩
  exact h _ (.ml ds) _ _ (g1.tr (Grow.laid (a:=p) (o:=.lst vs) g1.sub g1.reel hp)) (own_laid g1.sub g1.reel hp rs) (fun a ea=>by cases ea; exact g1.freeB hp) q1
theorem ccall_of {r:List V -> Hp -> VK -> Prop} {g:List W -> (W -> Prop) -> Prop} (vc:∀ n,VCall X ⟨al,n⟩ r g) (ha:CVs X al c es fs) {e:Expr} (hp:∀ ta,PA X es ta -> PE X e (tCB r ta)):CV X al c e (vCall g fs):=by
  obtain ⟨ta,p1,k1⟩:=ha
  refine ⟨_,hp ta p1,fun {n _ _ _ _ _ _} R Qd Q q k=>k1 R _ _ q fun vs ws F1 H1 g1 r1 q1=>?_⟩
  exact vc n Qd Q g1.sub g1.reel r1 q1 fun v w F2 H2 g2 r2 n2 q2=>k v w F2 H2 (g1.tr g2) r2 (n2.back g1) q2
theorem c_callTy {T:String} {x:Str} {r:List V -> Hp -> VK -> Prop} {g:List W -> (W -> Prop) -> Prop} (hc:CallR X (.type T) r) (vc:∀ n,VCall X ⟨al,n⟩ r g) (hm:X.mg x = none) (hv:bootBuiltins x = some (.type T)) (ha:CVs X al c (e :: es) fs) (hg:Gl X x:=by rfl) (hn:x ≠ "__name__" := by decide) (hdb:(x == ("__debug__" : Str)) = false:=by decide)
    (he:starEach (e :: es) X.env = (false,eval e X.env) :: starEach es X.env:=by rfl) (hpl:(backTo pos (starEach es X.env)).any (·.1) = false:=by rfl):CV X al c (.Call (.Name x p) (e :: es) [] pos) (vCall g fs) :=
  ccall_of vc ha fun _ p1=>pe_callTy hc hg hm hv p1 hn hdb he hpl
theorem c_tuple (hm:X.mg "tuple" = none) (ha:CVs X al c [a] fs) (hg:Gl X "tuple" := by rfl) (he:starEach [a] X.env = (false,eval a X.env) :: starEach [] X.env:=by rfl) (hpl:(backTo pos (starEach [] X.env)).any (·.1) = false:=by rfl) :
    CV X al c (.Call (.Name "tuple" p) [a] [] pos) (vCall gTupO fs):=c_callTy call_tuple_of (fun _=>vc_tup) hm (by rfl) ha hg (by decide) (by decide) he hpl
theorem cs_one (h:CS X al c st t):CSs X al c [st] t:=by
  obtain ⟨T,p,k⟩:=h
  exact ⟨T,pss_one p,k⟩
theorem cs_cons (h:CS X al c1 st t) (h2:CSs X al c2 rest u):CSs X al (c1 + c2) (st :: rest) (vSeq t u):=by
  obtain ⟨T,p,k⟩:=h
  obtain ⟨T2,p2,k2⟩:=h2
  refine ⟨_,pss_cons p p2,fun {n _ _ _ _ _ _} R Dv D ok q=>k (b:=n + c2) (R.pay (by omega)) { Dv with nx:=u Dv } { D with nx:=T2 D } ?_ q⟩
  have o2:=ok.pay (b:=n + c2) (by omega)
  exact ⟨fun F H σ ρ s' R' q'=>k2 (b:=n) R' Dv D (ok.on s') q',o2.rt,o2.bk,o2.ct⟩
theorem cs_ret (h:CV X al c e fa):CS X al c (.Return (some e) pos) (vRet fa):=by
  obtain ⟨t,p,k⟩:=h
  exact ⟨_,ps_ret p,fun R Dv D ok q=>k R _ _ q fun v w F1 H1 g1 r1 n1 q1=>ok.rt v w F1 H1 (R.g.tr g1) r1 (n1.back R.g) q1⟩
theorem VR.setC {K:W.Frag} {n n':Nat} {F₀ H₀ F H:Hp} {σ:St} {ρ:En} (r:VR K ⟨al,n⟩ F₀ H₀ F H σ ρ) {H1 F1:Hp} (g:Grow ⟨al,n'⟩ F H F1 H1) (hn:n' <= n) {v:V} {w:W} (rw':RelW K ⟨al,n'⟩ F1 H1 v w) (hw:NewIn H v w) (hp:∀ xs,w ≠ .pk xs) (i:Nat):VR K ⟨al,n'⟩ F₀ H₀ F1 H1 (σ.set i (some v)) (ρ.set i (some w)) :=
  (r.pay hn).set g rw' hw hp i
theorem cs_setZ (i:Nat) {x:Str} {pos':Pos} (hN:X.N.Nodup) (he:CV X al c e fa) (hi:X.N[i]? = some x:=by rfl) (hx:Loc X.env.scope x:=by first | exact Or.inl rfl | exact Or.inr rfl)
    (hs:swapsWith e (some (.Name x pos')) pos.line X.env = pure false:=by rfl) (hf:X.fn x = true \/ X.env.scope.names.lookup x = some .local:=by first | exact .inl rfl | exact .inr rfl) :
    CS X al c (.Assign [.Name x pos'] e pos) (vSetZ i fa):=by
  obtain ⟨t,p,k⟩:=he
  refine ⟨_,ps_set hN hi hx p hs hf,fun R Dv D ok q=>k R _ _ q fun v w F1 H1 g1 r1 n1 ⟨d,ed,q1⟩=>?_⟩
  obtain ⟨F2,g2,s2,r2⟩:=RelW.fz g1 r1 n1
  rw [ed] at r2
  exact ok.nx _ _ _ _ g2.fs (R.setC g2 (by omega) r2 trivial (fun xs z=>by cases z) i) q1
theorem cs_asg {tg:Expr} {g:TGv} (he:CV X al c e fa) (hg:∀ n,PGV X ⟨al,n⟩ tg g) (hs:swapsWithSole [tg] e pos.line X.env = pure false:=by rfl) (hw:swappedStores [tg] e X.env = pure none:=by rfl)
    (h1:(assignEach [tg] X.env).map (·.2) = [assign tg X.env]:=by rfl):CS X al c (.Assign [tg] e pos) (vAsg fa g):=by
  obtain ⟨t,p,k⟩:=he
  refine ⟨_,ps_asg p (g:=fun v σ H Q=>∃ n,Classical.choose (hg n) v σ H Q) (fun pins s σ H v u Q I rv ⟨n,z⟩=>(Classical.choose_spec (hg n)).1 pins s σ H v u Q I rv z) hs hw h1,fun {n _ _ _ _ _ _} R Dv D ok q=>k R _ _ q fun v w F1 H1 g1 r1 n1 ⟨x,ew,q1⟩=>?_⟩
  subst ew
  exact ⟨n,(Classical.choose_spec (hg n)).2 (R.gr g1) v x _ _ r1 q1 fun F2 H2 σ2 ρ2 s2 n2 R2 q2=>ok.nx _ _ _ _ (g1.fs.trans s2.fs) R2 q2⟩
theorem cs_mut (i:Nat) {x:Str} {nm:Str} {id:String} {r:V -> List V -> Hp -> VK -> Prop} {g:List PyData -> List W -> (List PyData -> Prop) -> Prop} {px apos cpos:Pos} (slot:Slot "list" nm id) (hty:typeOf (.builtin id) = pure (.type "method_descriptor")) (hm:MtR X id r) (vm:∀ n,VMut X.K ⟨al,n⟩ r g) (ha:CVs X al c (e :: es) fs)
    (hN:X.N[i]? = some x:=by rfl) (hv:Vis X.env.scope x:=by first | exact Or.inl rfl | exact Or.inr (Or.inl rfl) | exact Or.inr (Or.inr rfl))
    (hd:(x == ("__debug__" : Str)) = false:=by decide) (hcd:(x == ("__classdict__" : Str)) = false:=by decide)
    (hbase:attributeBase (.Name x px) nm X.env (eval (.Name x px) X.env) = eval (.Name x px) X.env:=by rfl)
    (hfew:((backTo cpos (starEach (e :: es) X.env)).all (fun x=>!x.1) && (backToKw cpos (keywordEach [] X.env)).all (fun x=>x.1.isSome)
      && decide ((e :: es).length + ([]:List Keyword).length + (if ([]:List Keyword).isEmpty then 0 else 1) < 30)) = true:=by rfl)
    (hline:(apos.endLine == cpos.line) = true:=by rfl) (hs:starEach (e :: es) X.env = (false,eval e X.env) :: starEach es X.env:=by rfl) (hplain:(backTo cpos (starEach es X.env)).any (·.1) = false:=by rfl)
    (hsw:swapsWith (.Call (.Attribute (.Name x px) nm apos) (e :: es) [] cpos) none pos.line X.env = pure false:=by rfl) :
    CS X al c (.Expr (.Call (.Attribute (.Name x px) nm apos) (e :: es) [] cpos) pos) (vMut i g fs):=by
  obtain ⟨t,p1,k⟩:=ha
  refine ⟨_,ps_expr (pe_bm PySem.F.plainAttrs_list slot hty hm (pe_var hN hv hd hcd) p1 hbase hfew hline hs hplain) hsw,fun {n F₀ H₀ F H σ ρ} R Dv D ok ⟨xs,e1,q⟩=>?_⟩
  obtain ⟨v,h1,h2,h3⟩:=R.sl i _ e1
  obtain ⟨a,vs,rfl,f,hr,hh,rs⟩:=(show OwnL X.K ⟨al,n + c⟩ F H v xs from h2)
  refine ⟨.ref a,h1,.inl ⟨rfl,vs,.inl (.inl hh)⟩,k R _ _ q fun args ws F1 H1 g1 r1 q1=>?_⟩
  refine vm n _ _ g1.sub (g1.same a _ hh hr) (rs.mono g1.fs) r1 q1 fun us ys r2 q2=>?_
  exact ok.nx _ _ _ _ g1.fs ((R.gr g1).own e1 h1 r2) q2
theorem cs_app (i:Nat) {x:Str} {px apos cpos:Pos} (ha:CVs X al c [e] fs) (hN:X.N[i]? = some x:=by rfl) (hv:Vis X.env.scope x:=by first | exact Or.inl rfl | exact Or.inr (Or.inl rfl) | exact Or.inr (Or.inr rfl))
    (hd:(x == ("__debug__" : Str)) = false:=by decide) (hcd:(x == ("__classdict__" : Str)) = false:=by decide)
    (hbase:attributeBase (.Name x px) "append" X.env (eval (.Name x px) X.env) = eval (.Name x px) X.env:=by rfl)
    (hfew:((backTo cpos (starEach [e] X.env)).all (fun x=>!x.1) && (backToKw cpos (keywordEach [] X.env)).all (fun x=>x.1.isSome)
      && decide (([e]).length + ([]:List Keyword).length + (if ([]:List Keyword).isEmpty then 0 else 1) < 30)) = true:=by rfl)
    (hline:(apos.endLine == cpos.line) = true:=by rfl) (hs:starEach [e] X.env = (false,eval e X.env) :: starEach [] X.env:=by rfl) (hplain:(backTo cpos (starEach [] X.env)).any (·.1) = false:=by rfl)
    (hsw:swapsWith (.Call (.Attribute (.Name x px) "append" apos) [e] [] cpos) none pos.line X.env = pure false:=by rfl) :
    CS X al c (.Expr (.Call (.Attribute (.Name x px) "append" apos) [e] [] cpos) pos) (vMut i gApp fs) :=
  cs_mut i PySem.F.slot_list_append PySem.F.type_list_append mt_append (fun _=>vm_app) ha hN hv hd hcd hbase hfew hline hs hplain hsw
end
end L2.VL

namespace L2.VL
open PySem PySem.Spec PyProof.Rows
theorem turn_left {n i c:Nat} (h:i < n):(n - i) * c = (n - (i + 1)) * c + c:=by
  have:n - i = (n - (i + 1)) + 1:=by omega
  rw [this,Nat.succ_mul]
noncomputable def vForC (n:Nat) (fl:List Nat) (fi:En -> (List PyData -> Prop) -> Prop) (g:TGv) (t:TSv):TSv:=fun D ρ=>fi ρ fun xs=>xs.length <= n /\ vLoopF fl g t xs D (fo fl ρ)
section
variable {X:Cx} {al:Option Addr} {c c1 c2 c3:Nat} {st:Stmt} {rest body:List Stmt} {t u:TSv} {a b e ec:Expr} {es:List Expr} {fa fb:TV} {fs:TVs} {f:TB} {pos p:Pos}
theorem cs_for (n:Nat) (fl:List Nat) {tg iter:Expr} {fi:En -> (List PyData -> Prop) -> Prop} {g:TGv} (hp:PassesOwn (model X.prog X.w) X.A X.env X.xe) (hc:X.calm = true) (hi:CI X al c1 tg iter fi) (hg:∀ m,PGV X ⟨al,m⟩ tg g) (hb:CSs X al c2 body t)
    (hs:∀ x,foldedSetIterable iter X.env x = pure x:=by intro _; rfl):CS X al (c1 + n * c2) (.For tg iter body [] pos) (vForC n fl fi g t):=by
  obtain ⟨wi,p0,k0⟩:=hi
  obtain ⟨T,p2,k2⟩:=hb
  have p1:PG X tg (fun v σ H Q=>∃ m,Classical.choose (hg m) v σ H Q):=fun pins s σ H v u Q I rv ⟨m,z⟩=>(Classical.choose_spec (hg m)).1 pins s σ H v u Q I rv z
  refine ⟨_,ps_for hp hc p0 p1 p2 hs,fun {b F₀ H₀ F H σ ρ} R Dv D ok q=>k0 (b:=b + n * c2) (R.pay (by omega)) _ _ q fun J xs F1 H1 g1 vi ⟨hn,q1⟩=>?_⟩
  refine ⟨fun i m σ H=>m = xs.length - i /\ i <= xs.length /\ ∃ F ρ,Same F1 F /\ VR X.K ⟨al,b + (n - i) * c2⟩ F₀ H₀ F H σ ρ /\ vLoopF fl g t (xs.drop i) Dv ρ,⟨xs.length,by simp,Nat.zero_le _,F1,fo fl ρ,.refl _,(R.gr g1).le (le_fo fl ρ),by simpa using q1⟩,?_⟩
  rintro i m σ H ⟨rfl,hi,F2,ρ2,s2,R2,j2⟩
  have sH:Same F1 H:=s2.trans R2.sub
  by_cases hlt:i < xs.length
  · have ei:xs[i]? = some xs[i]:=by simp [hlt]
    rw [List.drop_eq_getElem_cons hlt] at j2
    have el:=turn_left (n:=n) (i:=i) (c:=c2) (by omega)
    refine .inr ⟨(vi 0).go i H _ ei sH,fun σ' H'=>∃ F ρ,Same F1 F /\ VR X.K ⟨al,b + (n - (i + 1)) * c2⟩ F₀ H₀ F H' σ' ρ /\ vLoopF fl g t (xs.drop (i + 1)) Dv ρ,fun σ' H' z=>⟨xs.length - (i + 1),by omega,rfl,hlt,z⟩,fun v H' y=>?_⟩
    obtain ⟨Fy,gy,rv⟩:=(vi 0).yld i H v H' _ F2 ei s2 R2.sub R2.reel y
    refine ⟨_,(Classical.choose_spec (hg (b + (n - i) * c2))).2 (R2.gr gy) v _ _ _ rv j2 fun F3 H3 σ3 ρ3 s3 n3 R3 q3=>?_⟩
    have s13:Same F1 F3:=s2.trans (gy.fs.trans s3.fs)
    have o2:=ok.pay (b:=b + (n - (i + 1)) * c2) (by omega)
    exact k2 (b:=b + (n - (i + 1)) * c2) (R3.pay (by omega)) { Dv with nx:=fun ρ'=>vLoopF fl g t (xs.drop (i + 1)) Dv (fo fl ρ'),ct:=fun ρ'=>vLoopF fl g t (xs.drop (i + 1)) Dv (fo fl ρ'),bk:=fun ρ'=>Dv.nx (fo fl ρ') } _
      ⟨fun F4 H4 σ4 ρ4 s4 R4 q4=>⟨F4,fo fl ρ4,s13.trans s4,R4.le (le_fo fl ρ4),q4⟩,o2.rt,fun F4 H4 σ4 ρ4 s4 R4 q4=>o2.nx _ _ _ _ (g1.fs.trans (s13.trans s4)) (R4.le (le_fo fl ρ4)) q4,fun F4 H4 σ4 ρ4 s4 R4 q4=>⟨F4,fo fl ρ4,s13.trans s4,R4.le (le_fo fl ρ4),q4⟩⟩ q3
  · have e:i = xs.length:=by omega
    subst e
    rw [List.drop_length] at j2
    exact .inl ⟨(vi 0).stop _ H (Nat.le_refl _) sH,ok.nx _ _ _ _ (g1.fs.trans s2) (R2.pay (by omega)) j2⟩
theorem ci_range1 {tg:Expr} (hm:X.mg "range" = none) (ha:CVs X al c [a] fs) (hg:Gl X "range" := by rfl) (hs:starEach [a] X.env = [(false,eval a X.env)]:=by rfl):CI X al c tg (.Call (.Name "range" p) [a] [] pos) (iR1 fs):=by
  obtain ⟨t,p1,k⟩:=ha
  refine ⟨_,pi_range1 hg hm p1 hs,fun R Qd Q q h=>k R _ _ q fun vs ws F1 H1 g1 r1 ⟨j,ew,b,q1⟩=>?_⟩
  subst ew
  obtain ⟨v,rfl,rv⟩:=rel1 r1
  have e:=rep_int rv
  subst e
  exact ⟨j,rfl,b.1,b.2,h _ _ F1 H1 g1 (fun _=>vit_range 0 _) q1⟩
theorem cs_frz (i:Nat) (h:CS X al c st t):CS X al c st (vFrz i t):=by
  obtain ⟨T,p,k⟩:=h
  refine ⟨T,p,fun R Dv D ok ⟨xs,e,q⟩=>?_⟩
  obtain ⟨F1,s1,R1⟩:=frz_same R e
  exact k R1 Dv D (ok.on s1) q
theorem c_callN {x:Str} {ps:List Str} {k:Nat} {Pd:List W -> (PyData -> Prop) -> Prop} (D:∀ n,Dfn X.prog X.w X.K X.mg X.base ⟨al,n⟩ x ps k Pd) (hr:Room k X.A) (ha:CVs X al c (e :: es) fs) (hg:Gl X x:=by rfl)
    (hdb:(x == ("__debug__" : Str)) = false:=by decide) (he:starEach (e :: es) X.env = (false,eval e X.env) :: starEach es X.env:=by rfl) (hpl:(backTo pos (starEach es X.env)).any (·.1) = false:=by rfl) :
    CV X al c (.Call (.Name x p) (e :: es) [] pos) (vUse Pd fs):=by
  obtain ⟨t,p1,kk⟩:=ha
  have P:∀ n,∃ tn:TE,PE X (.Call (.Name x p) (e :: es) [] pos) tn /\ ∀ σ H Q,(t σ H fun vs H1=>vsp X.K ⟨al,n⟩ Pd vs H1 Q fun _ _ _=>False) -> tn σ H Q:=fun n=>by
    obtain ⟨f,fd,hm,hk,hb,F⟩:=(D n).ex
    exact ⟨_,pe_call F hr hg hm hk hb .nil pass0 p1 hdb he hpl,fun σ H Q z=>by simpa [tCall,List.append_nil] using z⟩
  refine ⟨fun σ H Q=>∃ n,Classical.choose (P n) σ H Q,fun pins s σ H Q I ⟨n,z⟩=>(Classical.choose_spec (P n)).1 pins s σ H Q I z,fun {n _ _ _ _ _ _} R Qd Q q h=>⟨n,(Classical.choose_spec (P n)).2 _ _ _ (kk (b:=n) R _ _ q fun vs ws F1 H1 g1 r1 ⟨ok,q1⟩=>?_)⟩⟩
  refine ⟨F1,ws,g1.sub,g1.reel,r1,ok,?_⟩
  exact (D n).mono ws _ _ (fun d qd v F2 H2 g2 r2=>h v (.d d) F2 H2 (g1.tr g2) r2 trivial qd) q1
noncomputable def cspC (K:W.Frag) (al:Option Addr) (c:Nat) (P:List W -> (PyData -> Prop) -> Prop):Sp:=fun vs H Q _=>∃ b F ws,Same F H /\ RAt ⟨al,b + c⟩ F H /\ RelWs K ⟨al,b + c⟩ F H vs ws /\ ws.all argOk = true /\ P ws fun d=>∀ v F' H',Grow ⟨al,b⟩ F H F' H' -> Rep K F' v d -> Q v H'
structure DfnC (P:Program) (w:World) (K:W.Frag) (mg:Str -> Option Value) (base:Heap) (al:Option Addr) (c:Nat) (x:Str) (ps:List Str) (k:Nat) (Pd:List W -> (PyData -> Prop) -> Prop):Prop where
  mono:∀ ws Q Q',(∀ d,Q d -> Q' d) -> Pd ws Q -> Pd ws Q'
  ex:∃ f fd,mg x = some (.ref f) /\ W.keepIn K (.ref f) = true /\ Binds K fd ps [] /\ FnOk P w K mg base CX0 k f fd ps (cspC K al c Pd)
theorem c_call {x:Str} {ps:List Str} {k:Nat} {Pd:List W -> (PyData -> Prop) -> Prop} (D:DfnC X.prog X.w X.K X.mg X.base al c2 x ps k Pd) (hr:Room k X.A) (ha:CVs X al c1 (e :: es) fs) (hg:Gl X x:=by rfl)
    (hdb:(x == ("__debug__" : Str)) = false:=by decide) (he:starEach (e :: es) X.env = (false,eval e X.env) :: starEach es X.env:=by rfl) (hpl:(backTo pos (starEach es X.env)).any (·.1) = false:=by rfl) :
    CV X al (c1 + c2) (.Call (.Name x p) (e :: es) [] pos) (vUse Pd fs):=by
  obtain ⟨f,fd,hm,hk,hb,F⟩:=D.ex
  obtain ⟨t,p1,kk⟩:=ha
  refine ⟨_,pe_call F hr hg hm hk hb .nil pass0 p1 hdb he hpl,fun {n _ _ _ _ _ _} R Qd Q q h=>kk (b:=n + c2) (R.pay (by omega)) _ _ q fun vs ws F1 H1 g1 r1 ⟨ok,q1⟩=>?_⟩
  refine ⟨n,F1,ws,g1.sub,g1.reel,by rw [List.append_nil]; exact r1,ok,?_⟩
  exact D.mono ws _ _ (fun d qd v F2 H2 g2 r2=>h v (.d d) F2 H2 (g1.tr g2) r2 trivial qd) q1
end
section
variable {P:Program} {w:World} {K:W.Frag} {mg:Str -> Option Value} {base:Heap} {al:Option Addr} {c c0:Nat} {x:Str} {st:Stmt} {N ps:List Str} {k:Nat} {Pd:List W -> (PyData -> Prop) -> Prop} {t:TSv}
theorem DfnC.of (Fn:FnIn K mg x st ps) (S:FnScope N ps (defScope st)) (mono:∀ ws Q Q',(∀ d,Q d -> Q' d) -> Pd ws Q -> Pd ws Q') (len:∀ ws Q,Pd ws Q -> ws.length = ps.length)
    (hbody:∀ {f:Addr} (cdv:Value) (A:Around) (outer:List Env) (s:Shared) (H:Hp) (E:XK),Room k (A.deeper (envOfC x (defScope st) s.heap.objs.size f cdv)) ->
      CSs (cxOf CX0 P w K mg base N x (defScope st) f cdv A outer s H E).nox al c0 (defBody st) t)
    (hle:c0 <= c) (hread:∀ ws Q,Pd ws Q -> t (vEnds Q) (startV N ws)):DfnC P w K mg base al c x ps (k + 1) Pd:=by
  obtain ⟨f,fd,hm,F,hb⟩:=Fn.ex
  refine ⟨mono,f,fd,hm,F.kp,hb,?_⟩
  refine F.ok S (fun vs H Q E ⟨n,F,ws,_,_,r,_,q⟩=>(Paired.length r).trans (len ws _ q)) fun cdv A outer s H vs Q E hr h=>?_
  obtain ⟨n,F1,ws,sm,ra,r,ok,q⟩:=h
  obtain ⟨T,p,kk⟩:=hbody cdv A outer s H E hr
  refine ⟨T,p,kk (b:=n) ((vr_start sm ra r ok).pay (by omega)) (vEnds _) _ ⟨?_,?_,fun _ _ _ _ _ _ z=>False.elim z,fun _ _ _ _ _ _ z=>False.elim z⟩ (hread ws _ q)⟩
  · intro F2 H2 σ1 ρ1 _ R1 q1
    exact q1 .non F2 H2 R1.g .non
  · rintro v w1 F2 H2 g1 r1 n1 ⟨d,ed,q1⟩
    obtain ⟨F3,g2,s2,r2⟩:=RelW.fz g1 r1 n1
    rw [ed] at r2
    exact q1 v F3 H2 g2 r2
end
noncomputable def vCompC (n:Nat) (fi:En -> (List PyData -> Prop) -> Prop) (fr:List (Option Nat)) (g:TGv) (ft:TB) (fe:TV):TV:=fun ρ Q=>fi ρ fun xs=>xs.length <= n /\ vGoR (frEn fr ρ) g ft fe xs [] fun ds=>Q (.ml ds)
noncomputable def CTs (X:Cx) (al:Option Addr) (c:Nat) (ifs:List Expr) (f:TB):Prop:=∃ t,PTs X ifs t /\ ∀ {b:Nat} {F₀ H₀ F H:Hp} {σ:St} {ρ:En},VR X.K ⟨al,b + c⟩ F₀ H₀ F H σ ρ -> ∀ (Qd:Bool -> Prop) (Q:Bool -> Hp -> Prop),f ρ Qd ->
  (∀ k F' H',Grow ⟨al,b⟩ F H F' H' -> Qd k -> Q k H') -> t σ H Q
theorem ct_nil {X:Cx} {al:Option Addr}:CTs X al 0 [] (fun _ Q=>Q true):=⟨_,pts_nil,fun R Qd Q q k=>k true _ _ (Grow.refl R.sub R.reel) q⟩
section
variable {X:Cx} {al:Option Addr} {c1 c2 c3:Nat} {elt tg iter:Expr} {ifs:List Expr} {scope:Scope} {pos:Pos} {fi:En -> (List PyData -> Prop) -> Prop} {g:TGv} {ft:TB} {fe:TV}
abbrev tgC {Y:Cx} (hg:∀ m,PGV Y ⟨al,m⟩ tg g):TG:=fun v σ H Q=>∃ m,Classical.choose (hg m) v σ H Q
theorem tgC_p {Y:Cx} (hg:∀ m,PGV Y ⟨al,m⟩ tg g):PG Y tg (tgC hg):=fun pins s σ H v u Q I rv ⟨m,z⟩=>(Classical.choose_spec (hg m)).1 pins s σ H v u Q I rv z
theorem lcompC_k {N':List Str} {wi:TI} (n:Nat) (fr:List (Option Nat)) (k0:∀ {b:Nat} {F₀ H₀ F H:Hp} {σ:St} {ρ:En},VR X.K ⟨al,b + c1⟩ F₀ H₀ F H σ ρ -> ∀ (Qd:List PyData -> Prop) (R:It -> Hp -> Prop),fi ρ Qd ->
      (∀ J xs F' H',Grow ⟨al,b⟩ F H F' H' -> (∀ b',VIt X.K ⟨al,b'⟩ F' J xs) -> Qd xs -> R J H') -> wi σ H R)
    (hg:∀ y m,PGV (blk X N' scope y) ⟨al,m⟩ tg g) (ht:∀ y,CTs (blk X N' scope y) al c2 ifs ft) (he:∀ y,CV (blk X N' scope y) al c3 elt fe)
    {b:Nat} {F₀ H₀ F H:Hp} {σ:St} {ρ:En} (R:VR X.K ⟨al,b + (c1 + n * (c2 + c3))⟩ F₀ H₀ F H σ ρ) (Qd:W -> Prop) (Q:VK) (q:vCompC n fi fr g ft fe ρ Qd)
    (k:∀ v w F' H',Grow ⟨al,b⟩ F H F' H' -> RelW X.K ⟨al,b⟩ F' H' v w -> NewIn H v w -> Qd w -> Q v H'):tComp wi fr (fun y=>tgC (hg y)) (fun y=>Classical.choose (ht y)) (fun y=>Classical.choose (he y)) σ H Q:=by
  refine k0 (b:=b + n * (c2 + c3)) (R.pay (by omega)) _ _ q fun J xs F1 H1 g1 vi ⟨hn,q1⟩=>?_
  intro D hD
  have rD:al ≠ some D:=fun e=>by obtain ⟨o,z⟩:=g1.reel.live e; rw [hD] at z; cases z
  have FD:F1 D = none:=g1.sub.free hD
  have gD:Grow ⟨al,b + n * (c2 + c3)⟩ F1 H1 F1 (upd H1 D (.lst [])):=Grow.laid g1.sub g1.reel hD
  have R1:=R.gr g1
  have n0:NoMl (frEn fr ρ):=noMl_block
  refine ⟨fun i m acc σc Hc=>m = xs.length - i /\ i <= xs.length /\ ∃ Fc ds,VR X.K ⟨al,b + (n - i) * (c2 + c3)⟩ F1 H1 Fc Hc σc (frEn fr ρ) /\ Hc D = some (.lst acc) /\ Fc D = none /\ Reps X.K Fc acc ds /\ vGoR (frEn fr ρ) g ft fe (xs.drop i) ds (fun ds=>Qd (.ml ds)),
    ⟨xs.length,by simp,Nat.zero_le _,F1,[],vr_block R1 gD,upd_same,FD,.nil,by simpa using q1⟩,?_⟩
  rintro z i m acc σc Hc ⟨rfl,hi,Fc,ds,Rc,hDc,fDc,rs,q2⟩
  have sH:Same F1 Hc:=Rc.g.fs.trans Rc.sub
  by_cases hlt:i < xs.length
  · have ei:xs[i]? = some xs[i]:=by simp [hlt]
    have ed:xs.drop i = xs[i] :: xs.drop (i + 1):=List.drop_eq_getElem_cons hlt
    rw [ed] at q2
    have el:=turn_left (n:=n) (i:=i) (c:=c2 + c3) (by omega)
    refine .inr ⟨(vi 0).go i Hc _ ei sH,fun v H' y=>?_⟩
    obtain ⟨Fy,gy,rv⟩:=(vi 0).yld i Hc v H' _ Fc ei Rc.g.fs Rc.sub Rc.reel y
    refine ⟨_,(Classical.choose_spec (hg z _)).2 (Rc.gr gy) v _ _ _ rv q2 fun F3 H3 σ3 ρ3 g3 n3 R3 ⟨le3,q3⟩=>?_⟩
    obtain ⟨_,kt⟩:=Classical.choose_spec (ht z)
    refine kt (b:=b + (n - (i + 1)) * (c2 + c3) + c3) (R3.pay (by omega)) _ _ q3 fun k4 F4 H4 g4 q4=>?_
    have R4:=R3.gr g4
    have g34:=(gy.tr g3).tr g4
    have keepD:∀ {m:Nat} {Fx Hx:Hp},Grow ⟨al,m⟩ Fc Hc Fx Hx -> Hx D = some (.lst acc) /\ Fx D = none:=fun gx=>⟨gx.same D _ hDc rD,by rw [gx.old D _ hDc]; exact fDc⟩
    cases k4 with
    | false=>exact ⟨xs.length - (i + 1),by omega,rfl,hlt,F4,ds,(R4.pay (by omega)).le le3,(keepD g34).1,(keepD g34).2,rs.mono g34.fs,q4⟩
    | true =>
      obtain ⟨_,kv⟩:=Classical.choose_spec (he z)
      refine kv (b:=b + (n - (i + 1)) * (c2 + c3)) R4 _ _ q4 fun v5 w5 F5 H5 g5 r5 n5 ⟨d,ed5,hl,q5⟩=>?_
      obtain ⟨F6,g6,s6,r6⟩:=RelW.fz g5 r5 n5
      rw [ed5] at r6
      have g36:=g34.tr g6
      refine ⟨(keepD g36).1,by rw [rs.length]; exact hl,xs.length - (i + 1),by omega,rfl,hlt,F6,ds ++ [d],((R4.gr g6).le le3).other n0 hD (keepD g36).2 rD,upd_same,(keepD g36).2,(rs.mono g36.fs).snoc r6,q5⟩
  · have e:i = xs.length:=by omega
    subst e
    rw [List.drop_length] at q2
    refine .inl ⟨(vi 0).stop _ Hc (Nat.le_refl _) sH,k _ (.ml ds) Fc Hc (g1.tr (Rc.g.pay (by omega))) ⟨D,acc,rfl,fDc,rD,hDc,rs⟩ (fun a ea=>by cases ea; exact g1.freeB hD) q2⟩
theorem c_lcomp (n:Nat) (N':List Str) (fr:List (Option Nat)) (hc:X.calm = true) (hi:CI X al c1 tg iter fi)
    (hg:∀ y m,PGV (blk X N' scope y) ⟨al,m⟩ tg g) (ht:∀ y,CTs (blk X N' scope y) al c2 ifs ft) (he:∀ y,CV (blk X N' scope y) al c3 elt fe)
    (hfr:frOk fr N' X.N scope X.env.scope = true:=by rfl) (hsc:scOk scope X.env.scope = true:=by rfl)
    (hs:∀ x,foldedSetIterable iter X.env x = pure x:=by intro _; rfl):CV X al (c1 + n * (c2 + c3)) (.ListComp elt [⟨tg,iter,ifs,0⟩] scope pos) (vCompC n fi fr g ft fe):=by
  obtain ⟨wi,p0,k0⟩:=hi
  exact ⟨_,pe_lcomp N' fr hc p0 hfr hsc (fun y=>tgC_p (hg y)) (fun y=>(Classical.choose_spec (ht y)).1) (fun y=>(Classical.choose_spec (he y)).1) hs,fun R Qd Q q k=>lcompC_k n fr k0 hg ht he R Qd Q q k⟩
theorem cs_setcomp (n:Nat) (i:Nat) {b:Bool} {x:Str} {px spos:Pos} (hN:X.N.Nodup) (N':List Str) (fr:List (Option Nat)) (hc:X.calm = true) (hi:CI X al c1 tg iter fi)
    (hg:∀ y m,PGV (blk X N' scope y) ⟨al,m⟩ tg g) (ht:∀ y,CTs (blk X N' scope y) al c2 ifs ft) (he:∀ y,CV (blk X N' scope y) al c3 elt fe)
    (hsw:swapsWith (.ListComp elt [⟨tg,iter,ifs,0⟩] scope pos) (some (.Name x px)) spos.line X.env = pure b:=by rfl)
    (hix:X.N[i]? = some x:=by rfl) (hx:Loc X.env.scope x:=by first | exact Or.inl rfl | exact Or.inr rfl) (hf:X.fn x = true \/ X.env.scope.names.lookup x = some .local:=by first | exact .inl rfl | exact .inr rfl)
    (hfr:frOk fr N' X.N scope X.env.scope = true:=by rfl) (hsc:scOk scope X.env.scope = true:=by rfl)
    (hs:∀ x,foldedSetIterable iter X.env x = pure x:=by intro _; rfl):CS X al (c1 + n * (c2 + c3)) (.Assign [.Name x px] (.ListComp elt [⟨tg,iter,ifs,0⟩] scope pos) spos) (vSetZ i (vCompC n fi fr g ft fe)):=by
  obtain ⟨wi,p0,k0⟩:=hi
  refine ⟨_,ps_setcomp N' fr hc p0 hfr hsc (fun y=>tgC_p (hg y)) (fun y=>(Classical.choose_spec (ht y)).1) (fun y=>(Classical.choose_spec (he y)).1) hN hix hx hf hsw hs,fun R Dv D ok q=>lcompC_k n fr k0 hg ht he R _ _ q fun v w F1 H1 g1 r1 n1 ⟨d,ed,q1⟩=>?_⟩
  obtain ⟨F2,g2,s2,r2⟩:=RelW.fz g1 r1 n1
  rw [ed] at r2
  exact ok.nx _ _ _ _ g2.fs (R.setC g2 (by omega) r2 trivial (fun xs z=>by cases z) i) q1
end
end L2.VL

namespace L2.VL
open PySem PySem.Spec PyProof.Rows
noncomputable def kC:Key:=Sum.inr "cell"
noncomputable def kL:Key:=Sum.inr "left"
noncomputable def kT:Key:=Sum.inr "turn"
theorem k_cl:¬ kC = kL:=by decide +kernel
theorem k_ct:¬ kC = kT:=by decide +kernel
theorem k_lt:¬ kL = kT:=by decide +kernel
noncomputable def tapeKv (c l t:Int):List (Key × V):=[(kC,.int c),(kL,.int l),(kT,.int t)]
theorem valV_ne {p:Key × V} {r:List (Key × V)} {k:Key} (e:¬ p.1 = k):valV (p :: r) k = valV r k:=by
  unfold valV
  rw [List.find?_cons]
  simp [e]
theorem tape_c (c l t:Int):valV (tapeKv c l t) kC = some (.int c):=valV_pos rfl
theorem tape_l (c l t:Int):valV (tapeKv c l t) kL = some (.int l):=by unfold tapeKv; rw [valV_ne k_cl]; exact valV_pos rfl
theorem tape_t (c l t:Int):valV (tapeKv c l t) kT = some (.int t):=by unfold tapeKv; rw [valV_ne k_ct,valV_ne k_lt]; exact valV_pos rfl
theorem nek {a b:Key} (h:¬ a = b):¬ b = a:=fun e=>h e.symm
theorem put_l (c l t n:Int):putK (tapeKv c l t) kL (.int n) = tapeKv c n t:=by
  unfold putK tapeKv
  rw [if_pos (by simp)]
  simp [k_cl,nek k_lt]
theorem put_t (c l t n:Int):putK (tapeKv c l t) kT (.int n) = tapeKv c l n:=by
  unfold putK tapeKv
  rw [if_pos (by simp)]
  simp [k_ct,k_lt]
theorem bm_lt:(0:Int) + BM < 2 ^ 59990:=by
  have h:BM < 2 ^ 59990:=Nat.pow_lt_pow_right (by decide) (by decide)
  rw [Int.zero_add]
  exact_mod_cast h
theorem ReelOk.kv {n:Nat} {F H:Hp} {r:Addr} (h:ReelOk n F H r):∃ c l t:Int,H r = some (.dK (tapeKv c l t)) /\ 0 <= l /\ 0 <= t /\ t + n < 2 ^ 59990:=by
  obtain ⟨o,e,c,l,t,rfl,q⟩:=h.ex
  exact ⟨c,l,t,e,q⟩
theorem RAt.put {al:Option Addr} {n n':Nat} {F₀ H₀ F H:Hp} {K:W.Frag} {σ:St} {ρ:En} {r:Addr} {c l t:Int} (R:VR K ⟨al,n⟩ F₀ H₀ F H σ ρ) (e:al = some r) (h : 0 <= l /\ 0 <= t /\ t + n' < 2 ^ 59990):VR K ⟨al,n'⟩ F₀ H₀ F (upd H r (.dK (tapeKv c l t))) σ ρ:=by
  have fr:F r = none:=(R.reel r e).1
  have neF:∀ b u,F b = some u -> b ≠ r:=fun b u q z=>by subst z; rw [fr] at q; cases q
  have g:Grow ⟨al,n'⟩ F H F (upd H r (.dK (tapeKv c l t))):=by
    refine ⟨fun b o q n=>by rw [upd_ne (fun z=>n (by rw [z]; exact e))]; exact q,.refl F,fun b o q=>by rw [upd_ne (neF b o q)]; exact R.sub b o q,fun _ _ _=>rfl,fun y z=>?_⟩
    have:y = r:=Option.some.inj (z.symm.trans e)
    subst this
    exact ⟨fr,⟨_,upd_same,c,l,t,rfl,h⟩⟩
  exact R.gr g
section
variable {X:Cx} {rl:RlT} {e:Expr} {fa:TV} {pos p p1 p2:Pos} {ρ:En}
noncomputable def vRN (i:Nat):TV:=fun ρ Q=>ρ[i]? = some (some .reel) /\ ∀ n:Int,0 <= n -> Q (.d (.int n))
noncomputable def vRI (i:Nat):TV:=fun ρ Q=>ρ[i]? = some (some .reel) /\ ∀ n:Int,Q (.d (.int n))
theorem v_rget {i:Nat} {x:Str} {k:Str} {j} (hr:Room 0 X.A) (hk:(Sum.inr k:Key) = kL \/ (Sum.inr k:Key) = kT) (hN:X.N[i]? = some x:=by rfl) (hv:Vis X.env.scope x:=by first | exact Or.inl rfl | exact Or.inr (Or.inl rfl) | exact Or.inr (Or.inr rfl))
    (hd:(x == ("__debug__" : Str)) = false:=by decide) (hcd:(x == ("__classdict__" : Str)) = false:=by decide) (hs:NoSl (.Constant (.str k) j p2):=by exact fun _ _=>rfl):PV X rl (.Subscript (.Name x p1) (.Constant (.str k) j p2) pos) (vRN i):=by
  refine ⟨_,pe_dget (hu_of hr) (pe_var hN hv hd hcd) pe_str hs,fun {F₀ H₀ F H σ ρ} R Qd Q ⟨e1,q⟩ h=>?_⟩
  obtain ⟨v,s1,⟨r,er,ev⟩,_⟩:=R.sl i _ e1
  subst ev
  obtain ⟨_,ok⟩:=R.reel r er
  obtain ⟨c,l,t,hH,b2,b3,b4⟩:=ok.kv
  have go:∀ n:Int,0 <= n -> valV (tapeKv c l t) (Sum.inr k) = some (.int n) -> tDGet (tVar i) (tC (.str k)) σ H Q:=fun n hn e=>by
    refine ⟨.ref r,s1,r,.int n,rfl,?_,h _ (.d _) F H (Grow.refl R.sub R.reel) (.int n) trivial (q n hn)⟩
    have g:=DGet.k (k:=(Sum.inr k:Key)) hH
    rw [e] at g
    exact g
  rcases hk with hk | hk
  · exact go l b2 (by rw [hk]; exact tape_l c l t)
  · exact go t b3 (by rw [hk]; exact tape_t c l t)
theorem v_rcell {i:Nat} {x:Str} {j} (hr:Room 0 X.A) (hN:X.N[i]? = some x:=by rfl) (hv:Vis X.env.scope x:=by first | exact Or.inl rfl | exact Or.inr (Or.inl rfl) | exact Or.inr (Or.inr rfl))
    (hd:(x == ("__debug__" : Str)) = false:=by decide) (hcd:(x == ("__classdict__" : Str)) = false:=by decide) (hs:NoSl (.Constant (.str "cell") j p2):=by exact fun _ _=>rfl):PV X rl (.Subscript (.Name x p1) (.Constant (.str "cell") j p2) pos) (vRI i):=by
  refine ⟨_,pe_dget (hu_of hr) (pe_var hN hv hd hcd) pe_str hs,fun {F₀ H₀ F H σ ρ} R Qd Q ⟨e1,q⟩ h=>?_⟩
  obtain ⟨v,s1,⟨r,er,ev⟩,_⟩:=R.sl i _ e1
  subst ev
  obtain ⟨_,ok⟩:=R.reel r er
  obtain ⟨c,l,t,hH,b2,b3,b4⟩:=ok.kv
  refine ⟨.ref r,s1,r,.int c,rfl,?_,h _ (.d _) F H (Grow.refl R.sub R.reel) (.int c) trivial (q c)⟩
  have g:=DGet.k (k:=kC) hH
  rw [tape_c] at g
  exact g
noncomputable def vRPut (i:Nat) (fa:TV):TSv:=fun D ρ=>fa ρ fun w=>∃ n,w = .d (.int n) /\ 0 <= n /\ ρ[i]? = some (some .reel) /\ D.nx ρ
theorem vs_rput {i:Nat} {x:Str} {k:Str} {j} {pos':Pos} (hr:Room 0 X.A) (hk:(Sum.inr k:Key) = kL \/ False) (ha:PV X rl e fa) (hN:X.N[i]? = some x:=by rfl) (hv:Vis X.env.scope x:=by first | exact Or.inl rfl | exact Or.inr (Or.inl rfl) | exact Or.inr (Or.inr rfl))
    (hd:(x == ("__debug__" : Str)) = false:=by decide) (hcd:(x == ("__classdict__" : Str)) = false:=by decide) (hsw:swapsWith e (some (.Subscript (.Name x p1) (.Constant (.str k) j p2) pos')) pos.line X.env = pure false:=by rfl) :
    PSV X rl (.Assign [.Subscript (.Name x p1) (.Constant (.str k) j p2) pos'] e pos) (vRPut i fa):=by
  obtain ⟨t,p3,kk⟩:=ha
  refine ⟨_,ps_dput (hu_of hr) (pe_var hN hv hd hcd) pe_str p3 hsw,fun {F₀ H₀ F H σ ρ} R Dv D ok q=>kk R _ _ q fun v w F1 H1 g1 r1 n1 ⟨n,ew,hn,e1,q1⟩=>?_⟩
  subst ew
  have ev:=rep_int r1
  subst ev
  have R1:=R.grow g1
  obtain ⟨v,s1,⟨r,er,ev⟩,_⟩:=R1.sl i _ e1
  subst ev
  obtain ⟨_,okr⟩:=R1.reel r er
  obtain ⟨c,l,t,hH,b2,b3,b4⟩:=okr.kv
  refine ⟨.ref r,s1,r,_,rfl,DPut.k (k:=(Sum.inr k:Key)) hH (small1000 (by show 3 <= 1000; decide)),?_⟩
  have go:∀ l' t':Int,0 <= l' -> 0 <= t' -> t' + rl.b < 2 ^ 59990 -> putK (tapeKv c l t) (Sum.inr k) (.int n) = tapeKv c l' t' -> D.nx σ (upd H1 r (.dK (putK (tapeKv c l t) (Sum.inr k) (.int n)))):=fun l' t' x2 x3 x4 e=>by
    rw [e]
    exact ok.nx _ _ _ _ g1.fs (RAt.put (al:=rl.a) (n:=rl.b) (n':=rl.b) R1 er ⟨x2,x3,x4⟩) q1
  rcases hk with hk | hk
  · exact go n t hn b3 b4 (by rw [hk]; exact put_l c l t n)
  · exact hk.elim
noncomputable def asR:W -> Option Unit
  | .reel=>some ()
  | _=>none
theorem asR_r:asR .reel = some ():=rfl
theorem slR_of {i:Nat}:(((ρ[i]?).join).bind asR = some ()) ↔ ρ[i]? = some (some .reel):=by
  constructor
  · intro h
    cases q : ρ[i]? with
    | none=>rw [q] at h; cases h
    | some o=>rw [q] at h; cases o with
      | none=>cases h
      | some w=>cases w <;> first | rfl | cases h
  · intro h; rw [h]; rfl
theorem slR_ex {β:Type} {i:Nat} {k:Unit -> Mo β} {Q : β -> Prop}:optM (((ρ[i]?).join).bind asR) k Q ↔ ρ[i]? = some (some .reel) /\ k () Q:=by
  rw [opt_iff]
  exact ⟨fun ⟨u,a,q⟩=>⟨slR_of.mp a,q⟩,fun ⟨a,q⟩=>⟨(),slR_of.mpr a,q⟩⟩
theorem m_vRN (i:Nat):vRN i ρ = optM (((ρ[i]?).join).bind asR) fun _=>bnd (anyM fun n:Int=>0 <= n) fun n=>ret (.d (.int n)):=mo_ext fun Q=>(Iff.intro (fun ⟨a,q⟩=>slR_ex.mpr ⟨a,fun n h=>q n h⟩) fun h=>⟨(slR_ex.mp h).1,fun n hn=>(slR_ex.mp h).2 n hn⟩)
theorem m_vRI (i:Nat):vRI i ρ = optM (((ρ[i]?).join).bind asR) fun _=>bnd (anyM fun _:Int=>True) fun n=>ret (.d (.int n)):=mo_ext fun Q=>(Iff.intro (fun ⟨a,q⟩=>slR_ex.mpr ⟨a,fun n _=>q n⟩) fun h=>⟨(slR_ex.mp h).1,fun n=>(slR_ex.mp h).2 n trivial⟩)
theorem s_rput (i:Nat):mS (vRPut i fa) ρ = bnd (fa ρ) fun w=>optM (asI w) fun n=>grd (0 <= n) (optM (((ρ[i]?).join).bind asR) fun _=>ret (.nx ρ)):=by
  show (bnd (fa ρ) fun w=>fun (Q:Fl -> Prop)=>∃ n,w = .d (.int n) /\ 0 <= n /\ ρ[i]? = some (some .reel) /\ Q (.nx ρ)) = _
  congr 1; funext w
  refine mo_ext fun Q=>?_
  simp only [opt_iff (o:=asI w),asI_of,grd,slR_ex,ret]
end
theorem merge_tape (c l t:Int):mergeK [] [(kC,V.int c),(kL,.int l),(kT,.int t)] = tapeKv c l t:=by
  unfold mergeK tapeKv
  simp only [List.foldl_cons,List.foldl_nil]
  have p0:putK ([]:List (Key × V)) kC (V.int c) = [(kC,V.int c)]:=rfl
  rw [p0]
  unfold putK
  simp [k_cl,k_ct,k_lt]
section
variable {X:Cx} {s1 s2:Stmt} {t1 t2:TSv} {e1 e2 e3:Expr} {f1 f2 f3:TV} {pos dpos q1 q2 q3:Pos} {j1 j2 j3:Nat}
theorem tape_body (hs1:PSV X RlT.no s1 t1) (hs2:PSV X RlT.no s2 t2) (h1:PV X RlT.no e1 f1) (h2:PV X RlT.no e2 f2) (h3:PV X RlT.no e3 f3) :
    ∃ T,PSs X [s1,s2,.Return (some (.Dict [some (.Constant (.str "cell") j1 q1),some (.Constant (.str "left") j2 q2),some (.Constant (.str "turn") j3 q3)] [e1,e2,e3] dpos)) pos] T /\
      ∀ {F H:Hp} {σ:St} {ρ:En},VR X.K RlT.no F H F H σ ρ -> ∀ D:Ends,(mS (vSeq t1 t2) ρ fun r=>∃ ρ',r = .nx ρ' /\ (bnd (f1 ρ') fun w1=>bnd (f2 ρ') fun w2=>bnd (f3 ρ') fun w3=>ret (w1,w2,w3)) fun p=>∃ c l t:Int,p = (.d (.int c),.d (.int l),.d (.int t)) /\ 0 <= l /\ t = 0) ->
        (∀ r F' H',H r = none -> Grow RlT.no F H F' H' -> RAt (RlT.at' r BM) F' H' -> D.rt (.ref r) H') -> T D σ H:=by
  obtain ⟨T1,p1,k1⟩:=hs1
  obtain ⟨T2,p2,k2⟩:=hs2
  obtain ⟨g1,pe1,ke1⟩:=h1
  obtain ⟨g2,pe2,ke2⟩:=h2
  obtain ⟨g3,pe3,ke3⟩:=h3
  refine ⟨_,pss_cons p1 (pss_cons p2 (pss_one (ps_ret (pe_disp (pps_cons pe_str pe1 (pps_cons pe_str pe2 (pps_cons pe_str pe3 pps_nil))) rfl rfl (by intro z; cases z) (by show 3 <= 15; decide))))),fun {F H σ ρ} R D q fin=>?_⟩
  have qq:t1 ⟨fun ρ=>t2 ⟨fun ρ'=>(bnd (f1 ρ') fun w1=>bnd (f2 ρ') fun w2=>bnd (f3 ρ') fun w3=>ret (w1,w2,w3)) fun p=>∃ c l t:Int,p = (.d (.int c),.d (.int l),.d (.int t)) /\ 0 <= l /\ t = 0,fun _=>False,fun _=>False,fun _=>False⟩ ρ,fun _=>False,fun _=>False,fun _=>False⟩ ρ:=by
    simpa [mS,vSeq] using q
  refine k1 R ⟨_,fun _=>False,fun _=>False,fun _=>False⟩ _ ⟨fun F1 H1 σ1 ρ1 sm1 R1 qa=>?_,fun _ _ _ _ _ _ _ z=>False.elim z,fun _ _ _ _ _ _ z=>False.elim z,fun _ _ _ _ _ _ z=>False.elim z⟩ qq
  refine k2 R1 ⟨_,fun _=>False,fun _=>False,fun _=>False⟩ _ ⟨fun F2 H2 σ2 ρ2 sm2 R2 qb=>?_,fun _ _ _ _ _ _ _ z=>False.elim z,fun _ _ _ _ _ _ z=>False.elim z,fun _ _ _ _ _ _ z=>False.elim z⟩ qa
  intro p hp
  have gp:Grow RlT.no F2 H2 F2 (upd H2 p (.dK [])):=Grow.laid R2.sub R2.reel hp
  refine ke1 (R2.grow gp) _ _ qb fun v1 w1 F3 H3 g3' r1 n1 qc=>?_
  refine ke2 ((R2.grow gp).grow g3') _ _ qc fun v2 w2 F4 H4 g4 r2 n2 qd=>?_
  refine ke3 (((R2.grow gp).grow g3').grow g4) _ _ qd fun v3 w3 F5 H5 g5 r3 n3 qe=>?_
  obtain ⟨c,l,t,e,hl,ht⟩:=qe
  cases e
  have a1:=rep_int r1
  have a2:=rep_int r2
  have a3:=rep_int r3
  subst a1 a2 a3
  have gg:Grow RlT.no (F2) (upd H2 p (.dK [])) F5 H5:=(g3'.trans g4).trans g5
  have hp5:H5 p = some (.dK []):=gg.same p _ upd_same (by simp)
  refine ⟨hp5,[(kC,.int c),(kL,.int l),(kT,.int t)],rfl,(by show 3 <= 15; decide),?_⟩
  rw [merge_tape]
  have h0:H p = none:=R2.g.freeB hp
  have f5:F5 p = none:=by rw [gg.old p _ upd_same]; exact R2.sub.free hp
  have g0:Grow RlT.no F H F5 H5:=(R2.g.trans gp).trans gg
  refine fin p F5 _ h0 ⟨fun b o eb _=>by rw [upd_ne (ne_of_none eb h0)]; exact g0.same b o eb (by simp),g0.fs,fun b o eb=>?_,g0.old,fun _ z=>by cases z⟩ (fun r er=>?_)
  · have:b ≠ p:=fun z=>by subst z; rw [f5] at eb; cases eb
    rw [upd_ne this]
    exact g0.sub b o eb
  · cases er
    subst ht
    exact ⟨f5,⟨_,upd_same,c,l,0,rfl,hl,by omega,bm_lt⟩⟩
end
noncomputable def vRT (m:Nat) (i:Nat):TV:=fun ρ Q=>ρ[i]? = some (some .reel) /\ ∀ n:Int,0 <= n -> n + m < 2 ^ 59990 -> Q (.d (.int n))
section
variable {X:Cx} {al:Option Addr} {m m' c:Nat} {rest:List Stmt} {u:TSv} {e:Expr} {fa:TV} {pos p p1 p2:Pos} {ρ:En}
theorem v_rturn {i:Nat} {x:Str} {j} (hr:Room 0 X.A) (hN:X.N[i]? = some x:=by rfl) (hv:Vis X.env.scope x:=by first | exact Or.inl rfl | exact Or.inr (Or.inl rfl) | exact Or.inr (Or.inr rfl))
    (hd:(x == ("__debug__" : Str)) = false:=by decide) (hcd:(x == ("__classdict__" : Str)) = false:=by decide) (hs:NoSl (.Constant (.str "turn") j p2):=by exact fun _ _=>rfl):PV X ⟨al,m⟩ (.Subscript (.Name x p1) (.Constant (.str "turn") j p2) pos) (vRT m i):=by
  refine ⟨_,pe_dget (hu_of hr) (pe_var hN hv hd hcd) pe_str hs,fun {F₀ H₀ F H σ ρ} R Qd Q ⟨e1,q⟩ h=>?_⟩
  obtain ⟨v,s1,⟨r,er,ev⟩,_⟩:=R.sl i _ e1
  subst ev
  obtain ⟨_,ok⟩:=R.reel r er
  obtain ⟨c,l,t,hH,b2,b3,b4⟩:=ok.kv
  refine ⟨.ref r,s1,r,.int t,rfl,?_,h _ (.d _) F H (Grow.refl R.sub R.reel) (.int t) trivial (q t b3 b4)⟩
  have g:=DGet.k (k:=kT) hH
  rw [tape_t] at g
  exact g
noncomputable def vBump (i ih:Nat) (u:TSv):TSv:=fun D ρ=>ρ[ih]? = some (some .reel) /\ i < ρ.length /\ ∀ n:Int,0 <= n -> n < 2 ^ 59990 -> u D (ρ.set i (some (.d (.int n))))
theorem cs_bump (i ih:Nat) {x h:Str} {j1 j2:Nat} {q1 q2 q3 q4 q5 q6 q7 q8 q9 q10 q11:Pos} (hr:Room 0 X.A) (hN:X.N.Nodup) (hne:i ≠ ih) (hrest:CSs X al c rest u) (hi:X.N[i]? = some x:=by rfl) (hih:X.N[ih]? = some h:=by rfl)
    (hx:Loc X.env.scope x:=by first | exact Or.inl rfl | exact Or.inr rfl) (hf:X.fn x = true \/ X.env.scope.names.lookup x = some .local:=by first | exact .inl rfl | exact .inr rfl)
    (hv:Vis X.env.scope h:=by first | exact Or.inl rfl | exact Or.inr (Or.inl rfl) | exact Or.inr (Or.inr rfl)) (hvx:Vis X.env.scope x:=by first | exact Or.inl rfl | exact Or.inr (Or.inl rfl) | exact Or.inr (Or.inr rfl))
    (hd:(h == ("__debug__" : Str)) = false:=by decide) (hcd:(h == ("__classdict__" : Str)) = false:=by decide) (hd':(x == ("__debug__" : Str)) = false:=by decide) (hcd':(x == ("__classdict__" : Str)) = false:=by decide)
    (hs:swapsWith (.BinOp (.Subscript (.Name h q1) (.Constant (.str "turn") j1 q2) q3) .Add (.Constant (.int 1) j2 q4) q5) (some (.Name x q6)) q7.line X.env = pure false:=by rfl)
    (hsw:swapsWith (.Name x q8) (some (.Subscript (.Name h q9) (.Constant (.str "turn") j1 q10) q11)) pos.line X.env = pure false:=by rfl)
    (hsl:NoSl (.Constant (.str "turn") j1 q2):=by exact fun _ _=>rfl) :
    CSs X al (1 + c) (.Assign [.Name x q6] (.BinOp (.Subscript (.Name h q1) (.Constant (.str "turn") j1 q2) q3) .Add (.Constant (.int 1) j2 q4) q5) q7 :: .Assign [.Subscript (.Name h q9) (.Constant (.str "turn") j1 q10) q11] (.Name x q8) pos :: rest) (vBump i ih u):=by
  obtain ⟨T,pT,kR⟩:=hrest
  have s1:∀ n,PSV X ⟨al,n⟩ (.Assign [.Name x q6] (.BinOp (.Subscript (.Name h q1) (.Constant (.str "turn") j1 q2) q3) .Add (.Constant (.int 1) j2 q4) q5) q7) (vSetZ i (vOp (gI0 fun i j=>.int (i + j)) (vRT n ih) (vC (.int 1)))):=fun n =>
    vs_setZ i hN (v_add (v_rturn hr hih hv hd hcd hsl) pv_int) hi hx hs hf
  refine ⟨_,pss_cons (t:=fun D σ H=>∃ n,Classical.choose (s1 n) D σ H) (fun pins s σ H D I ⟨n,z⟩=>(Classical.choose_spec (s1 n)).1 pins s σ H D I z) (pss_cons (ps_dput (hu_of hr) (pe_var hih hv hd hcd) pe_str (pe_var hi hvx hd' hcd') hsw) pT),fun {b F₀ H₀ F H σ ρ} R Dv D ok ⟨e1,hlen,q⟩=>⟨b + (1 + c),?_⟩⟩
  refine (Classical.choose_spec (s1 (b + (1 + c)))).2 R { Dv with nx:=fun ρ'=>∃ n:Int,(0 <= n /\ n + (b + c:Nat) < 2 ^ 59990) /\ ρ' = ρ.set i (some (.d (.int n))) } _ ⟨fun F1 H1 σ1 ρ1 sm R1 qn=>?_,fun v w F1 H1 g r n q=>(ok.pay (by omega)).rt v w F1 H1 g r n q,fun F1 H1 σ1 ρ1 sm R1 q=>(ok.pay (b:=b + (1 + c)) (by omega)).bk F1 H1 σ1 ρ1 sm R1 q,fun F1 H1 σ1 ρ1 sm R1 q=>(ok.pay (b:=b + (1 + c)) (by omega)).ct F1 H1 σ1 ρ1 sm R1 q⟩ ?_
  · obtain ⟨n,⟨hn,hl⟩,rfl⟩:=qn
    obtain ⟨v,s1',r1,_⟩:=R1.sl i (.d (.int n)) (by rw [List.getElem?_set_self hlen])
    have ev:=rep_int r1
    subst ev
    obtain ⟨v2,s2,⟨r,er,ev2⟩,_⟩:=R1.sl ih .reel (by rw [List.getElem?_set_ne hne]; exact e1)
    subst ev2
    obtain ⟨_,okr⟩:=R1.reel r er
    obtain ⟨cc,l,t,hH,b2,b3,b4⟩:=okr.kv
    refine ⟨.int n,s1',.ref r,s2,r,_,rfl,DPut.k (k:=kT) hH (small1000 (by show 3 <= 1000; decide)),?_⟩
    rw [put_t]
    exact kR (b:=b) (RAt.put (n':=b + c) R1 er ⟨b2,hn,hl⟩) Dv D (ok.on sm) (q n hn (by omega))
  · refine ⟨e1,fun n h0 h1=>?_⟩
    refine ⟨n,1,rfl,rfl,.int (n + 1),rfl,n + 1,⟨by omega,by omega⟩,rfl⟩
theorem s_bump (i ih:Nat):mS (vBump i ih u) ρ = optM (((ρ[ih]?).join).bind asR) fun _=>grd (i < ρ.length) (bnd (anyM fun n:Int=>0 <= n /\ n < 2 ^ 59990) fun n=>mS u (ρ.set i (some (.d (.int n))))):=mo_ext fun Q=>(Iff.intro (fun ⟨a,l,q⟩=>slR_ex.mpr ⟨a,l,fun n hn=>q n hn.1 hn.2⟩) fun h=>⟨(slR_ex.mp h).1,(slR_ex.mp h).2.1,fun n h0 h1=>(slR_ex.mp h).2.2 n ⟨h0,h1⟩⟩)
theorem cs_newR (i:Nat) {x f:Str} {ps:List Str} {k:Nat} {pre:List W -> Prop} {fs:TVs} {es:List Expr} {px cpos:Pos} (D:DfnR X.prog X.w X.K X.mg X.base f ps k pre) (hr:Room k X.A) (hN:X.N.Nodup) (ha:PVs X RlT.no (e :: es) fs) (hrest:∀ r,CSs X (some r) c rest u) (hc:c <= BM)
    (hi:X.N[i]? = some x:=by rfl) (hx:Loc X.env.scope x:=by first | exact Or.inl rfl | exact Or.inr rfl) (hg:Gl X f:=by rfl) (hdb:(f == ("__debug__" : Str)) = false:=by decide)
    (he:starEach (e :: es) X.env = (false,eval e X.env) :: starEach es X.env:=by rfl) (hpl:(backTo cpos (starEach es X.env)).any (·.1) = false:=by rfl)
    (hs:swapsWith (.Call (.Name f p) (e :: es) [] cpos) (some (.Name x px)) pos.line X.env = pure false:=by rfl) (hf:X.fn x = true \/ X.env.scope.names.lookup x = some .local:=by first | exact .inl rfl | exact .inr rfl) :
    PSsV X RlT.no (.Assign [.Name x px] (.Call (.Name f p) (e :: es) [] cpos) pos :: rest) (vNewR i pre fs u):=by
  obtain ⟨fa,fd,hm,hk,hb,F⟩:=D.ex
  obtain ⟨ta,p1,k1⟩:=ha
  refine ⟨_,pss_cons (ps_set hN hi hx (pe_call F hr hg hm hk hb .nil pass0 p1 hdb he hpl) hs hf) (pss_any X rest),fun {F₀ H₀ F H σ ρ} R Dv D ok q=>k1 R _ _ q fun vs ws F1 H1 g1 r1 ⟨ao,pw,q1⟩=>?_⟩
  have R1:=R.grow g1
  refine ⟨F1,ws,g1.sub,by rw [List.append_nil]; exact r1,ao,pw,fun r F2 H2 hr2 g2 ra=>?_⟩
  intro pins s I
  obtain ⟨T,pT,kT⟩:=hrest r
  have h0:H₀ r = none:=R1.g.freeB hr2
  refine pT pins s _ H2 D I (kT (b:=0) ((R1.into hr2 g2 ra i).pay (by omega)) _ D ⟨fun F3 H3 σ3 ρ3 s3 R3 q3=>?_,fun v w F3 H3 g3 r3 n3 q3=>?_,fun F3 H3 σ3 ρ3 s3 R3 q3=>?_,fun F3 H3 σ3 ρ3 s3 R3 q3=>?_⟩ q1)
  · exact ok.nx F3 H3 σ3 _ (g1.fs.trans (g2.fs.trans s3)) (R3.out h0) q3
  · exact ok.rt v w F3 H3 (grow_out g3 h0) (rel_out r3 q3.1) n3 q3.2
  · exact ok.bk F3 H3 σ3 _ (g1.fs.trans (g2.fs.trans s3)) (R3.out h0) q3
  · exact ok.ct F3 H3 σ3 _ (g1.fs.trans (g2.fs.trans s3)) (R3.out h0) q3
end
theorem s_forC (n:Nat) (fl:List Nat) (fi:En -> (List PyData -> Prop) -> Prop) (g:TGv) (t:TSv) (ρ:En):mS (vForC n fl fi g t) ρ = bnd (fi ρ) fun xs=>grd (xs.length <= n) (loopM fl (bdy g t) xs (fo fl ρ)):=by
  refine mo_ext fun Q=>?_
  show (fi ρ fun xs=>xs.length <= n /\ mS (vLoopF fl g t xs) (fo fl ρ) Q) ↔ _
  simp only [loop_eq]
  exact Iff.rfl
theorem m_compC (n:Nat) (fi:En -> (List PyData -> Prop) -> Prop) (fr:List (Option Nat)) (g:TGv) (ft:TB) (fe:TV) (ρ:En):vCompC n fi fr g ft fe ρ = bnd (fi ρ) fun xs=>grd (xs.length <= n) (bnd (compM (itM (frEn fr ρ) g ft fe) xs []) fun ds=>ret (.ml ds)):=by
  refine mo_ext fun Q=>?_
  show (fi ρ fun xs=>xs.length <= n /\ vGoR (frEn fr ρ) g ft fe xs [] fun ds=>Q (.ml ds)) ↔ _
  simp only [comp_eq]
  exact Iff.rfl
end L2.VL

namespace L2.VL
open PySem PySem.Spec PyProof.Rows
noncomputable def fr (q:Rat):PyData:=.tuple [.int q.num,.int q.den]
theorem fr_inj {q r:Rat} (h:fr q = fr r):q = r:=by
  simp only [fr,PyData.tuple.injEq,List.cons.injEq,PyData.int.injEq,and_true] at h
  exact Rat.ext h.1 (by omega)
theorem low_norm (n:Int) (d:Nat) (h:d ≠ 0):lowD n d = fr (Rat.normalize n d h):=by
  unfold lowD fr
  rw [Rat.normalize_eq]
  have g:(Int.gcd n d:Int) = ((n.natAbs.gcd d:Nat):Int):=by simp [Int.gcd]
  have gp : 0 < n.natAbs.gcd d:=Nat.gcd_pos_of_pos_right _ (by omega)
  have e1:n.fdiv (Int.gcd n d) = n / ((n.natAbs.gcd d:Nat):Int):=by rw [g,Int.fdiv_eq_ediv_of_nonneg _ (by omega)]
  have e2:(d:Int).fdiv (Int.gcd n d) = ((d / n.natAbs.gcd d:Nat):Int):=by rw [g,Int.fdiv_eq_ediv_of_nonneg _ (by omega),Int.natCast_ediv]
  rw [e1,e2]
theorem low_div {a b:Int} (hb : 0 < b):lowD a b = fr ((a:Rat) / (b:Rat)):=by
  obtain ⟨d,rfl⟩:=Int.eq_ofNat_of_zero_le (show 0 <= b by omega)
  rw [low_norm a d (by omega)]
  congr 1
  have:(Rat.normalize a d (by omega)) = mkRat a d:=by rw [Rat.normalize_eq_mkRat]
  rw [this,Rat.mkRat_eq_div]
  rfl
end L2.VL

namespace L2.VL
open PySem PySem.Spec PyProof.Rows
inductive Sd where
  | to (t:Rat) | from (a b:Rat) | round (a b:Rat)
noncomputable def Sd.last:Sd -> Rat
  | .to t=>t | .from _ b=>b | .round _ b=>b
noncomputable def sdD:Sd -> PyData
  | .to t=>.tuple [.str "to", fr t]
  | .from a b=>.tuple [.str "from", fr a,fr b]
  | .round a b=>.tuple [.str "round", fr a,fr b]
noncomputable def mx (q r:Rat):Rat:=if q < r then r else q
noncomputable def mn (q r:Rat):Rat:=if q < r then q else r
theorem fr0:pr 0 1 = fr 0:=rfl
theorem fr1:pr 1 1 = fr 1:=rfl
noncomputable def boxD (ss:List Sd):PyData:=.tuple (ss.map sdD)
noncomputable def ptD (qs:List Rat):PyData:=.tuple (qs.map fr)
noncomputable def ptsQ (ps:List (List Rat)):PyData:=.tuple (ps.map ptD)
theorem at_last2 {α:Type} (x y : α):L2.atI [x,y] (-1) = some y:=rfl
theorem at_last3 {α:Type} (x y z : α):L2.atI [x,y,z] (-1) = some z:=rfl
end L2.VL

namespace L2.VL
open PySem PySem.Spec PyProof.Rows
theorem lay_frs:∀ qs:List Rat,PyData.canLayAll0 (qs.map fr) = true
  | []=>rfl
  | q :: qs=>by simp [PyData.canLayAll0,PyData.canLay0,fr,lay_frs qs]
theorem dep_frs:∀ qs:List Rat,PyData.depthAll (qs.map fr) <= 3
  | []=>by simp [PyData.depthAll]
  | q :: qs=>by
    have:=dep_frs qs
    simp [PyData.depthAll,PyData.depth,fr] at this ⊢
    omega
theorem at_last1 {α:Type} (x : α):L2.atI [x] (-1) = some x:=rfl
end L2.VL

namespace L2.VL
open PySem PySem.Spec PyProof.Rows
theorem fr_i {q r:Rat}:fr q = fr r ↔ q = r:=⟨fr_inj,fun h=>by rw [h]⟩
theorem sdD_i {s t:Sd}:sdD s = sdD t ↔ s = t:=by
  constructor
  · intro h
    have n1:¬ (Str.ofString "from" = Str.ofString "round"):=by decide +kernel
    cases s <;> cases t <;> simp [sdD,fr_i,n1,Ne.symm n1] at h ⊢ <;> first | exact h | exact (n1 h.1.symm).elim | exact (n1 h.1).elim
  · rintro rfl; rfl
theorem ptD_i {a b:List Rat}:ptD a = ptD b ↔ a = b:=by
  unfold ptD
  rw [PyData.tuple.injEq,map_inj_of fun _ _=>fr_i]
theorem boxD_i {a b:List Sd}:boxD a = boxD b ↔ a = b:=by
  unfold boxD
  rw [PyData.tuple.injEq,map_inj_of fun _ _=>sdD_i]
theorem ptsQ_i {a b:List (List Rat)}:ptsQ a = ptsQ b ↔ a = b:=by
  unfold ptsQ
  rw [PyData.tuple.injEq,map_inj_of fun _ _=>ptD_i]
theorem frs_i {a b:List Rat}:a.map fr = b.map fr ↔ a = b:=map_inj_of fun _ _=>fr_i
theorem item_fr0 (q:Rat):itemAt (fr q) 0 = some (.int q.num):=rfl
theorem item_fr1 (q:Rat):itemAt (fr q) 1 = some (.int q.den):=rfl
theorem tupD_pt (a:List Rat):tupD (ptD a) = some (a.map fr):=rfl
theorem seqD_pt (a:List Rat):seqD (ptD a) = some (a.map fr):=rfl
theorem lenD_pt (a:List Rat):lenD (ptD a) = some a.length:=by show some (a.map fr).length = _; rw [List.length_map]
theorem item_pt (a:List Rat) (i:Int):itemAt (ptD a) i = (atI a i).map fr:=atI_map _ _ _
theorem tupD_bx (a:List Sd):tupD (boxD a) = some (a.map sdD):=rfl
theorem seqD_bx (a:List Sd):seqD (boxD a) = some (a.map sdD):=rfl
theorem lenD_bx (a:List Sd):lenD (boxD a) = some a.length:=by show some (a.map sdD).length = _; rw [List.length_map]
theorem item_bx (a:List Sd) (i:Int):itemAt (boxD a) i = (atI a i).map sdD:=atI_map _ _ _
theorem tupD_ps (a:List (List Rat)):tupD (ptsQ a) = some (a.map ptD):=rfl
theorem seqD_ps (a:List (List Rat)):seqD (ptsQ a) = some (a.map ptD):=rfl
theorem lenD_ps (a:List (List Rat)):lenD (ptsQ a) = some a.length:=by show some (a.map ptD).length = _; rw [List.length_map]
theorem item_ps (a:List (List Rat)) (i:Int):itemAt (ptsQ a) i = (atI a i).map ptD:=atI_map _ _ _
theorem kind_pt (a:List Rat):kindB (ptD a) = kindB (.tuple []):=rfl
theorem kind_bx (a:List Sd):kindB (boxD a) = kindB (.tuple []):=rfl
noncomputable def qd (a b:Int):Rat:=(a:Rat) / (b:Rat)
theorem low_qd {a b:Int} (hb : 0 < b):PyData.tuple [.int (a.fdiv (Int.gcd a b)),.int (b.fdiv (Int.gcd a b))] = fr (qd a b):=low_div hb
theorem lay_pts:∀ ps:List (List Rat),PyData.canLayAll0 (ps.map ptD) = true
  | []=>rfl
  | p :: ps=>by simp [PyData.canLayAll0,PyData.canLay0,ptD,lay_frs,lay_pts ps]
theorem dep_pts:∀ ps:List (List Rat),PyData.depthAll (ps.map ptD) <= 5
  | []=>by simp [PyData.depthAll]
  | p :: ps=>by
    have:=dep_pts ps
    have:=dep_frs p
    simp [PyData.depthAll,PyData.depth,ptD] at *
    omega
noncomputable def BFR:=And.intro @item_fr0 (And.intro @item_fr1 (And.intro @tupD_pt (And.intro @seqD_pt (And.intro @lenD_pt (And.intro @item_pt (And.intro @tupD_bx (And.intro @seqD_bx (And.intro @lenD_bx (And.intro @item_bx (And.intro @tupD_ps (And.intro @seqD_ps (And.intro @lenD_ps (And.intro @item_ps (And.intro @at_last1 (And.intro @at_last2 (And.intro @at_last3 (And.intro @kind_pt (And.intro @kind_bx (And.intro @fr0 (@fr1))))))))))))))))))))
end L2.VL

namespace L2.VL
open PySem PySem.Spec PyProof.Rows
noncomputable def fv (b:Int):List Int -> Rat
  | []=>0
  | d :: ds=>((d:Rat) + fv b ds) / (b:Rat)
noncomputable def nv (b:Int):List Int -> Int
  | []=>0
  | d :: ds=>d + b * nv b ds
noncomputable def tv (b:Int) (ds:List Int):Int:=ds.foldl (fun t d=>t * b + d) 0
noncomputable def Fig (b:Int) (ds:List Int):Prop:=∀ d ∈ ds,0 <= d /\ d < b
theorem foldl_tv (b:Int):∀ (ds:List Int) (t:Int),ds.foldl (fun t d=>t * b + d) t = t * b ^ ds.length + tv b ds
  | [],t=>by simp [tv]
  | d :: ds,t=>by
    rw [List.foldl_cons,foldl_tv b ds (t * b + d),show tv b (d :: ds) = ds.foldl (fun t d=>t * b + d) (0 * b + d) from rfl,foldl_tv b ds (0 * b + d),List.length_cons,Int.pow_succ]
    grind
theorem tv_cons (b d:Int) (ds:List Int):tv b (d :: ds) = d * b ^ ds.length + tv b ds:=by
  rw [show tv b (d :: ds) = ds.foldl (fun t d=>t * b + d) (0 * b + d) from rfl,foldl_tv]; grind
theorem rat_ne {b:Int} (h : 0 < b):(b:Rat) ≠ 0:=by
  intro z
  have:b = 0:=by exact_mod_cast z
  omega
theorem tv_fv {b:Int} (hb : 2 <= b):∀ ds:List Int,qd (tv b ds) (b ^ ds.length) = fv b ds
  | []=>by rw [show tv b [] = 0 from rfl,List.length_nil,Int.pow_zero]; show ((0:Int):Rat) / ((1:Int):Rat) = 0; rw [Rat.div_def,show ((0:Int):Rat) = 0 from rfl,Rat.zero_mul]
  | d :: ds=>by
    have ih:=tv_fv hb ds
    have h1:=rat_ne (show 0 < b by omega)
    have h2:=rat_ne (show 0 < b ^ ds.length from Int.pow_pos (by omega))
    rw [tv_cons,fv,<- ih,List.length_cons,Int.pow_succ]
    unfold qd
    rw [Rat.intCast_add,Rat.intCast_mul,Rat.intCast_mul]
    grind
noncomputable def ix (p:List Int) (f:Int):Int:=(p.idxOf f:Int)
noncomputable def dgs (b n:Int):List Int:=(digs b.toNat n.toNat).map fun (k:Nat)=>(k:Int)
theorem nv_dgsN {b:Nat} (hb : 2 <= b):∀ n:Nat,nv (b:Int) ((digs b n).map fun (k:Nat)=>(k:Int)) = n:=by
  intro n
  induction n using Nat.strongRecOn with
  | _ n ih =>
    by_cases h : 0 < n
    · rw [digs_pos hb h,List.map_cons,nv,ih (n / b) (Nat.div_lt_self h (by omega))]
      have:=Nat.mod_add_div n b
      exact_mod_cast this
    · have:n = 0:=by omega
      subst this
      rw [digs_zero]; rfl
theorem nv_dgs {b n:Int} (hb : 2 <= b) (hn : 0 <= n):nv b (dgs b n) = n:=by
  have:=nv_dgsN (b:=b.toNat) (by omega) n.toNat
  rw [Int.toNat_of_nonneg (by omega),Int.toNat_of_nonneg hn] at this
  exact this
theorem fig_dgs {b:Int} (hb : 2 <= b) (n:Int):Fig b (dgs b n):=by
  intro d m
  obtain ⟨k,mk,rfl⟩:=List.mem_map.mp m
  have:=digs_lt (b:=b.toNat) (by omega) _ k mk
  omega
theorem tv_snoc (b:Int) (ds:List Int) (d:Int):tv b (ds ++ [d]) = tv b ds * b + d:=by simp [tv]
theorem tv_rev (b:Int):∀ xs:List Int,tv b xs.reverse = nv b xs
  | []=>rfl
  | x :: xs=>by rw [List.reverse_cons,tv_snoc,tv_rev b xs,nv]; grind
theorem len_digs {b:Nat} (hb : 2 <= b):∀ (k n:Nat),n < b ^ k -> (digs b n).length <= k
  | k,n,h=>by
    by_cases hn : 0 < n
    · cases k with
      | zero=>simp at h; omega
      | succ k =>
        rw [digs_pos hb hn,List.length_cons]
        have:n / b < b ^ k:=by rw [Nat.div_lt_iff_lt_mul (by omega)]; rw [Nat.pow_succ] at h; exact h
        have:=len_digs hb k (n / b) this
        omega
    · have:n = 0:=by omega
      subst this
      rw [digs_zero]; simp
theorem len_dgs {b n:Int} {k:Nat} (hb : 2 <= b) (hn : 0 <= n) (h:n < b ^ k):(dgs b n).length <= k:=by
  unfold dgs
  rw [List.length_map]
  refine len_digs (by omega) k _ ?_
  have:((n.toNat:Nat):Int) < ((b.toNat ^ k:Nat):Int):=by
    rw [Int.toNat_of_nonneg hn,Int.natCast_pow,Int.toNat_of_nonneg (by omega)]; exact h
  exact_mod_cast this
noncomputable def pad (b c:Int) (k:Nat):List Int:=dgs b c ++ List.replicate (k - (dgs b c).length) 0
theorem pad_len {b c:Int} {k:Nat} (hb : 2 <= b) (hc : 0 <= c) (h:c < b ^ k):(pad b c k).length = k:=by
  have:=len_dgs hb hc h
  simp [pad]; omega
theorem pad_fig {b c:Int} {k:Nat} (hb : 2 <= b):Fig b (pad b c k):=by
  intro d m
  rcases List.mem_append.mp m with m | m
  · exact fig_dgs hb c d m
  · rw [(List.mem_replicate.mp m).2]; omega
theorem dgs_0 (b:Int):dgs b 0 = []:=by unfold dgs; rw [show (0:Int).toNat = 0 from rfl,digs_zero]; rfl
theorem dgs_pos {b n:Int} (hb : 2 <= b) (hn : 0 < n):dgs b n = (n % b) :: dgs b (n / b):=by
  unfold dgs
  rw [digs_pos (show 2 <= b.toNat by omega) (show 0 < n.toNat by omega),List.map_cons]
  have m1:=mod_int2 (b:=b) (n:=n) (by omega) (by omega)
  have m2:=div_int (b:=b) (n:=n) (by omega) (by omega)
  rw [m1,m2,Int.toNat_natCast]
theorem pow_b16 {b n k:Int} (h2 : 2 <= b) (h16:b <= 16) (h0 : 0 <= n) (hk:k <= 1000) (h:n < b ^ k.toNat):n.toNat < 2 ^ 4000:=by
  have h1:b ^ k.toNat <= 16 ^ k.toNat:=pow_mono (by omega) h16 _
  have h3:(16:Int) ^ k.toNat <= 16 ^ 1000:=pow_le_pow (by decide) (by omega)
  have h4:(16:Int) ^ 1000 = 2 ^ 4000:=by rw [show (16:Int) = 2 ^ 4 by decide,<- Int.pow_mul]
  have h5:n < 2 ^ 4000:=by rw [<- h4]; exact Int.lt_of_lt_of_le h (Int.le_trans h1 h3)
  have:((n.toNat:Nat):Int) < ((2 ^ 4000:Nat):Int):=by rw [Int.toNat_of_nonneg h0]; exact_mod_cast h5
  exact_mod_cast this
theorem pow_b16z {b:Int} {k:Nat} (h2 : 2 <= b) (h16:b <= 16) (hk:k <= 1000):(b ^ k).natAbs < 2 ^ 8000:=by
  have h1:b ^ k <= 16 ^ k:=pow_mono (by omega) h16 _
  have h3:(16:Int) ^ k <= 16 ^ 1000:=pow_le_pow (by decide) (by omega)
  have h4:(16:Int) ^ 1000 = 2 ^ 4000:=by rw [show (16:Int) = 2 ^ 4 by decide,<- Int.pow_mul]
  have h5:b ^ k <= 2 ^ 4000:=by rw [<- h4]; exact Int.le_trans h1 h3
  have h0 : 0 < b ^ k:=Int.pow_pos (by omega)
  have h6:(b ^ k).natAbs <= 2 ^ 4000:=by
    have:((b ^ k).natAbs:Int) <= ((2 ^ 4000:Nat):Int):=by rw [Int.natAbs_of_nonneg (by omega)]; exact_mod_cast h5
    exact_mod_cast this
  exact Nat.lt_of_le_of_lt h6 (Nat.pow_lt_pow_right (by decide) (by decide))
noncomputable def Fx (b:Int) (N:Nat) (q:Rat):Prop:=∃ (T:Int) (k:Nat),q = qd T (b ^ k) /\ 0 <= T /\ T < b ^ k /\ b ^ k < 2 ^ N
theorem qd_mm {a b c d:Int} (hb : 0 < b) (hd : 0 < d):qd a b * qd c d = qd (a * c) (b * d):=by
  have h1:=rat_ne hb
  have h2:=rat_ne hd
  unfold qd
  rw [Rat.intCast_mul,Rat.intCast_mul]
  grind
end L2.VL

namespace L2.VL
open PySem PySem.Spec PyProof.Rows
theorem eqv_fr (a b:Rat):PyData.eqv (fr a) (fr b) = decide (a = b):=by
  unfold fr
  simp only [PyData.eqv,PyData.eqvAll]
  by_cases h:a = b
  · subst h; simp [PyData.eqv]
  · have:¬ (a.num = b.num /\ a.den = b.den):=fun z=>h (Rat.ext z.1 z.2)
    simp only [h,decide_false,Bool.and_true,PyData.eqv]
    rw [Bool.and_eq_false_iff]
    by_cases h1:a.num = b.num
    · right
      have:a.den ≠ b.den:=fun z=>this ⟨h1,z⟩
      simp; omega
    · left; simpa using h1
noncomputable def q9:Rat:=⟨999999999998,999999999999,by decide,by decide⟩
end L2.VL

namespace L2.VL
open PySem PySem.Spec PyProof.Rows
end L2.VL

namespace L2.VL
open PySem PySem.Spec PyProof.Rows
end L2.VL
namespace L2.VL
open PySem PySem.Spec PyProof.Rows
theorem cut_len (xs:List PyData) (l u:Option Int):(cutD xs l u).length <= xs.length:=by
  unfold cutD
  rw [List.length_take,List.length_drop]
  omega
end L2.VL

namespace L2.VL
open PySem PySem.Spec PyProof.Rows
end L2.VL

namespace L2
open PySem PySem.Spec PyProof.Rows
section
variable {X:Cx} {kx vx tg iter:Expr} {ifs:List Expr} {scope:Scope} {pos:Pos} {wi:TI} {g:CompA -> TG} {tt:CompA -> TT} {tk te:CompA -> TE}
end
end L2

namespace L2
open PySem PySem.Spec PyProof.Rows
section
variable {prog:Program} {w:World} {A:Around} {E:Value -> Shared -> Prop}
end
end L2

namespace L2
open PySem PySem.Spec PyProof.Rows
section
variable {X:Cx}
end
end L2
namespace L2.VL
open PySem PySem.Spec PyProof.Rows
section
variable {K:W.Frag} {F:Hp} {us:List (Key × V)} {kvs:List (Key × PyData)}
end
section
variable {X:Cx} {rl:RlT} {kx vx tg iter:Expr} {ifs:List Expr} {scope:Scope} {pos:Pos} {fi:En -> (List PyData -> Prop) -> Prop} {g:TGv} {ft:TB} {fk fe:TV}
end
section
variable {α:Type} {b:PyData -> Mo (Option (Key × PyData))}
end
section
variable {X:Cx} {rl:RlT} {a c e o i:Expr} {es:List Expr} {fa fb:TV} {fs:TVs} {pos p kpos:Pos} {ρ:En}
end
end L2.VL

namespace L2
open PySem PySem.Spec PyProof.Rows
end L2
namespace L2.VL
open PySem PySem.Spec PyProof.Rows
section
variable {X:Cx} {rl:RlT} {tg:Expr} {fa:TV} {ρ:En}
end
end L2.VL

namespace L2
open PySem PySem.Spec PyProof.Rows
variable {X:Cx}
end L2
namespace L2.VL
open PySem PySem.Spec PyProof.Rows
section
variable {X:Cx} {rl:RlT} {a e:Expr} {es:List Expr} {fs:TVs} {pos:Pos}
end
end L2.VL

namespace L2.VL
open PySem PySem.Spec PyProof.Rows
end L2.VL

namespace L2
open PySem PySem.Spec PyProof.Rows
section
variable {X:Cx}
theorem ints_at {ns:List Int} {its:List Value} (r:Vals (ns.map V.int) its) {i:Nat} {v:Value} (e:its[i]? = some v):∃ t,v = .int (ns.getD i 0) t:=by
  have hl:=r.length
  rw [List.length_map] at hl
  have hi:i < ns.length:=by have:=(List.getElem?_eq_some_iff.mp e).1; omega
  have hb:(ns.map V.int)[i]? = some (.int ns[i]):=by simp [hi]
  obtain ⟨u,hu,ru⟩:=r.get hb
  rw [e] at hu
  cases hu
  have:ns.getD i 0 = ns[i]:=by simp [List.getD,hi]
  rw [this]
  exact ru
theorem preSum_eq (ns:List Int):preSum (fun i=>ns.getD i 0) ns.length = ns.sum:=by
  have key:∀ k,k <= ns.length -> preSum (fun i=>ns.getD i 0) k = (ns.take k).sum:=by
    intro k
    induction k with
    | zero=>intro _; rfl
    | succ k ih =>
      intro hk
      have hk':k < ns.length:=by omega
      show preSum _ k + ns.getD k 0 = _
      rw [ih (by omega),List.take_succ_eq_append_getElem hk',List.sum_append]
      simp [List.getD,hk']
  rw [key _ (Nat.le_refl _),List.take_of_length_le (Nat.le_refl _)]
theorem call_sumI (hc:X.calm = true):CallR X (.builtin "sum") (fun xs H Q=>∃ (p:Addr) (ns:List Int),xs = [.ref p] /\ SqL X.K H p (ns.map V.int) /\ Q (.int ns.sum) H):=by
  intro pins s σ H xs us Q I r ⟨p,ns,ex,hq,q⟩
  subst ex
  obtain ⟨u,rfl,ru⟩:=vals1 r
  cases ru
  obtain ⟨its,rv,pl,hz⟩:=I.list hq
  have hl:=rv.length
  rw [List.length_map] at hl
  refine call_sum_walkG (wpAny_pyIter_list pl.isList ?_)
  have ne:p ≠ s.heap.objs.size:=by obtain ⟨o,ho,_⟩:=pl.isList; exact Nat.ne_of_lt (Heap.lt_size ho)
  refine ⟨s.heap.objs.size,_,_,_,_,_,fun i=>ns.getD i 0,rfl,Walks.list (A:=X.A.in1) (I.ok.hd hc) s.heap.objs.size p ne its.toArray,⟨⟨_,Heap.get?_push_size _ rfl,rfl,rfl⟩,pl.isList.push _⟩,?_,?_,?_⟩
  · intro b hb
    have hb:b = s.heap.objs.size \/ b = p:=by simpa using hb
    show b < (Heap.push _ _).objs.size
    rw [Heap.size_push]
    rcases hb with rfl | rfl
    · exact Nat.lt_succ_self _
    · obtain ⟨o,ho,_⟩:=pl.isList; exact Nat.lt_succ_of_lt (Heap.lt_size ho)
  · intro i v hP
    exact ints_at rv (by simpa using hP)
  · intro h' tk t' k
    have e:preSum (fun i=>ns.getD i 0) its.toArray.size = ns.sum:=by rw [List.size_toArray,<- hl]; exact preSum_eq ns
    rw [e]
    exact ⟨.int _,H,I.kept (t':=tk) fun b o eb=>k b o (by simp; exact Nat.ne_of_lt (Heap.lt_size eb)) (Heap.get?_push_of_some _ eb),⟨t',rfl⟩,q⟩
end
end L2
namespace L2.VL
open PySem PySem.Spec PyProof.Rows
section
variable {X:Cx} {rl:RlT} {a:Expr} {fs:TVs} {pos p:Pos}
noncomputable def gSum:List W -> (W -> Prop) -> Prop:=fun ws Q=>∃ (w:W) (ns:List Int),ws = [w] /\ w.dat = some (.list (ns.map .int)) /\ Q (.d (.int ns.sum))
theorem vc_sum:VCall X rl (fun xs H Q=>∃ (p:Addr) (ns:List Int),xs = [.ref p] /\ SqL X.K H p (ns.map V.int) /\ Q (.int ns.sum) H) gSum:=fun {F H vs ws} Qd Q s ra r ⟨w,ns,ew,ed,q⟩ k=>by
  subst ew
  obtain ⟨v,rfl,r1⟩:=rel1 r
  obtain ⟨a,us,rfl,sq,rs⟩:=r1.items s ed
  have e:=reps_int rs
  subst e
  exact ⟨a,ns,rfl,sq,k _ (.d _) _ _ (Grow.refl s ra) (.int _) trivial q⟩
theorem v_sum (hm:X.mg "sum" = none) (ha:PVs X rl [a] fs) (hc:X.calm = true:=by rfl) (hg:Gl X "sum" := by rfl) (he:starEach [a] X.env = (false,eval a X.env) :: starEach [] X.env:=by rfl) (hpl:(backTo pos (starEach [] X.env)).any (·.1) = false:=by rfl) :
    PV X rl (.Call (.Name "sum" p) [a] [] pos) (vCall gSum fs):=v_callB (call_sumI hc) vc_sum hm (by rfl) ha hg (by decide) (by decide) he hpl
noncomputable def intsO:PyData -> Option (List Int)
  | .list xs=>intsD xs
  | _=>none
theorem intsO_of {d:PyData} {ns:List Int}:intsO d = some ns ↔ d = .list (ns.map .int):=by
  constructor
  · intro h
    cases d with
    | list xs=>rw [intsD_of h]
    | _=>cases h
  · rintro rfl; exact intsD_map _
theorem m_gSum (w:W):gSum [w] = optM (w.dat.bind intsO) fun ns=>ret (.d (.int ns.sum)):=by
  refine mo_ext fun Q=>?_
  rw [opt_iff]
  constructor
  · rintro ⟨w',ns,e,ed,q⟩
    cases e
    exact ⟨ns,by rw [ed]; exact intsD_map ns,q⟩
  · rintro ⟨ns,e,q⟩
    cases ed:w.dat with
    | none=>rw [ed] at e; cases e
    | some d =>
      rw [ed] at e
      exact ⟨w,ns,rfl,by rw [ed,intsO_of.mp e],q⟩
theorem intsO_l (ns:List Int):intsO (.list (ns.map .int)) = some ns:=intsD_map ns
noncomputable def BSM:=And.intro @m_gSum (@intsO_l)
end
end L2.VL

namespace L2.VL
open PySem PySem.Spec PyProof.Rows
theorem Reps.put {K:W.Frag} {F:Hp} {vs:List V} {ds:List PyData} {v:V} {d:PyData} (k:Nat) (r:Reps K F vs ds) (h:Rep K F v d):Reps K F (vs.set k v) (ds.set k d):=by
  induction vs generalizing ds k with
  | nil=>cases r; exact .nil
  | cons x vs ih =>
    cases r with
    | cons r1 r2 =>
      cases k with
      | zero=>exact .cons h r2
      | succ k=>exact .cons r1 (ih k r2)
noncomputable def vLput (i:Nat) (fx fv:TV):TSv:=fun D ρ=>fv ρ fun w=>∃ d,w.fz = .d d /\ ∃ xs,ρ[i]? = some (some (.ml xs)) /\ fx ρ fun wx=>∃ k:Int,wx = .d (.int k) /\ 0 <= k /\ k < (xs.length:Int) /\ D.nx (ρ.set i (some (.ml (xs.set k.toNat d))))
section
variable {X:Cx} {rl:RlT} {ei e:Expr} {fx fv:TV} {pos p1 pos':Pos} {ρ:En}
theorem s_lput (i:Nat):mS (vLput i fx fv) ρ = bnd (fv ρ) fun w=>optM (asD w.fz) fun d=>optM (slM ρ i) fun xs=>bnd (fx ρ) fun wx=>optM (asI wx) fun k=>grd (0 <= k /\ k < (xs.length:Int)) (ret (.nx (ρ.set i (some (.ml (xs.set k.toNat d)))))):=by
  refine mo_ext fun Q=>?_
  simp only [mS,vLput,bnd,opt_iff,slM_of,asD_of,asI_of,grd,ret,and_assoc]
end
end L2.VL

namespace L2.VL
open PySem PySem.Spec PyProof.Rows
section
variable {X:Cx} {al:Option Addr} {c1 c2:Nat} {ei e:Expr} {fx fv:TV} {pos p1 pos':Pos} {ρ:En}
theorem cs_lput (i:Nat) {x:Str} (hx:CV X al c2 ei fx) (hv:CV X al c1 e fv) (hN:X.N[i]? = some x:=by rfl) (hvis:Vis X.env.scope x:=by first | exact Or.inl rfl | exact Or.inr (Or.inl rfl) | exact Or.inr (Or.inr rfl))
    (hd:(x == ("__debug__" : Str)) = false:=by decide) (hcd:(x == ("__classdict__" : Str)) = false:=by decide)
    (ha:∀ v,assign (.Subscript (.Name x p1) ei pos') X.env v = (do
      let ov <- holding [v] (eval (.Name x p1) X.env)
      let iv <- holding [v,ov] (eval ei X.env)
      standAt pos'
      holding [v,ov,iv] (setItem ov iv v)
      release [v,ov,iv] []):=by intro _; rfl)
    (hs:swapsWithSole [.Subscript (.Name x p1) ei pos'] e pos.line X.env = pure false:=by rfl) (hw:swappedStores [.Subscript (.Name x p1) ei pos'] e X.env = pure none:=by rfl)
    (h1:(assignEach [.Subscript (.Name x p1) ei pos'] X.env).map (·.2) = [assign (.Subscript (.Name x p1) ei pos') X.env]:=by rfl) :
    CS X al (c1 + c2) (.Assign [.Subscript (.Name x p1) ei pos'] e pos) (vLput i fx fv):=by
  obtain ⟨tv,pv,kv⟩:=hv
  obtain ⟨tx,px,kx⟩:=hx
  refine ⟨_,ps_asg pv (pg_sub (pe_var hN hvis hd hcd) px set_list ha) hs hw h1,fun {b F₀ H₀ F H σ ρ} R Dv D ok q=>kv (b:=b + c2) (R.pay (by omega)) _ _ q fun v w F1 H1 g1 r1 n1 ⟨d,ed,xs,e1,q1⟩=>?_⟩
  obtain ⟨F2,g2,s2,r2⟩:=RelW.fz g1 r1 n1
  rw [ed] at r2
  have R1:=R.gr g2
  obtain ⟨u,h1',h2,h3⟩:=R1.sl i _ e1
  obtain ⟨a,vs,rfl,f,hr,hh,rs⟩:=(show OwnL X.K ⟨al,b + c2⟩ F2 H1 u xs from h2)
  refine ⟨.ref a,h1',kx (b:=b) R1 _ _ q1 fun y wy F3 H3 g3 r3 n3 ⟨k,ek,k0,k1,q3⟩=>?_⟩
  subst ek
  have ey:=rep_int r3
  subst ey
  have R3:=R1.gr g3
  have vl:vs.length = xs.length:=rs.length
  refine ⟨a,vs,k,k.toNat,rfl,rfl,g3.same a _ hh hr,?_,ok.nx _ _ _ _ (g2.fs.trans g3.fs) (R3.own e1 h1' (Reps.put k.toNat (rs.mono g3.fs) (Rep.mono g3.fs r2))) q3⟩
  obtain ⟨n,rfl⟩:=Int.eq_ofNat_of_zero_le k0
  unfold ixN
  simp
  omega
end
end L2.VL

namespace L2.VL
open PySem PySem.Spec PyProof.Rows
section
variable {X:Cx} {rl:RlT} {iter:Expr} {scope:Scope} {fi:En -> (List PyData -> Prop) -> Prop} {xk xl xh f:Str} {ps:List Str} {k:Nat} {Pd:List W -> (PyData -> Prop) -> Prop} {pk p1 p2 p3 p4 p5 p6 p7 p8 p9 p10 ap pc rp:Pos}
end
end L2.VL

namespace L2.VL
open PySem PySem.Spec PyProof.Rows
section
variable {X:Cx} {al:Option Addr} {c1 c2:Nat} {iter:Expr} {scope:Scope} {fi:En -> (List PyData -> Prop) -> Prop} {xk xl xh f:Str} {ps:List Str} {k:Nat} {Pd:List W -> (PyData -> Prop) -> Prop} {pk p1 p2 p3 p4 p5 p6 p7 p8 p9 p10 ap pc rp:Pos}
end
end L2.VL

namespace L2.VL
open PySem PySem.Spec PyProof.Rows
section
variable {X:Cx} {rl:RlT} {e:Expr} {fa:TV} {pos dpos q1 q2 q3 q4 q5 q6 q7 q8:Pos} {ρ:En} {j1 j2 j3 j4 j5 j6 j7 j8:Nat} {a1 a2 a3 a4 x1 x2 x3 x4:Int}
noncomputable def vDisp4 (ps:List (Int × Int)) (fa:TV):TV:=fun ρ Q=>fa ρ fun w=>∃ k,w = .d (.int k) /\ ∃ v,ps.lookup k = some v /\ Q (.d (.int v))
theorem valV_ints (ps:List (Int × Int)) (k:Int):valV (ps.map fun p=>((Sum.inl p.1:Key),V.int p.2)) (Sum.inl k) = (ps.lookup k).map V.int:=by
  induction ps with
  | nil=>rfl
  | cons p ps ih =>
    unfold valV at ih ⊢
    rw [List.map_cons,List.find?_cons,List.lookup_cons]
    by_cases h:p.1 = k
    · simp [h]
    · have h1:(k == p.1) = false:=by simpa using fun z=>h z.symm
      have h2:decide ((Sum.inl p.1:Key) = Sum.inl k) = false:=by simpa using h
      rw [h1]
      simp only [h2,Bool.false_eq_true,if_false]
      exact ih
theorem v_disp4 (hr:Room 0 X.A) (hd:a1 ≠ a2 /\ a1 ≠ a3 /\ a1 ≠ a4 /\ a2 ≠ a3 /\ a2 ≠ a4 /\ a3 ≠ a4) (h:PV X rl e fa) (hs:NoSl e:=by exact fun _ _=>rfl) :
    PV X rl (.Subscript (.Dict [some (.Constant (.int a1) j1 q1),some (.Constant (.int a2) j2 q2),some (.Constant (.int a3) j3 q3),some (.Constant (.int a4) j4 q4)] [.Constant (.int x1) j5 q5,.Constant (.int x2) j6 q6,.Constant (.int x3) j7 q7,.Constant (.int x4) j8 q8] dpos) e pos) (vDisp4 [(a1,x1),(a2,x2),(a3,x3),(a4,x4)] fa):=by
  obtain ⟨t,p,k⟩:=h
  obtain ⟨d12,d13,d14,d23,d24,d34⟩:=hd
  refine ⟨_,pe_dget (hu_of hr) (pe_disp (pps_cons pe_int pe_int (pps_cons pe_int pe_int (pps_cons pe_int pe_int (pps_cons pe_int pe_int pps_nil)))) rfl rfl (by intro z; cases z) (by show 4 <= 15; decide)) p hs,fun {F₀ H₀ F H σ ρ} R Qd Q q h=>?_⟩
  intro d hd
  refine ⟨upd_same,[(Sum.inl a1,.int x1),(Sum.inl a2,.int x2),(Sum.inl a3,.int x3),(Sum.inl a4,.int x4)],rfl,(by show 4 <= 15; decide),?_⟩
  have em:mergeK [] [((Sum.inl a1:Key),V.int x1),(Sum.inl a2,.int x2),(Sum.inl a3,.int x3),(Sum.inl a4,.int x4)] = [(Sum.inl a1,.int x1),(Sum.inl a2,.int x2),(Sum.inl a3,.int x3),(Sum.inl a4,.int x4)]:=by
    unfold mergeK
    simp only [List.foldl_cons,List.foldl_nil]
    have p0:putK ([]:List (Key × V)) (Sum.inl a1) (V.int x1) = [(Sum.inl a1,V.int x1)]:=rfl
    rw [p0]
    unfold putK
    simp [d12,d13,d14,d23,d24,d34]
  rw [em,upd_upd]
  have g0:Grow rl F H F (upd H d (.dK [(Sum.inl a1,.int x1),(Sum.inl a2,.int x2),(Sum.inl a3,.int x3),(Sum.inl a4,.int x4)])):=Grow.laid R.sub R.reel hd
  refine k (R.grow g0) _ _ q fun v w F1 H1 g1 r1 n1 ⟨kk,ew,vv,lk,q1⟩=>?_
  subst ew
  have ev:=rep_int r1
  subst ev
  have rd:rl.a ≠ some d:=fun z=>by obtain ⟨o,zz⟩:=R.reel.live z; rw [hd] at zz; cases zz
  have hD:H1 d = some (.dK [(Sum.inl a1,.int x1),(Sum.inl a2,.int x2),(Sum.inl a3,.int x3),(Sum.inl a4,.int x4)]):=g1.same d _ upd_same rd
  have gd:=DGet.k (k:=(Sum.inl kk:Key)) hD
  have:valV [((Sum.inl a1:Key),V.int x1),(Sum.inl a2,.int x2),(Sum.inl a3,.int x3),(Sum.inl a4,.int x4)] (Sum.inl kk) = some (.int vv):=by
    have z:=valV_ints [(a1,x1),(a2,x2),(a3,x3),(a4,x4)] kk
    rw [lk] at z
    exact z
  rw [this] at gd
  exact ⟨d,.int vv,rfl,gd,h _ (.d (.int vv)) _ _ (g0.trans g1) (.int vv) trivial q1⟩
theorem m_vDisp4 (ps:List (Int × Int)):vDisp4 ps fa ρ = bnd (fa ρ) fun w=>optM (asI w) fun k=>optM (ps.lookup k) fun v=>ret (.d (.int v)):=by
  refine mo_ext fun Q=>?_
  simp only [vDisp4,bnd,opt_iff,asI_of,ret]
end
end L2.VL

namespace L2.TI
open PySem PySem.Spec PyProof.Rows
section
variable {prog:Program} {w:World} {A:Around} {E:Value -> Shared -> Prop} {s:Shared} {t:Addr} {vs:List Value} {ns:List Int} {k:Int} {tok:Tok} {j:Nat}
theorem ints_at:∀ {vs:List Value} {ns:List Int} {i:Nat} {n:Int},IntsAre vs ns -> ns[i]? = some n -> ∃ u,vs[i]? = some (.int n u)
  | _,_,_,_,.nil,e=>by simp at e
  | _,_,0,_,.cons n t r,e=>by simp at e; subst e; exact ⟨t,rfl⟩
  | _,_,i + 1,_,.cons n t r,e=>by
    obtain ⟨u,h⟩:=ints_at (i:=i) r (by simpa using e)
    exact ⟨u,by simpa using h⟩
theorem scan {Q:Option Fin × Unit -> Shared -> Prop} (hI:IntsAre vs ns) (hj:ns[j]? = some k) (hno:∀ m,m < j -> ns[m]? ≠ some k) (q:Q (some (.done (.ret (.int j s.toks))),()) { s with toks:=s.toks + 1 }) :
    ∀ len start:Nat,start <= j -> j < start + len -> wpAny (model prog w) A (forIn (List.range' start len) ((none,()):Option Fin × Unit) fun (i:Nat) (_:Option Fin × Unit) =>
      match vs.toArray[i]? with
      | some y=>do
        let b <- eqBool y (Value.int k tok)
        if b = true then do
          let r <- retInt (i:Int)
          pure (ForInStep.done (some r,()))
        else pure (ForInStep.yield (none,()))
      | _=>pure (ForInStep.yield (none,()))) Q E s
  | 0,start,h1,h2=>by omega
  | len + 1,start,h1,h2=>by
    rw [List.range'_succ,List.forIn_cons]
    have hl:start < ns.length:=by have:=(List.getElem?_eq_some_iff.mp hj).1; omega
    obtain ⟨u,hu⟩:=ints_at (i:=start) (n:=ns[start]) hI (List.getElem?_eq_getElem hl)
    have hv:vs.toArray[start]? = some (.int ns[start] u):=by simpa using hu
    refine wpAny_bind ?_
    rw [hv]
    refine wpAny_bind (wpAny_eqBool_int ?_)
    by_cases e:ns[start] = k
    · have es:start = j:=by
        rcases Nat.lt_or_eq_of_le h1 with z | z
        · exact absurd (by rw [List.getElem?_eq_getElem hl,e]) (hno start z)
        · exact z
      subst es
      rw [if_pos (by simpa using e)]
      exact wpAny_bind (wpAny_bind (wpAny_mkInt (wpAny_pure (wpAny_pure (wpAny_pure q)))))
    · rw [if_neg (by simpa using e)]
      refine wpAny_pure ?_
      have ne:start ≠ j:=fun z=>by subst z; rw [List.getElem?_eq_getElem hl] at hj; exact e (Option.some.inj hj)
      exact scan hI hj hno q len (start + 1) (by omega) (by omega)
theorem body {R:Result -> Shared -> Prop} (tp:IsTup s.heap t vs.toArray) (hI:IntsAre vs ns) (hj:ns[j]? = some k) (hno:∀ m,m < j -> ns[m]? ≠ some k)
    (q:R (.ok (.ret (.int j s.toks))) { s with toks:=s.toks + 1 }) :
    wpAny (model prog w) A.in1 (Builtin.«tuple.index» ⟨[.ref t,.int k tok],[]⟩) (fun fin s'=>match fin with | .done f=>R (.ok f) s' | .again c'=>c'.quiet = true /\ codeAny (model prog w) A c' R s') (fun e s'=>R (.error e) s') s:=by
  unfold Builtin.«tuple.index»
  show wpAny _ _ (do let z <- Builtin.Tuple.tupleItemsOf (.ref t); _) _ _ s
  refine wpAny_bind (tupleItemsOf_ tp ?_)
  refine wpAny_bind (wpAny_pure (wpAny_bind (wpAny_pure ?_)))
  dsimp only
  rw [Std.Legacy.Range.forIn_eq_forIn_range']
  have hl:j < vs.toArray.size:=by
    have h1:=(List.getElem?_eq_some_iff.mp hj).1
    have h2:=hI.length
    simp only [List.size_toArray]
    omega
  refine wpAny_bind (scan hI hj hno ?_ _ 0 (Nat.zero_le _) ?_)
  · exact wpAny_pure q
  · show j < 0 + Std.Legacy.Range.size _
    simp [Std.Legacy.Range.size]
    simpa using hl
end
end L2.TI
namespace L2
open PySem PySem.Spec PyProof.Rows
section
variable {X:Cx}
end
end L2

namespace L2.VL
open PySem PySem.Spec PyProof.Rows
section
variable {X:Cx} {rl:RlT} {a b c o e:Expr} {es:List Expr} {fa fb:TV} {fs:TVs} {pos p apos cpos:Pos} {ρ:En}
end
end L2.VL

namespace L2.RT
open PySem PySem.Spec PyProof.Rows
theorem owner_r:Manifest.owners.lookup (String.ofList ['d','e','s','r','e','v','e','r'].reverse) = some Manifest.sig_reversed:=by kernel_rfl
theorem slot_next:Slot "reversed" "__next__" "reversed.__next__" :=
  .of (owner := "reversed") (n := "__next__") (by rw [typeLookup_type,builtinLookup_eq_fast]; kernel_rfl) (by decide +kernel) (by decide +kernel) (by decide +kernel)
    (by first | exact .inl (by decide +kernel) | exact .inr (by decide +kernel)) (by rw [isSubtype_type]; kernel_rfl)
theorem entry_next:entryFor table "reversed.__next__" = some Builtin.«reversed.__next__»:=entryFor_of_tree (by kernel_rfl)
theorem args_next (a:Value):argsOk "reversed.__next__" ⟨[a],[]⟩:=by
  unfold argsOk; rw [signature?_of (id := "reversed.__next__") (n:=['_','_','t','x','e','n','_','_']) (o:=['d','e','s','r','e','v','e','r']) (by kernel_rfl) owner_r]; kernel_rfl
theorem slot_iter:Slot "reversed" "__iter__" "reversed.__iter__" :=
  .of (owner := "reversed") (n := "__iter__") (by rw [typeLookup_type,builtinLookup_eq_fast]; kernel_rfl) (by decide +kernel) (by decide +kernel) (by decide +kernel)
    (by first | exact .inl (by decide +kernel) | exact .inr (by decide +kernel)) (by rw [isSubtype_type]; kernel_rfl)
theorem args_iter (a:Value):argsOk "reversed.__iter__" ⟨[a],[]⟩:=by
  unfold argsOk; rw [signature?_of (id := "reversed.__iter__") (n:=['_','_','r','e','t','i','_','_']) (o:=['d','e','s','r','e','v','e','r']) (by kernel_rfl) owner_r]; kernel_rfl
theorem entry_iter:entryFor table "reversed.__iter__" = some Builtin.«dict_keyiterator.__iter__» :=
  entryFor_alias (id' := "dict_keyiterator.__iter__") (by kernel_rfl) (by first | rfl | decide +kernel | (unfold String.splitOn; simp +decide [String.splitOnAux])) (by decide +kernel) (by kernel_rfl)
theorem slot_init:Slot "reversed" "__init__" "object.__init__" :=
  .of (owner := "object") (n := "__init__") (by rw [typeLookup_type,builtinLookup_eq_fast]; kernel_rfl) (by decide +kernel) (by decide +kernel) (by decide +kernel)
    (by first | exact .inl (by decide +kernel) | exact .inr (by decide +kernel)) (by rw [isSubtype_type]; kernel_rfl)
theorem called:TypeCalled "reversed" "reversed.__new__" "object.__init__" :=
  ⟨by decide +kernel,by decide +kernel,⟨_,_,F.mro_reversed⟩,F.made_reversed,by decide +kernel,by rw [isSubtype_type]; kernel_rfl,slot_init⟩
theorem tuple_rev:typeLookup (.type "tuple") "__reversed__" = pure none:=by rw [typeLookup_type,builtinLookup_eq_fast]; kernel_rfl
theorem tuple_dict:isSubtype (.type "tuple") (.type "dict") = pure false:=by rw [isSubtype_type]; kernel_rfl
noncomputable def rObj (a:Addr) (i:Int):Obj:={ cls:=.type "reversed", data:=.fields #[.ref a,rawInt i] }
noncomputable def IsRv (h:Heap) (r a:Addr) (i:Int):Prop:=∃ o,h.get? r = some o /\ o.cls = .type "reversed" /\ o.data = .fields #[.ref a,rawInt i]
section
variable {prog:Program} {w:World} {A:Around} {E:Value -> Shared -> Prop} {s:Shared}
theorem IsRv.typeIs {r a:Addr} {i:Int} (x:IsRv s.heap r a i):s.TypeIs (.ref r) "reversed" := let ⟨o,ho,hc,_⟩:=x; ⟨o,ho,hc⟩
theorem IsRv.at {h h':Heap} {r a:Addr} {i:Int} (x:IsRv h r a i) (e:∀ o,h.get? r = some o -> h'.get? r = some o):IsRv h' r a i:=let ⟨o,ho,z⟩:=x; ⟨o,e _ ho,z⟩
theorem new_meets (t:Addr) (xs:Array Value) (hz:(xs.size:Int) < 2 ^ 63) :
    Meets (Builtin.«reversed.__new__» ⟨[.type "reversed", .ref t],[]⟩) (fun _ R s=>IsTup s.heap t xs /\ ∀ tk,R (.ok (.ret (.ref s.heap.objs.size))) { s with heap:=s.heap.push (rObj t ((xs.size:Int) - 1)),toks:=tk }) :=
  .of_wp fun prog w A R s h=>by
    obtain ⟨ht,h⟩:=h
    unfold Builtin.«reversed.__new__»
    refine wpAny_bind (wpAny_of_eq (newClass_reversed _) ?_)
    try dsimp only
    refine wpAny_bind (wpAny_of_eq (a:=()) (by first | rfl | kernel_rfl) ?_)
    refine wpAny_bind (wpAny_of_eq (a:=()) (by first | rfl | kernel_rfl) ?_)
    try dsimp only
    refine wpAny_bind (wpAny_specialOf ht.typeIs tuple_rev ?_)
    try dsimp only
    refine wpAny_bind (wpAny_bind (wpAny_isInstance ht.typeIs tuple_dict ?_))
    refine wpAny_bind (wpAny_specialOf ht.typeIs F.slot_tuple_getitem.lookup ?_)
    try dsimp only
    rw [if_pos (by decide +kernel)]
    refine wpAny_pure ?_
    try dsimp only
    rw [if_neg (by decide)]
    refine wpAny_bind (len_tuple ht hz ?_)
    refine wpAny_bind (wpAny_of_eq (a:=some (xs.size:Int)) rfl ?_)
    try dsimp only
    show wpAny _ _ (newObj (.type "reversed") (.fields #[.ref t,rawInt ((xs.size:Int) - 1)]) >>= _) _ _ _
    refine wpAny_bind (wpAny_newObj_type ?_ (by size_fits))
    exact wpAny_pure ⟨_,rfl,h _⟩
theorem call_rev {t:Addr} {xs:Array Value} {Q:Value -> Shared -> Prop} (ht:IsTup s.heap t xs) (hz:(xs.size:Int) < 2 ^ 63)
    (h:∀ tk,Q (.ref s.heap.objs.size) { s with heap:=s.heap.push (rObj t ((xs.size:Int) - 1)),toks:=tk }):wpAny (model prog w) A (call (.type "reversed") [.ref t]) Q E s :=
  callType_new called (by decide) (F.typeCall_reversed_1 _) (F.newCall_reversed_1 _) (fun u=>F.args_object_init_2 u _) F.entry_reversed_new (new_meets t xs hz) ⟨ht,fun tk=>⟨⟨_,Heap.get?_push_size _ rfl,rfl⟩,h tk⟩⟩
theorem next_item {r t:Addr} {i:Nat} {xs:Array Value} {x:Value} {Q:Option Value -> Shared -> Prop} (hr:IsRv s.heap r t (i:Int)) (ht:IsTup s.heap t xs) (hx:xs[i]? = some x) (hz:(xs.size:Int) < 2 ^ 63)
    (hQ:∀ h' tk,IsRv h' r t ((i:Int) - 1) -> Heap.SameBut r s.heap h' -> Q (some x) { s with heap:=h',toks:=tk }):wpAny (model prog w) A (pyNext (.ref r)) Q E s:=by
  obtain ⟨o,ho,hc,hd⟩:=id hr
  have hi:i < xs.size:=(Array.getElem?_eq_some_iff.mp hx).1
  unfold pyNext
  refine wpAny_bind (wpAny_attempt (wpAny_callSpecial?_slot (name:=Str.ofString "__next__") hr.typeIs slot_next
    (wpAny_call_entry slot_next hr.typeIs entry_next ?_ (args_next _))))
  unfold Builtin.«reversed.__next__»
  refine wpAny_bind (wpAny_of_eq (a:=(Value.ref r,[])) rfl ?_)
  try dsimp only
  refine wpAny_bind (wpAny_field ho hd (x:=.ref t) rfl ?_)
  refine wpAny_bind (wpAny_field ho hd (x:=rawInt (i:Int)) rfl ?_)
  show wpAny _ _ (if (i:Int) < 0 then _ else _) _ _ s
  rw [if_neg (by omega)]
  refine wpAny_bind (wpAny_specialOf ht.typeIs F.slot_tuple_getitem.lookup ?_)
  rw [if_neg (by decide)]
  refine wpAny_bind (wpAny_mkInt ?_)
  refine wpAny_bind (wpAny_attempt (getItem_tuple (s:={ s with toks:=s.toks + 1 }) ht (by omega) (by omega) (seqIndex_of (by omega) (by omega)) (x:=x) (by rw [Int.toNat_natCast]; exact hx) ?_))
  try dsimp only
  refine wpAny_bind (wpAny_field (s:={ s with toks:=s.toks + 1 }) ho hd (x:=rawInt (i:Int)) rfl ?_)
  show wpAny _ _ (setField (.ref r) 1 (rawInt ((i:Int) - 1)) >>= _) _ _ _
  refine wpAny_bind (wpAny_setField (s:={ s with toks:=s.toks + 1 }) ho hd (by simp) ?_)
  refine wpAny_pure ⟨x,rfl,wpAny_pure (hQ _ _ ?_ (Heap.SameBut.update ..))⟩
  exact ⟨_,Heap.get?_update_self _ ho (Obj.isFreed_of_fields (Obj.data_mapFields hd _)),(Obj.cls_mapFields ..).trans hc,by
    rw [Obj.data_mapFields hd]; simp⟩
theorem next_end {r t:Addr} {Q:Option Value -> Shared -> Prop} (hh:A.handled = none) (hr:IsRv s.heap r t (-1))
    (hQ:∀ h',Heap.ExtBut r s.heap h' -> Q none { s with heap:=h' }):wpAny (model prog w) A (pyNext (.ref r)) Q E s:=by
  obtain ⟨o,ho,hc,hd⟩:=id hr
  unfold pyNext
  refine wpAny_bind (wpAny_attempt (wpAny_callSpecial?_slot (name:=Str.ofString "__next__") hr.typeIs slot_next
    (wpAny_call_entry slot_next hr.typeIs entry_next ?_ (args_next _))))
  unfold Builtin.«reversed.__next__»
  refine wpAny_bind (wpAny_of_eq (a:=(Value.ref r,[])) rfl ?_)
  try dsimp only
  refine wpAny_bind (wpAny_field ho hd (x:=.ref t) rfl ?_)
  refine wpAny_bind (wpAny_field ho hd (x:=rawInt (-1)) rfl ?_)
  show wpAny _ _ (if (-1:Int) < 0 then _ else _) _ _ s
  rw [if_pos (by decide)]
  refine wpAny_bind (wpAny_rule ?_)
  refine wpAny_bind (wpAny_bind (wpAny_setField ho hd (by simp) ?_))
  have ho2:=Heap.get?_update_self (Obj.mapFields (·.setIfInBounds 1 (rawInt (-1)))) ho (Obj.isFreed_of_fields (Obj.data_mapFields hd _))
  refine wpAny_setField (s:={ s with heap:=s.heap.update r (Obj.mapFields (·.setIfInBounds 1 (rawInt (-1)))) }) ho2 (Obj.data_mapFields hd _) (by simp) ?_
  have eb:Heap.ExtBut r s.heap ((s.heap.update r (Obj.mapFields (·.setIfInBounds 1 (rawInt (-1))))).update r (Obj.mapFields (·.setIfInBounds 0 Value.none))):=fun b o hb e=>(Heap.SameBut.update ..).extBut b o hb ((Heap.SameBut.update ..).extBut b o hb e)
  generalize ((s.heap.update r (Obj.mapFields (·.setIfInBounds 1 (rawInt (-1))))).update r (Obj.mapFields (·.setIfInBounds 0 Value.none))) = g at eb ⊢
  first
  | show wpAny _ _ (newExc (.type "StopIteration") [] >>= _) _ _ _
  | (refine wpAny_bind ?_; show wpAny _ _ (newExc (.type "StopIteration") [] >>= _) _ _ _)
  refine wpAny_bind ?_
  simp only [newExc,newTuple]
  refine wpAny_bind (wpAny_newObj_type ?_ (by size_fits))
  refine wpAny_bind (m:=firstArgMember _ _) (wpAny_of_eq (a:=Value.none) (by first | rfl | (simp only [firstArgMember]; rfl)) ?_)
  refine wpAny_newObj_type ?_ (by size_fits)
  simp only [raiseNew]
  refine wpAny_bind (wpAny_handled ?_)
  first | rw [show A.in1.handled = none from hh] | rw [hh]
  refine wpAny_bind (wpAny_pure (wpAny_throw ?_))
  refine wpAny_bind (wpAny_isInstance (T := "StopIteration") (b:=true) ⟨_,Heap.get?_push_size _ rfl,rfl⟩ isSubtype_stop ?_)
  exact wpAny_pure (hQ _ ((eb.push _).push _))
theorem iter_self {r t:Addr} {i:Int} {Q:Value -> Shared -> Prop} (hr:IsRv s.heap r t i) (h:Q (.ref r) s):wpAny (model prog w) A (pyIter (.ref r)) Q E s:=by
  refine wpAny_pyIter_slot hr.typeIs slot_iter (wpAny_call_entry slot_iter hr.typeIs entry_iter ?_ (args_iter _))
  show wpAny _ _ (ret (.ref r)) _ _ s
  exact wpAny_pure ⟨_,rfl, "reversed", _,hr.typeIs,slot_next.lookup,h⟩
end
end L2.RT
namespace L2
open PySem PySem.Spec PyProof.Rows
noncomputable def Itw (K:W.Frag) (a:Addr) (n:Nat):It :=
  ⟨fun i H=>i < n /\ ∃ xs,SqT K H a xs /\ xs.length = n,fun i H x H'=>H' = H /\ ∀ xs,SqT K H a xs -> xs[n - 1 - i]? = some x,fun i H=>n <= i⟩
theorem turn_revT {P:Program} {w:World} {K:W.Frag} {tg:Expr} (a it:Addr) (n:Nat):Turn P w K tg (Itw K a n) [it] it (fun i h=>RT.IsRv h it a ((n:Int) - 1 - (min i n:Nat))) where
  mem:=by simp
  obj:=fun i h st b hb=>by
    have e:b = it:=by simpa using hb
    subst e
    obtain ⟨o,e,c,d⟩:=st
    exact ⟨o,e,fun v z=>by rw [d] at z; cases z⟩
  keep:=fun i h h' st k=>st.at fun o e=>k it (by simp) o e
  item:=by
    intro X hP hw hK hc i pins s σ H E I hf st hg
    subst hP hw hK
    obtain ⟨hi,xs,hq,hl⟩:=hg
    obtain ⟨its,rv,p,hz⟩:=I.tuple hq
    have hx:xs[n - 1 - i]? = some xs[n - 1 - i]:=List.getElem?_eq_getElem (by omega)
    obtain ⟨u,hu,ru⟩:=rv.get hx
    obtain ⟨f0,f1,f2,f3,f4,f5⟩:=hf it (by simp)
    have e1:(n:Int) - 1 - (min i n:Nat) = ((n - 1 - i:Nat):Int):=by omega
    rw [e1] at st
    have hl2:=rv.length
    have sz:=PySem.sizeLine_eq
    refine RT.next_item st p (x:=u) (by simpa using hu) (by rw [List.size_toArray]; omega) fun h' tk st' sb=>?_
    have I1:Inv X pins σ H { s with heap:=h',toks:=tk }:=I.turned (t':=tk) (fun b o hb e=>(sb.2 b hb).trans e) f0 f1 f3 f4 f5
    have e2:((n - 1 - i:Nat):Int) - 1 = (n:Int) - 1 - (min (i + 1) n:Nat):=by omega
    rw [e2] at st'
    obtain ⟨o,e,c,d⟩:=id st'
    exact ⟨u,rfl,go_of (s:={ s with heap:=h',toks:=tk }) e c d (by decide) ⟨_,H,I1,ru,⟨rfl,fun ys hy=>by rw [I.tuple_inj hy hq]; exact hx⟩,st',fun b hb=>(hf b hb).1⟩⟩
  done:=by
    intro X hP hw hK hc i pins s σ H E I hf st hg
    subst hP hw hK
    have hg:n <= i:=hg
    obtain ⟨f0,f1,f2,f3,f4,f5⟩:=hf it (by simp)
    have e1:(n:Int) - 1 - (min i n:Nat) = -1:=by omega
    rw [e1] at st
    exact RT.next_end (I.ok.hd hc) st fun h' eb=>⟨rfl,I.turned (t':=s.toks) (fun b o hb e=>eb b o hb e) f0 f1 f3 f4 f5⟩
  self:=fun _ _ _ _ _ st h=>RT.iter_self st h
section
variable {X:Cx} {tg e:Expr} {ta te:TE} {p p2 pos:Pos}
noncomputable def iRevT (K:W.Frag) (t:TA):TI:=fun σ H R=>t σ H fun vs H1=>∃ a xs,vs = [.ref a] /\ SqT K H1 a xs /\ R (Itw K a xs.length) H1
theorem pi_revT {a:Expr} {ta:TA} (hg:Gl X "reversed") (hm:X.mg "reversed" = none) (ha:PA X [a] ta) (hs:starEach [a] X.env = [(false,eval a X.env)]:=by rfl):PI X tg (.Call (.Name "reversed" p) [a] [] pos) (iRevT X.K ta):=by
  intro pins s σ H R I h
  refine Call_ (ld_blt I hg hm (by rfl) (PyProof.Rows.callWith_type1 (thn (ha pos pins s σ H _ I h) fun us s1 ⟨vs,H1,I1,r1,q1⟩=>?_) hs rfl) (by decide) (by decide))
  obtain ⟨a,xs,e,hq,q⟩:=q1
  subst e
  cases r1 with
  | cons r rr =>
    cases rr
    cases r
    obtain ⟨its,rv,p,hz⟩:=I1.tuple hq
    have hl:=rv.length
    have sz:=PySem.sizeLine_eq
    refine RT.call_rev p (by rw [List.size_toArray]; omega) fun tk=>?_
    refine RT.iter_self (r:=s1.heap.objs.size) (t:=a) (i:=(xs.length:Int) - 1) ⟨_,Heap.get?_push_size _ rfl,rfl,by simp [hl,RT.rObj]⟩ ?_
    refine ⟨s1.heap.objs.size,[s1.heap.objs.size],_,_,H1,rfl,I1.kept (t':=tk) fun b o e=>Heap.get?_push_of_some _ e,turn_revT a _ xs.length,?_,fun b hb=>?_,q⟩
    · exact ⟨_,Heap.get?_push_size _ rfl,rfl,by simp [hl,RT.rObj]⟩
    · have e:b = s1.heap.objs.size:=by simpa using hb
      subst e
      exact I1.fpOk (Nat.le_refl _) (I1.hok.fresh (Nat.le_refl _))
end
end L2
namespace L2.VL
open PySem PySem.Spec PyProof.Rows
section
variable {X:Cx} {rl:RlT} {a b c e tg:Expr} {es:List Expr} {fa fb fc:TV} {fs:TVs} {pos pos2 p p2 q:Pos}
noncomputable def iRvT (fs:TVs):En -> (List PyData -> Prop) -> Prop:=fun ρ Q=>fs ρ fun ws=>∃ xs,ws = [.d (.tuple xs)] /\ Q xs.reverse
theorem vi_reversedT (hm:X.mg "reversed" = none) (ha:PVs X rl [a] fs) (hg:Gl X "reversed" := by rfl) (hs:starEach [a] X.env = [(false,eval a X.env)]:=by rfl):PIV X rl tg (.Call (.Name "reversed" p) [a] [] pos) (iRvT fs):=by
  obtain ⟨t,p1,k⟩:=ha
  refine ⟨_,pi_revT hg hm p1 hs,fun R Qd Q q h=>k R _ _ q fun vs ws F1 H1 g1 r1 ⟨xs,ew,q1⟩=>?_⟩
  subst ew
  obtain ⟨v,rfl,rv⟩:=rel1 r1
  have rv:Rep X.K F1 v (.tuple xs):=rv
  obtain ⟨a,vs,rfl,sq0,rs⟩:∃ a vs,v = .ref a /\ (∀ H,Same F1 H -> SqT X.K H a vs) /\ Reps X.K F1 vs xs:=by
    cases rv with
    | @tup a vs _ sq rs=>exact ⟨a,vs,rfl,fun H s=>sameT s sq,rs⟩
  have sqH:∀ H,Same F1 H -> SqT X.K H a vs:=fun H s=>sq0 H s
  have hl:=rs.length
  refine ⟨a,vs,rfl,sqH H1 g1.sub,h _ xs.reverse F1 H1 g1 (.of (fun i H x e s=>⟨?_,vs,sqH H s,rfl⟩) (fun i H hl' s=>?_) (fun i H v H' x e s y=>?_)) q1⟩
  · have:=(List.getElem?_eq_some_iff.mp e).1
    rw [List.length_reverse] at this
    omega
  · show vs.length <= i
    rw [List.length_reverse] at hl'
    omega
  · obtain ⟨e',hy⟩:=y
    obtain ⟨v',ev,rv'⟩:=rs.rev.get e
    have h1:=hy vs (sqH H s)
    have hi:i < vs.length:=by
      have:=(List.getElem?_eq_some_iff.mp ev).1
      simpa using this
    rw [List.getElem?_reverse hi,h1] at ev
    cases ev
    exact ⟨e',rv'⟩
noncomputable def oneT:List W -> Option (List PyData)
  | [.d (.tuple xs)]=>some xs
  | _=>none
theorem oneT_of {ws:List W} {xs:List PyData}:oneT ws = some xs ↔ ws = [.d (.tuple xs)]:=by
  constructor
  · intro h
    unfold oneT at h
    split at h
    · cases h; rfl
    · cases h
  · rintro rfl; rfl
theorem m_iRvT {ρ:En}:iRvT fs ρ = bnd (fs ρ) fun ws=>optM (oneT ws) fun xs=>ret xs.reverse:=by
  show (bnd (fs ρ) fun ws=>fun (Q:List PyData -> Prop)=>∃ xs,ws = [.d (.tuple xs)] /\ Q xs.reverse) = _
  congr 1; funext ws
  refine mo_ext fun Q=>?_
  simp only [opt_iff,oneT_of,ret]
end
end L2.VL

namespace L2
open PySem PySem.Spec PyProof.Rows
open L2.ZP
section
variable {X:Cx} {e1 e2:Expr} {elts:List Expr} {kt:Nat} {pt p pos:Pos} {ta:TA}
end
end L2
namespace L2.VL
open PySem PySem.Spec PyProof.Rows
section
variable {X:Cx} {rl:RlT} {a b:Expr} {elts:List Expr} {kt:Nat} {pt p pos:Pos} {fs:TVs}
end
end L2.VL

namespace L2
open PySem PySem.Spec PyProof.Rows
abbrev lc2 (elt t1 i1:Expr) (f1:List Expr) (t2 i2:Expr) (f2:List Expr) (scope:Scope) (pos:Pos):Expr:=.ListComp elt [⟨t1,i1,f1,0⟩,⟨t2,i2,f2,0⟩] scope pos
theorem turn2_0 (elt t1 i1:Expr) (f1:List Expr) (t2 i2:Expr) (f2:List Expr) (scope:Scope) (pos:Pos) (it acc:Value) (env:Env) :
    compTurn (lc2 elt t1 i1 f1 t2 i2 f2 scope pos) 0 it acc env = (standAt i1.pos >>= fun _=>pyNext it >>= fun r=>match r with
      | none=>pure (.done .next)
      | some v=>letOwnedTupleGo t1 it v >>= fun _=>assign t1 env v >>= fun _=>testsOf f1 env >>= fun ok=>(if ok = true then
          (eval i2 env >>= fun x=>standAt i2.pos >>= fun _=>foldedSetIterable i2 env x >>= fun x=>holding [x] (pyIter x) >>= fun y=>runOwn (.compStart (lc2 elt t1 i1 f1 t2 i2 f2 scope pos) 1 y acc env) env >>= fun _=>again (.compLoop (lc2 elt t1 i1 f1 t2 i2 f2 scope pos) 0 it acc env))
          else again (.compLoop (lc2 elt t1 i1 f1 t2 i2 f2 scope pos) 0 it acc env))):=by rfl
theorem turn2_1 (elt t1 i1:Expr) (f1:List Expr) (t2 i2:Expr) (f2:List Expr) (scope:Scope) (pos:Pos) (it acc:Value) (env:Env) :
    compTurn (lc2 elt t1 i1 f1 t2 i2 f2 scope pos) 1 it acc env = (standAt i2.pos >>= fun _=>pyNext it >>= fun r=>match r with
      | none=>pure (.done .next)
      | some v=>letOwnedTupleGo t2 it v >>= fun _=>assign t2 env v >>= fun _=>testsOf f2 env >>= fun ok=>(if ok = true then
          ((eval elt env >>= fun x=>call (.builtin "list.append") [acc,x] >>= fun _=>pure ()) >>= fun _=>again (.compLoop (lc2 elt t1 i1 f1 t2 i2 f2 scope pos) 1 it acc env))
          else again (.compLoop (lc2 elt t1 i1 f1 t2 i2 f2 scope pos) 1 it acc env))):=by rfl
section
variable {prog:Program} {w:World} {A:Around} {R:Result -> Shared -> Prop} {s:Shared} {elt t1 i1 t2 i2:Expr} {f1 f2:List Expr} {scope:Scope} {pos:Pos} {it acc:Value} {env:Env}
theorem loop2_0 (I:Nat -> Shared -> Prop) (hs:∀ x,foldedSetIterable i2 env x = pure x)
    (turn:∀ n s,I n s -> wpAny (model prog w) A (pyNext it) (fun r s₁=>(r = none /\ R (.ok .next) s₁) \/ ∃ v,r = some v /\
      wpAny (model prog w) A (letOwnedTupleGo t1 it v) (fun _ s₂=>wpAny (model prog w) A (assign t1 env v) (fun _ s₃=>wpAny (model prog w) A (testsOf f1 env) (fun ok s₄ =>
        if ok = true then wpAny (model prog w) A (eval i2 env) (fun x s₅=>wpAny (model prog w) A (pyIter x) (fun y s₆=>codeAny (model prog w) A (.compStart (lc2 elt t1 i1 f1 t2 i2 f2 scope pos) 1 y acc env) (fun r s₇=>r = .ok .next /\ ∃ m,m < n /\ I m s₇) s₆) (fun _ _=>False) s₅) (fun _ _=>False) s₄
        else ∃ m,m < n /\ I m s₄) (fun _ _=>False) s₃) (fun _ _=>False) s₂) (fun _ _=>False) s₁) (fun _ _=>False) s)
    (n:Nat) (h:I n s):codeAny (model prog w) A (.compLoop (lc2 elt t1 i1 f1 t2 i2 f2 scope pos) 0 it acc env) R s:=by
  refine codeAny_loop rfl I (fun n s hI=>?_) n h
  show wpAny _ A ((compTurn (lc2 elt t1 i1 f1 t2 i2 f2 scope pos) 0 it acc env).onRaise (fun x=>do noteFrame x env; theTreesLotGoes x)) _ _ s
  refine wpAny_noted ?_
  rw [turn2_0]
  refine wpAny_bind (wpAny_standAt (wpAny_bind (wpAny_mono (turn n s hI) (fun r s₁ h₁=>?_) fun _ _ h'=>h'.elim)))
  rcases h₁ with ⟨rfl,h₁⟩ | ⟨v,rfl,h₁⟩
  · exact wpAny_pure h₁
  · refine wpAny_bind (wpAny_mono h₁ (fun _ s₂ h₂=>wpAny_bind (wpAny_mono h₂ (fun _ s₃ h₃=>wpAny_bind (wpAny_mono h₃ (fun ok s₄ h₄=>?_) fun _ _ z=>z.elim)) fun _ _ z=>z.elim)) fun _ _ z=>z.elim)
    cases ok with
    | false=>exact wpAny_pure ⟨rfl,h₄⟩
    | true =>
      refine wpAny_bind (wpAny_mono h₄ (fun x s₅ h₅=>wpAny_bind (wpAny_standAt (wpAny_bind (wpAny_of_eq (hs x) (wpAny_bind (wpAny_holding (wpAny_mono h₅ (fun y s₆ h₆=>?_) fun _ _ z=>z.elim))))))) fun _ _ z=>z.elim)
      refine wpAny_bind (wpAny_runOwn (codeAny_mono h₆ fun r s₇ ⟨hr,h₇⟩=>?_))
      subst hr
      exact wpAny_pure ⟨rfl,h₇⟩
theorem loop2_1 (I:Nat -> Shared -> Prop)
    (turn:∀ n s,I n s -> wpAny (model prog w) A (pyNext it) (fun r s₁=>(r = none /\ R (.ok .next) s₁) \/ ∃ v,r = some v /\
      wpAny (model prog w) A (letOwnedTupleGo t2 it v) (fun _ s₂=>wpAny (model prog w) A (assign t2 env v) (fun _ s₃=>wpAny (model prog w) A (testsOf f2 env) (fun ok s₄ =>
        if ok = true then wpAny (model prog w) A (eval elt env) (fun x s₅=>wpAny (model prog w) A (call (.builtin "list.append") [acc,x]) (fun _ s₆=>∃ m,m < n /\ I m s₆) (fun _ _=>False) s₅) (fun _ _=>False) s₄
        else ∃ m,m < n /\ I m s₄) (fun _ _=>False) s₃) (fun _ _=>False) s₂) (fun _ _=>False) s₁) (fun _ _=>False) s)
    (n:Nat) (h:I n s):codeAny (model prog w) A (.compLoop (lc2 elt t1 i1 f1 t2 i2 f2 scope pos) 1 it acc env) R s:=by
  refine codeAny_loop rfl I (fun n s hI=>?_) n h
  show wpAny _ A ((compTurn (lc2 elt t1 i1 f1 t2 i2 f2 scope pos) 1 it acc env).onRaise (fun x=>do noteFrame x env; theTreesLotGoes x)) _ _ s
  refine wpAny_noted ?_
  rw [turn2_1]
  refine wpAny_bind (wpAny_standAt (wpAny_bind (wpAny_mono (turn n s hI) (fun r s₁ h₁=>?_) fun _ _ h'=>h'.elim)))
  rcases h₁ with ⟨rfl,h₁⟩ | ⟨v,rfl,h₁⟩
  · exact wpAny_pure h₁
  · refine wpAny_bind (wpAny_mono h₁ (fun _ s₂ h₂=>wpAny_bind (wpAny_mono h₂ (fun _ s₃ h₃=>wpAny_bind (wpAny_mono h₃ (fun ok s₄ h₄=>?_) fun _ _ z=>z.elim)) fun _ _ z=>z.elim)) fun _ _ z=>z.elim)
    cases ok with
    | false=>exact wpAny_pure ⟨rfl,h₄⟩
    | true=>exact wpAny_bind (wpAny_bind (wpAny_mono h₄ (fun x s₅ h₅=>wpAny_bind (wpAny_mono h₅ (fun _ s₆ h₆=>wpAny_pure (wpAny_pure ⟨rfl,h₆⟩)) fun _ _ z=>z.elim)) fun _ _ z=>z.elim))
theorem start2_1
    (h0:codeAny (model prog w) A (.compLoop (lc2 elt t1 i1 f1 t2 i2 f2 scope pos) 1 it acc env) R s)
    (h:wpAny (model prog w) A (pyIter it) (fun it' s'=>codeAny (model prog w) A (.compLoop (lc2 elt t1 i1 f1 t2 i2 f2 scope pos) 1 it' acc env) R s') (notedBy (model prog w) A env fun x s'=>R (.error x) s') s) :
    codeAny (model prog w) A (.compStart (lc2 elt t1 i1 f1 t2 i2 f2 scope pos) 1 it acc env) R s:=by
  refine codeAny_of_tree ?_
  show wpAny _ _ ((compStart (lc2 elt t1 i1 f1 t2 i2 f2 scope pos) 1 it acc env).onRaise (fun x=>do noteFrame x env; standAt theWindowsPlace)) _ _ s
  refine wpAny_notedAt ?_
  unfold compStart
  show wpAny _ _ (ask >>= _) _ _ s
  refine wpAny_bind (wpAny_askSetting (wpAny_ite ?_))
  split
  · first
      | exact wpAny_bind (wpAny_pure (wpAny_pure (And.intro rfl h0)))
      | exact wpAny_pure (And.intro rfl h0)
  · first
      | exact wpAny_bind (wpAny_rule (wpAny_bind (wpAny_standAt (wpAny_bind (wpAny_mono h (fun it' s' h'=>wpAny_pure (And.intro rfl h')) fun _ _ x=>x)))))
      | (refine wpAny_bind (wpAny_rule ?_); show wpAny _ _ (standAt i2.pos >>= _) _ _ s; exact wpAny_bind (wpAny_standAt (wpAny_bind (wpAny_mono h (fun it' s' h'=>wpAny_pure (And.intro rfl h')) fun _ _ x=>x))))
end
noncomputable def tIn (wi:TI) (g:TG) (tt:TT) (te:TE) (D:Addr) (acc:List V) (σ:St) (H:Hp) (R:List V -> St -> Hp -> Prop):Prop:=wi σ H fun J H1=>∃ Wv:Nat -> Nat -> List V -> St -> Hp -> Prop,(∃ m,Wv 0 m acc σ H1) /\
  ∀ i m acc σc H,Wv i m acc σc H -> (J.stop i H /\ R acc σc H) \/ (J.go i H /\ ∀ x H',J.yld i H x H' -> g x σc H' fun σ2 H2=>tt σ2 H2 fun b H3 =>
    if b = true then te σ2 H3 fun y H4=>H4 D = some (.lst acc) /\ acc.length < sizeLine /\ ∃ m',m' < m /\ Wv (i + 1) m' (acc ++ [y]) σ2 (upd H4 D (.lst (acc ++ [y]))) else ∃ m',m' < m /\ Wv (i + 1) m' acc σ2 H3)
section
variable {Y:Cx} {elt t1 i1 t2 i2:Expr} {f1 f2:List Expr} {scope:Scope} {pos:Pos} {wi:TI} {g:TG} {tt:TT} {te:TE} {D:Addr}
theorem inner2 (hc:Y.calm = true) (hx:Y.xe = fun _ _=>False) (hi:PI Y t2 i2 wi) (hg:PG Y t2 g) (ht:PTs Y f2 tt) (he:PE Y elt te) {pins:List (Addr × Obj)} {s:Shared} {σ:St} {H:Hp} {acc:List V} {R:List V -> St -> Hp -> Prop} {Rp:Shared -> Prop}
    (I:Inv Y pins σ H s) (q:tIn wi g tt te D acc σ H R) (fin:∀ acc σ5 H5 s5,Inv Y pins σ5 H5 s5 -> R acc σ5 H5 -> Rp s5) :
    wpAny (model Y.prog Y.w) Y.A (eval i2 Y.env) (fun x s₅=>wpAny (model Y.prog Y.w) Y.A (pyIter x) (fun y s₆=>codeAny (model Y.prog Y.w) Y.A (.compStart (lc2 elt t1 i1 f1 t2 i2 f2 scope pos) 1 y (.ref D) Y.env) (fun r s₇=>r = .ok .next /\ Rp s₇) s₆) (fun _ _=>False) s₅) (fun _ _=>False) s:=by
  have hi':=hi pins s σ H _ I q
  rw [hx] at hi'
  refine thn hi' fun v s1 h1=>thn h1 fun itv s2 h2=>?_
  obtain ⟨it,fp,tn,J,H2,e,I2,T,st2,f2',Wv,⟨m0,w0⟩,turn⟩:=h2
  subst e
  have stat:∀ {H':Hp},(∀ b ∈ fp,H' b = none) -> ∀ b ∈ fp,FpOk Y pins H' b:=fun hn b hb=>⟨hn b hb,(f2' b hb).2⟩
  have loop:codeAny (model Y.prog Y.w) Y.A (.compLoop (lc2 elt t1 i1 f1 t2 i2 f2 scope pos) 1 (.ref it) (.ref D) Y.env) (fun r s₇=>r = .ok .next /\ Rp s₇) s2:=by
    refine loop2_1 (fun n s'=>∃ i acc σ' H',Inv Y pins σ' H' s' /\ tn i s'.heap /\ (∀ b ∈ fp,H' b = none) /\ Wv i n acc σ' H') ?_ m0 ⟨0,acc,σ,H2,I2,st2,fun b hb=>(f2' b hb).1,w0⟩
    rintro n s4 ⟨i,acc,σ4,H4,I4,st4,fr4,w4⟩
    rcases turn i n acc σ4 H4 w4 with ⟨stop,qn⟩ | ⟨go,step⟩
    · exact thn (T.done Y rfl rfl rfl hc i pins s4 σ4 H4 (fun _ _=>False) I4 (stat fr4) st4 stop) fun r s5 ⟨hr,I5⟩=>.inl ⟨hr,rfl,fin acc σ4 H4 s5 I5 qn⟩
    · refine thn (T.item Y rfl rfl rfl hc i pins s4 σ4 H4 (fun _ _=>False) I4 (stat fr4) st4 go) fun r s5 ⟨u,hr,h5⟩=>.inr ⟨u,hr,?_⟩
      refine thn h5 fun _ s6 ⟨x,H6,I6,r6,y6,st6,fr6⟩=>?_
      have I6':=I6.pinned (stat fr6) (T.obj _ _ st6)
      have again:∀ {σ7:St} {H7:Hp} {s7:Shared},Inv Y (pins ++ pinsAt fp s6.heap) σ7 H7 s7 -> ∀ {acc':List V} {m':Nat},m' < n -> Wv (i + 1) m' acc' σ7 H7 ->
          ∃ m,m < n /\ ∃ i acc σ' H',Inv Y pins σ' H' s7 /\ tn i s7.heap /\ (∀ b ∈ fp,H' b = none) /\ Wv i m acc σ' H':=fun {σ7 H7 s7} I7 {acc' m'} hm w7=>by
        refine ⟨m',hm,i + 1,acc',σ7,H7,I7.unpinned,T.keep _ _ _ st6 fun b hb o e=>(I7.pin (b,o) (List.mem_append_right _ (List.mem_append_right _ (mem_pinsAt hb e)))).1,fun b hb=>?_,w7⟩
        obtain ⟨o,e,d⟩:=T.obj _ _ st6 b hb
        exact (I7.pin (b,o) (List.mem_append_right _ (List.mem_append_right _ (mem_pinsAt hb e)))).2.1
      have h7:=hg _ s6 σ4 H6 x u _ I6' r6 (step x H6 y6)
      rw [hx] at h7
      refine thn h7 fun _ s7 ⟨σ7,H7,I7,q7⟩=>?_
      have h8:=ht _ s7 σ7 H7 _ I7 q7
      rw [hx] at h8
      refine thn h8 fun ok s8 ⟨H8,I8,q8⟩=>?_
      cases ok with
      | false =>
        rw [if_neg Bool.false_ne_true] at q8 ⊢
        obtain ⟨m',hm,w8⟩:=q8
        exact again I8 hm w8
      | true =>
        rw [if_pos rfl] at q8 ⊢
        have h9:=he _ s8 σ7 H8 _ I8 q8
        rw [hx] at h9
        refine thn h9 fun y s9 ⟨yv,H9,I9,r9,eD,hl,m',hm,w9⟩=>?_
        have h10:=mt_append (X:=Y) _ s9 σ7 H9 (.ref D) [yv] (.ref D) [y] (fun _ H'=>H' = upd H9 D (.lst (acc ++ [yv]))) I9 rfl (.cons r9 .nil) ⟨D,acc,yv,rfl,rfl,eD,hl,rfl⟩
        rw [hx] at h10
        exact thn h10 fun _ s10 ⟨_,H10,I10,_,e10⟩=>by subst e10; exact again I10 hm w9
  exact start2_1 loop (T.self Y.A 0 _ _ _ st2 loop)
end
noncomputable def tComp2 (wi:TI) (fr:List (Option Nat)) (g:CompA -> TG) (tt:CompA -> TT) (wj:CompA -> TI) (g2:CompA -> TG) (tt2:CompA -> TT) (te:CompA -> TE):TE:=fun σ H Q=>wi σ H fun J H1=>∀ D,H1 D = none -> ∃ Wv:Nat -> Nat -> List V -> St -> Hp -> Prop,(∃ m,Wv 0 m [] (frIn fr σ) (upd H1 D (.lst []))) /\
  ∀ (z:CompA) i m acc σc H,Wv i m acc σc H -> (J.stop i H /\ Q (.ref D) H) \/ (J.go i H /\ ∀ x H',J.yld i H x H' -> g z x σc H' fun σ2 H2=>tt z σ2 H2 fun b H3 =>
    if b = true then tIn (wj z) (g2 z) (tt2 z) (te z) D acc σ2 H3 fun acc' σ5 H5=>∃ m',m' < m /\ Wv (i + 1) m' acc' σ5 H5 else ∃ m',m' < m /\ Wv (i + 1) m' acc σ2 H3)
section
variable {Y:Cx} {elt t1 i1 t2 i2:Expr} {f1 f2:List Expr} {scope:Scope} {pos:Pos} {wj:TI} {g g2:TG} {tt tt2:TT} {te:TE} {D:Addr}
theorem outer2 (hc:Y.calm = true) (hx:Y.xe = fun _ _=>False) (hg:PG Y t1 g) (ht:PTs Y f1 tt) (hj:PI Y t2 i2 wj) (hg2:PG Y t2 g2) (ht2:PTs Y f2 tt2) (he:PE Y elt te) (hs:∀ x,foldedSetIterable i2 Y.env x = pure x)
    {it:Addr} {fp:List Addr} {tn:Nat -> Heap -> Prop} {J:It} {Q:VK} (T:Turn Y.prog Y.w Y.K t1 J fp it tn) {s:Shared} {σ:St} {H:Hp} (I:Inv Y [] σ H s) (st0:tn 0 s.heap) (fp0:∀ b ∈ fp,H b = none) (stat:∀ {H':Hp},(∀ b ∈ fp,H' b = none) -> ∀ b ∈ fp,FpOk Y [] H' b)
    {Wv:Nat -> Nat -> List V -> St -> Hp -> Prop} {m0:Nat} (w0:Wv 0 m0 [] σ H)
    (turn:∀ i m acc σc H,Wv i m acc σc H -> (J.stop i H /\ Q (.ref D) H) \/ (J.go i H /\ ∀ x H',J.yld i H x H' -> g x σc H' fun σ2 H2=>tt σ2 H2 fun b H3 =>
      if b = true then tIn wj g2 tt2 te D acc σ2 H3 fun acc' σ5 H5=>∃ m',m' < m /\ Wv (i + 1) m' acc' σ5 H5 else ∃ m',m' < m /\ Wv (i + 1) m' acc σ2 H3)) :
    codeAny (model Y.prog Y.w) Y.A (.compStart (lc2 elt t1 i1 f1 t2 i2 f2 scope pos) 0 (.ref it) (.ref D) Y.env) (fun r s5=>r = .ok .next /\ ∃ σ5 H4,Inv Y [] σ5 H4 s5 /\ Q (.ref D) H4) s:=by
  have loop:codeAny (model Y.prog Y.w) Y.A (.compLoop (lc2 elt t1 i1 f1 t2 i2 f2 scope pos) 0 (.ref it) (.ref D) Y.env) (fun r s5=>r = .ok .next /\ ∃ σ5 H4,Inv Y [] σ5 H4 s5 /\ Q (.ref D) H4) s:=by
    refine loop2_0 (fun n s'=>∃ i acc σ' H',Inv Y [] σ' H' s' /\ tn i s'.heap /\ (∀ b ∈ fp,H' b = none) /\ Wv i n acc σ' H') hs ?_ m0 ⟨0,[],_,_,I,st0,fp0,w0⟩
    rintro n s4 ⟨i,acc,σ4,H4,I4,st4,fr4,w4⟩
    rcases turn i n acc σ4 H4 w4 with ⟨stop,qn⟩ | ⟨go,step⟩
    · exact thn (T.done Y rfl rfl rfl hc i [] s4 σ4 H4 (fun _ _=>False) I4 (stat fr4) st4 stop) fun r s5 ⟨hr,I5⟩=>.inl ⟨hr,rfl,σ4,H4,I5,qn⟩
    · refine thn (T.item Y rfl rfl rfl hc i [] s4 σ4 H4 (fun _ _=>False) I4 (stat fr4) st4 go) fun r s5 ⟨u,hr,h5⟩=>.inr ⟨u,hr,?_⟩
      refine thn h5 fun _ s6 ⟨x,H6,I6,r6,y6,st6,fr6⟩=>?_
      have I6':=I6.pinned (stat fr6) (T.obj _ _ st6)
      have again:∀ {σ7:St} {H7:Hp} {s7:Shared},Inv Y ([] ++ pinsAt fp s6.heap) σ7 H7 s7 -> ∀ {acc':List V} {m':Nat},m' < n -> Wv (i + 1) m' acc' σ7 H7 ->
          ∃ m,m < n /\ ∃ i acc σ' H',Inv Y [] σ' H' s7 /\ tn i s7.heap /\ (∀ b ∈ fp,H' b = none) /\ Wv i m acc σ' H':=fun {σ7 H7 s7} I7 {acc' m'} hm w7=>by
        refine ⟨m',hm,i + 1,acc',σ7,H7,I7.unpinned,T.keep _ _ _ st6 fun b hb o e=>(I7.pin (b,o) (List.mem_append_right _ (List.mem_append_right _ (mem_pinsAt hb e)))).1,fun b hb=>?_,w7⟩
        obtain ⟨o,e,d⟩:=T.obj _ _ st6 b hb
        exact (I7.pin (b,o) (List.mem_append_right _ (List.mem_append_right _ (mem_pinsAt hb e)))).2.1
      have h7:=hg _ s6 σ4 H6 x u _ I6' r6 (step x H6 y6)
      rw [hx] at h7
      refine thn h7 fun _ s7 ⟨σ7,H7,I7,q7⟩=>?_
      have h8:=ht _ s7 σ7 H7 _ I7 q7
      rw [hx] at h8
      refine thn h8 fun ok s8 ⟨H8,I8,q8⟩=>?_
      cases ok with
      | false =>
        rw [if_neg Bool.false_ne_true] at q8 ⊢
        obtain ⟨m',hm,w8⟩:=q8
        exact again I8 hm w8
      | true =>
        rw [if_pos rfl] at q8 ⊢
        exact inner2 hc hx hj hg2 ht2 he I8 q8 fun acc' σ9 H9 s9 I9 ⟨m',hm,w9⟩=>again I9 hm w9
  exact codeAny_compStart_list loop (T.self Y.A 0 _ _ _ st0 loop)
end
section
variable {X:Cx} {elt t1 i1 t2 i2:Expr} {f1 f2:List Expr} {scope:Scope} {pos:Pos} {wi:TI} {wj:CompA -> TI} {g g2:CompA -> TG} {tt tt2:CompA -> TT} {te:CompA -> TE}
theorem scOk.get {scope scX:Scope} (hsc:scOk scope scX = true):scope.kind = .function /\ (∀ y ∈ scope.names,y.2 = .cell -> scope.names.lookup y.1 = some .cell) /\ (∀ y ∈ scope.names,y.2 = .local -> scope.names.lookup y.1 = some .local) /\
    ∀ y ∈ scope.names,y.2 = .free -> scX.names.lookup y.1 = some .cell \/ scX.names.lookup y.1 = some .free:=by
  obtain ⟨sk,sn⟩:=Bool.and_eq_true_iff.mp hsc
  have hall:=List.all_eq_true.mp sn
  refine ⟨of_decide_eq_true sk,fun y hy hl=>?_,fun y hy hl=>?_,fun y hy hl=>?_⟩
  · rcases Bool.or_eq_true_iff.mp (Bool.and_eq_true_iff.mp (Bool.and_eq_true_iff.mp (hall y hy)).1).1 with z | z
    · exact absurd hl (of_decide_eq_true z)
    · exact of_decide_eq_true z
  · rcases Bool.or_eq_true_iff.mp (Bool.and_eq_true_iff.mp (Bool.and_eq_true_iff.mp (hall y hy)).1).2 with z | z
    · exact absurd hl (of_decide_eq_true z)
    · exact of_decide_eq_true z
  · rcases Bool.or_eq_true_iff.mp (Bool.and_eq_true_iff.mp (hall y hy)).2 with z | z
    · exact absurd hl (of_decide_eq_true z)
    · exact (Bool.or_eq_true_iff.mp z).imp of_decide_eq_true of_decide_eq_true
theorem pe_lcomp2 (N':List Str) (fr:List (Option Nat)) (hc:X.calm = true) (hi:PI X t1 i1 wi) (hfr:frOk fr N' X.N scope X.env.scope = true) (hsc:scOk scope X.env.scope = true)
    (hg:∀ y,PG (blk X N' scope y) t1 (g y)) (ht:∀ y,PTs (blk X N' scope y) f1 (tt y)) (hj:∀ y,PI (blk X N' scope y) t2 i2 (wj y)) (hg2:∀ y,PG (blk X N' scope y) t2 (g2 y)) (ht2:∀ y,PTs (blk X N' scope y) f2 (tt2 y)) (he:∀ y,PE (blk X N' scope y) elt (te y))
    (hs:∀ x,foldedSetIterable i1 X.env x = pure x:=by intro _; rfl) (hs2:∀ y x,foldedSetIterable i2 (blk X N' scope y).env x = pure x:=by intro _ _; rfl):PE X (lc2 elt t1 i1 f1 t2 i2 f2 scope pos) (tComp2 wi fr g tt wj g2 tt2 te):=by
  intro pins s σ H Q I h
  obtain ⟨hkind,hcell,hnames,hfree⟩:=scOk.get hsc
  obtain ⟨frl,frg⟩:=frOk.get hfr
  obtain ⟨cl,hclos,cl1,cl2⟩:=closure_for (env:=X.env) (scope:=scope) fun y hy hl=>I.ok.has y.1 (hfree y hy hl)
  rw [eval_ListComp]
  refine wpAny_comprehension_free (use:=none) rfl hs hclos hkind hnames (thn (hi pins s σ H _ I h) fun v s1 h1=>thn h1 fun itv s2 h2=>?_)
  obtain ⟨it,fp,tn,J,H2,e,I2,T,st2,f2,q2⟩:=h2
  subst e
  refine wpAny_newObj_type ?_
  have hD:H2 s2.heap.objs.size = none:=I2.hok.fresh (Nat.le_refl _)
  have I3:Inv X pins σ (upd H2 s2.heap.objs.size (.lst [])) { s2 with heap:=s2.heap.push { cls:=.type "list", data:=.seq ([]:List Value).toArray } } :=
    I2.laid (t':=s2.toks) (fun b u e=>Heap.get?_push_of_some _ e) (Nat.le_refl _) ⟨by show 0 <= sizeLine; exact Nat.zero_le _,[],0,.nil,Heap.get?_push_size _ rfl⟩
  obtain ⟨Wv,⟨m0,w0⟩,turn⟩:=q2 _ hD
  have tn3:tn 0 (s2.heap.push { cls:=.type "list", data:=.seq ([]:List Value).toArray }):=T.keep _ _ _ st2 fun b _ o e=>Heap.get?_push_of_some _ e
  have fpD:∀ b ∈ fp,(upd H2 s2.heap.objs.size (.lst [])) b = none:=fun b hb=>by
    obtain ⟨o,e,_⟩:=T.obj _ _ st2 b hb
    rw [upd_ne (Nat.ne_of_lt (Heap.lt_size e))]
    exact (f2 b hb).1
  have fp3:∀ b ∈ fp,b < (s2.heap.push { cls:=.type "list", data:=.seq ([]:List Value).toArray }).objs.size:=fun b hb=>by
    obtain ⟨o,e,_⟩:=T.obj _ _ tn3 b hb
    exact Heap.lt_size e
  exact comp_blockG N' fr hc hkind hcell hfree frl frg cl1 cl2 I3 T tn3 fpD fp3 (fun b hb=>(f2 b hb).2)
    (fun s' IY tY stat=>outer2 (Y:=blk X N' scope ⟨cl,fp,X.pn ++ pins,_,_⟩) hc rfl (hg ⟨cl,fp,X.pn ++ pins,_,_⟩) (ht ⟨cl,fp,X.pn ++ pins,_,_⟩) (hj ⟨cl,fp,X.pn ++ pins,_,_⟩) (hg2 ⟨cl,fp,X.pn ++ pins,_,_⟩) (ht2 ⟨cl,fp,X.pn ++ pins,_,_⟩) (he ⟨cl,fp,X.pn ++ pins,_,_⟩) (hs2 ⟨cl,fp,X.pn ++ pins,_,_⟩) T IY tY fpD stat w0 (turn ⟨cl,fp,X.pn ++ pins,_,_⟩))
    (Rp:=compPost (model X.prog X.w) X.A X.xe none (EP X pins σ Q) (.ref s2.heap.objs.size)) fun s5 H4 m hn k _ qn=>⟨m,hn,fun h' hs'=>⟨.ref _,H4,k h' hs',rfl,qn⟩⟩
end
end L2

namespace L2.VL
open PySem PySem.Spec PyProof.Rows
noncomputable def vGo2 (ρ0:En) (g:TGv) (ft:TB) (fj:En -> (List PyData -> Prop) -> Prop) (g2:TGv) (ft2:TB) (fe:TV):List PyData -> List PyData -> (List PyData -> Prop) -> Prop
  | [],acc,Q=>Q acc
  | x :: xs,acc,Q=>g x ρ0 fun ρ2=>Le ρ0 ρ2 /\ ft ρ2 fun b=>if b = true then fj ρ2 fun ys=>vGoR ρ2 g2 ft2 fe ys acc fun acc'=>vGo2 ρ0 g ft fj g2 ft2 fe xs acc' Q else vGo2 ρ0 g ft fj g2 ft2 fe xs acc Q
noncomputable def vComp2 (fi:En -> (List PyData -> Prop) -> Prop) (fr:List (Option Nat)) (g:TGv) (ft:TB) (fj:En -> (List PyData -> Prop) -> Prop) (g2:TGv) (ft2:TB) (fe:TV):TV:=fun ρ Q=>fi ρ fun xs=>vGo2 (frEn fr ρ) g ft fj g2 ft2 fe xs [] fun ds=>Q (.ml ds)
section
variable {X:Cx} {rl:RlT} {elt t1 i1 t2 i2:Expr} {f1 f2:List Expr} {scope:Scope} {pos:Pos} {fi fj:En -> (List PyData -> Prop) -> Prop} {g g2:TGv} {ft ft2:TB} {fe:TV}
theorem lcomp2_k {N':List Str} {wi:TI} (fr:List (Option Nat)) (k0:∀ {F₀ H₀ F H:Hp} {σ:St} {ρ:En},VR X.K rl F₀ H₀ F H σ ρ -> ∀ (Qd:List PyData -> Prop) (R:It -> Hp -> Prop),fi ρ Qd ->
      (∀ J xs F' H',Grow rl F H F' H' -> VIt X.K rl F' J xs -> Qd xs -> R J H') -> wi σ H R)
    (hg:∀ y,PGV (blk X N' scope y) rl t1 g) (ht:∀ y,PTVs (blk X N' scope y) rl f1 ft) (hj:∀ y,PIV (blk X N' scope y) rl t2 i2 fj) (hg2:∀ y,PGV (blk X N' scope y) rl t2 g2) (ht2:∀ y,PTVs (blk X N' scope y) rl f2 ft2) (he:∀ y,PV (blk X N' scope y) rl elt fe)
    {F₀ H₀ F H:Hp} {σ:St} {ρ:En} (R:VR X.K rl F₀ H₀ F H σ ρ) (Qd:W -> Prop) (Q:VK) (q:vComp2 fi fr g ft fj g2 ft2 fe ρ Qd)
    (k:∀ v w F' H',Grow rl F H F' H' -> RelW X.K rl F' H' v w -> NewIn H v w -> Qd w -> Q v H') :
    tComp2 wi fr (fun y=>Classical.choose (hg y)) (fun y=>Classical.choose (ht y)) (fun y=>Classical.choose (hj y)) (fun y=>Classical.choose (hg2 y)) (fun y=>Classical.choose (ht2 y)) (fun y=>Classical.choose (he y)) σ H Q:=by
  refine k0 R _ _ q fun J xs F1 H1 g1 vi q1=>?_
  intro D hD
  have rD:rl.a ≠ some D:=fun e=>by obtain ⟨o,z⟩:=g1.reel.live e; rw [hD] at z; cases z
  have FD:F1 D = none:=g1.sub.free hD
  have gD:Grow rl F1 H1 F1 (upd H1 D (.lst [])):=Grow.laid g1.sub g1.reel hD
  have R1:=R.grow g1
  have n0:NoMl (frEn fr ρ):=noMl_block
  have keepD:∀ {acc:List V} {Fc Hc Fx Hx:Hp},Hc D = some (.lst acc) -> Fc D = none -> Grow rl Fc Hc Fx Hx -> Hx D = some (.lst acc) /\ Fx D = none:=fun hDc fDc gx=>⟨gx.same D _ hDc rD,by rw [gx.old D _ hDc]; exact fDc⟩
  refine ⟨fun i m acc σc Hc=>m = xs.length - i /\ i <= xs.length /\ ∃ Fc ds,VR X.K rl F1 H1 Fc Hc σc (frEn fr ρ) /\ Hc D = some (.lst acc) /\ Fc D = none /\ Reps X.K Fc acc ds /\ vGo2 (frEn fr ρ) g ft fj g2 ft2 fe (xs.drop i) ds (fun ds=>Qd (.ml ds)),
    ⟨xs.length,by simp,Nat.zero_le _,F1,[],vr_block R1 gD,upd_same,FD,.nil,by simpa using q1⟩,?_⟩
  rintro z i m acc σc Hc ⟨rfl,hi,Fc,ds,Rc,hDc,fDc,rs,q2⟩
  have sH:Same F1 Hc:=Rc.g.fs.trans Rc.sub
  by_cases hlt:i < xs.length
  · have ei:xs[i]? = some xs[i]:=by simp [hlt]
    have ed:xs.drop i = xs[i] :: xs.drop (i + 1):=List.drop_eq_getElem_cons hlt
    rw [ed] at q2
    refine .inr ⟨vi.go i Hc _ ei sH,fun v H' y=>?_⟩
    obtain ⟨Fy,gy,rv⟩:=vi.yld i Hc v H' _ Fc ei Rc.g.fs Rc.sub Rc.reel y
    refine (Classical.choose_spec (hg z)).2 (Rc.grow gy) v _ _ _ rv q2 fun F3 H3 σ3 ρ3 g3 n3 R3 ⟨le3,q3⟩=>?_
    refine (Classical.choose_spec (ht z)).2 R3 _ _ q3 fun b F4 H4 g4 q4=>?_
    have R4:=R3.grow g4
    have g34:=(gy.trans g3).trans g4
    have nm3:NoMl ρ3:=n3 n0
    cases b with
    | false=>exact ⟨xs.length - (i + 1),by omega,rfl,hlt,F4,ds,R4.le le3,(keepD hDc fDc g34).1,(keepD hDc fDc g34).2,rs.mono g34.fs,q4⟩
    | true =>
      refine (Classical.choose_spec (hj z)).2 R4 _ _ q4 fun J2 ys F5 H5 g5 vi2 q5=>?_
      have g35:=g34.trans g5
      refine ⟨fun j m acc σe He=>m = ys.length - j /\ j <= ys.length /\ ∃ Fe es,VR X.K rl F1 H1 Fe He σe ρ3 /\ Same F5 Fe /\ He D = some (.lst acc) /\ Fe D = none /\ Reps X.K Fe acc es /\
          vGoR ρ3 g2 ft2 fe (ys.drop j) es (fun es=>vGo2 (frEn fr ρ) g ft fj g2 ft2 fe (xs.drop (i + 1)) es (fun ds=>Qd (.ml ds))),
        ⟨ys.length,by simp,Nat.zero_le _,F5,ds,R4.grow g5,.refl _,(keepD hDc fDc g35).1,(keepD hDc fDc g35).2,rs.mono g35.fs,by simpa using q5⟩,?_⟩
      rintro j m acc2 σe He ⟨rfl,hj',Fe,es,Re,s5,hDe,fDe,res,q6⟩
      have sHe:Same F5 He:=s5.trans Re.sub
      by_cases hlt2:j < ys.length
      · have ej:ys[j]? = some ys[j]:=by simp [hlt2]
        have edj:ys.drop j = ys[j] :: ys.drop (j + 1):=List.drop_eq_getElem_cons hlt2
        rw [edj] at q6
        refine .inr ⟨vi2.go j He _ ej sHe,fun v2 H2' y2=>?_⟩
        obtain ⟨Fy2,gy2,rv2⟩:=vi2.yld j He v2 H2' _ Fe ej s5 Re.sub Re.reel y2
        refine (Classical.choose_spec (hg2 z)).2 (Re.grow gy2) v2 _ _ _ rv2 q6 fun F7 H7 σ7 ρ7 g7 n7 R7 ⟨le7,q7⟩=>?_
        refine (Classical.choose_spec (ht2 z)).2 R7 _ _ q7 fun b2 F8 H8 g8 q8=>?_
        have R8:=R7.grow g8
        have g78:=(gy2.trans g7).trans g8
        cases b2 with
        | false=>exact ⟨ys.length - (j + 1),by omega,rfl,hlt2,F8,es,R8.le le7,s5.trans g78.fs,(keepD hDe fDe g78).1,(keepD hDe fDe g78).2,res.mono g78.fs,q8⟩
        | true =>
          refine (Classical.choose_spec (he z)).2 R8 _ _ q8 fun v9 w9 F9 H9 g9 r9 n9 ⟨d,ed9,hl,q9⟩=>?_
          obtain ⟨F10,g10,s10,r10⟩:=RelW.fz g9 r9 n9
          rw [ed9] at r10
          have g710:=g78.trans g10
          refine ⟨(keepD hDe fDe g710).1,by rw [res.length]; exact hl,ys.length - (j + 1),by omega,rfl,hlt2,F10,es ++ [d],((R8.grow g10).le le7).other nm3 hD (keepD hDe fDe g710).2 rD,s5.trans g710.fs,upd_same,(keepD hDe fDe g710).2,(res.mono g710.fs).snoc r10,q9⟩
      · have e:j = ys.length:=by omega
        subst e
        rw [List.drop_length] at q6
        exact .inl ⟨vi2.stop _ He (Nat.le_refl _) sHe,xs.length - (i + 1),by omega,rfl,hlt,Fe,es,Re.le le3,hDe,fDe,res,q6⟩
  · have e:i = xs.length:=by omega
    subst e
    rw [List.drop_length] at q2
    refine .inl ⟨vi.stop _ Hc (Nat.le_refl _) sH,k _ (.ml ds) Fc Hc (g1.trans Rc.g) ⟨D,acc,rfl,fDc,rD,hDc,rs⟩ (fun a ea=>by cases ea; exact g1.freeB hD) q2⟩
theorem v_lcomp2 (N':List Str) (fr:List (Option Nat)) (hc:X.calm = true) (hi:PIV X rl t1 i1 fi)
    (hg:∀ y,PGV (blk X N' scope y) rl t1 g) (ht:∀ y,PTVs (blk X N' scope y) rl f1 ft) (hj:∀ y,PIV (blk X N' scope y) rl t2 i2 fj) (hg2:∀ y,PGV (blk X N' scope y) rl t2 g2) (ht2:∀ y,PTVs (blk X N' scope y) rl f2 ft2) (he:∀ y,PV (blk X N' scope y) rl elt fe)
    (hfr:frOk fr N' X.N scope X.env.scope = true:=by rfl) (hsc:scOk scope X.env.scope = true:=by rfl)
    (hs:∀ x,foldedSetIterable i1 X.env x = pure x:=by intro _; rfl) (hs2:∀ y x,foldedSetIterable i2 (blk X N' scope y).env x = pure x:=by intro _ _; rfl):PV X rl (.ListComp elt [⟨t1,i1,f1,0⟩,⟨t2,i2,f2,0⟩] scope pos) (vComp2 fi fr g ft fj g2 ft2 fe):=by
  obtain ⟨wi,p0,k0⟩:=hi
  exact ⟨_,pe_lcomp2 N' fr hc p0 hfr hsc (fun y=>(Classical.choose_spec (hg y)).1) (fun y=>(Classical.choose_spec (ht y)).1) (fun y=>(Classical.choose_spec (hj y)).1) (fun y=>(Classical.choose_spec (hg2 y)).1) (fun y=>(Classical.choose_spec (ht2 y)).1) (fun y=>(Classical.choose_spec (he y)).1) hs hs2,
    fun R Qd Q q k=>lcomp2_k fr k0 hg ht hj hg2 ht2 he R Qd Q q k⟩
end
noncomputable def itM2 (ρ0:En) (g:TGv) (ft:TB) (fj:En -> (List PyData -> Prop) -> Prop) (g2:TGv) (ft2:TB) (fe:TV) (x:PyData) (acc:List PyData):Mo (List PyData) :=
  bnd (g x ρ0) fun ρ2=>grd (Le ρ0 ρ2) (bnd (ft ρ2) fun b=>if b = true then bnd (fj ρ2) fun ys=>compM (itM ρ2 g2 ft2 fe) ys acc else ret acc)
noncomputable def compM2 (b:PyData -> List PyData -> Mo (List PyData)):List PyData -> List PyData -> Mo (List PyData)
  | [],acc=>ret acc
  | x :: xs,acc=>bnd (b x acc) (compM2 b xs)
theorem comp2_eq (ρ0:En) (g:TGv) (ft:TB) (fj:En -> (List PyData -> Prop) -> Prop) (g2:TGv) (ft2:TB) (fe:TV):∀ (xs acc:List PyData),vGo2 ρ0 g ft fj g2 ft2 fe xs acc = compM2 (itM2 ρ0 g ft fj g2 ft2 fe) xs acc
  | [],acc=>rfl
  | x :: xs,acc=>by
    refine mo_ext fun Q=>?_
    show (g x ρ0 fun ρ2=>Le ρ0 ρ2 /\ ft ρ2 fun b=>if b = true then fj ρ2 fun ys=>vGoR ρ2 g2 ft2 fe ys acc fun acc'=>vGo2 ρ0 g ft fj g2 ft2 fe xs acc' Q else vGo2 ρ0 g ft fj g2 ft2 fe xs acc Q) ↔ (bnd (itM2 ρ0 g ft fj g2 ft2 fe x acc) (compM2 (itM2 ρ0 g ft fj g2 ft2 fe) xs)) Q
    simp only [comp2_eq ρ0 g ft fj g2 ft2 fe xs,comp_eq]
    have:∀ (ρ2:En) (b:Bool),(if b = true then fj ρ2 fun ys=>compM (itM ρ2 g2 ft2 fe) ys acc fun acc'=>compM2 (itM2 ρ0 g ft fj g2 ft2 fe) xs acc' Q else compM2 (itM2 ρ0 g ft fj g2 ft2 fe) xs acc Q)
        = (bnd (if b = true then bnd (fj ρ2) fun ys=>compM (itM ρ2 g2 ft2 fe) ys acc else ret acc) (compM2 (itM2 ρ0 g ft fj g2 ft2 fe) xs)) Q:=by
      intro ρ2 b
      cases b <;> rfl
    simp only [this]
    exact Iff.rfl
theorem m_comp2 (fi:En -> (List PyData -> Prop) -> Prop) (fr:List (Option Nat)) (g:TGv) (ft:TB) (fj:En -> (List PyData -> Prop) -> Prop) (g2:TGv) (ft2:TB) (fe:TV) (ρ:En) :
    vComp2 fi fr g ft fj g2 ft2 fe ρ = bnd (fi ρ) fun xs=>bnd (compM2 (itM2 (frEn fr ρ) g ft fj g2 ft2 fe) xs []) fun ds=>ret (.ml ds):=by
  refine mo_ext fun Q=>?_
  show (fi ρ fun xs=>vGo2 (frEn fr ρ) g ft fj g2 ft2 fe xs [] fun ds=>Q (.ml ds)) ↔ _
  simp only [comp2_eq]
  exact Iff.rfl
section
variable {α β:Type} {b:PyData -> Mo (Option PyData)}
theorem compM2_rows {c:PyData -> List PyData -> Mo (List PyData)} {xs:List α} {enc : α -> PyData} (F : α -> List PyData) (h:∀ x ∈ xs,∀ acc:List PyData,acc.length + (F x).length <= sizeLine -> c (enc x) acc = ret (acc ++ F x)) :
    ∀ acc:List PyData,acc.length + (xs.flatMap F).length <= sizeLine -> compM2 c (xs.map enc) acc = ret (acc ++ xs.flatMap F):=by
  induction xs with
  | nil=>intro acc _; show ret acc = _; simp
  | cons x xs ih =>
    intro acc hl
    rw [List.flatMap_cons,List.length_append] at hl
    show bnd (c (enc x) acc) _ = _
    rw [h x List.mem_cons_self acc (by omega),bnd_ret,ih (fun y my=>h y (List.mem_cons_of_mem _ my)) (acc ++ F x) (by rw [List.length_append]; omega),List.flatMap_cons,List.append_assoc]
theorem c2_go {γ:Type} {c:PyData -> List PyData -> Mo (List PyData)} {k:List PyData -> Mo γ} {Q : γ -> Prop} {xs:List α} {enc : α -> PyData} {xs':List PyData} (F : α -> List PyData) (hx:xs' = xs.map enc)
    (h:∀ x ∈ xs,∀ acc:List PyData,acc.length + (F x).length <= sizeLine -> c (enc x) acc = ret (acc ++ F x)) (hl:(xs.flatMap F).length <= sizeLine) (fin:k (xs.flatMap F) Q):bnd (compM2 c xs' []) k Q:=by
  subst hx
  rw [compM2_rows F h [] (by simpa using hl),bnd_ret]
  simpa using fin
end
end L2.VL

namespace L2.ZP
open PySem PySem.Spec PyProof.Rows
section
variable {prog:Program} {w:World} {A:Around} {E:Value -> Shared -> Prop} {s:Shared} {z it a:Addr} {k:Nat} {xs:Array Value} {x p:Value} {b:Bool}
abbrev e2 (h:Heap) (b:Bool) (a:Addr):Heap:=(y1 h b a).push { cls:=.type "enumerate", data:=.fields #[.none,.bool false,.ref h.objs.size,rawInt 0,.none,.none] }
theorem enum_new (b:Bool) (a:Addr) (o:Obj) (xs:Array Value) (hr:∀ h:Heap,h.get? a = some o -> Sq1 b h a xs) :
    Meets (Builtin.«enumerate.__new__» ⟨[.type "enumerate", .ref a],[]⟩) (fun _ R s=>s.heap.get? a = some o /\ R (.ok (.ret (.ref (y1 s.heap b a).objs.size))) { s with heap:=e2 s.heap b a }) :=
  .of_wp fun prog w A R s h=>by
    obtain ⟨hp,g,d,tk,os⟩:=s
    obtain ⟨l0,h⟩:=h
    have hsub:=sub_enumerate
    have k1:Sq1 b (Shared.heap ⟨hp,g,d,tk,os⟩) a xs:=hr _ l0
    wp_walk using AutoSeq1.wpAny_loadPart' l0
    refine wpAny_stack_any fun st=>wpAny_pure ?_
    split
    · rename_i c _ _ _ _ _
      cases (c == Value.type "enumerate") <;> (wp_walk using AutoSeq1.wpAny_loadPart' l0,iter1 k1; exact ⟨_,rfl,h⟩)
    · wp_walk using AutoSeq1.wpAny_loadPart' l0,iter1 k1
      exact ⟨_,rfl,h⟩
theorem Sq1.obj {h:Heap} (q:Sq1 b h a xs):∃ o,h.get? a = some o /\ ∀ h':Heap,h'.get? a = some o -> Sq1 b h' a xs:=by
  cases b with
  | true=>obtain ⟨o,h1,r⟩:=(show h.IsTuple a xs from q); exact ⟨o,h1,fun h' e=>⟨o,e,r⟩⟩
  | false=>obtain ⟨o,h1,r⟩:=(show h.IsList a xs from q); exact ⟨o,h1,fun h' e=>⟨o,e,r⟩⟩
theorem call_enum {Q:Value -> Shared -> Prop} (q1:Sq1 b s.heap a xs)
    (done:∀ g,IsEnum g (s.heap.objs.size + 1) s.heap.objs.size 0 .none -> It1 g s.heap.objs.size a xs 0 -> g.objs.size = s.heap.objs.size + 2 -> (∀ c o,s.heap.get? c = some o -> g.get? c = some o) -> Q (.ref (s.heap.objs.size + 1)) { s with heap:=g }) :
    wpAny (model prog w) A (call (.type "enumerate") [.ref a]) Q E s:=by
  obtain ⟨o,h1,hr⟩:=q1.obj
  refine callType_new F.called_enumerate (by decide) (F.typeCall_enumerate_1 _) (F.newCall_enumerate_1 _) (fun u=>F.args_object_init_2 u _) F.entry_enumerate_new (enum_new b a o xs hr) ⟨h1,?_⟩
  have n1:(y1 s.heap b a).objs.size = s.heap.objs.size + 1:=Heap.size_push ..
  have n2:(e2 s.heap b a).objs.size = s.heap.objs.size + 2:=by rw [Heap.size_push,n1]
  have pu:∀ {h:Heap} {o u:Obj} {c:Addr},h.get? c = some u -> (h.push o).get? c = some u:=fun e=>Heap.get?_push_of_some _ e
  have kp:∀ c o,s.heap.get? c = some o -> (e2 s.heap b a).get? c = some o:=fun c o e=>pu (pu e)
  have f2:(e2 s.heap b a).get? (y1 s.heap b a).objs.size = some _:=Heap.get?_push_size _ rfl
  have f1:(e2 s.heap b a).get? s.heap.objs.size = some _:=pu (Heap.get?_push_size _ rfl)
  show _ /\ _
  rw [n1] at f2
  rw [n1]
  have mk:It1 (e2 s.heap b a) s.heap.objs.size a xs 0:=by
    have e:=hr _ (kp _ _ h1)
    cases b with
    | true=>exact .inr ⟨⟨_,f1,rfl,rfl⟩,e⟩
    | false=>exact .inl ⟨⟨_,f1,rfl,rfl⟩,e⟩
  exact ⟨⟨_,f2,rfl⟩,done _ f2 mk n2 kp⟩
theorem en_item {Q:Value -> Shared -> Prop} (oz:IsEnum s.heap z it k p) (s1:It1 s.heap it a xs k) (ex:xs[k]? = some x) (ne:z ≠ it) (nz:a ≠ z) (ni:a ≠ it)
    (done:∀ g,IsEnumOut g z it ((k:Int) + 1) x s.heap.objs.size -> It1 g it a xs (k + 1) -> g.get? s.heap.objs.size = some { cls:=.type "tuple", data:=.seq #[.int k s.toks,x] } -> g.objs.size = s.heap.objs.size + 1 ->
      (∀ b o,b ≠ z -> b ≠ it -> s.heap.get? b = some o -> g.get? b = some o) -> Q (.ref s.heap.objs.size) { s with heap:=g,toks:=s.toks + 1 }) :
    wpAny (model prog w) A (Builtin.«enumerate.__next__» ⟨[.ref z],[]⟩) (fun r s'=>∃ u,r = .done (.ret u) /\ Q u s') E s:=by
  show wpAny _ _ (do let c <- field (.ref z) 2; _) _ _ _
  refine wpAny_bind (wpAny_field oz rfl (x:=.ref it) rfl ?_)
  refine wpAny_bind (s1.item ni ex fun g1 s1a b1=>?_)
  have z1:IsEnum g1 z it k p:=b1.extBut _ _ ne oz
  show wpAny _ _ (do let c <- field (.ref z) 3; _) _ _ _
  refine wpAny_bind (wpAny_field z1 rfl (x:=rawInt k) rfl ?_)
  show wpAny _ _ (do let c <- field (.ref z) 4; _) _ _ _
  refine wpAny_bind (wpAny_field z1 rfl (x:=.none) rfl ?_)
  show wpAny _ _ (do let c <- mkInt k; _) _ _ _
  refine wpAny_bind (wpAny_mkInt ?_)
  show wpAny _ _ (do setField (.ref z) 3 (rawInt ((k:Int) + 1)); _) _ _ _
  refine wpAny_bind (wpAny_setField_rec z1 (by simp) fun g2 z2 b2=>?_)
  have z2:IsEnum g2 z it ((k:Int) + 1) p:=z2
  show wpAny _ _ (do setField (.ref z) 4 .none; _) _ _ _
  refine wpAny_bind (wpAny_setField_rec z2 (by simp) fun g3 z3 b3=>?_)
  have z3:IsEnum g3 z it ((k:Int) + 1) p:=z3
  have size:g3.objs.size = s.heap.objs.size:=by rw [b3.1,b2.1,b1.1]
  have s3:It1 g3 it a xs (k + 1):=(s1a.keep (SameBut.keep b2 ne.symm) (SameBut.keep b2 nz)).keep (SameBut.keep b3 ne.symm) (SameBut.keep b3 nz)
  have k3:∀ b o,b ≠ z -> b ≠ it -> s.heap.get? b = some o -> g3.get? b = some o:=fun b o n1 n2 e=>b3.extBut _ _ n1 (b2.extBut _ _ n1 (b1.extBut _ _ n2 e))
  have zl:z < g3.objs.size:=Heap.lt_size z3
  show wpAny _ _ (do let c <- newTuple [.int k s.toks,x]; _) _ _ _
  refine wpAny_bind (wpAny_newTuple ?_)
  have z4:IsEnum (g3.push { cls:=.type "tuple", data:=.seq #[.int k s.toks,x] }) z it ((k:Int) + 1) p:=Heap.get?_push_of_some _ z3
  show wpAny _ _ (do let c <- Builtin.SmallTypes.ownedTupleIsFree (.ref z); _) _ _ _
  refine wpAny_bind ?_
  unfold Builtin.SmallTypes.ownedTupleIsFree
  refine wpAny_bind (wpAny_field z4 rfl (x:=Value.none) rfl (wpAny_pure ?_))
  simp only [if_true]
  refine wpAny_bind (wpAny_rule (wpAny_bind (wpAny_field z4 rfl (x:=p) rfl (wpAny_bind (wpAny_setField_rec z4 (by simp) fun g5 z5 b5=>?_)))))
  have z5:IsEnum g5 z it ((k:Int) + 1) x:=z5
  show wpAny _ _ (do Builtin.SmallTypes.ownedTupleHandOut (.ref z) (.ref g3.objs.size); _) _ _ _
  refine wpAny_bind ?_
  unfold Builtin.SmallTypes.ownedTupleHandOut
  refine wpAny_bind (wpAny_setField_rec z5 (by simp) fun g6 z6 b6=>?_)
  have z6:IsEnumOut g6 z it ((k:Int) + 1) x g3.objs.size:=z6
  refine wpAny_setField_rec z6 (by simp) fun g7 z7 b7=>?_
  have z7:IsEnumOut g7 z it ((k:Int) + 1) x g3.objs.size:=z7
  have up:∀ b o,b ≠ z -> g3.get? b = some o -> g7.get? b = some o:=fun b o n e=>b7.extBut _ _ n (b6.extBut _ _ n (b5.extBut _ _ n (Heap.get?_push_of_some _ e)))
  have t7:g7.get? g3.objs.size = some { cls:=.type "tuple", data:=.seq #[.int k s.toks,x] } :=
    b7.extBut _ _ (Nat.ne_of_gt zl) (b6.extBut _ _ (Nat.ne_of_gt zl) (b5.extBut _ _ (Nat.ne_of_gt zl) (Heap.get?_push_size _ rfl)))
  have l7:g7.objs.size = g3.objs.size + 1:=by rw [b7.1,b6.1,b5.1,Heap.size_push]
  rw [size] at z7 t7 l7
  refine wpAny_bind (wpAny_letGo (wpAny_pure ⟨_,rfl,?_⟩))
  show Q (.ref g3.objs.size) _
  rw [size]
  exact done g7 z7 (s3.keep (fun o e=>up _ o ne.symm e) fun o e=>up _ o nz e) t7 l7 fun b o n1 n2 e=>up b o n1 (k3 b o n1 n2 e)
end
end L2.ZP
namespace L2
open PySem PySem.Spec PyProof.Rows L2.ZP
noncomputable def Ite (K:W.Frag) (b:Bool) (a:Addr):It :=
  ⟨fun i H=>∃ xs x,SqB b K H a xs /\ xs[i]? = some x,
   fun i H v H'=>∃ x p,(∀ xs,SqB b K H a xs -> xs[i]? = some x) /\ H p = none /\ v = .ref p /\ H' = upd H p (.tup [.int i,x]),
   fun i H=>∃ xs,SqB b K H a xs /\ xs.length <= i⟩
noncomputable def ES (b:Bool) (z it a:Addr) (i:Nat) (h:Heap):Prop:=(∃ p,IsEnum h z it i p) /\ Ir1 b h it a i
theorem turn_enum {P:Program} {w:World} {K:W.Frag} {elts:List Expr} {kt:Nat} {pt:Pos} (b:Bool) (z it a:Addr) (ne:z ≠ it) (nz:a ≠ z) (ni:a ≠ it) :
    Turn P w K (.Tuple elts kt pt) (Ite K b a) [z,it] z (ES b z it a) where
  mem:=by simp
  obj:=fun i h ⟨⟨p,h1⟩,h4⟩ c hb=>by
    simp at hb
    rcases hb with rfl | rfl
    · exact ⟨_,h1,fun v c=>by cases c⟩
    · exact h4.obj
  keep:=fun i h h' ⟨⟨p,h1⟩,h4⟩ k=>⟨⟨p,k z (by simp) _ h1⟩,h4.keep fun o e=>k it (by simp) o e⟩
  item:=by
    intro X hP hw hK hc i pins s σ H E I hf st hg
    subst hP hw hK
    obtain ⟨⟨p,h1⟩,h4⟩:=st
    obtain ⟨xs,x,q1,ex⟩:=hg
    obtain ⟨its,r1,t1⟩:=I.sqB q1
    obtain ⟨u,hu,ru⟩:=r1.get ex
    have ty:s.TypeIs (.ref z) "enumerate" := ⟨_,h1,rfl⟩
    unfold pyNext
    refine wpAny_bind (wpAny_attempt (wpAny_callSpecial?_slot (name:=Str.ofString "__next__") ty F.slot_enumerate_next (wpAny_call_entry F.slot_enumerate_next ty F.entry_enumerate_next
      (en_item h1 (h4.it1 t1) (by simpa using hu) ne nz ni fun g e1 e3 e5 e6 e7=>wpAny_pure ?_) (F.args_enumerate_next_1 _))))
    have hz:s.heap.objs.size ≠ z:=Nat.ne_of_gt (Heap.lt_size h1)
    refine ⟨.ref s.heap.objs.size,rfl,wpAny_letOwnedTupleGo_enum e1 fun g' f1 fb=>?_⟩
    have hp:H s.heap.objs.size = none:=I.hok.fresh (Nat.le_refl _)
    have I1:Inv X pins σ (upd H s.heap.objs.size (.tup [.int i,x])) { s with heap:=s.heap.push { cls:=.type "tuple", data:=.seq [.int i s.toks,u].toArray },toks:=s.toks + 1 } :=
      I.laid (t':=s.toks + 1) (o:=.tup [.int i,x]) (fun b ob e=>Heap.get?_push_of_some _ e) (Nat.le_refl _) ⟨(by show 2 <= sizeLine; decide),[.int i s.toks,u],.cons ⟨_,rfl⟩ (.cons ru .nil),IsTupD.new _ _⟩
    have ne':∀ b ∈ [z,it],b ≠ s.heap.objs.size:=fun b hb e=>by
      simp at hb
      rcases hb with rfl | rfl
      · exact hz e.symm
      · obtain ⟨o,ho,_⟩:=h4.obj
        exact absurd (Heap.lt_size ho) (by rw [e]; exact Nat.lt_irrefl _)
    have kg:∀ b o,b ∉ [z,it] -> (s.heap.push { cls:=.type "tuple", data:=.seq [.int i s.toks,u].toArray }).get? b = some o -> g'.get? b = some o:=fun b o hb e=>by
      simp at hb
      obtain ⟨n1,n2⟩:=hb
      refine fb.extBut _ _ n1 ?_
      by_cases hbn:b = s.heap.objs.size
      · subst hbn
        rw [Heap.get?_push_size _ rfl] at e
        cases e
        exact e5
      · exact e7 b o n1 n2 (by rw [Heap.get?_push_ne _ _ _ hbn] at e; exact e)
    have fp1:∀ b ∈ [z,it],FpOk X pins (upd H s.heap.objs.size (.tup [.int i,x])) b:=fun b hb=>by
      obtain ⟨f0,fr⟩:=hf b hb
      exact ⟨by rw [upd_ne (ne' b hb)]; exact f0,fr⟩
    have I2:Inv X pins σ (upd H s.heap.objs.size (.tup [.int i,x])) { s with heap:=g',toks:=s.toks + 1 }:=I1.turnedL (t':=s.toks + 1) kg fp1
    have k8:∀ b o,b ≠ z -> g.get? b = some o -> g'.get? b = some o:=fun b o n e=>fb.extBut _ _ n e
    have t1':Sq1 b g a its.toArray:=Sq1.of t1 fun o e=>e7 _ o nz ni e
    refine ⟨.ref s.heap.objs.size,_,I2,rfl,⟨x,_,fun xs' q'=>by rw [I.sqB_inj q' q1]; exact ex,hp,rfl,rfl⟩,⟨⟨_,by simpa using f1⟩,(It1.ir e3 h4 t1').keep fun o e=>k8 _ o ne.symm e⟩,fun b hb=>(fp1 b hb).1⟩
  done:=by
    intro X hP hw hK hc i pins s σ H E I hf st hg
    subst hP hw hK
    obtain ⟨⟨p,h1⟩,h4⟩:=st
    obtain ⟨xs,q1,ex⟩:=hg
    obtain ⟨its,r1,t1⟩:=I.sqB q1
    have l1:=r1.length
    have ty:s.TypeIs (.ref z) "enumerate" := ⟨_,h1,rfl⟩
    unfold pyNext
    refine wpAny_bind (wpAny_attempt (wpAny_callSpecial?_slot (name:=Str.ofString "__next__") ty F.slot_enumerate_next (wpAny_call_entry F.slot_enumerate_next ty F.entry_enumerate_next ?_ (F.args_enumerate_next_1 _))))
    show wpAny _ _ (do let c <- field (.ref z) 2; _) _ _ _
    refine wpAny_bind (wpAny_field h1 rfl (x:=.ref it) rfl ?_)
    refine wpAny_bind ((h4.it1 t1).fin (I.ok.hd hc) (by simp; omega) fun g e kg ⟨o,ho,hoc⟩=>?_)
    refine wpAny_bind (wpAny_isInstance (T := "StopIteration") (b:=true) ⟨o,ho,hoc⟩ isSubtype_stop (wpAny_pure ⟨rfl,?_⟩))
    exact I.turnedL (t':=s.toks) (fun b o hb e=>by simp at hb; exact kg b o hb.2 e) hf
  self:=fun _ _ _ _ _ st h=>by
    obtain ⟨⟨p,h1⟩,_⟩:=st
    exact wpAny_pyIter_enum h1 h
section
variable {X:Cx} {e1:Expr} {ta:TA} {elts:List Expr} {kt:Nat} {pt p pos:Pos}
noncomputable def iEnm (K:W.Frag) (b:Bool) (t:TA):TI:=fun σ H R=>t σ H fun vs H1=>∃ a xs,vs = [.ref a] /\ SqB b K H1 a xs /\ R (Ite K b a) H1
theorem pi_enum (b:Bool) (hg:Gl X "enumerate") (hm:X.mg "enumerate" = none) (ha:PA X [e1] ta) (hs:starEach [e1] X.env = (false,eval e1 X.env) :: starEach [] X.env:=by rfl) (hpl:(backTo pos (starEach [] X.env)).any (·.1) = false:=by rfl) :
    PI X (.Tuple elts kt pt) (.Call (.Name "enumerate" p) [e1] [] pos) (iEnm X.K b ta):=by
  intro pins s σ H R I h
  refine Call_ (ld_blt I hg hm (by rfl) (PyProof.Rows.callWith_type1 (thn (ha pos pins s σ H _ I h) fun us s1 ⟨vs,H1,I1,r1,q1⟩=>?_) hs hpl) (by decide) (by decide))
  obtain ⟨a,xs,ev,q1,q⟩:=q1
  subst ev
  cases r1 with
  | cons r rr =>
    cases rr
    cases r
    obtain ⟨its,v1,t1⟩:=I1.sqB q1
    refine call_enum t1 fun g f1 f4 f6 kp=>wpAny_pyIter_enum f1 ?_
    have l1:a < s1.heap.objs.size:=by
      obtain ⟨o,ho,_⟩:=t1.obj
      exact Heap.lt_size ho
    have I2:Inv X pins σ H1 { s1 with heap:=g }:=I1.kept (t':=s1.toks) kp
    have ir:Ir1 b g s1.heap.objs.size a 0:=by
      have r':=Sq1.of t1 fun o e=>kp _ o e
      cases b with
      | true =>
        rcases f4 with ⟨_,⟨o,e,c,_⟩⟩ | ⟨q,_⟩
        · obtain ⟨o',e',c',_⟩:=(show g.IsTuple a _ from r')
          rw [e] at e'; cases e'; rw [c] at c'; injection c' with z; exact absurd z (by decide)
        · exact q
      | false =>
        rcases f4 with ⟨q,_⟩ | ⟨_,⟨o,e,c,_⟩⟩
        · exact q
        · obtain ⟨o',e',c',_⟩:=(show g.IsList a _ from r')
          rw [e] at e'; cases e'; rw [c] at c'; injection c' with z; exact absurd z (by decide)
    refine ⟨_,[s1.heap.objs.size + 1,s1.heap.objs.size],_,_,H1,rfl,I2,turn_enum b _ _ a (by simp) (Nat.ne_of_lt (Nat.lt_succ_of_lt l1)) (Nat.ne_of_lt l1),⟨⟨_,f1⟩,ir⟩,fun b hb=>?_,q⟩
    have hb':s1.heap.objs.size <= b:=by
      simp at hb
      rcases hb with rfl | rfl
      · exact Nat.le_add_right _ 1
      · exact Nat.le_refl _
    exact I1.fpOk hb' (I1.hok.fresh hb')
end
end L2
namespace L2.VL
open PySem PySem.Spec PyProof.Rows
section
variable {X:Cx} {rl:RlT} {a:Expr} {elts:List Expr} {kt:Nat} {pt p pos:Pos} {fs:TVs}
noncomputable def enumD (xs:List PyData):List PyData:=xs.zipIdx.map fun z=>.tuple [.int (z.2:Nat),z.1]
theorem enumD_get {xs:List PyData} {i:Nat} {d:PyData} (h:(enumD xs)[i]? = some d):∃ x,xs[i]? = some x /\ d = .tuple [.int (i:Nat),x]:=by
  unfold enumD at h
  rw [List.getElem?_map,List.getElem?_zipIdx] at h
  cases ex:xs[i]? with
  | none=>rw [ex] at h; cases h
  | some x=>rw [ex] at h; simp at h; exact ⟨x,rfl,h.symm⟩
noncomputable def iEn (b:Bool) (fs:TVs):En -> (List PyData -> Prop) -> Prop:=fun ρ Q=>fs ρ fun ws=>∃ dx xs,ws = [.d dx] /\ seqD dx = some xs /\ kindB dx = b /\ Q (enumD xs)
theorem vi_enum (b:Bool) (hm:X.mg "enumerate" = none) (ha:PVs X rl [a] fs) (hg:Gl X "enumerate" := by rfl) (hs:starEach [a] X.env = (false,eval a X.env) :: starEach [] X.env:=by rfl) (hpl:(backTo pos (starEach [] X.env)).any (·.1) = false:=by rfl) :
    PIV X rl (.Tuple elts kt pt) (.Call (.Name "enumerate" p) [a] [] pos) (iEn b fs):=by
  obtain ⟨t,p1,k⟩:=ha
  refine ⟨_,pi_enum b hg hm p1 hs hpl,fun R Qd Q q h=>k R _ _ q fun vs ws F1 H1 g1 r1 ⟨dx,xs,ew,e1,kb1,q1⟩=>?_⟩
  subst ew kb1
  obtain ⟨v,rfl,rv⟩:=rel1 r1
  obtain ⟨a1,vs,rfl,rs,sq1⟩:=rep_sq rv e1
  refine ⟨a1,vs,rfl,sq1 _ g1.sub,h _ (enumD xs) F1 H1 g1 ⟨fun i H x e s=>?_,fun i H hl s=>?_,fun i H v H' x F2 e s s2 ra y=>?_⟩ q1⟩
  · obtain ⟨x1,ex,_⟩:=enumD_get e
    obtain ⟨v1,ev1,_⟩:=rs.get ex
    exact ⟨vs,v1,sq1 _ s,ev1⟩
  · refine ⟨vs,sq1 _ s,?_⟩
    unfold enumD at hl
    rw [List.length_map,List.length_zipIdx] at hl
    rw [rs.length]
    omega
  · obtain ⟨x1,ex,ed⟩:=enumD_get e
    obtain ⟨vx,pp,hx,hp,ev,eH⟩:=y
    obtain ⟨v1,ev1,rv1⟩:=rs.get ex
    have h1:=hx vs (sq1 _ (s.trans s2))
    rw [ev1] at h1
    cases h1
    subst ev eH ed
    have g:=Grow.data (a:=pp) (o:=.tup [.int (i:Nat),vx]) s2 ra hp
    exact ⟨_,g,.tup (.inl (.inl upd_same)) (.cons (.int _) (.cons ((rv1.mono s).mono g.fs) .nil))⟩
theorem vi_enumerateT (hm:X.mg "enumerate" = none) (ha:PVs X rl [a] fs) (hg:Gl X "enumerate" := by rfl) (hs:starEach [a] X.env = (false,eval a X.env) :: starEach [] X.env:=by rfl) (hpl:(backTo pos (starEach [] X.env)).any (·.1) = false:=by rfl) :
    PIV X rl (.Tuple elts kt pt) (.Call (.Name "enumerate" p) [a] [] pos) (iEn true fs):=vi_enum true hm ha hg hs hpl
end
end L2.VL

namespace L2.VL
open PySem PySem.Spec PyProof.Rows
noncomputable def enuT (ws:List W):Option (List PyData):=match ws with
  | [.d (.tuple xs)]=>some (enumD xs)
  | _=>none
theorem enuT_t (xs:List PyData):enuT [.d (.tuple xs)] = some (enumD xs):=rfl
theorem m_iEnT {fs:TVs} {ρ:En}:iEn true fs ρ = bnd (fs ρ) fun ws=>optM (enuT ws) ret:=by
  show (bnd (fs ρ) fun ws=>fun (Q:List PyData -> Prop)=>∃ dx xs,ws = [.d dx] /\ seqD dx = some xs /\ kindB dx = true /\ Q (enumD xs)) = _
  congr 1; funext ws
  refine mo_ext fun Q=>?_
  simp only [opt_iff,ret]
  constructor
  · rintro ⟨dx,xs,rfl,a,b,q⟩
    cases dx with
    | tuple ys=>cases a; exact ⟨_,rfl,q⟩
    | _=>cases b
  · rintro ⟨zs,e,q⟩
    unfold enuT at e
    split at e
    · cases e; exact ⟨_,_,rfl,rfl,rfl,q⟩
    · cases e
theorem enumD_map {α:Type} (xs:List α) (enc : α -> PyData):enumD (xs.map enc) = xs.zipIdx.map fun z=>PyData.tuple [.int (z.2:Nat),enc z.1]:=by
  unfold enumD
  rw [List.zipIdx_map,List.map_map]
  rfl
section
variable {α β:Type} {b:PyData -> Mo (Option PyData)}
end
end L2.VL

namespace L2.VL
open PySem PySem.Spec PyProof.Rows
section
variable {X:Cx} {rl:RlT} {a b c o e:Expr} {es:List Expr} {fa fb:TV} {fs:TVs} {pos p apos cpos:Pos} {ρ:En}
end
end L2.VL

namespace L2
open PySem PySem.Spec PyProof.Rows
section
variable {prog:Program} {w:World} {A:Around} {E:Value -> Shared -> Prop} {s:Shared}
end
section
variable {X:Cx}
end
end L2
namespace L2.VL
open PySem PySem.Spec PyProof.Rows
section
variable {X:Cx} {rl:RlT} {e:Expr} {fa:TV} {pos:Pos} {ρ:En}
end
end L2.VL

namespace L2.VL
open PySem PySem.Spec PyProof.Rows
section
variable {X:Cx} {rl:RlT} {a b e:Expr} {fa fb:TV} {pos:Pos} {ρ:En}
end
end L2.VL

namespace L2
open PySem PySem.Spec PyProof.Rows
section
variable {X:Cx}
end
end L2
namespace L2.VL
open PySem PySem.Spec PyProof.Rows
section
variable {X:Cx} {rl:RlT} {a e:Expr} {fs:TVs} {pos p:Pos}
noncomputable def intsT:PyData -> Option (List Int)
  | .tuple xs=>intsD xs
  | _=>none
theorem intsT_of {d:PyData} {ns:List Int}:intsT d = some ns ↔ d = .tuple (ns.map .int):=by
  constructor
  · intro h
    cases d with
    | tuple xs=>rw [intsD_of h]
    | _=>cases h
  · rintro rfl; exact intsD_map _
theorem intsT_t (ns:List Int):intsT (.tuple (ns.map .int)) = some ns:=intsD_map ns
end
end L2.VL

namespace L2
open PySem PySem.Spec PyProof.Rows
theorem argBest_le (f : Nat -> Int) : ∀ k, PySem.argBest (fun i j => decide (f i > f j)) k <= k /\ ∀ j, j <= k -> f j <= f (PySem.argBest (fun i j => decide (f i > f j)) k)
  | 0 => ⟨Nat.le_refl _, fun j hj => by obtain rfl : j = 0 := by omega
                                        exact Int.le_refl _⟩
  | k + 1=>by
    obtain ⟨h1,h2⟩:=argBest_le f k
    rw [PySem.argBest]
    by_cases h:f (k + 1) > f (PySem.argBest (fun i j=>decide (f i > f j)) k)
    · rw [if_pos (by simpa using h)]
      refine ⟨Nat.le_refl _,fun j hj=>?_⟩
      by_cases e:j = k + 1
      · rw [e]; exact Int.le_refl _
      · have:=h2 j (by omega); omega
    · rw [if_neg (by simpa using h)]
      refine ⟨by omega,fun j hj=>?_⟩
      by_cases e:j = k + 1
      · rw [e]; omega
      · exact h2 j (by omega)
section
variable {X:Cx}
theorem call_maxT (hc:X.calm = true):CallR X (.builtin "max") (fun xs H Q=>∃ (p:Addr) (ns:List Int),xs = [.ref p] /\ SqT X.K H p (ns.map V.int) /\ 0 < ns.length /\ ∀ M,M ∈ ns -> (∀ a ∈ ns,a <= M) -> Q (.int M) H):=by
  intro pins s σ H xs us Q I r ⟨p,ns,ex,hq,h0,q⟩
  subst ex
  obtain ⟨u,rfl,ru⟩:=vals1 r
  cases ru
  obtain ⟨its,rv,pl,hz⟩:=I.tuple hq
  have hl:=rv.length
  rw [List.length_map] at hl
  have it:s.heap.IsTuple p its.toArray:=pl
  refine PySem.call_max_walk (wpAny_pyIter_tuple it ?_)
  obtain ⟨o,ho,ho2⟩:=pl
  have ne:p ≠ s.heap.objs.size:=Nat.ne_of_lt (Heap.lt_size ho)
  refine ⟨s.heap.objs.size,_,_,_,_,_,_,rfl,Walks.tuple (A:=X.A.in1) (I.ok.hd hc) s.heap.objs.size p ne its.toArray,⟨⟨_,Heap.get?_push_size _ rfl,rfl,rfl⟩,⟨o,Heap.get?_push_of_some _ ho,ho2⟩⟩,?_,?_,PySem.CmpOf.ints_gt (fun i=>ns.getD i 0) (fun i v hP=>ints_at rv (by simpa using hP)),?_⟩
  · intro b hb
    have hb:b = s.heap.objs.size \/ b = p:=by simpa using hb
    show b < (Heap.push _ _).objs.size
    rw [Heap.size_push]
    rcases hb with rfl | rfl
    · exact Nat.lt_succ_self _
    · exact Nat.lt_succ_of_lt (Heap.lt_size ho)
  · rw [List.size_toArray]; omega
  · intro v h' tk hP k
    have hP2:its[PySem.argBest (fun i j=>decide (ns.getD i 0 > ns.getD j 0)) (its.toArray.size - 1)]? = some v:=by rw [<- List.getElem?_toArray]; exact hP
    obtain ⟨t,rfl⟩:=ints_at rv hP2
    have en:its.toArray.size = ns.length:=by rw [List.size_toArray]; omega
    rw [en]
    obtain ⟨a1,a2⟩:=argBest_le (fun i=>ns.getD i 0) (ns.length - 1)
    have hi:PySem.argBest (fun i j=>decide (ns.getD i 0 > ns.getD j 0)) (ns.length - 1) < ns.length:=by omega
    refine ⟨.int _,H,I.kept (t':=tk) fun b o eb=>k b o (by simp; exact Nat.ne_of_lt (Heap.lt_size eb)) (Heap.get?_push_of_some _ eb),⟨t,rfl⟩,q _ ?_ fun a ma=>?_⟩
    · rw [List.getD_eq_getElem?_getD,List.getElem?_eq_getElem hi]; exact List.getElem_mem hi
    · obtain ⟨j,hj,rfl⟩:=List.getElem_of_mem ma
      have:=a2 j (by omega)
      rwa [List.getD_eq_getElem?_getD,List.getElem?_eq_getElem hj] at this
end
end L2
namespace L2.VL
open PySem PySem.Spec PyProof.Rows
section
variable {X:Cx} {rl:RlT} {a e:Expr} {fs:TVs} {pos p:Pos}
noncomputable def gMaxT:List W -> (W -> Prop) -> Prop:=fun ws Q=>∃ (ns:List Int),ws = [.d (.tuple (ns.map .int))] /\ 0 < ns.length /\ ∀ M,M ∈ ns -> (∀ a ∈ ns,a <= M) -> Q (.d (.int M))
theorem vc_maxT:VCall X rl (fun xs H Q=>∃ (p:Addr) (ns:List Int),xs = [.ref p] /\ SqT X.K H p (ns.map V.int) /\ 0 < ns.length /\ ∀ M,M ∈ ns -> (∀ a ∈ ns,a <= M) -> Q (.int M) H) gMaxT:=fun {F H vs ws} Qd Q s ra r ⟨ns,ew,h0,q⟩ k=>by
  subst ew
  obtain ⟨v,rfl,r1⟩:=rel1 r
  cases (show Rep X.K F v (.tuple (ns.map .int)) from r1) with
  | @tup a us _ sq rs =>
    have e:=reps_int rs
    subst e
    exact ⟨a,ns,rfl,sameT s sq,h0,fun M h1 h2=>k _ (.d _) _ _ (Grow.refl s ra) (.int _) trivial (q M h1 h2)⟩
theorem v_maxT (hm:X.mg "max" = none) (ha:PVs X rl [a] fs) (hc:X.calm = true:=by rfl) (hg:Gl X "max" := by rfl) (he:starEach [a] X.env = (false,eval a X.env) :: starEach [] X.env:=by rfl) (hpl:(backTo pos (starEach [] X.env)).any (·.1) = false:=by rfl) :
    PV X rl (.Call (.Name "max" p) [a] [] pos) (vCall gMaxT fs):=v_callB (call_maxT hc) vc_maxT hm (by rfl) ha hg (by decide) (by decide) he hpl
noncomputable def maxOf (ns:List Int) (M:Int):Prop:=M ∈ ns /\ ∀ a ∈ ns,a <= M
theorem m_gMaxT (w:W):gMaxT [w] = optM (asD w) fun d=>optM (intsT d) fun ns=>grd (0 < ns.length) (bnd (anyM (maxOf ns)) fun M=>ret (.d (.int M))):=by
  refine mo_ext fun Q=>?_
  simp only [opt_iff,asD_of,intsT_of,ret,grd]
  constructor
  · rintro ⟨ns,e,h0,q⟩
    cases e
    exact ⟨_,rfl,ns,rfl,h0,fun M h=>q M h.1 h.2⟩
  · rintro ⟨d,e,ns,e2,h0,q⟩
    subst e e2
    exact ⟨ns,rfl,h0,fun M h1 h2=>q M ⟨h1,h2⟩⟩
end
end L2.VL

namespace L2.VL
open PySem PySem.Spec PyProof.Rows
section
variable {X:Cx} {al:Option Addr} {c:Nat} {a:Expr} {lo hi:Option Expr} {fa:TV} {fl fh:TOv} {pos p2:Pos} {tg:Expr}
end
end L2.VL

namespace L2
open PySem PySem.Spec PyProof.Rows
section
variable {X:Cx} {e:Expr} {tg:Expr} {te:TE}
end
end L2
namespace L2.VL
open PySem PySem.Spec PyProof.Rows
section
variable {X:Cx} {rl:RlT} {a b e o i':Expr} {es:List Expr} {fa fb:TV} {fs:TVs} {pos p px apos cpos:Pos} {ρ:En} {st:Stmt} {t:TSv}
end
section
variable {X:Cx} {rl:RlT} {kx vx tg iter:Expr} {ifs:List Expr} {scope:Scope} {pos:Pos} {fi:En -> (List PyData -> Prop) -> Prop} {g:TGv} {ft:TB} {fk fe:TV}
end
abbrev DPr:=List (Key × PyData) × PyData
section
variable {P:Program} {w:World} {K:W.Frag} {mg:Str -> Option Value} {base:Heap} {rl:RlT} {x:Str} {st:Stmt} {N ps:List Str} {k:Nat} {Pd:List W -> (DPr -> Prop) -> Prop} {t:TSv}
end
section
variable {X:Cx} {rl:RlT} {e:Expr} {es:List Expr} {fs:TVs} {pos p:Pos} {ρ:En}
end
end L2.VL

namespace L2.VL
open PySem PySem.Spec PyProof.Rows
section
variable {X:Cx} {rl:RlT} {a b c o e:Expr} {es:List Expr} {fa fb:TV} {fs:TVs} {pos p px apos cpos:Pos} {ρ:En}
end
end L2.VL
namespace L2
open PySem PySem.Spec PyProof.Rows
section
variable {X:Cx} {o e f:Expr} {apos cpos:Pos} {td ty tx:TE}
end
end L2
namespace L2.VL
open PySem PySem.Spec PyProof.Rows
section
variable {X:Cx} {rl:RlT} {a b c o e:Expr} {es:List Expr} {fa fb:TV} {fs:TVs} {pos p px apos cpos:Pos} {ρ:En}
end
end L2.VL

namespace L2
open PySem PySem.Spec PyProof.Rows
section
variable {P:Program} {w:World} {A:Around} {E:Value -> Shared -> Prop} {s:Shared} {d v it:Addr} {es:Array DictEntry} {ep i:Nat}
end
section
variable {X:Cx} {o:Expr} {tg:Expr} {te:TE} {apos cpos:Pos}
end
end L2
namespace L2.VL
open PySem PySem.Spec PyProof.Rows
section
variable {X:Cx} {rl:RlT} {a b e o i':Expr} {es:List Expr} {fa fb:TV} {fs:TVs} {pos p px apos cpos:Pos} {ρ:En} {st:Stmt} {t:TSv}
end
end L2.VL
namespace L2.VL
open PySem PySem.Spec PyProof.Rows
section
variable {X:Cx} {rl:RlT} {a b c o e:Expr} {es:List Expr} {fa fb:TV} {fs:TVs} {pos p apos cpos:Pos} {ρ:En}
end
end L2.VL

namespace L2.ZP
open PySem PySem.Spec PyProof.Rows
section
variable {prog:Program} {w:World} {A:Around} {E:Value -> Shared -> Prop} {s:Shared} {z ti to i1 i2 a1 a2:Addr} {k1 k2:Nat} {xs ys:Array Value} {x y p q f0:Value} {f1:Bool}
end
section
variable {prog:Program} {w:World} {A:Around} {E:Value -> Shared -> Prop} {s:Shared} {e z ti to i1 i2 a1 a2:Addr} {k:Nat} {xs ys:Array Value} {x y p q o1 o2:Value}
abbrev e3 (h:Heap) (z:Addr):Heap:=h.push { cls:=.type "enumerate", data:=.fields #[.none,.bool false,.ref z,rawInt 0,.none,.none] }
end
end L2.ZP
namespace L2
open PySem PySem.Spec PyProof.Rows L2.ZP
section
variable {X:Cx} {e1 e2:Expr} {ta:TA} {elts:List Expr} {kt:Nat} {pt p pos p2 pos2:Pos}
end
end L2
namespace L2.VL
open PySem PySem.Spec PyProof.Rows
section
variable {X:Cx} {rl:RlT} {a b:Expr} {elts:List Expr} {kt:Nat} {pt p pos p2 pos2:Pos} {fs:TVs} {ρ:En}
end
end L2.VL

namespace PySem.SeqAt
open PySem.AutoSeq1 (wpAny_loadPart')
open MeetsSeq MeetsSeq2 MeetsSeq3 SeqRoads2
end PySem.SeqAt
namespace L2.VL
open PySem PySem.Spec PyProof.Rows
section
variable {X:Cx} {rl:RlT} {a e:Expr} {es:List Expr} {fs:TVs} {pos:Pos} {ρ:En}
end
end L2.VL

namespace L2.VL
open PySem PySem.Spec PyProof.Rows
section
variable {X:Cx} {rl:RlT} {elt tg iter:Expr} {ifs:List Expr} {scope:Scope} {pos px:Pos} {fi:En -> (List PyData -> Prop) -> Prop} {g:TGv} {ft:TB} {fe:TV} {ρ:En}
end
end L2.VL

namespace L2
open PySem PySem.Spec PyProof.Rows
noncomputable def Air (h:Heap) (a:Addr) (C:Value) (d:Option Addr) (T:Addr) (fl:Value):Prop :=
  ∃ oe vs oT ts,h.get? a = some oe /\ oe.cls = C /\ oe.dict = d /\ oe.data = .fields vs /\ vs[1]? = some (.ref T) /\ T ≠ a /\ h.get? T = some oT /\ oT.data = .fields ts /\ ts[3]? = some fl
noncomputable def Born (h:Heap) (a:Addr) (C:Value) (d:Option Addr):Prop:=∃ oe vs,h.get? a = some oe /\ oe.cls = C /\ oe.dict = d /\ oe.data = .fields vs /\ vs[1]? = some .none
structure But (fs l:List Addr) (h h':Heap):Prop where
  keep:∀ b o,b ∉ l -> b ∉ fs -> h.get? b = some o -> h'.get? b = some o
  slot:∀ b o,b ∉ l -> b ∈ fs -> h.get? b = some o -> ∃ sl,h'.get? b = some { o with slots:=sl }
  there:∀ b o,h.get? b = some o -> ∃ o',h'.get? b = some o'
theorem But.trans {fs l:List Addr} {h h1 h2:Heap} (x:But fs l h h1) (y:But fs l h1 h2):But fs l h h2 :=
  ⟨fun b o n m e=>y.keep b o n m (x.keep b o n m e),fun b o n m e=>by
    obtain ⟨s1,e1⟩:=x.slot b o n m e
    obtain ⟨s2,e2⟩:=y.slot b _ n m e1
    exact ⟨s2,e2⟩,fun b o e=>by obtain ⟨o1,e1⟩:=x.there b o e; exact y.there b o1 e1⟩
theorem But.more {fs l l':List Addr} {h h':Heap} (x:But fs l h h') (s:∀ b,b ∈ l -> b ∈ l'):But fs l' h h' :=
  ⟨fun b o n m e=>x.keep b o (fun z=>n (s b z)) m e,fun b o n m e=>x.slot b o (fun z=>n (s b z)) m e,x.there⟩
section
variable {M:Model} {A:Around} {E:Value -> Shared -> Prop} {s:Shared} {base:Heap} {env:Env} {outer:List Env} {L a T:Addr} {C:Value} {d:Option Addr} {Q:Unit -> Shared -> Prop}
theorem dict_mapF (f:Array Value -> Array Value) (o:Obj):(Obj.mapFields f o).dict = o.dict:=by
  obtain ⟨_,_,dt,_⟩:=o
  cases dt <;> rfl
theorem entryX {oe:Obj} {vs:Array Value} {head:Value} {hadNext:Bool} (hfr:A.frames = some (env :: outer)) (hl:s.heap.FunFrames base (env :: outer)) (hf:env.frame = some L) (he:s.heap.get? a = some oe) (hd:oe.data = .fields vs) (hz : 1 < vs.size)
    (h:∀ h' T,s.heap.get? T = none -> Air h' a oe.cls oe.dict T (rawInt L) -> But (frs (env :: outer)) [a] s.heap h' -> Q () { s with heap:=h' }) :
    wpAny M A (do let f <- frameOf env; let pl <- entryPlaceOf L hadNext; let b <- EntryCells.newEntry head f .none (rawInt L) .none pl; setField (.ref a) 1 b) Q E s:=by
  have na:a ∉ frs (env :: outer):=fun hm=>by
    obtain ⟨_,o,ho,hn⟩:=hl.mem hm
    rw [he] at ho
    cases ho
    exact hn vs hd
  refine wpAny_bind (wpAny_frameOf_fun hfr hl hf fun h1 z1=>wpAny_bind (wpAny_entryPlaceOf fun pl hpl=>?_))
  unfold EntryCells.newEntry newFields
  refine wpAny_bind (wpAny_newObj_type ?_ (hpl.sizeOk5 _ _ _ _ _))
  have e1:h1.get? a = some oe:=(z1.2.1 a na).trans he
  generalize hob:({ cls:=.type "traceback", dict:=none,data:=.fields ([head,.ref L,.none,rawInt L,.none] ++ (if pl.isEmpty then List.replicate 6 Value.none else pl)).toArray }:Obj) = ob
  have e2:(h1.push ob).get? a = some oe:=Heap.get?_push_of_some _ e1
  refine wpAny_setField e2 hd hz (h _ h1.objs.size ?_ ?_ ?_)
  · cases q:s.heap.get? h1.objs.size with
    | none=>rfl
    | some o =>
      obtain ⟨sl,e⟩:=z1.2.2 _ o q
      exact absurd (Heap.lt_size e) (Nat.lt_irrefl _)
  · have ne:h1.objs.size ≠ a:=Nat.ne_of_gt (Heap.lt_size e1)
    have d3:=Obj.data_mapFields hd (·.setIfInBounds 1 (Value.ref h1.objs.size))
    have e3:=Heap.get?_update_self (Obj.mapFields (·.setIfInBounds 1 (Value.ref h1.objs.size))) e2 (Obj.isFreed_of_fields d3)
    have e4:((h1.push ob).update a (Obj.mapFields (·.setIfInBounds 1 (Value.ref h1.objs.size)))).get? h1.objs.size = some ob :=
      (Heap.get?_update_other _ _ (Ne.symm ne)).trans (Heap.get?_push_size h1 (by rw [<- hob]; rfl))
    refine ⟨_,_,ob,_,e3,Obj.cls_mapFields _ _,dict_mapF _ _,d3,by simp [hz],ne,e4,by rw [<- hob],?_⟩
    first | (simp; done) | (rcases hpl with rfl | ⟨_,_,_,_,_,_,_,rfl⟩ <;> simp)
  · have kk:∀ b o,b ≠ a -> h1.get? b = some o -> ((h1.push ob).update a (Obj.mapFields (·.setIfInBounds 1 (Value.ref h1.objs.size)))).get? b = some o:=fun b o nb e=>by
      rw [Heap.get?_update_other _ _ (Ne.symm nb)]
      exact Heap.get?_push_of_some _ e
    refine ⟨fun b o n m e=>kk b o (by simpa using n) ((z1.2.1 b m).trans e),fun b o n m e=>?_,fun b o e=>?_⟩
    · obtain ⟨sl,q⟩:=z1.2.2 b o e
      exact ⟨sl,kk b _ (by simpa using n) q⟩
    · by_cases hb:b = a
      · subst hb
        exact ⟨_,Heap.get?_update_self _ e2 (Obj.isFreed_of_fields (Obj.data_mapFields hd _))⟩
      · obtain ⟨sl,q⟩:=z1.2.2 b o e
        exact ⟨_,kk b _ hb q⟩
theorem noteX1 (hfr:A.frames = some (env :: outer)) (hl:s.heap.FunFrames base (env :: outer)) (hf:env.frame = some L) (b:Born s.heap a C d)
    (h:∀ h' T,s.heap.get? T = none -> Air h' a C d T (rawInt L) -> But (frs (env :: outer)) [a] s.heap h' -> Q () { s with heap:=h' }):wpAny M A (noteFrame (.ref a) env) Q E s:=by
  obtain ⟨oe,vs,he,rfl,rfl,hd,h1⟩:=b
  unfold noteFrame
  simp only [hf]
  refine wpAny_bind (wpAny_field he hd h1 ?_)
  rw [if_neg (by decide)]
  exact entryX hfr hl hf he hd (Array.getElem?_eq_some_iff.mp h1).1 h
theorem noteX2 (hfr:A.frames = some (env :: outer)) (hl:s.heap.FunFrames base (env :: outer)) (hf:env.frame = some L) (b:Air s.heap a C d T .none)
    (h:∀ h' T',s.heap.get? T' = none -> Air h' a C d T' (rawInt L) -> But (frs (env :: outer)) [a,T] s.heap h' -> Q () { s with heap:=h' }):wpAny M A (noteFrame (.ref a) env) Q E s:=by
  obtain ⟨oe,vs,oT,ts,he,rfl,rfl,hd,h1,nT,hT,dT,h3⟩:=b
  unfold noteFrame
  simp only [hf]
  refine wpAny_bind (wpAny_field he hd h1 ?_)
  rw [if_pos (show (Value.ref T != Value.none) = true from by simp)]
  refine wpAny_bind (wpAny_field hT dT h3 ?_)
  rw [if_neg (show ¬ ((Value.none == rawInt L) = true) from by simp [rawInt])]
  refine wpAny_bind (wpAny_setField hT dT (Array.getElem?_eq_some_iff.mp h3).1 ?_)
  have oth:∀ b,b ≠ T -> (s.heap.update T (Obj.mapFields (·.setIfInBounds 3 Value.none))).get? b = s.heap.get? b:=fun b n=>Heap.get?_update_other _ _ (Ne.symm n)
  have ntT:∀ b o,s.heap.get? b = some o -> (∀ vs,o.data ≠ .fields vs) -> b ≠ T:=fun b o e n q=>by
    rw [q,hT] at e
    cases e
    exact n ts dT
  have B0:But (frs (env :: outer)) [a,T] s.heap (s.heap.update T (Obj.mapFields (·.setIfInBounds 3 Value.none))):=⟨fun b o n _ e=>(oth b (fun z=>n (by simp [z]))).trans e,fun b o n _ e=>⟨o.slots,(oth b (fun z=>n (by simp [z]))).trans e⟩,fun b o e=>by
    by_cases q:b = T
    · subst q
      exact ⟨_,Heap.get?_update_self _ e (by rw [hT] at e; cases e; exact Obj.isFreed_of_fields (Obj.data_mapFields dT _))⟩
    · exact ⟨o,(oth b q).trans e⟩⟩
  refine entryX (s:={ s with heap:=_ }) hfr (hl.of_keeps fun b o e n=>⟨o,(oth b (ntT b o e n)).trans e,rfl⟩) hf ((oth a (Ne.symm nT)).trans he) hd (Array.getElem?_eq_some_iff.mp h1).1 fun h' T' n' air bt=>?_
  refine h h' T' ?_ air (B0.trans (bt.more fun b z=>by simp at z; simp [z]))
  cases q:s.heap.get? T' with
  | none=>rfl
  | some o=>obtain ⟨o',e'⟩:=B0.there _ o q; rw [n'] at e'; cases e'
theorem flyX {fl:Value} (b:Air s.heap a C d T fl) (h:∀ h',Air h' a C d T .none -> (∀ b,b ≠ T -> h'.get? b = s.heap.get? b) -> (∃ o,h'.get? T = some o) -> Q () { s with heap:=h' }):wpAny M A (setFlight (.ref a) none) Q E s:=by
  obtain ⟨oe,vs,oT,ts,he,rfl,rfl,hd,h1,nT,hT,dT,h3⟩:=b
  have z3 : 3 < ts.size:=(Array.getElem?_eq_some_iff.mp h3).1
  unfold setFlight
  refine wpAny_bind (wpAny_field he hd h1 ?_)
  rw [if_pos (show (Value.ref T != Value.none) = true from by simp)]
  have oth:∀ b,b ≠ T -> (s.heap.update T (Obj.mapFields (·.setIfInBounds 3 ((none:Option Addr).elim Value.none fun f=>rawInt f)))).get? b = s.heap.get? b:=fun b n=>Heap.get?_update_other _ _ (Ne.symm n)
  have eT:=Heap.get?_update_self (Obj.mapFields (·.setIfInBounds 3 ((none:Option Addr).elim Value.none fun f=>rawInt f))) hT (Obj.isFreed_of_fields (Obj.data_mapFields dT _))
  exact wpAny_setField hT dT z3 (h _ ⟨oe,vs,_,_,(oth a (Ne.symm nT)).trans he,rfl,rfl,hd,h1,nT,eT,Obj.data_mapFields dT _,by simp [z3]⟩ oth ⟨_,eT⟩)
theorem fly_but {fs:List Addr} {h h':Heap} (k:∀ b,b ≠ T -> h'.get? b = h.get? b) (t:∃ o,h'.get? T = some o):But fs [T] h h' :=
  ⟨fun b o n _ e=>(k b (by simpa using n)).trans e,fun b o n _ e=>⟨o.slots,(k b (by simpa using n)).trans e⟩,fun b o e=>by
    by_cases q:b = T
    · subst q; exact t
    · exact ⟨o,(k b q).trans e⟩⟩
theorem leaveX1 (hfr:A.frames = some (env :: outer)) (hl:s.heap.FunFrames base (env :: outer)) (hf:env.frame = some L) (b:Born s.heap a C d)
    (h:∀ h' T,s.heap.get? T = none -> Air h' a C d T .none -> But (frs (env :: outer)) [a] s.heap h' -> Q () { s with heap:=h' }):wpAny M A (leaving env (.ref a)) Q E s:=by
  unfold leaving
  refine wpAny_bind (noteX1 hfr hl hf b fun h1 T n1 air bt=>?_)
  refine flyX air fun h2 air2 k2 t2=>h h2 T n1 air2 ?_
  have b2:But (frs (env :: outer)) [T] h1 h2:=fly_but k2 t2
  refine ⟨fun c o n m e=>b2.keep c o ?_ m (bt.keep c o n m e),fun c o n m e=>?_,fun c o e=>by obtain ⟨o1,e1⟩:=bt.there c o e; exact b2.there c o1 e1⟩
  · intro z
    have:c = T:=by simpa using z
    subst this
    rw [n1] at e
    cases e
  · obtain ⟨sl,e1⟩:=bt.slot c o n m e
    refine b2.slot c _ ?_ m e1 |>.imp fun sl' e2=>e2
    intro z
    have:c = T:=by simpa using z
    subst this
    rw [n1] at e
    cases e
end
end L2

namespace L2
open PySem PySem.Spec PyProof.Rows
noncomputable def bmV:List Value:=[.type "ValueError", .type "Exception", .type "BaseException", .type "object"]
noncomputable def xcIn (K:W.Frag) (C:Addr):Bool:=match K.lookup C with
  | some ⟨.type "type", _,.cls cd,sl⟩=>(match cd.mro,sl.toList with
    | .ref C' :: bm,[_,_,_,_,some (.builtin n),_]=>C' == C && n == "ValueError.__new__" && !cd.hasDel && cd.hasDict && W.tailIn K bmV bm && W.nsOkIn K cd.ns
    | _,_=>false)
  | _=>false
theorem xc_cls {K:W.Frag} {h:Heap} {C:Addr} (X:K.In h) (q:xcIn K C = true):∃ nm qn N bs bm sn sub ab col dd k0 k1 k2 k3 k5,
    K.lookup C = some (excClassObj nm qn C N bs bm true sn sub ab col dd k0 k1 k2 k3 k5 "ValueError.__new__") /\ OwnTail h bmV bm:=by
  unfold xcIn at q
  split at q
  · rename_i dd cd sl ho
    split at q
    · rename_i C' bm k0 k1 k2 k3 n k5 hm hs
      simp only [Bool.and_eq_true,beq_iff_eq,Bool.not_eq_true'] at q
      obtain ⟨⟨⟨⟨⟨c1,c2⟩,c3⟩,c4⟩,c5⟩,c6⟩:=q
      obtain ⟨nm,bs,mro,ns,qn,hd,sn,sub,ab,col,del⟩:=cd
      dsimp only at hm c3 c4 c6
      have hsl:sl = #[k0,k1,k2,k3,some (.builtin n),k5]:=by
        obtain ⟨l⟩:=sl
        simp only at hs
        rw [hs]
      subst hsl hm c1 c2 c3 c4
      exact ⟨nm,qn,ns,bs,bm,sn,sub,ab,col,dd,k0,k1,k2,k3,k5,ho,W.tail_of_in X c5⟩
    · cases q
  · cases q
abbrev excObj (C t:Addr) (d:Option Addr):Obj:={ cls:=.ref C,dict:=d,data:=.fields #[.ref t,.none,.none,.none,.bool false,.none] }
abbrev bornHeap (h:Heap) (C:Addr) (us:List Value):Heap:=(h.push { cls:=.type "tuple", data:=.seq us.toArray }).push (excObj C h.objs.size none)
section
variable {prog:Program} {w:World} {A:Around} {E:Value -> Shared -> Prop} {s:Shared} {K:W.Frag} {C f:Addr} {us:List Value}
theorem call_xinit {Q:Value -> Shared -> Prop} (X:K.In s.heap) (q:xcIn K C = true) (hi:W.findIn K (.ref C) "__init__" = some (some (.ref f))) (hf:W.typeIn K (.ref f) = some (.type "function")) (hz:us.length <= sizeLine)
    (h:wpAny (model prog w) (A.under (.builtin "type.__call__" ⟨.ref C :: us,[]⟩)) (call (.ref f) (.ref (s.heap.objs.size + 1) :: us)) (fun r s'=>r = .none /\ Q (.ref (s.heap.objs.size + 1)) s') E { s with heap:=bornHeap s.heap C us }) :
    wpAny (model prog w) A (call (.ref C) us) Q E s:=by
  obtain ⟨nm,qn,N,bs,bm,sn,sub,ab,col,dd,k0,k1,k2,k3,k5,lk,T⟩:=xc_cls X q
  obtain ⟨hp,g,d,t,os⟩:=s
  have hC:=X _ _ lk
  have F:=PySem.F.excBase_ValueError
  have f1:=tc_lookup
  have f2:=tc_bind (.ref C)
  have hT:(⟨hp,g,d,t,os⟩:Shared).TypeIs (.ref C) "type" := ⟨_,hC,rfl⟩
  refine wpAny_call (codeAny_of_tree ?_)
  show wpAny _ _ (callAny (.ref C) _) _ _ _
  repeat (any_goals (first | assumption | (with_reducible refine wpAny_loadPart_at hC ?_) | wp_step))
  refine ⟨rfl,?_⟩
  refine codeAny_call_builtin_at (Code.quiet_builtin _ (by decide +kernel)) entry_typeCall (wpAny_check_type_call_sub hC ?_)
  repeat (first | (with_reducible refine wpAny_loadPart_at hC ?_) | (with_reducible refine wpAny_madeBy_exc hC ?_) | wp_step)
  refine codeAny_call_builtin_code (Code.quiet_builtin _ F.quiet) (wpAny_check_new_subT F T hC ?_)
  refine codeAny_exc_new_subT F T hC ?_ hz
  show wpAny _ _ _ _ _ _
  have kk:∀ b o,hp.get? b = some o -> (bornHeap hp C us).get? b = some o:=fun b o e=>Heap.get?_push_of_some _ (Heap.get?_push_of_some _ e)
  have hC1:=kk _ _ hC
  have X1:K.In (bornHeap hp C us):=X.keeps kk
  have hg:(bornHeap hp C us).get? (hp.objs.size + 1) = some (excObj C hp.objs.size none):=by heap_get
  have hcC:(Value.ref C :: bm).contains (.ref C) = true:=by simp
  unfold isInstance
  repeat (first | (with_reducible refine wpAny_loadPart_at hg ?_) | ((with_reducible refine wpAny_isSubtype_exc hC1 ?_); rw [hcC]) | wp_step)
  refine wpAny_isSubtype_exc hC1 ?_
  rw [hcC]
  repeat (first | (with_reducible refine wpAny_loadPart_at hg ?_) | wp_step)
  show wpAny _ _ (typeLookup (.ref C) _) _ _ _
  refine W.Looks.here (s:=⟨bornHeap hp C us,g,d,t,os⟩) (W.looks_findIn X1 hi) ?_
  refine wpAny_holding (wpAny_bind (W.Looks.here (s:=⟨bornHeap hp C us,g,d,t,os⟩) (W.bind_fn X1 _ hf) ?_))
  refine wpAny_bind (wpAny_mono h (fun r s' hr=>?_) fun _ _ x=>x)
  obtain ⟨rfl,hQ⟩:=hr
  wp_walk
  exact hQ
end
end L2

namespace L2
open PySem PySem.Spec PyProof.Rows
open Builtin Builtin.ObjectAttr
theorem refuse_x {h:Heap} (self:Value) {l:List Value} (T:OwnTail h bmV l):refuseLoop self "__setattr__" l = pure ():=by
  induction T with
  | base=>exact PySem.F.store_ValueError.passes self
  | own _ _ _ _ ih=>rw [refuseLoop_ref]; exact ih
section
variable {prog:Program} {w:World} {A:Around} {E:Value -> Shared -> Prop} {s:Shared} {K:W.Frag} {C a t:Addr} {d:Option Addr} {name:Str} {v:Value} {mA:Str -> Option Value} {ns:List Str}
theorem set_x {Q:Unit -> Shared -> Prop} (X:K.In s.heap) (q:xcIn K C = true) (hs:W.findIn K (.ref C) "__setattr__" = some (some (.builtin "object.__setattr__"))) (hn:W.findIn K (.ref C) name = some none)
    (ha:s.heap.get? a = some (excObj C t d)) (hm:(d = none /\ ∀ n,mA n = none) \/ ∃ dx,d = some dx /\ dx ≠ a /\ s.heap.Ns1 dx mA) (hw:PySem.Within mA ns) (hz:ns.length <= sizeLine)
    (h:∀ h' tk dx,h'.get? a = some (excObj C t (some dx)) -> h'.Ns1 dx (fun y=>if y = name then some v else mA y) -> dx ≠ a -> (d = some dx \/ (d = none /\ s.heap.objs.size <= dx)) ->
      (∀ b o,b ≠ a -> b ≠ dx -> s.heap.get? b = some o -> h'.get? b = some o) -> Q () { s with heap:=h',toks:=tk }):wpAny (model prog w) A (setAttr (.ref a) name v) Q E s:=by
  obtain ⟨nm,qn,N,bs,bm,sn,sub,ab,col,dd,k0,k1,k2,k3,k5,lk,T⟩:=xc_cls X q
  have hC:=X _ _ lk
  have SF:=PySem.F.store_ValueError
  obtain ⟨od,I⟩:∃ od,W.InstAt s.heap a (excObj C t d) C od:=by
    rcases hm with ⟨rfl,_⟩ | ⟨dx,rfl,_,⟨o,es,ep,ho,_⟩⟩
    · exact ⟨none,ha,rfl,rfl,trivial⟩
    · exact ⟨some o,ha,rfl,rfl,ho⟩
  refine W.set_plain X I hs ?_
  obtain ⟨hp,g,dr,tk,os⟩:=s
  have hc:W.clsIn K C = some { name:=nm,bases:=bs,mro:=.ref C :: bm,ns:=N,qualname:=qn,hasDict:=true,slotNames:=sn,subclasses:=sub,abstract:=ab,collection:=col,hasDel:=false }:=by
    unfold W.clsIn
    rw [lk]
  have hmr:W.Looks (model prog w) hp (mroOf (.ref C)) (.ref C :: bm):=(W.looks_clsIn X hc).andThen .now
  have sb:W.Looks (model prog w) hp (isInstance (.ref a) (.type "object")) true:=I.type.andThen (W.looks_mroIn X (by
    unfold W.mroIn
    rw [hc,Option.bind_some,if_neg (by simp),List.contains_cons,T.hasType (X := "object") (b:=true) (by decide +kernel),Bool.or_true]))
  refine codeAny_call_builtin SF.slot.plain SF.entry (@W.check_slot (model prog w) _ _ ⟨hp,g,dr,tk + 1,os⟩ "object.__setattr__" "object" "__setattr__" (.ref a) [.str name tk,v] [] _ SF.kind SF.split sb (SF.args (.ref a) (.str name tk) v) ?_)
  rw [W.osa_eq,refuse_eq]
  refine wpAny_bind (wpAny_bind (W.Looks.here (s:=⟨hp,g,dr,tk + 1,os⟩) I.type (wpAny_bind (W.Looks.here (s:=⟨hp,g,dr,tk + 1,os⟩) hmr ?_))))
  rw [refuseLoop_ref,refuse_x _ T]
  refine wpAny_pure (wpAny_bind (W.Looks.here (s:=⟨hp,g,dr,tk + 1,os⟩) I.type (wpAny_bind (W.Looks.here (s:=⟨hp,g,dr,tk + 1,os⟩) (W.looks_findIn X hn) ?_))))
  refine wpAny_bind (wpAny_pure ?_)
  show wpAny _ _ (storeInOwnDict _ _ _ _ _ _) _ _ _
  rcases hm with ⟨rfl,hmA⟩ | ⟨dx,rfl,hne,hns⟩
  · have hC':=hC
    refine wpAny_bind (wpAny_pure (wpAny_bind (wpAny_bind (wpAny_loadPart (s:=⟨hp,g,dr,tk + 1,os⟩) ha (wpAny_bind (W.Looks.here (s:=⟨hp,g,dr,tk + 1,os⟩) (W.looks_clsIn X hc) ?_))))))
    have ha1:(hp.push { cls:=.type "dict", data:=.dict #[] }).get? a = some (excObj C t none):=Heap.get?_push_of_some _ ha
    have nas:a ≠ hp.objs.size:=Nat.ne_of_lt (Heap.lt_size ha)
    refine wpAny_bind (wpAny_alloc' ?_)
    refine wpAny_bind (wpAny_update' ha1 (wpAny_pure ?_))
    have hgd:((hp.push { cls:=.type "dict", data:=.dict #[] }).update a fun o=>{ o with dict:=some hp.objs.size }).get? hp.objs.size = some { cls:=.type "dict", data:=.dict #[] } :=
      (Heap.get?_update_ne _ _ _ _ nas.symm).trans (Heap.get?_push_at rfl rfl)
    have hnd:((hp.push { cls:=.type "dict", data:=.dict #[] }).update a fun o=>{ o with dict:=some hp.objs.size }).Ns hp.objs.size (fun _=>none):=⟨_,#[],_,hgd,rfl,fun e he=>absurd he (by simp),fun _=>rfl⟩
    have hga:((hp.push { cls:=.type "dict", data:=.dict #[] }).update a fun o=>{ o with dict:=some hp.objs.size }).get? a = some (excObj C t (some hp.objs.size)):=Heap.get?_update_self _ ha1 rfl
    show wpAny _ _ (storeInDict hp.objs.size (.str name tk) name v) _ _ _
    unfold storeInDict newKeyGuard
    refine wpAny_bind (wpAny_pure (wpAny_bind (wpAny_nsSet1 (Heap.Ns1.of_empty hnd) fun h' hn' hs'=>?_)))
    obtain ⟨oD,esD,epD,hoD,hdD,hcD⟩:=hn'.count (Within.cons name v Within.nil)
    refine wpAny_bind (wpAny_lookBehind hoD (by rw [hdD]; exact pastItsLine_dict (Nat.le_trans hcD (by rw [List.length_cons,List.length_nil,sizeLine_eq]; omega))) (wpAny_pure ?_))
    refine h h' _ hp.objs.size ((hs'.2 a nas).trans hga) ?_ nas.symm (.inr ⟨rfl,Nat.le_refl _⟩) fun b o n1 n2 e=>(hs'.2 b n2).trans ((Heap.get?_update_ne _ _ _ _ n1).trans (Heap.get?_push_of_some _ e))
    obtain ⟨o',es,ep,e1,e2,e3,eu,e4⟩:=hn'
    exact ⟨o',es,ep,e1,e2,e3,eu,fun y=>by rw [e4 y]; by_cases hy:y = name <;> simp [hy,hmA]⟩
  · refine wpAny_bind (wpAny_pure (wpAny_bind (wpAny_bind (wpAny_loadPart (s:=⟨hp,g,dr,tk + 1,os⟩) ha (wpAny_bind (W.Looks.here (s:=⟨hp,g,dr,tk + 1,os⟩) (W.looks_clsIn X hc) ?_))))))
    refine wpAny_pure (a:=some dx) ?_
    show wpAny _ _ (storeInDict dx (.str name tk) name v) _ _ _
    unfold storeInDict newKeyGuard
    refine wpAny_bind (wpAny_pure (wpAny_bind (wpAny_nsSet1 (s:=⟨hp,g,dr,tk + 1,os⟩) hns fun h' hn' hs'=>?_)))
    obtain ⟨oD,esD,epD,hoD,hdD,hcD⟩:=hn'.count (Within.cons name v hw)
    refine wpAny_bind (wpAny_lookBehind hoD (by rw [hdD]; exact pastItsLine_dict (Nat.le_trans hcD (by rw [List.length_cons]; omega))) (wpAny_pure ?_))
    exact h h' _ dx ((hs'.2 a hne.symm).trans ha) hn' hne (.inl rfl) fun b o n1 n2 e=>(hs'.2 b n2).trans e
end
end L2

namespace L2
open PySem PySem.Spec PyProof.Rows
open Builtin Builtin.ObjectAttr
theorem lk_at {α:Type} {M:Model} {A:Around} {E:Value -> Shared -> Prop} {h:Heap} {g:Array GenState} {d:Drawn} {tk:Nat} {os:OsState} {t:Sem α} {r : α} {Q : α -> Shared -> Prop} (x:W.Looks M h t r) (q:Q r ⟨h,g,d,tk,os⟩):wpAny M A t Q E ⟨h,g,d,tk,os⟩:=x.here (s:=⟨h,g,d,tk,os⟩) q
section
variable {prog:Program} {w:World} {A:Around} {E:Value -> Shared -> Prop} {s:Shared} {K:W.Frag} {C a dx:Addr} {name:Str} {v:Value} {mA:Str -> Option Value} {oe:Obj} {vs:Array Value}
theorem get_x {expr:Bool} {Q:Value -> Shared -> Prop} (X:K.In s.heap) (q:xcIn K C = true) (hg:W.findIn K (.ref C) "__getattribute__" = some (some (.builtin "BaseException.__getattribute__"))) (hh:W.findIn K (.ref C) "__getattr__" = some none)
    (hn:W.findIn K (.ref C) name = some none) (ha:s.heap.get? a = some oe) (hc:oe.cls = .ref C) (hd:oe.dict = some dx) (hv:oe.data = .fields vs) (ns:s.heap.Ns1 dx mA) (hm:mA name = some v) (hv':W.handedIn v = true)
    (h:Q v { s with toks:=s.toks + 1 }):wpAny (model prog w) A (getAttr (.ref a) name expr) Q E s:=by
  obtain ⟨nm,qn,N,bs,bm,sn,sub,ab,col,dd,k0,k1,k2,k3,k5,lk,T⟩:=xc_cls X q
  have hC:=X _ _ lk
  have F:=PySem.F.excBase_ValueError
  have FB:=PySem.F.attrBase_ValueError
  obtain ⟨od,ho,hl⟩:=lookIn_ns ns
  have I:W.InstAt s.heap a oe C (some od):=⟨ha,hc,by unfold W.notCls; rw [hv],by rw [hd]; exact ho⟩
  have hc':W.clsIn K C = some { name:=nm,bases:=bs,mro:=.ref C :: bm,ns:=N,qualname:=qn,hasDict:=true,slotNames:=sn,subclasses:=sub,abstract:=ab,collection:=col,hasDel:=false }:=by
    unfold W.clsIn
    rw [lk]
  have hf:W.findObj K C (some od) name = some (.value v):=W.findObj_own (by unfold W.hasDictIn; rw [hc']; rfl) hn rfl (by rw [hl,hm])
  obtain ⟨hp,g,dr,tk,os⟩:=s
  have L0:=I.type (M:=model prog w)
  have L1:=W.looks_find (M:=model prog w) X I hf
  have L2:=W.looks_findIn (M:=model prog w) X hg
  have L3:=W.looks_findIn (M:=model prog w) X hh
  have f3:=FB.ga.bind (.ref a)
  have hx0:(expr && onTheHeap (Value.builtin "BaseException.__getattribute__")) = false:=by cases expr <;> rfl
  have hx2:(Value.builtin "BaseException.__getattribute__" == Value.builtin "object.__getattribute__") = false:=by decide +kernel
  have hx1:(onTheHeap (Value.ref C) && Value.builtin "BaseException.__getattribute__" == Value.builtin "object.__getattribute__") = false:=by rw [hx2]; rfl
  have sb:W.Looks (model prog w) hp (isInstance (.ref a) (.type "BaseException")) true:=I.type.andThen (W.looks_mroIn X (by
    unfold W.mroIn
    rw [hc',Option.bind_some,if_neg (by simp),List.contains_cons,T.hasType (X := "BaseException") (b:=true) (by decide +kernel),Bool.or_true]))
  have hk:builtinKind "BaseException.__getattribute__" = some .slot:=by decide +kernel
  have hsplit:splitId "BaseException.__getattribute__" = some ("BaseException", "__getattribute__"):=by decide +kernel
  unfold getAttr getAttrBy
  repeat (any_goals (first | assumption | (with_reducible refine lk_at L0 ?_) | (with_reducible refine lk_at L2 ?_) | (with_reducible refine lk_at L3 ?_) | wp_step))
  refine codeAny_call_builtin FB.ga.plain PySem.F.entry_bexc_ga (@W.check_slot (model prog w) _ _ ⟨hp,g,dr,tk + 1,os⟩ "BaseException.__getattribute__" "BaseException" "__getattribute__" (.ref a) [.str name tk] [] _ hk hsplit sb (PySem.F.args_bexc_ga (.ref a) (.str name tk)) ?_)
  unfold Builtin.«object.__getattribute__»
  repeat (any_goals (first | assumption | (with_reducible refine lk_at L0 ?_) | (with_reducible refine lk_at L1 ?_) | wp_step))
  refine lk_at (r:=v) (.of_pure (W.handedOut_of hv')) ?_
  exact h
end
end L2

namespace L2
open PySem PySem.Spec PyProof.Rows
open Builtin Builtin.ObjectAttr
structure XCls (K:W.Frag) (C:Addr):Prop where
  xc:xcIn K C = true
  sa:W.findIn K (.ref C) "__setattr__" = some (some (.builtin "object.__setattr__"))
  ga:W.findIn K (.ref C) "__getattribute__" = some (some (.builtin "BaseException.__getattribute__"))
  gh:W.findIn K (.ref C) "__getattr__" = some none
  ca:W.findIn K (.ref C) "__class__" = some (some (.builtin "object.__class__"))
  cg:W.specialIn K (.builtin "object.__class__") "__get__" = some (some (.builtin "getset_descriptor.__get__"))
  ct:W.takesIn K (.builtin "object.__class__") = some true
  ob:W.mroIn K C (.type "object") = some true
theorem XCls.cls {K:W.Frag} {C:Addr} (c:XCls K C):∃ cd,W.clsIn K C = some cd:=by
  have q:=c.xc
  unfold xcIn at q
  unfold W.clsIn
  split at q
  · rename_i ho
    rw [ho]
    exact ⟨_,rfl⟩
  · cases q
section
variable {prog:Program} {w:World} {A:Around} {E:Value -> Shared -> Prop} {s:Shared} {K:W.Frag} {C a dx:Addr} {ox od:Obj}
theorem class_x {Q:Option Value -> Shared -> Prop} (c:XCls K C) (X:K.In s.heap) (I:W.InstAt s.heap a ox C (some od)) (h:Q (some (.ref C)) { s with toks:=s.toks + 1 }):wpAny (model prog w) A (getAttr? (.ref a) "__class__") Q E s:=by
  obtain ⟨nm,qn,N,bs,bm,sn,sub,ab,col,dd,k0,k1,k2,k3,k5,lk,T⟩:=xc_cls X c.xc
  have hC:=X _ _ lk
  have FB:=PySem.F.attrBase_ValueError
  have hc':W.clsIn K C = some { name:=nm,bases:=bs,mro:=.ref C :: bm,ns:=N,qualname:=qn,hasDict:=true,slotNames:=sn,subclasses:=sub,abstract:=ab,collection:=col,hasDel:=false }:=by
    unfold W.clsIn
    rw [lk]
  have hf:W.findObj K C (some od) "__class__" = some (.bind (.builtin "getset_descriptor.__get__") (.builtin "object.__class__")):=W.findObj_data (by rw [hc']; rfl) c.ca c.cg c.ct
  have cg:∀ {A:Around} {R:Result -> Shared -> Prop} {s':Shared},s'.heap = s.heap -> R (.ok (.ret (.ref C))) s' -> codeAny (model prog w) A (.call (.builtin "getset_descriptor.__get__") ⟨[.builtin "object.__class__", .ref a,.ref C],[]⟩) R s':=fun {A R s'} e z=>by
    obtain ⟨h1,g1,d1,t1,o1⟩:=s'
    cases e
    exact W.class_get (s:=⟨s.heap,g1,d1,t1,o1⟩) (ox:=ox) (od:=some od) X I c.ob z
  obtain ⟨hp,g,dr,tk,os⟩:=s
  have L0:=I.type (M:=model prog w)
  have L1:=W.looks_find (M:=model prog w) X I hf
  have L2:=W.looks_findIn (M:=model prog w) X c.ga
  have L3:=W.looks_findIn (M:=model prog w) X c.gh
  have f3:=FB.ga.bind (.ref a)
  have hx2:(Value.builtin "BaseException.__getattribute__" == Value.builtin "object.__getattribute__") = false:=by decide +kernel
  have hx1:(onTheHeap (Value.ref C) && Value.builtin "BaseException.__getattribute__" == Value.builtin "object.__getattribute__") = false:=by rw [hx2]; rfl
  have hx0:(false && onTheHeap (Value.builtin "BaseException.__getattribute__")) = false:=rfl
  have sb:W.Looks (model prog w) hp (isInstance (.ref a) (.type "BaseException")) true:=I.type.andThen (W.looks_mroIn X (by
    unfold W.mroIn
    rw [hc',Option.bind_some,if_neg (by simp),List.contains_cons,T.hasType (X := "BaseException") (b:=true) (by decide +kernel),Bool.or_true]))
  have hk:builtinKind "BaseException.__getattribute__" = some .slot:=by decide +kernel
  have hsplit:splitId "BaseException.__getattribute__" = some ("BaseException", "__getattribute__"):=by decide +kernel
  unfold getAttr? getAttrBy? getAttrBy
  repeat (any_goals (first | assumption | (with_reducible refine lk_at L0 ?_) | (with_reducible refine lk_at L2 ?_) | (with_reducible refine lk_at L3 ?_) | wp_step))
  refine codeAny_call_builtin FB.ga.plain PySem.F.entry_bexc_ga (@W.check_slot (model prog w) _ _ ⟨hp,g,dr,tk + 1,os⟩ "BaseException.__getattribute__" "BaseException" "__getattribute__" (.ref a) [.str "__class__" tk] [] _ hk hsplit sb (PySem.F.args_bexc_ga (.ref a) (.str "__class__" tk)) ?_)
  unfold Builtin.«object.__getattribute__»
  repeat (any_goals (first | assumption | (with_reducible refine lk_at L0 ?_) | (with_reducible refine lk_at L1 ?_) | wp_step))
  exact cg rfl (wpAny_pure (wpAny_pure (wpAny_pure h)))
theorem kitx_x (c:XCls K C):W.KitX K (.ref a) (.ref C) (fun h=>∃ ox od,W.InstAt h a ox C (some od)) where
  ty:=fun _ _ _ ⟨_,_,I⟩=>I.type
  it:=fun _ _ X _=>by
    obtain ⟨cd,hc⟩:=c.cls
    unfold W.clsIn at hc
    split at hc
    · rename_i ho
      intro A' Q' E' s' k q
      unfold isType loadHead
      exact wpAny_bind (wpAny_loadPart (k _ _ (X _ _ ho)) (wpAny_pure q))
    · cases hc
  ne:=fun h tp dd its n sl X htp=>by
    obtain ⟨cd,hc⟩:=c.cls
    refine Bool.eq_false_iff.mpr fun q=>?_
    have e:C = tp:=Value.ref.inj (beq_iff_eq.mp q)
    subst e
    unfold W.clsIn at hc
    split at hc
    · rename_i ho
      have z:=(X _ _ ho).symm.trans htp
      cases z
    · cases hc
  ca:=fun X ⟨_,_,I⟩ k=>class_x c X I k
end
abbrev BornAt (a C:Addr) (d:Option Addr):Heap -> Prop:=fun h=>∃ t,h.get? a = some (excObj C t d)
theorem born_ok {P:Program} {w:World} {H:Hp} {h:Heap} {a C t:Addr} {d:Option Addr} (e:h.get? a = some (excObj C t d)):ObjOk P w H h a (.ext (BornAt a C d)) :=
  ⟨⟨t,e⟩,⟨_,e⟩,fun _ _ ⟨u,z⟩ k=>⟨u,k _ z⟩⟩
section
variable {X:Cx} {pins:List (Addr × Obj)} {σ:St} {H:Hp} {s:Shared} {a C dx:Addr} {f:Str} {v:V} {A:Around} {E:Value -> Shared -> Prop}
theorem setx_ok {u:Value} {Q:Unit -> Shared -> Prop} (I:Inv X pins σ H s) (e:H a = some (.ext (BornAt a C none))) (c:XCls X.K C) (n:NoAttr X.K C f) (r:RelV v u)
    (h:∀ s' dx,H dx = none -> dx ≠ a -> Inv X pins σ (upd (upd H a (.ext (BornAt a C (some dx)))) dx (.xd [(f,v)])) s' -> Q () s'):wpAny (model X.prog X.w) A (setAttr (.ref a) f u) Q E s:=by
  obtain ⟨⟨t,ea⟩,_,_⟩:=(show ObjOk X.prog X.w H s.heap a (.ext (BornAt a C none)) from I.hok a _ e)
  refine set_x (mA:=fun _=>none) (ns:=[]) I.kIn c.xc c.sa n ea (.inl ⟨rfl,fun _=>rfl⟩) Within.nil (Nat.zero_le _) fun h' tk dx e1 e2 ne hdx kk=>?_
  obtain hz:s.heap.objs.size <= dx:=by
    rcases hdx with z | ⟨_,z⟩
    · cases z
    · exact z
  have fr:H dx = none:=I.hok.fresh hz
  have lt:∀ b o,s.heap.get? b = some o -> b ≠ dx:=fun b o q=>Nat.ne_of_lt (Nat.lt_of_lt_of_le (Heap.lt_size q) hz)
  have ltH:∀ b o,H b = some o -> b ≠ dx:=fun b o q=>ne_of_none q fr
  have nea:∀ b,H b = none -> b ≠ a:=fun b q z=>by rw [z,e] at q; cases q
  have up:∀ b o,b ≠ a -> H b = some o -> upd (upd H a (.ext (BornAt a C (some dx)))) dx (.xd [(f,v)]) b = some o:=fun b o n q=>by
    rw [upd_ne (ltH b o q),upd_ne n]
    exact q
  refine h _ dx fr ne (I.un (h':=h') (t':=tk) ⟨fun b o q n _ _=>kk b o (nea b n) (lt b o q) q,fun b o q n _ _=>⟨o.slots,kk b o (nea b n) (lt b o q) q⟩,fun b o q n _=>?_,fun b o q _=>?_,fun b xs q=>up b _ ?_ q,fun b o u q=>up b _ ?_ q,fun b ps q=>⟨#[],by rw [up b _ (ne_of q e (fun z=>nomatch z)) q]; simp⟩⟩ fun b o q=>?_)
  · rw [upd_ne (lt b o q),upd_ne (nea b n)]
    exact n
  · by_cases hb:b = a
    · subst hb; exact ⟨_,e1⟩
    · exact ⟨o,kk b o hb (lt b o q) q⟩
  · exact ne_of q e (fun z=>nomatch z)
  · exact ne_of q e (fun z=>nomatch z)
  · by_cases hd:b = dx
    · subst hd
      rw [upd_same] at q
      cases q
      refine ⟨_,e2,fun g=>?_⟩
      by_cases hg:g = f
      · subst hg
        have hb:(g == g) = true:=by simp
        simp only [List.lookup,hb,if_true]
        exact r
      · have hb:(g == f) = false:=beq_eq_false_iff_ne.mpr hg
        simp only [List.lookup,hb,if_neg hg]
        exact True.intro
    · rw [upd_ne hd] at q
      by_cases hb:b = a
      · subst hb
        rw [upd_same] at q
        cases q
        exact born_ok e1
      · rw [upd_ne hb] at q
        refine (I.hok b o q).stay (fun c u hc z=>kk c u ?_ (lt c u z) z) (fun c z=>up c _ (ne_of z e (fun y=>nomatch y)) z) fun c xs z=>up c _ (ne_of z e (fun y=>nomatch y)) z
        rcases hc with rfl | hc
        · exact hb
        · exact ne_of hc e (fun y=>nomatch y)
end
end L2

namespace L2
open PySem PySem.Spec PyProof.Rows
section
variable {M:Model} {A:Around} {E:Value -> Shared -> Prop} {s:Shared} {env:Env} {K:W.Frag}
theorem raise_x {x:Sem Value} {Q:Flow -> Shared -> Prop} (hh:A.handled = none)
    (h:wpAny M A x (fun v s1=>∃ a C t d,v = .ref a /\ K.In s1.heap /\ xcIn K C = true /\ s1.heap.get? a = some (excObj C t d) /\ E (.ref a) s1) E s):wpAny M A (raiseStmt env (some x) none) Q E s:=by
  unfold raiseStmt
  refine wpAny_bind (wpAny_mono h (fun v s1 ⟨a,C,t,d,ev,X,q,ea,z⟩=>?_) fun _ _ y=>y)
  subst ev
  obtain ⟨nm,qn,N,bs,bm,sn,sub,ab,col,dd,k0,k1,k2,k3,k5,lk,T⟩:=xc_cls X q
  have hC:=X _ _ lk
  have hcB:(Value.ref C :: bm).contains (.type "BaseException") = true:=by rw [List.contains_cons,T.hasType (X := "BaseException") (b:=true) (by decide +kernel),Bool.or_true]
  obtain ⟨hp,g,dr,tk,os⟩:=s1
  have hx:hp.get? a = some { cls:=.ref C,dict:=d,data:=.fields #[.ref t,.none,.none,.none,.bool false,.none] }:=ea
  repeat (first | (with_reducible refine wpAny_loadPart_at hx ?_) | (with_reducible refine wpAny_loadPart_at hC ?_) | ((with_reducible refine wpAny_isSubtype_exc hC ?_); rw [hcB]) | wp_step)
  exact wpAny_raiseNew_none hh z
end
structure XMk (K:W.Frag) (C f:Addr):Prop where
  cl:XCls K C
  init:W.findIn K (.ref C) "__init__" = some (some (.ref f))
  fn:W.isFn K (.ref f) = true
  kp:W.keepIn K (.ref C) = true
noncomputable def spI (K:W.Frag) (n:Str):Sp:=fun vs H Q _=>∃ a C y,vs = [.ref a,y] /\ XCls K C /\ NoAttr K C n /\ H a = some (.ext (BornAt a C none)) /\ ∀ dx,H dx = none -> dx ≠ a -> Q .non (upd (upd H a (.ext (BornAt a C (some dx)))) dx (.xd [(n,y)]))
noncomputable def sX1 (K:W.Frag) (ta tv:TE) (n:Str):TS:=fun D σ H=>tv σ H fun y H1=>ta σ H1 fun x H2=>∃ a C,x = .ref a /\ XCls K C /\ NoAttr K C n /\ H2 a = some (.ext (BornAt a C none)) /\
  ∀ dx,H2 dx = none -> dx ≠ a -> D.nx σ (upd (upd H2 a (.ext (BornAt a C (some dx)))) dx (.xd [(n,y)]))
section
variable {X:Cx} {o value:Expr} {n:Str} {pos pos':Pos} {ta tv:TE}
theorem ps_x1 (ha:PE X o ta) (hv:PE X value tv) (hs:swapsWith value (some (.Attribute o n pos')) pos.line X.env = pure false:=by rfl):PS X (.Assign [.Attribute o n pos'] value pos) (sX1 X.K ta tv n):=by
  intro pins s σ H D I h
  refine plainObj_wpAny_Assign_Attribute (thn (hv pins s σ H _ I h) fun u s1 ⟨y,H1,I1,ry,q⟩=>thn (ha pins s1 σ H1 _ I1 q) fun ov s2 ⟨x,H2,I2,rx,a,C,ex,c,na,ea,q2⟩=>?_) hs
  subst ex
  obtain rfl:ov = Value.ref a:=rx
  exact setx_ok I2 ea c na ry fun s3 dx hd ne I3=>⟨σ,_,I3,q2 dx hd ne⟩
end
section
variable {X:Cx} {k:Nat} {f C:Addr} {fd:FuncData} {ps:List Str} {x n:Str} {p pos rpos:Pos} {e:Expr} {t:TA}
theorem run_xmake {pins:List (Addr × Obj)} {σ:St} {H:Hp} {s:Shared} {Q:Value -> Shared -> Prop} {u:Value} {v:V} (M:XMk X.K C f) (na:NoAttr X.K C n) (F:FnOk X.prog X.w X.K X.mg X.base CX0 k f fd ps (spI X.K n)) (hr:Room (k + 1) X.A) (hb:Binds X.K fd ps [])
    (I:Inv X pins σ H s) (r:RelV v u)
    (h:∀ s' a dx,H a = none -> H dx = none -> dx ≠ a -> X.s₀.heap.objs.size <= a -> Inv X pins σ (upd (upd H a (.ext (BornAt a C (some dx)))) dx (.xd [(n,v)])) s' -> Q (.ref a) s') :
    wpAny (model X.prog X.w) X.A (call (.ref C) [u]) Q X.xe s:=by
  refine call_xinit I.kIn M.cl.xc M.init (beq_iff_eq.mp M.fn) (by size_fits) ?_
  have kk:∀ b o,s.heap.get? b = some o -> (bornHeap s.heap C [u]).get? b = some o:=fun b o e=>Heap.get?_push_of_some _ (Heap.get?_push_of_some _ e)
  have hg:(bornHeap s.heap C [u]).get? (s.heap.objs.size + 1) = some (excObj C s.heap.objs.size none):=by heap_get
  have I2:Inv X pins σ (upd H (s.heap.objs.size + 1) (.ext (BornAt (s.heap.objs.size + 1) C none))) { s with heap:=bornHeap s.heap C [u] }:=I.laid (t':=s.toks) kk (Nat.le_succ _) (born_ok hg)
  have fa:H (s.heap.objs.size + 1) = none:=I.hok.fresh (Nat.le_succ _)
  have r2:Vals [V.ref (s.heap.objs.size + 1),v] [Value.ref (s.heap.objs.size + 1),u]:=.cons rfl (.cons r .nil)
  have hq:spI X.K n [V.ref (s.heap.objs.size + 1),v] (upd H (s.heap.objs.size + 1) (.ext (BornAt (s.heap.objs.size + 1) C none))) (fun y H'=>y = .non /\ ∃ dx,H dx = none /\ dx ≠ s.heap.objs.size + 1 /\ H' = upd (upd H (s.heap.objs.size + 1) (.ext (BornAt (s.heap.objs.size + 1) C (some dx)))) dx (.xd [(n,v)])) E0 :=
    ⟨_,C,v,rfl,M.cl,na,upd_same,fun dx hd ne=>⟨rfl,dx,by rw [upd_ne ne] at hd; exact hd,ne,by rw [upd_upd]⟩⟩
  have hl:([Value.ref (s.heap.objs.size + 1),u] ++ ([]:List Value)).length = ps.length:=by
    have z:=r2.length
    rw [F.len _ _ _ _ hq] at z
    exact z.symm
  have hb2:=hb { s with heap:=bornHeap s.heap C [u] } [Value.ref (s.heap.objs.size + 1),u] I2.kIn hl
  rw [List.append_nil] at hb2
  refine wpAny_call (codeAny_mono (F.run _ X.stack _ _ ⟨[Value.ref (s.heap.objs.size + 1),u],[]⟩ [Value.ref (s.heap.objs.size + 1),u] _ _ E0 (hr.make C [u] []) (I2.env0.make C [u] []) hb2 r2 hq) fun r s' hq'=>?_)
  cases r with
  | error e=>exact hq'.elim
  | ok fl =>
    cases fl with
    | ret y =>
      obtain ⟨z,H',I3,rv,ev,dx,hd,ne,eH⟩:=I2.after hq'
      subst ev eH
      have ey:y = Value.none:=rv
      exact ⟨ey,h _ _ dx fa hd ne (Nat.le_trans I.sz (Nat.le_succ _)) I3⟩
    | next=>exact False.elim hq'
    | brk=>exact False.elim hq'
    | cont=>exact False.elim hq'
noncomputable def tRaise (C:Addr) (n:Str) (XE:Addr -> Addr -> V -> Hp -> Prop) (t:TA):TS:=fun _ σ H=>t σ H fun vs H1=>∃ v,vs = [v] /\ ∀ a dx,H1 a = none -> H1 dx = none -> dx ≠ a -> XE a dx v (upd (upd H1 a (.ext (BornAt a C (some dx)))) dx (.xd [(n,v)]))
theorem ps_raise {XE:Addr -> Addr -> V -> Hp -> Prop} (M:XMk X.K C f) (na:NoAttr X.K C n) (F:FnOk X.prog X.w X.K X.mg X.base CX0 k f fd ps (spI X.K n)) (hr:Room (k + 1) X.A) (hb:Binds X.K fd ps []) (hg:Gl X x) (hm:X.mg x = some (.ref C))
    (pa:PA X [e] t) (hx:∀ pins σ H s a dx v,Inv X pins σ H s -> X.s₀.heap.objs.size <= a -> dx ≠ a -> H a = some (.ext (BornAt a C (some dx))) -> H dx = some (.xd [(n,v)]) -> XE a dx v H -> X.xe (.ref a) s)
    (hdb:(x == ("__debug__" : Str)) = false:=by decide) (hs:starEach [e] X.env = (false,eval e X.env) :: starEach [] X.env:=by rfl):PS X (.Raise (some (.Call (.Name x p) [e] [] pos)) none rpos) (tRaise C n XE t):=by
  intro pins s σ H D I h
  rw [arm_exec_Raise]
  refine wpAny_bind (wpAny_standAt (raise_x (K:=X.K) hr.hd ?_))
  refine wpAny_bind (wpAny_mono (wpAny_Call_Name_kw (ld_glob I hg hm ?_ hdb)) (fun v s3 (h3:∃ a C t d,v = .ref a /\ X.K.In s3.heap /\ xcIn X.K C = true /\ s3.heap.get? a = some (excObj C t d) /\ X.xe (.ref a) s3)=>wpAny_bind (wpAny_standAt (wpAny_pure h3))) fun _ _ y=>y)
  refine W.callWith_K (h₀:=X.base) I.ok.mod.kin M.kp (thn (pa pos pins s σ H _ I h) fun us s1 ⟨vs,H1,I1,r,v,ev,q⟩=>⟨I1.kIn,?_⟩) hs rfl
  subst ev
  cases r with
  | cons r1 r2 =>
    cases r2
    refine run_xmake M na F hr hb I1 r1 fun s' a dx ha hd ne sz I3=>?_
    have ea:upd (upd H1 a (.ext (BornAt a C (some dx)))) dx (.xd [(n,v)]) a = some (.ext (BornAt a C (some dx))):=by rw [upd_ne (Ne.symm ne),upd_same]
    obtain ⟨⟨t,e3⟩,_,_⟩:=(show ObjOk X.prog X.w _ s'.heap a (.ext (BornAt a C (some dx))) from I3.hok a _ ea)
    exact ⟨a,C,t,some dx,rfl,I3.kIn,M.cl.xc,e3,hx pins σ _ s' a dx v I3 sz ne ea upd_same (q a dx ha hd ne)⟩
end
end L2

namespace L2
open PySem PySem.Spec PyProof.Rows
theorem objOk_there {P:Program} {w:World} {H:Hp} {h:Heap} {a:Addr} {o:HO} (x:ObjOk P w H h a o):∃ ob,h.get? a = some ob:=by
  cases o with
  | lst xs=>obtain ⟨_,_,_,_,e⟩:=x; exact ⟨_,e⟩
  | tup xs=>obtain ⟨_,_,_,⟨_,e,_⟩⟩:=x; exact ⟨_,e⟩
  | dK kvs=>obtain ⟨_,_,_,_,o,_,_,e,_⟩:=x; exact ⟨_,e⟩
  | dT kvs=>obtain ⟨_,_,_,_,o,_,_,e,_⟩:=x; exact ⟨_,e⟩
  | set S n=>obtain ⟨o,_,_,_,e,_⟩:=x; exact ⟨_,e⟩
  | ins C dx fs=>obtain ⟨_,_,_,e,_⟩:=x; exact ⟨_,e⟩
  | own y=>exact x
  | xd fs=>obtain ⟨_,⟨_,_,_,e,_⟩,_⟩:=x; exact ⟨_,e⟩
  | rng lo hi=>obtain ⟨_,_,_,e⟩:=x; exact ⟨_,e⟩
  | frz ob u=>obtain ⟨e,_⟩:=x; exact ⟨_,e⟩
  | tbl ps=>exact ⟨_,(show h.get? a = some _ from x)⟩
  | met f y=>exact ⟨_,(show h.get? a = some _ from x)⟩
  | ext φ=>obtain ⟨_,e,_⟩:=x; exact e
noncomputable def hideH (H:Hp) (a:Addr):Hp:=fun b=>if b = a then none else H b
theorem hideH_same {H:Hp} {a:Addr}:hideH H a a = none:=by unfold hideH; rw [if_pos rfl]
theorem hideH_ne {H:Hp} {a b:Addr} (n:b ≠ a):hideH H a b = H b:=by unfold hideH; rw [if_neg n]
noncomputable def CXE (P:Program) (w:World):CXT:=fun outer H s E e s'=>∃ a C dx T H',e = .ref a /\ s'.os = s.os /\ AllBare s'.gens /\ Un (frs outer) [] H H' s.heap s'.heap /\ HOk P w H' s'.heap /\ Air s'.heap a (.ref C) (some dx) T .none /\
  H' a = none /\ H' T = none /\ s.heap.get? a = none /\ s.heap.get? T = none /\ E (.ref C) (some dx) H'
section
variable {P:Program} {w:World} {K:W.Frag} {mg:Str -> Option Value} {base:Heap} {N:List Str} {qual:Str} {scope:Scope} {f:Addr} {cd:Value} {A:Around} {outer:List Env} {s s1:Shared} {H H1:Hp} {E:XK} {pins:List (Addr × Obj)} {σ:St} {a C dx:Addr}
theorem xe_born (I:Inv (cxOf (CXE P w) P w K mg base N qual scope f cd A outer s H E) pins σ H1 s1) (sz:s.heap.objs.size <= a) (ne:dx ≠ a) (ea:H1 a = some (.ext (BornAt a C (some dx)))) (q:E (.ref C) (some dx) (hideH H1 a)) :
    (cxOf (CXE P w) P w K mg base N qual scope f cd A outer s H E).xe (.ref a) s1:=by
  obtain ⟨⟨t,e1⟩,_,_⟩:=(show ObjOk P w H1 s1.heap a (.ext (BornAt a C (some dx))) from I.hok a _ ea)
  refine leaveX1 I.ok.frames I.stack rfl ⟨_,_,e1,rfl,rfl,rfl,rfl⟩ fun h' T nT air bt=>?_
  have B:=I.base
  have fra:s.heap.get? a = none:=Heap.get?_none_of_le sz
  have nea:∀ b o,s.heap.get? b = some o -> b ≠ a:=fun b o e z=>by rw [z,fra] at e; cases e
  have nfr:∀ b o,s.heap.get? b = some o -> b ∉ frs outer -> b ∉ frs (envOfC qual scope s.heap.objs.size f cd :: outer):=fun b o e n z=>by
    unfold frs at z
    rw [List.filterMap_cons] at z
    rcases List.mem_cons.mp z with y | y
    · exact absurd (Heap.lt_size e) (by rw [y]; exact Nat.lt_irrefl _)
    · exact n y
  have infr:∀ b,b ∈ frs outer -> b ∈ frs (envOfC qual scope s.heap.objs.size f cd :: outer):=fun b z=>by
    unfold frs
    rw [List.filterMap_cons]
    exact List.mem_cons_of_mem _ z
  have un1:∀ b,b ≠ a -> hideH H1 a b = H1 b:=fun b n=>hideH_ne n
  refine ⟨a,C,dx,T,hideH H1 a,rfl,I.os,I.bare,⟨fun b o e n m _=>?_,fun b o e n m _=>?_,fun b o e n _=>?_,fun b o e _=>?_,fun b xs e=>?_,fun b o u e=>?_,fun b ps e=>?_⟩,fun b o e=>?_,air,hideH_same,?_,fra,?_,q⟩
  · exact bt.keep b o (by simpa using nea b o e) (nfr b o e m) (B.keep b o e n m (fun z=>nomatch z))
  · obtain ⟨sl,e2⟩:=B.slot b o e n m (fun z=>nomatch z)
    obtain ⟨sl',e3⟩:=bt.slot b _ (by simpa using nea b o e) (infr b m) e2
    exact ⟨sl',e3⟩
  · rw [un1 b (nea b o e)]
    exact B.free b o e n (fun z=>nomatch z)
  · obtain ⟨o1,e2⟩:=B.there b o e (fun z=>nomatch z)
    exact bt.there b o1 e2
  · have z:=B.tups b xs e
    rw [un1 b (ne_of z ea (fun y=>nomatch y))]
    exact z
  · have z:=B.frzs b o u e
    rw [un1 b (ne_of z ea (fun y=>nomatch y))]
    exact z
  · obtain ⟨m,z⟩:=B.tbls b ps e
    exact ⟨m,by rw [un1 b (ne_of z ea (fun y=>nomatch y))]; exact z⟩
  · have hb:b ≠ a:=fun z=>by rw [z,hideH_same] at e; cases e
    rw [un1 b hb] at e
    refine (I.hok b o e).stay (fun c u hc z=>?_) (fun c z=>by rw [un1 c (ne_of z ea (fun y=>nomatch y))]; exact z) fun c xs z=>by rw [un1 c (ne_of z ea (fun y=>nomatch y))]; exact z
    have hH:∃ o',H1 c = some o':=by
      rcases hc with rfl | hc
      · exact ⟨_,e⟩
      · exact ⟨_,hc⟩
    have hca:c ≠ a:=by
      rcases hc with rfl | hc
      · exact hb
      · exact ne_of hc ea (fun y=>nomatch y)
    refine bt.keep c u (by simpa using hca) (fun m=>?_) z
    obtain ⟨o',hH⟩:=hH
    rw [I.stkFree c m] at hH
    cases hH
  · by_cases hT:T = a
    · rw [hT]; exact hideH_same
    · rw [un1 T hT]
      cases z:H1 T with
      | none=>rfl
      | some o =>
        obtain ⟨o',e'⟩:=objOk_there (I.hok T o z)
        rw [nT] at e'
        cases e'
  · cases z:s.heap.get? T with
    | none=>rfl
    | some o =>
      obtain ⟨o1,e2⟩:=B.there T o z (fun y=>nomatch y)
      rw [nT] at e2
      cases e2
end
end L2

namespace L2
open PySem PySem.Spec PyProof.Rows
theorem PA.nox {X:Cx} {es:List Expr} {t:TA} (h:PA X.nox es t):PA X es t:=fun pos pins s σ H Q I hw =>
  wpAny_mono (h pos pins s σ H Q (I.wish _) hw) (fun _ _ ⟨v,H',I',r,q⟩=>⟨v,H',I'.unwish,r,q⟩) fun _ _ z=>False.elim z
namespace VL
abbrev XQ:=Str -> List (Str × PyData) -> Prop
abbrev XAt (K:W.Frag) (rl:RlT) (F H Fs:Hp) (E:XK) (c:Str) (fs:List (Str × PyData)):Prop:=∀ C dx F' H' us,Grow rl F H F' H' -> Same Fs F' -> W.nsIn K mainGlobals c = some (some (.ref C)) -> H' dx = some (.xd us) -> H dx = none -> F' dx = none -> KDs K F' us fs -> E (.ref C) (some dx) H'
abbrev XLink (K:W.Frag) (rl:RlT) (F H Fs:Hp) (E:XK) (QE:XQ):Prop:=∀ c fs,QE c fs -> XAt K rl F H Fs E c fs
theorem XLink.on {K:W.Frag} {rl:RlT} {F H Fs Fs':Hp} {E:XK} {QE:XQ} (l:XLink K rl F H Fs E QE) (s:Same Fs Fs'):XLink K rl F H Fs' E QE:=fun c fs z C dx F' H' us g m=>l c fs z C dx F' H' us g (s.trans m)
noncomputable def vspE (K:W.Frag) (rl:RlT) (P:List W -> (PyData -> Prop) -> XQ -> Prop):Sp:=fun vs H Q E=>∃ F ws,Same F H /\ RAt rl F H /\ RelWs K rl F H vs ws /\ ws.all argOk = true /\ P ws (fun d=>∀ v F' H',Grow rl F H F' H' -> Rep K F' v d -> Q v H') (XAt K rl F H F E)
noncomputable def PSsE (X:Cx) (rl:RlT) (E:XK) (body:List Stmt) (t:VEnds -> XQ -> En -> Prop):Prop:=∃ T,PSs X body T /\ ∀ {F₀ H₀ F H:Hp} {σ:St} {ρ:En},VR X.K rl F₀ H₀ F H σ ρ -> ∀ Dv D QE,EndsOk X.K rl F₀ H₀ F Dv D -> XLink X.K rl F₀ H₀ F E QE -> t Dv QE ρ -> T D σ H
section
variable {X:Cx} {rl:RlT} {E:XK} {st:Stmt} {rest body:List Stmt} {t:TSv} {u:VEnds -> XQ -> En -> Prop} {c e:Expr} {f:TB} {fs:TVs} {pos:Pos}
theorem PB.nox (h:PB X.nox rl c f):PB X rl c f:=let ⟨t,p,k⟩:=h; ⟨t,p.nox,k⟩
theorem PSsV.nox (h:PSsV X.nox rl body t):PSsV X rl body t:=let ⟨T,p,k⟩:=h; ⟨T,p.nox,k⟩
theorem PVs.nox {es:List Expr} (h:PVs X.nox rl es fs):PVs X rl es fs:=let ⟨T,p,k⟩:=h; ⟨T,p.nox,k⟩
noncomputable def xOf (t:TSv):VEnds -> XQ -> En -> Prop:=fun Dv _ ρ=>t Dv ρ
theorem e_of (h:PSsV X.nox rl body t):PSsE X rl E body (xOf t):=by
  obtain ⟨T,p,k⟩:=h.nox
  exact ⟨T,p,fun R Dv D _ ok _ q=>k R Dv D ok q⟩
structure XOne (P:Program) (w:World) (K:W.Frag) (mg:Str -> Option Value) (base:Heap) (x n:Str) (C:Addr):Prop where
  at_:W.nsIn K mainGlobals x = some (some (.ref C))
  mg_:mg x = some (.ref C)
  no:NoAttr K C n
  ex:∃ f fd ps,XMk K C f /\ Binds K fd ps [] /\ FnOk P w K mg base CX0 1 f fd ps (spI K n)
noncomputable def xIf (f:TB) (x n:Str) (fs:TVs) (u:VEnds -> XQ -> En -> Prop):VEnds -> XQ -> En -> Prop:=fun Dv QE ρ=>f ρ fun b=>if b = true then fs ρ fun ws=>∃ d,ws = [.d d] /\ QE x [(n,d)] else u Dv QE ρ
theorem e_if {x n:Str} {C:Addr} {p cpos rpos:Pos} (hxe:∀ pins σ H s a C dx,Inv X pins σ H s -> X.s₀.heap.objs.size <= a -> dx ≠ a -> H a = some (.ext (BornAt a C (some dx))) -> E (.ref C) (some dx) (hideH H a) -> X.xe (.ref a) s)
    (hr:Room 2 X.A) (xo:XOne X.prog X.w X.K X.mg X.base x n C) (hc:PB X.nox rl c f) (ha:PVs X.nox rl [e] fs) (h2:PSsE X rl E rest u) (hg:Gl X x:=by rfl) (hdb:(x == ("__debug__" : Str)) = false:=by decide)
    (hs:starEach [e] X.env = (false,eval e X.env) :: starEach [] X.env:=by rfl) :
    PSsE X rl E (.If c [.Raise (some (.Call (.Name x p) [e] [] cpos)) none rpos] [] pos :: rest) (xIf f x n fs u):=by
  obtain ⟨t0,p0,k0⟩:=hc.nox
  obtain ⟨t1,p1,k1⟩:=ha.nox
  obtain ⟨T2,p2,k2⟩:=h2
  obtain ⟨fa,fd,ps,M,hb,F⟩:=xo.ex
  have pr:=ps_raise (p:=p) (pos:=cpos) (rpos:=rpos) (XE:=fun a dx _ H=>E (.ref C) (some dx) (hideH H a)) M xo.no F hr hb hg xo.mg_ p1 (fun pins σ H s a dx v I sz ne ea _ q=>hxe pins σ H s a C dx I sz ne ea q) hdb hs
  refine ⟨_,pss_cons (ps_if p0 (pss_one pr) pss_nil) p2,fun {F₀ H₀ F H σ ρ} R Dv D QE ok l q=>k0 R _ _ q fun b F1 H1 g1 q1=>?_⟩
  cases b with
  | true =>
    have q1:fs ρ fun ws=>∃ d,ws = [.d d] /\ QE x [(n,d)]:=q1
    refine k1 (R.grow g1) _ _ q1 fun vs ws F2 H2 g2 r2 ⟨d,ew,qe⟩=>?_
    subst ew
    cases r2 with
    | @cons v _ vs' _ r r' =>
      cases r'
      refine ⟨v,rfl,fun a dx na nd ne=>?_⟩
      have eh:hideH (upd (upd H2 a (.ext (BornAt a C (some dx)))) dx (.xd [(n,v)])) a = upd H2 dx (.xd [(n,v)]):=by
        funext b
        by_cases hb:b = a
        · subst hb
          rw [hideH_same,upd_ne (Ne.symm ne)]
          exact na.symm
        · rw [hideH_ne hb]
          by_cases hd:b = dx
          · subst hd; rw [upd_same,upd_same]
          · rw [upd_ne hd,upd_ne hb,upd_ne hd]
      show E _ _ (hideH _ _)
      rw [eh]
      have g3:=(R.g.trans g1).trans g2
      exact l x _ qe C dx F2 _ [(n,v)] (g3.trans (Grow.laid g2.sub g2.reel nd)) (g1.fs.trans g2.fs) xo.at_ upd_same (g3.freeB nd) (g2.sub.free nd) (.cons ⟨rfl,r⟩ .nil)
  | false=>exact k2 (R.grow g1) Dv D QE (ok.on g1.fs) (XLink.on l g1.fs) q1
end
structure DfnE (P:Program) (w:World) (K:W.Frag) (mg:Str -> Option Value) (base:Heap) (rl:RlT) (x:Str) (ps:List Str) (k:Nat) (Pd:List W -> (PyData -> Prop) -> XQ -> Prop):Prop where
  mono:∀ ws Q Q' R R',(∀ d,Q d -> Q' d) -> (∀ c fs,R c fs -> R' c fs) -> Pd ws Q R -> Pd ws Q' R'
  ex:∃ f fd,mg x = some (.ref f) /\ W.keepIn K (.ref f) = true /\ Binds K fd ps [] /\ FnOk P w K mg base (CXE P w) k f fd ps (vspE K rl Pd)
section
variable {P:Program} {w:World} {K:W.Frag} {mg:Str -> Option Value} {base:Heap} {rl:RlT} {x:Str} {st:Stmt} {N ps:List Str} {k:Nat} {Pd:List W -> (PyData -> Prop) -> XQ -> Prop} {t:VEnds -> XQ -> En -> Prop}
theorem DfnE.of (Fn:FnIn K mg x st ps) (S:FnScope N ps (defScope st)) (mono:∀ ws Q Q' R R',(∀ d,Q d -> Q' d) -> (∀ c fs,R c fs -> R' c fs) -> Pd ws Q R -> Pd ws Q' R') (len:∀ ws Q R,Pd ws Q R -> ws.length = ps.length)
    (hbody:∀ {f:Addr} (cdv:Value) (A:Around) (outer:List Env) (s:Shared) (H:Hp) (E:XK),Room k (A.deeper (envOfC x (defScope st) s.heap.objs.size f cdv)) ->
      (∀ pins σ H1 s1 a C dx,Inv (cxOf (CXE P w) P w K mg base N x (defScope st) f cdv A outer s H E) pins σ H1 s1 -> s.heap.objs.size <= a -> dx ≠ a -> H1 a = some (.ext (BornAt a C (some dx))) -> E (.ref C) (some dx) (hideH H1 a) ->
        (cxOf (CXE P w) P w K mg base N x (defScope st) f cdv A outer s H E).xe (.ref a) s1) ->
      PSsE (cxOf (CXE P w) P w K mg base N x (defScope st) f cdv A outer s H E) rl E (defBody st) t)
    (hread:∀ ws Q R,Pd ws Q R -> t (vEnds Q) R (startV N ws)):DfnE P w K mg base rl x ps (k + 1) Pd:=by
  obtain ⟨f,fd,hm,F,hb⟩:=Fn.ex
  refine ⟨mono,f,fd,hm,F.kp,hb,?_⟩
  obtain ⟨oc,od,kV,doc,pm,an,cdv,ct,osl,rfl,lk,hcd⟩:=F.ex
  refine fn_of lk hcd S (fun vs H Q E ⟨F,ws,_,_,r,_,q⟩=>(Paired.length r).trans (len ws _ _ q)) fun A outer s H vs Q E hr h=>?_
  obtain ⟨F,ws,sm,ra,r,ok,q⟩:=h
  obtain ⟨T,p,kk⟩:=hbody cdv A outer s H E hr (fun pins σ H1 s1 a C dx I sz ne ea q=>xe_born I sz ne ea q)
  refine ⟨T,p,kk (vr_start sm ra r ok) (vEnds _) _ _ ⟨?_,?_,fun _ _ _ _ _ _ z=>False.elim z,fun _ _ _ _ _ _ z=>False.elim z⟩ (fun c fs z=>z) (hread ws _ _ q)⟩
  · intro F1 H1 σ1 ρ1 _ R1 q1
    exact q1 .non F1 H1 R1.g .non
  · rintro v w1 F1 H1 g1 r1 n1 ⟨d,ed,q1⟩
    obtain ⟨F2,g2,s2,r2⟩:=RelW.fz g1 r1 n1
    rw [ed] at r2
    exact q1 v F2 H1 g2 r2
end
end VL
end L2

namespace L2
open PySem PySem.Spec PyProof.Rows
theorem un_but {fs l:List Addr} {H H':Hp} {h h1 h2:Heap} (u:Un fs [] H H' h h1) (bt:But fs l h1 h2) (fr:∀ b ∈ l,h.get? b = none):Un fs [] H H' h h2:=by
  have nl:∀ b o,h.get? b = some o -> b ∉ l:=fun b o e z=>by rw [fr b z] at e; cases e
  refine ⟨fun b o e n m x=>bt.keep b o (nl b o e) m (u.keep b o e n m x),fun b o e n m x=>?_,u.free,fun b o e x=>?_,u.tups,u.frzs,u.tbls⟩
  · obtain ⟨sl,e1⟩:=u.slot b o e n m x
    obtain ⟨sl',e2⟩:=bt.slot b _ (nl b o e) m e1
    exact ⟨sl',e2⟩
  · obtain ⟨o1,e1⟩:=u.there b o e x
    exact bt.there b o1 e1
theorem hok_but {P:Program} {w:World} {fs l:List Addr} {H:Hp} {h1 h2:Heap} (ok:HOk P w H h1) (bt:But fs l h1 h2) (fr:∀ b ∈ l,H b = none) (ff:∀ b ∈ fs,H b = none):HOk P w H h2:=fun b o e=>by
  have nt:∀ c u,H c = some u -> c ∉ l /\ c ∉ fs:=fun c u q=>⟨fun z=>(by rw [fr c z] at q; cases q),fun z=>(by rw [ff c z] at q; cases q)⟩
  refine (ok b o e).stay (fun c u hc z=>?_) (fun _ q=>q) fun _ _ q=>q
  rcases hc with rfl | hc
  · exact bt.keep c u (nt c _ e).1 (nt c _ e).2 z
  · exact bt.keep c u (nt c _ hc).1 (nt c _ hc).2 z
theorem un_upd {fs:List Addr} {H H':Hp} {h h1:Heap} {a:Addr} {o:HO} (u:Un fs [] H H' h h1) (na:H' a = none) (fa:h.get? a = none):Un fs [] H (upd H' a o) h h1:=by
  have nea:∀ b o,h.get? b = some o -> b ≠ a:=fun b o e z=>by rw [z,fa] at e; cases e
  refine ⟨u.keep,u.slot,fun b o e n x=>?_,u.there,fun b xs e=>?_,fun b o u' e=>?_,fun b ps e=>?_⟩
  · rw [upd_ne (nea b o e)]
    exact u.free b o e n x
  · have z:=u.tups b xs e
    rw [upd_ne (ne_of_none z na)]
    exact z
  · have z:=u.frzs b o u' e
    rw [upd_ne (ne_of_none z na)]
    exact z
  · obtain ⟨m,z⟩:=u.tbls b ps e
    exact ⟨m,by rw [upd_ne (ne_of_none z na)]; exact z⟩
theorem hok_upd {P:Program} {w:World} {H:Hp} {h:Heap} {a:Addr} {o:HO} (ok:HOk P w H h) (na:H a = none) (new:ObjOk P w (upd H a o) h a o):HOk P w (upd H a o) h:=fun b u e=>by
  by_cases hb:b = a
  · subst hb
    rw [upd_same] at e
    cases e
    exact new
  · rw [upd_ne hb] at e
    exact (ok b u e).stay (fun _ _ _ z=>z) (fun c q=>by rw [upd_ne (ne_of_none q na)]; exact q) fun c xs q=>by rw [upd_ne (ne_of_none q na)]; exact q
section
variable {X:Cx} {pins:List (Addr × Obj)} {σ:St} {H:Hp} {s:Shared}
theorem goes_ok {M:Model} {A:Around} {E:Value -> Shared -> Prop} {i:Nat} {n:Str} {pos:Pos} {Q:Unit -> Shared -> Prop} (I:Inv X pins σ H s) (hN:X.N.Nodup) (hi:X.N[i]? = some n) (hk:X.env.scope.names.lookup n = some .local)
    (h:∀ s',Inv X pins (σ.set i none) H s' -> Q () s'):wpAny M A (do bindName X.env n .none; unbindBehindTheSuite X.env n pos) Q E s:=by
  obtain ⟨m,hn,hl⟩:=id I.loc
  obtain ⟨oL,_,_,hoL,_⟩:=id hn
  refine wpAny_nameGoes_keeps hk hn (by rw [I.ok.kind]; rfl) fun h' v hn' hs=>?_
  have low:∀ b o,X.s₀.heap.get? b = some o -> b ≠ X.env.locals:=fun b o e=>Nat.ne_of_lt (Nat.lt_of_lt_of_le (Heap.lt_size e) I.ok.above)
  refine h _ ⟨I.ok,I.os,I.bare,⟨fun b o e n hb hx=>(hs.2 b (low b o e)).trans (I.base.keep b o e n hb hx),fun b o e n hb hx=>?_,I.base.free,fun b o e hx=>?_,I.base.tups,I.base.frzs,I.base.tbls⟩,⟨_,hn',fun j y v' e1 e2 e3=>?_⟩,fun y c e=>?_,I.free,I.freeC,fun p hp=>?_,fun b o e=>?_,by simpa using I.len⟩
  · obtain ⟨sl,e1⟩:=I.base.slot b o e n hb hx
    exact ⟨sl,(hs.2 b (low b o e)).trans e1⟩
  · obtain ⟨o',e1⟩:=I.base.there b o e hx
    exact ⟨o',(hs.2 b (low b o e)).trans e1⟩
  · have hj:i ≠ j:=fun z=>by
      subst z
      rw [List.getElem?_set] at e2
      split at e2
      · split at e2 <;> cases e2
      · rename_i q; exact q rfl
    rw [List.getElem?_set_ne hj] at e2
    have hy:y ≠ n:=fun z=>by
      subst z
      exact hj (nodup_ix hN hi e1)
    obtain ⟨u,ru,l⟩:=hl j y v' e1 e2 e3
    refine ⟨u,ru,?_⟩
    rcases l with ⟨k,z⟩ | ⟨k,c,e,o,ho,hd⟩
    · exact .inl ⟨k,by show (if y = n then v else m y) = _; rw [if_neg hy]; exact z⟩
    · exact .inr ⟨k,c,e,o,(hs.2 c (I.cne y c e)).trans ho,hd⟩
  · obtain ⟨v',o,ho,hd⟩:=I.cell y c e
    exact ⟨v',o,(hs.2 c (I.cne y c e)).trans ho,hd⟩
  · obtain ⟨e,z,ne,nf,d⟩:=I.pin p hp
    exact ⟨(hs.2 p.1 ne).trans e,z,ne,nf,d⟩
  · refine (I.hok b o e).stay (fun c w' hc q=>(hs.2 c ?_).trans q) (fun _ q=>q) fun _ _ q=>q
    rintro rfl
    rcases hc with rfl | hc
    · rw [I.free] at e; cases e
    · rw [I.free] at hc; cases hc
end
structure XOver (K:W.Frag) (C B:Addr):Prop where
  sub:W.mroIn K C (.ref B) = some true
  exc:W.mroIn K B (.type "BaseException") = some true
  ty:W.typeIn K (.ref B) = some (.type "type")
section
variable {M:Model} {A:Around} {E:Value -> Shared -> Prop} {s:Shared} {K:W.Frag} {C B a:Addr} {oe:Obj}
theorem excm_x {Q:Bool -> Shared -> Prop} (X:K.In s.heap) (o:XOver K C B) (ha:s.heap.get? a = some oe) (hc:oe.cls = .ref C) (h:Q true s):wpAny M A (excMatches (.ref a) (.ref B)) Q E s:=by
  have L1:W.Looks M s.heap (isInstance (.ref B) (.type "tuple")) false:=(W.looks_typeIn X o.ty).andThen (.of_pure (by rw [isSubtype_type]; kernel_rfl))
  have hcl:∃ cd,W.clsIn K B = some cd:=by
    have z:=o.exc
    unfold W.mroIn at z
    cases q:W.clsIn K B with
    | none=>rw [q] at z; cases z
    | some cd=>exact ⟨cd,rfl⟩
  obtain ⟨cd,hcd⟩:=hcl
  have L2:W.Looks M s.heap (isSubtype (.ref B) (.type "BaseException")) true:=W.looks_mroIn X o.exc
  have L3:W.Looks M s.heap (isSubtype (.ref C) (.ref B)) true:=W.looks_mroIn X o.sub
  have L4:W.Looks M s.heap (isType (.ref B)) true:=by
    unfold W.clsIn at hcd
    split at hcd
    · rename_i ho
      intro A' Q' E' s' k q
      unfold isType loadHead
      exact wpAny_bind (wpAny_loadPart (k _ _ (X _ _ ho)) (wpAny_pure q))
    · cases hcd
  have L5:W.Looks M s.heap (typeOf (.ref a)) (.ref C):=hc ▸ (W.Looks.ld ha).andThen .now
  obtain ⟨hp,g,d,tk,os⟩:=s
  unfold excMatches isExcClass
  repeat (first | (with_reducible refine lk_at L1 ?_) | (with_reducible refine lk_at L2 ?_) | (with_reducible refine lk_at L3 ?_) | (with_reducible refine lk_at L4 ?_) | (with_reducible refine lk_at L5 ?_) | wp_step)
  exact h
end
end L2

namespace L2.VL
open PySem PySem.Spec PyProof.Rows
theorem exc_ok {P:Program} {w:World} {H:Hp} {h:Heap} {a C dx T:Addr} {fl:Value} (z:Air h a (.ref C) (some dx) T fl):ObjOk P w H h a (.ext (ExcAt a C dx)):=by
  obtain ⟨oe,vs,_,_,e,c,d,f,_⟩:=z
  exact ⟨⟨oe,vs,e,c,d,f⟩,⟨_,e⟩,fun _ _ ⟨oe,vs,e,q⟩ k=>⟨oe,vs,k _ e,q⟩⟩
theorem ro_xd {n:Nat} {F:Hp} {us:List (Str × V)} (h:RO n F (.xd us)):False:=by
  unfold RO at h
  simp at h
section
variable {X:Cx} {rl:RlT} {E:XK} {e:Expr} {es:List Expr} {fs:TVs} {pos p:Pos}
noncomputable def xSet (i:Nat) (Pd:List W -> (PyData -> Prop) -> XQ -> Prop) (fs:TVs):VEnds -> XQ -> En -> Prop:=fun Dv QE ρ=>fs ρ fun ws=>ws.all argOk = true /\ Pd ws (fun d=>Dv.nx (ρ.set i (some (.d d)))) QE
theorem e_set (i:Nat) {x y:Str} {ps:List Str} {k:Nat} {Pd:List W -> (PyData -> Prop) -> XQ -> Prop} {pos' apos:Pos} (hx:Passes (CXE X.prog X.w) X E) (hN:X.N.Nodup) (D:DfnE X.prog X.w X.K X.mg X.base rl x ps k Pd) (hr:Room k X.A) (ha:PVs X rl (e :: es) fs) (hg:Gl X x:=by rfl)
    (hi:X.N[i]? = some y:=by rfl) (hy:Loc X.env.scope y:=by first | exact Or.inl rfl | exact Or.inr rfl) (hdb:(x == ("__debug__" : Str)) = false:=by decide)
    (he:starEach (e :: es) X.env = (false,eval e X.env) :: starEach es X.env:=by rfl) (hpl:(backTo pos (starEach es X.env)).any (·.1) = false:=by rfl)
    (hs:swapsWith (.Call (.Name x p) (e :: es) [] pos) (some (.Name y pos')) apos.line X.env = pure false:=by rfl) (hf:X.fn y = true \/ X.env.scope.names.lookup y = some .local:=by first | exact .inl rfl | exact .inr rfl) :
    PSsE X rl E [.Assign [.Name y pos'] (.Call (.Name x p) (e :: es) [] pos) apos] (xSet i Pd fs):=by
  obtain ⟨f,fd,hm,hk,hb,F⟩:=D.ex
  obtain ⟨t,p1,kk⟩:=ha
  refine ⟨_,pss_one (ps_set hN hi hy (pe_call (ds:=[]) (dvs:=[]) F hr hg hm hk hb .nil hx p1 hdb he hpl) hs hf),fun {F₀ H₀ F H σ ρ} R Dv D' QE ok l q=>kk R _ _ q fun vs ws F1 H1 g1 r1 ⟨ao,q1⟩=>?_⟩
  refine ⟨F1,ws,g1.sub,g1.reel,by rw [List.append_nil]; exact r1,ao,?_⟩
  refine D.mono ws _ _ _ _ (fun d qd v F2 H2 g2 r2=>?_) (fun c fs z C dx F' H' us g sm n hd nd fd kd=>?_) q1
  · exact ok.nx _ _ _ _ (g1.fs.trans g2.fs) (R.set (g1.trans g2) (w:=.d d) r2 trivial (fun xs z=>by cases z) i) qd
  · exact l c fs z C dx F' H' us ((R.g.trans g1).trans g) (g1.fs.trans sm) n hd ((R.g.trans g1).freeB nd) fd kd
end
theorem VR.unset {K:W.Frag} {rl:RlT} {F₀ H₀ F H:Hp} {σ:St} {ρ:En} (r:VR K rl F₀ H₀ F H σ ρ) (i:Nat):VR K rl F₀ H₀ F H (σ.set i none) (ρ.set i none):=by
  have nd:∀ (j:Nat) (y:W),(ρ.set i none)[j]? = some (some y) -> i ≠ j /\ ρ[j]? = some (some y):=fun j y z=>by
    by_cases hj:i = j
    · subst hj
      rw [List.getElem?_set] at z
      split at z
      · split at z <;> cases z
      · rename_i q; exact absurd rfl q
    · rw [List.getElem?_set_ne hj] at z
      exact ⟨hj,z⟩
  refine ⟨r.g,fun j w z=>?_,fun j k x y v hjk e1 e2 o1 o2 s1 s2=>?_,fun j xs z=>r.np j xs (nd j _ z).2,by simp [r.len]⟩
  · obtain ⟨hj,z'⟩:=nd j w z
    obtain ⟨v,h1,h2⟩:=r.sl j w z'
    exact ⟨v,by rw [List.getElem?_set_ne hj]; exact h1,h2⟩
  · obtain ⟨hj,z1⟩:=nd j x e1
    obtain ⟨hk,z2⟩:=nd k y e2
    rw [List.getElem?_set_ne hj] at s1
    rw [List.getElem?_set_ne hk] at s2
    exact r.ap j k x y v hjk z1 z2 o1 o2 s1 s2
noncomputable def vTry (i:Nat) (cs:List Str) (tb:VEnds -> XQ -> En -> Prop) (ts:TSv):TSv:=fun Dv ρ=>tb Dv (fun c fs=>c ∈ cs /\ ts ⟨fun ρ'=>Dv.nx (ρ'.set i none),Dv.rt,fun _=>False,fun _=>False⟩ ((List.replicate ρ.length none).set i (some (.xc c fs)))) ρ
section
variable {X:Cx} {rl:RlT} {tb:VEnds -> XQ -> En -> Prop} {ts:TSv} {st b₀:Stmt} {suite:List Stmt} {cb n:Str} {cs:List Str} {B:Addr} {np hpos pos:Pos}
abbrev Cx.caughtIn (X:Cx) (a:Addr):Cx:={ X with A:=X.A.mark (some (.ref a)),calm:=false,xe:=fun _ _=>False }
theorem Cx.Ok.caughtIn {X:Cx} (ok:X.Ok) (a:Addr):(Cx.caughtIn X a).Ok :=
  ⟨ok.mod,ok.kind,ok.glob,ok.blt,ok.above,ok.inj,ok.has,ok.cab,(fun z=>nomatch z),ok.frames,ok.stk,ok.exf,ok.bs,ok.bsz,ok.noex,ok.exfs,ok.funs,ok.frf⟩
theorem Inv.caughtIn {pins:List (Addr × Obj)} {σ:St} {H:Hp} {s:Shared} (I:Inv X pins σ H s) (a:Addr):Inv (Cx.caughtIn X a) pins σ H s:=⟨Cx.Ok.caughtIn I.ok a,I.os,I.bare,I.base,I.loc,I.cell,I.free,I.freeC,I.pin,I.hok,I.len⟩
theorem Inv.uncaught {pins:List (Addr × Obj)} {σ:St} {H:Hp} {s:Shared} {a:Addr} (ok:X.Ok) (I:Inv (Cx.caughtIn X a) pins σ H s):Inv X pins σ H s:=⟨ok,I.os,I.bare,I.base,I.loc,I.cell,I.free,I.freeC,I.pin,I.hok,I.len⟩
abbrev Cx.held (X:Cx) (pn:List (Addr × Obj)) (XE:Value -> Shared -> Prop):Cx:={ X with pn:=pn,xe:=XE }
theorem Inv.held {pins:List (Addr × Obj)} {σ:St} {H:Hp} {s:Shared} (I:Inv X pins σ H s) (XE:Value -> Shared -> Prop):Inv (Cx.held X (X.pn ++ pins) XE) [] σ H s:=by
  have ok:=I.ok
  exact ⟨⟨ok.mod,ok.kind,ok.glob,ok.blt,ok.above,ok.inj,ok.has,ok.cab,ok.hd,ok.frames,ok.stk,ok.exf,ok.bs,ok.bsz,ok.noex,ok.exfs,ok.funs,ok.frf⟩,I.os,I.bare,I.base,I.loc,I.cell,I.free,I.freeC,fun p hp=>I.pin p (by simpa using hp),I.hok,I.len⟩
theorem Inv.unheld {pins pins':List (Addr × Obj)} {σ:St} {H:Hp} {s:Shared} {XE:Value -> Shared -> Prop} (ok:X.Ok) (I:Inv (Cx.held X (X.pn ++ pins) XE) pins' σ H s):Inv X pins σ H s :=
  ⟨ok,I.os,I.bare,I.base,I.loc,I.cell,I.free,I.freeC,fun p hp=>I.pin p (List.mem_append_left _ hp),I.hok,I.len⟩
theorem vs_try (i:Nat) (hst:X.stack = X.env :: X.outer) (hfl:X.env.frame = some X.env.locals) (hN:X.N.Nodup) (hi:X.N[i]? = some n) (hn:X.env.scope.names.lookup n = some .local) (hmb:X.mg cb = some (.ref B))
    (hcs:∀ c ∈ cs,∀ C,W.nsIn X.K mainGlobals c = some (some (.ref C)) -> XOver X.K C B)
    (hb:∀ pn XE E,Passes (CXE X.prog X.w) (Cx.held X pn XE) E -> PSsE (Cx.held X pn XE) rl E [st] tb)
    (hs:∀ a:Addr,PSsV (Cx.caughtIn X a) rl (b₀ :: suite) ts) (hg:Gl X cb:=by rfl) (hdb:(cb == ("__debug__" : Str)) = false:=by decide) :
    PSV X rl (.Try [st] [.ExceptHandler (some (.Name cb np)) (some n) (b₀ :: suite) hpos] [] [] pos) (vTry i cs tb ts):=by
  refine ⟨fun D σ H=>∀ pins s,Inv X pins σ H s -> wpAny (model X.prog X.w) X.A (exec (.Try [st] [.ExceptHandler (some (.Name cb np)) (some n) (b₀ :: suite) hpos] [] [] pos) X.env) (SP X pins D) X.xe s,fun pins s σ H D I h=>h pins s I,fun {F₀ H₀ F H σ ρ} R Dv D ok q pins s I=>?_⟩
  refine wpAny_Try_except ?_
  generalize hXE:(fun e s₁=>wpAny (model X.prog X.w) X.A (noteFrame e X.env) (fun _ s₂=>wpAny (model X.prog X.w) X.A (setFlight e none) (fun _ s₃=>wpAny (model X.prog X.w) X.A (handleBy e X.env [.ExceptHandler (some (.Name cb np)) (some n) (b₀ :: suite) hpos]) (SP X pins D) X.xe s₃) X.xe s₂) X.xe s₁:Value -> Shared -> Prop) = XE
  have I':=Inv.held I XE
  generalize hQE:(fun c fs=>c ∈ cs /\ ts ⟨fun ρ'=>Dv.nx (ρ'.set i none),Dv.rt,fun _=>False,fun _=>False⟩ ((List.replicate ρ.length none).set i (some (.xc c fs))):XQ) = QE
  have q:tb Dv QE ρ:=by rw [<- hQE]; exact q
  let E:XK:=fun cls d H'=>∃ C dx F' us c fs,cls = .ref C /\ d = some dx /\ Grow rl F₀ H₀ F' H' /\ Same F F' /\ W.nsIn X.K mainGlobals c = some (some (.ref C)) /\ H' dx = some (.xd us) /\ H₀ dx = none /\ F' dx = none /\ KDs X.K F' us fs /\ QE c fs
  have pass:Passes (CXE X.prog X.w) (Cx.held X (X.pn ++ pins) XE) E:=by
    rintro pins2 σ2 H2 s2 e s' J ⟨a,C,dx,T,H',rfl,hos,bare,un,hok,air,na,nT,fa,fT,⟨C',dx',F',us,c,fs,eC,ed,g,smF,ns,hxd,hd0,fd0,kd,qe⟩⟩
    cases eC
    cases ed
    have okX:=I.ok
    have J0:Inv X pins σ2 H2 s2:=Inv.unheld okX J
    have J1:Inv X pins σ2 H' s':=J0.call' hos un hok bare (fun _ z=>nomatch z)
    have hfr:X.A.frames = some (X.env :: X.outer):=by rw [<- hst]; exact okX.frames
    have hst1:s'.heap.FunFrames X.base (X.env :: X.outer):=by rw [<- hst]; exact J1.stack
    show XE (.ref a) s'
    rw [<- hXE]
    refine noteX2 hfr hst1 hfl air fun h3 T' nT' air3 bt3=>flyX (s:={ s' with heap:=h3 }) air3 fun h4 air4 k4 t4=>?_
    rw [<- hst] at bt3
    have bt4:But (frs X.stack) [a,T,T'] s'.heap h4:=(bt3.more fun b z=>by simp at z; rcases z with z | z <;> simp [z]).trans ((fly_but k4 t4).more fun b z=>by simp at z; simp [z])
    have sT':s2.heap.get? T' = none:=by
      cases z:s2.heap.get? T' with
      | none=>rfl
      | some o=>obtain ⟨o',e'⟩:=un.there T' o z (fun y=>nomatch y); rw [nT'] at e'; cases e'
    have hT':H' T' = none:=by
      cases z:H' T' with
      | none=>rfl
      | some o=>obtain ⟨o',e'⟩:=objOk_there (hok T' o z); rw [nT'] at e'; cases e'
    have f1:∀ b ∈ [a,T,T'],s2.heap.get? b = none:=fun b z=>by
      simp at z
      rcases z with rfl | rfl | rfl
      · exact fa
      · exact fT
      · exact sT'
    have f2:∀ b ∈ [a,T,T'],H' b = none:=fun b z=>by
      simp at z
      rcases z with rfl | rfl | rfl
      · exact na
      · exact nT
      · exact hT'
    have J4:Inv X pins σ2 H' { s' with heap:=h4 }:=J0.call' hos (un_but un bt4 f1) (hok_but hok bt4 f2 J1.stkFree) bare (fun _ z=>nomatch z)
    have hq:c ∈ cs /\ ts ⟨fun ρ'=>Dv.nx (ρ'.set i none),Dv.rt,fun _=>False,fun _=>False⟩ ((List.replicate ρ.length none).set i (some (.xc c fs))):=by rw [<- hQE] at qe; exact qe
    obtain ⟨oe,vs,oT,tts,ea,ec,edx,ef,_⟩:=id air4
    refine wpAny_handleBy_cons (codeAny_handlers_test (ld_glob (Inv.caughtIn J4 a) hg hmb ?_ hdb)) (by intro z; cases z)
    refine excm_x J4.kIn (hcs c hq.1 C ns) ea ec ?_
    refine codeAny_handlers_suite_as (flyX (s:={ s' with heap:=h4 }) air4 fun h5 air5 k5 t5=>?_)
    have bt5:But (frs X.stack) [a,T,T'] s'.heap h5:=bt4.trans ((fly_but k5 t5).more fun b z=>by simp at z; simp [z])
    have J5:Inv X pins σ2 (upd H' a (.ext (ExcAt a C dx))) { s' with heap:=h5 } :=
      J0.call' hos (un_upd (un_but un bt5 f1) na fa) (hok_upd (hok_but hok bt5 f2 J1.stkFree) na (exc_ok air5)) bare (fun _ z=>nomatch z)
    have J6:Inv X pins (List.replicate σ2.length none) (upd H' a (.ext (ExcAt a C dx))) { s' with heap:=h5 }:=J5.weak (by simp) fun j v z=>by
      rw [List.getElem?_replicate] at z
      split at z <;> cases z
    refine store_ok J6 hN hi (.inl hn) (show RelV (.ref a) (.ref a) from rfl) (fun s7 J7=>?_) (.inr hn)
    obtain ⟨Ts,ps,ks⟩:=hs a
    have ned:dx ≠ a:=fun z=>by rw [z,na] at hxd; cases hxd
    have hla:H₀ a = none:=g.freeB na
    have Fa:F' a = none:=g.sub.free na
    have rld:rl.a ≠ some dx:=fun z=>by
      obtain ⟨_,⟨o2,e2,e3⟩⟩:=g.reel dx z
      rw [hxd] at e2
      cases e2
      exact ro_xd e3
    have g1:Grow rl F₀ H₀ (upd F' dx (.xd us)) H':=g.freeze hd0 hxd fd0 rld
    have g2:Grow rl F₀ H₀ (upd (upd F' dx (.xd us)) a (.ext (ExcAt a C dx))) (upd H' a (.ext (ExcAt a C dx))):=g1.trans (Grow.data g1.sub g1.reel na)
    have sm:Same F' (upd (upd F' dx (.xd us)) a (.ext (ExcAt a C dx))):=fun b o z=>by
      rw [upd_ne (ne_of_none z Fa),upd_ne (ne_of_none z fd0)]
      exact z
    have hlen : ρ.length = σ2.length:=by rw [R.len,I.len]; exact J0.len.symm
    have rx:RelW X.K rl (upd (upd F' dx (.xd us)) a (.ext (ExcAt a C dx))) (upd H' a (.ext (ExcAt a C dx))) (.ref a) (.xc c fs) :=
      ⟨a,dx,us,C,rfl,ns,upd_same,by rw [upd_ne ned,upd_same],Paired.mapP kd fun _ _ z=>⟨z.1,z.2.mono sm⟩⟩
    have R0:VR X.K rl F₀ H₀ (upd (upd F' dx (.xd us)) a (.ext (ExcAt a C dx))) (upd H' a (.ext (ExcAt a C dx))) (List.replicate σ2.length none) (List.replicate ρ.length none) :=
      ⟨g2,fun j w z=>(by rw [List.getElem?_replicate] at z; split at z <;> cases z),fun j k x y v _ z=>(by rw [List.getElem?_replicate] at z; split at z <;> cases z),fun j xs z=>(by rw [List.getElem?_replicate] at z; split at z <;> cases z),by simp [hlen]⟩
    have R7:=R0.set (Grow.refl R0.sub R0.reel) rx trivial (fun xs z=>nomatch z) i
    refine wpAny_mono (ps pins s7 _ _ ⟨fun σ' H6=>D.nx (σ'.set i none) H6,D.rt,fun _ _=>False,fun _ _=>False⟩ (Inv.caughtIn J7 a) (ks R7 ⟨fun ρ'=>Dv.nx (ρ'.set i none),Dv.rt,fun _=>False,fun _=>False⟩ _ ⟨fun F6 H6 σ6 ρ6 s6 R6 z=>ok.nx F6 H6 _ _ ((smF.trans sm).trans s6) (R6.unset i) z,ok.rt,fun _ _ _ _ _ _ z=>z,fun _ _ _ _ _ _ z=>z⟩ hq.2)) (fun fl s8 h8=>?_) fun _ _ z=>z.elim
    cases fl with
    | next =>
      obtain ⟨σ8,H8,J8,z⟩:=h8
      exact goes_ok (Inv.uncaught okX J8) hN hi hn fun s9 J9=>⟨_,H8,J9,z⟩
    | ret u =>
      obtain ⟨v,σ8,H8,J8,r8,z⟩:=h8
      exact goes_ok (Inv.uncaught okX J8) hN hi hn fun s9 J9=>⟨v,_,H8,J9,r8,z⟩
    | brk=>obtain ⟨_,_,_,z⟩:=h8; exact False.elim z
    | cont=>obtain ⟨_,_,_,z⟩:=h8; exact False.elim z
  obtain ⟨T',p',k'⟩:=hb (X.pn ++ pins) XE E pass
  refine wpAny_mono (p' [] s σ H D I' (k' R Dv D QE ok (fun c fs z C dx F' H' us g sm n hx hd fd kd=>⟨C,dx,F',us,c,fs,rfl,rfl,g,sm,n,hx,hd,fd,kd,z⟩) q)) (fun fl s1 h1=>?_) (fun e s1 z=>?_)
  · cases fl with
    | next =>
      obtain ⟨σ1,H1,J1,z⟩:=h1
      exact wpAny_execs_nil ⟨σ1,H1,Inv.unheld I.ok J1,z⟩
    | ret u =>
      obtain ⟨v,σ1,H1,J1,r1,z⟩:=h1
      exact ⟨v,σ1,H1,Inv.unheld I.ok J1,r1,z⟩
    | brk=>obtain ⟨σ1,H1,J1,z⟩:=h1; exact ⟨σ1,H1,Inv.unheld I.ok J1,z⟩
    | cont=>obtain ⟨σ1,H1,J1,z⟩:=h1; exact ⟨σ1,H1,Inv.unheld I.ok J1,z⟩
  · exact z
end
end L2.VL

namespace L2.VL
open PySem PySem.Spec PyProof.Rows
theorem kds_get {K:W.Frag} {F:Hp} {us:List (Str × V)} {fs:List (Str × PyData)} (r:KDs K F us fs) {n:Str} {d:PyData} (e:fs.lookup n = some d):∃ v,us.lookup n = some v /\ Rep K F v d:=by
  induction r with
  | nil=>cases e
  | @cons p q us fs h _ ih =>
    obtain ⟨k,v⟩:=p
    obtain ⟨k',d'⟩:=q
    obtain ⟨h1,h2⟩:=h
    dsimp only at h1 h2
    subst h1
    by_cases hk:(n == k) = true
    · simp only [List.lookup,hk] at e ⊢
      cases e
      exact ⟨v,rfl,h2⟩
    · simp only [List.lookup,Bool.not_eq_true _ ▸ hk] at e ⊢
      exact ih e
theorem xc_at {X:Cx} {pins:List (Addr × Obj)} {rl:RlT} {F₀ H₀ F H:Hp} {σ:St} {ρ:En} {s:Shared} {i:Nat} {c:Str} {fs:List (Str × PyData)} (I:Inv X pins σ H s) (R:VR X.K rl F₀ H₀ F H σ ρ) (e : ρ[i]? = some (some (.xc c fs))) :
    ∃ a dx us C,σ[i]? = some (some (.ref a)) /\ W.nsIn X.K mainGlobals c = some (some (.ref C)) /\ ExcAt a C dx s.heap /\ H dx = some (.xd us) /\ KDs X.K F us fs:=by
  obtain ⟨v,s1,⟨a,dx,us,C,ev,n,h1,h2,kd⟩,_⟩:=R.sl i _ e
  subst ev
  obtain ⟨z,_⟩:=(show ObjOk X.prog X.w H s.heap a (.ext (ExcAt a C dx)) from I.hok a _ (R.sub _ _ h1))
  exact ⟨a,dx,us,C,s1,n,z,R.sub _ _ h2,kd⟩
theorem exc_inst {P:Program} {w:World} {H:Hp} {h:Heap} {a C dx:Addr} {us:List (Str × V)} (z:ExcAt a C dx h) (ok:HOk P w H h) (e:H dx = some (.xd us)):∃ ox od,W.InstAt h a ox C (some od):=by
  obtain ⟨oe,vs,h1,h2,h3,h4⟩:=z
  obtain ⟨mA,⟨od,es,ep,ho,_⟩,_⟩:=(show ObjOk P w H h dx (.xd us) from ok dx _ e)
  exact ⟨oe,od,h1,h2,by unfold W.notCls; rw [h4],by rw [h3]; exact ho⟩
section
variable {X:Cx} {rl:RlT} {pos p p1:Pos} {c n x:Str}
noncomputable def vXf (i:Nat) (c n:Str):TV:=fun ρ Q=>∃ fs d,ρ[i]? = some (some (.xc c fs)) /\ fs.lookup n = some d /\ Q (.d d)
theorem v_xfld (i:Nat) (hx:∀ C,W.nsIn X.K mainGlobals c = some (some (.ref C)) -> XCls X.K C /\ NoAttr X.K C n) (hN:X.N[i]? = some x:=by rfl) (hv:Vis X.env.scope x:=by first | exact Or.inl rfl | exact Or.inr (Or.inl rfl) | exact Or.inr (Or.inr rfl))
    (hd:(x == ("__debug__" : Str)) = false:=by decide) (hcd:(x == ("__classdict__" : Str)) = false:=by decide) (hb:attributeBase (.Name x p1) n X.env (eval (.Name x p1) X.env) = eval (.Name x p1) X.env:=by rfl) :
    PV X rl (.Attribute (.Name x p1) n pos) (vXf i c n):=by
  refine ⟨fun σ H Q=>∀ pins s,Inv X pins σ H s -> wpAny (model X.prog X.w) X.A (eval (.Attribute (.Name x p1) n pos) X.env) (EP X pins σ Q) X.xe s,fun pins s σ H Q I h=>h pins s I,fun {F₀ H₀ F H σ ρ} R Qd Q ⟨fs,d,e,l,q⟩ k pins s I=>?_⟩
  obtain ⟨v,s1,⟨a,dx,us,C,ev,ns,h1,h2,kd⟩,_⟩:=R.sl i _ e
  subst ev
  obtain ⟨xc,na⟩:=hx C ns
  obtain ⟨v,lv,rv⟩:=kds_get kd l
  refine attr_of hb (thn (pe_var hN hv hd hcd pins s σ H (fun y H1=>y = .ref a /\ H1 = H) I ⟨_,s1,rfl,rfl⟩) fun u s2 ⟨y,H1,I1,ry,ey,eH⟩=>?_)
  subst ey eH
  obtain rfl:u = Value.ref a:=ry
  obtain ⟨⟨oe,vs,z1,z2,z3,z4⟩,_⟩:=(show ObjOk X.prog X.w H1 s2.heap a (.ext (ExcAt a C dx)) from I1.hok a _ (R.sub _ _ h1))
  obtain ⟨mA,hns,hr⟩:=(show ObjOk X.prog X.w H1 s2.heap dx (.xd us) from I1.hok dx _ (R.sub _ _ h2))
  obtain ⟨u,hu,ru⟩:=RelO.some_of (v:=v) (o:=mA n) (by rw [<- lv]; exact hr n)
  exact get_x I1.kIn xc.xc xc.ga xc.gh na z1 z2 z3 z4 hns hu (handed_of ru) ⟨v,H1,I1.tok _,ru,k v (.d d) F H1 (Grow.refl R.sub R.reel) rv trivial q⟩
noncomputable def vIsX (i:Nat) (c:Str) (b:Bool):TV:=fun ρ Q=>∃ fs,ρ[i]? = some (some (.xc c fs)) /\ Q (.d (.bool b))
theorem v_isx1 (i:Nat) {e2:Expr} {v:V} {u:Value} {b:Bool} (hm:X.mg "isinstance" = none) (hx:∀ C,W.nsIn X.K mainGlobals c = some (some (.ref C)) -> XCls X.K C /\ W.kitOne X.K (.ref C) u = some b) (h2:PE X e2 (tC v)) (hu:∀ u',RelV v u' -> u' = u)
    (hN:X.N[i]? = some x:=by rfl) (hv:Vis X.env.scope x:=by first | exact Or.inl rfl | exact Or.inr (Or.inl rfl) | exact Or.inr (Or.inr rfl)) (hd:(x == ("__debug__" : Str)) = false:=by decide) (hcd:(x == ("__classdict__" : Str)) = false:=by decide)
    (hg:Gl X "isinstance" := by rfl) (he:starEach [.Name x p1,e2] X.env = (false,eval (.Name x p1) X.env) :: starEach [e2] X.env:=by rfl) (he2:starEach [e2] X.env = (false,eval e2 X.env) :: starEach [] X.env:=by rfl) (hpl:(backTo pos (starEach [e2] X.env)).any (·.1) = false:=by rfl) :
    PV X rl (.Call (.Name "isinstance" p) [.Name x p1,e2] [] pos) (vIsX i c b):=by
  refine ⟨fun σ H Q=>∀ pins s,Inv X pins σ H s -> wpAny (model X.prog X.w) X.A (eval (.Call (.Name "isinstance" p) [.Name x p1,e2] [] pos) X.env) (EP X pins σ Q) X.xe s,fun pins s σ H Q I h=>h pins s I,fun {F₀ H₀ F H σ ρ} R Qd Q ⟨fs,e,q⟩ k pins s I=>?_⟩
  have pa:=pa_cons (pe_var (pos:=p1) hN hv hd hcd) (pa_cons h2 pa_nil he2) he
  obtain ⟨a,dx,us,C,s1,ns,z,ed,kd⟩:=xc_at I R e
  obtain ⟨xc,kit⟩:=hx C ns
  refine wpAny_Call_Name_kw (ld_blt I hg hm (show bootBuiltins "isinstance" = some (.builtin "isinstance") by rfl) ?_)
  refine PyProof.Rows.callWith_builtin1 (thn (pa pos pins s σ H (fun vs H1=>vs = [.ref a,v] /\ H1 = H) I ⟨_,s1,rfl,rfl⟩) fun us' s2 ⟨vs,H1,I1,r,ev,eH⟩=>?_) he hpl
  subst ev eH
  cases r with
  | cons r1 r2 =>
    cases r2 with
    | cons r2 r3 =>
      cases r3
      cases (show _ = Value.ref a from r1)
      cases hu _ r2
      obtain ⟨a',dx',us2,C',s1',ns',z',ed',kd'⟩:=xc_at I1 R e
      rw [s1] at s1'
      cases s1'
      rw [ns] at ns'
      cases ns'
      exact W.kia_one (kitx_x xc) I1.kIn (exc_inst z' I1.hok ed') kit (fun y=>nomatch y) fun tk=>⟨.bl b,H1,I1.tok tk,rfl,k (.bl b) (.d (.bool b)) F H1 (Grow.refl R.sub R.reel) (.bl b) trivial q⟩
theorem refs_of {Cs:List Addr}:∀ {l:List Value},Paired RelV (Cs.map V.ref) l -> l = Cs.map Value.ref:=by
  induction Cs with
  | nil=>intro l rv; cases rv; rfl
  | cons C0 Cs ih =>
    intro l rv
    cases rv with
    | cons r0 r' =>
      cases (show _ = Value.ref C0 from r0)
      rw [ih r']
      rfl
noncomputable def tVs (vs:List V):TA:=fun _ H Q=>Q vs H
theorem pcs_nil:PA X [] (tVs []):=pa_nil
theorem pcs_cons {y:Str} {B:Addr} {es:List Expr} {vs:List V} {py:Pos} (hm:X.mg y = some (.ref B)) (h:PA X es (tVs vs)) (hg:Gl X y:=by rfl) (hd:(y == ("__debug__" : Str)) = false:=by decide) (hs:starEach (.Name y py :: es) X.env = (false,eval (.Name y py) X.env) :: starEach es X.env:=by rfl) :
    PA X (.Name y py :: es) (tVs (.ref B :: vs)):=pa_cons (pe_glob (v:=.ref B) hg hm rfl hd) h hs
theorem v_isxT (i:Nat) {es:List Expr} {Cs:List Addr} {b:Bool} {x1} {tpos:Pos} (hm:X.mg "isinstance" = none) (hx:∀ C,W.nsIn X.K mainGlobals c = some (some (.ref C)) -> XCls X.K C /\ W.kitAny X.K (.ref C) (Cs.map Value.ref) = some b) (h2:PA X es (tVs (Cs.map V.ref))) (hz:Cs.length <= sizeLine)
    (hN:X.N[i]? = some x:=by rfl) (hv:Vis X.env.scope x:=by first | exact Or.inl rfl | exact Or.inr (Or.inl rfl) | exact Or.inr (Or.inr rfl)) (hd:(x == ("__debug__" : Str)) = false:=by decide) (hcd:(x == ("__classdict__" : Str)) = false:=by decide)
    (hg:Gl X "isinstance" := by rfl) (he:starEach [.Name x p1,.Tuple es x1 tpos] X.env = (false,eval (.Name x p1) X.env) :: starEach [.Tuple es x1 tpos] X.env:=by rfl) (he2:starEach [.Tuple es x1 tpos] X.env = (false,eval (.Tuple es x1 tpos) X.env) :: starEach [] X.env:=by rfl) (hpl:(backTo pos (starEach [.Tuple es x1 tpos] X.env)).any (·.1) = false:=by rfl) :
    PV X rl (.Call (.Name "isinstance" p) [.Name x p1,.Tuple es x1 tpos] [] pos) (vIsX i c b):=by
  refine ⟨fun σ H Q=>∀ pins s,Inv X pins σ H s -> wpAny (model X.prog X.w) X.A (eval (.Call (.Name "isinstance" p) [.Name x p1,.Tuple es x1 tpos] [] pos) X.env) (EP X pins σ Q) X.xe s,fun pins s σ H Q I h=>h pins s I,fun {F₀ H₀ F H σ ρ} R Qd Q ⟨fs,e,q⟩ k pins s I=>?_⟩
  have pa:=pa_cons (pe_var (pos:=p1) hN hv hd hcd) (pa_cons (pe_tup (x1:=x1) (pos:=tpos) h2) pa_nil he2) he
  obtain ⟨a,dx,us,C,s1,ns,z,ed,kd⟩:=xc_at I R e
  obtain ⟨xc,kit⟩:=hx C ns
  refine wpAny_Call_Name_kw (ld_blt I hg hm (show bootBuiltins "isinstance" = some (.builtin "isinstance") by rfl) ?_)
  refine PyProof.Rows.callWith_builtin1 (thn (pa pos pins s σ H (fun vs H1=>∃ t,vs = [.ref a,.ref t] /\ H t = none /\ H1 = upd H t (.tup (Cs.map V.ref))) I ⟨_,s1,by rw [List.length_map]; exact hz,fun t ht=>⟨t,rfl,ht,rfl⟩⟩) fun us' s2 ⟨vs,H1,I1,r,t,ev,ht,eH⟩=>?_) he hpl
  subst ev eH
  have g1:Grow rl F H F (upd H t (.tup (Cs.map V.ref))):=Grow.laid R.sub R.reel ht
  cases r with
  | cons r1 r2 =>
    cases r2 with
    | cons r2 r3 =>
      cases r3
      cases (show _ = Value.ref a from r1)
      cases (show _ = Value.ref t from r2)
      obtain ⟨a',dx',us2,C',s1',ns',z',ed',kd'⟩:=xc_at I1 (R.grow g1) e
      rw [s1] at s1'
      cases s1'
      rw [ns] at ns'
      cases ns'
      obtain ⟨_,its,rv,⟨⟨oc,od,oda,osl⟩,t1,t2,⟨m,t3⟩,t4⟩⟩:=(show ObjOk X.prog X.w _ s2.heap t (.tup (Cs.map V.ref)) from I1.hok t _ upd_same)
      dsimp only at t2 t3 t4
      subst t2 t3 t4
      have ei:its = Cs.map Value.ref:=refs_of rv
      subst ei
      exact W.kia_tup (kitx_x xc) I1.kIn (exc_inst z' I1.hok ed') t1 kit (fun y=>nomatch y) fun tk=>⟨.bl b,_,I1.tok tk,rfl,k (.bl b) (.d (.bool b)) F _ g1 (.bl b) trivial q⟩
end
end L2.VL

namespace L2.VL
open PySem PySem.Spec PyProof.Rows
structure XCl (K:W.Frag) (mg:Str -> Option Value) (c n b qual:Str) (st:Stmt) (ps os:List Str):Prop where
  ex:∃ C B f fd Cs,W.nsIn K mainGlobals c = some (some (.ref C)) /\ mg c = some (.ref C) /\ mg b = some (.ref B) /\ XMk K C f /\ NoAttr K C n /\ XOver K C B /\ Fun K "__init__" qual st f fd /\ Binds K fd ps [] /\ Paired (fun x D=>mg x = some (.ref D)) os Cs /\
    W.kitAny K (.ref C) (Cs.map Value.ref) = some false /\ W.kitOne K (.ref C) (.ref C) = some true /\ W.kitOne K (.ref C) (.type "ValueError") = some true /\ mg "ValueError" = none
theorem XCl.one {P:Program} {w:World} {K:W.Frag} {mg:Str -> Option Value} {base:Heap} {c n b qual:Str} {st:Stmt} {ps os:List Str} (x:XCl K mg c n b qual st ps os) (hi:∀ f fd,Fun K "__init__" qual st f fd -> FnOk P w K mg base CX0 1 f fd ps (spI K n)):∃ C,XOne P w K mg base c n C:=by
  obtain ⟨C,B,f,fd,Cs,h1,h2,h3,h4,h5,h6,h7,h8,_⟩:=x.ex
  exact ⟨C,h1,h2,h5,f,fd,ps,h4,h8,hi f fd h7⟩
noncomputable def xAll (K:W.Frag) (C B f:Addr) (n:Str) (Cs:List Addr):Bool :=
  xcIn K C && (W.findIn K (.ref C) "__setattr__" == some (some (.builtin "object.__setattr__"))) && (W.findIn K (.ref C) "__getattribute__" == some (some (.builtin "BaseException.__getattribute__"))) &&
  (W.findIn K (.ref C) "__getattr__" == some none) && (W.findIn K (.ref C) "__class__" == some (some (.builtin "object.__class__"))) && (W.specialIn K (.builtin "object.__class__") "__get__" == some (some (.builtin "getset_descriptor.__get__"))) &&
  (W.takesIn K (.builtin "object.__class__") == some true) && (W.mroIn K C (.type "object") == some true) && W.isFn K (.ref f) && W.keepIn K (.ref C) && (W.findIn K (.ref C) n == some none) &&
  (W.mroIn K C (.ref B) == some true) && (W.mroIn K B (.type "BaseException") == some true) && (W.typeIn K (.ref B) == some (.type "type")) &&
  (W.kitAny K (.ref C) (Cs.map Value.ref) == some false) && (W.kitOne K (.ref C) (.ref C) == some true) && (W.kitOne K (.ref C) (.type "ValueError") == some true)
theorem XCl.mk' {K:W.Frag} {mg:Str -> Option Value} {c n b qual:Str} {st:Stmt} {ps os:List Str} {C B f:Addr} {fd:FuncData} {Cs:List Addr} (h1:W.nsIn K mainGlobals c = some (some (.ref C))) (h2:mg c = some (.ref C)) (h3:mg b = some (.ref B))
    (hi:W.findIn K (.ref C) "__init__" = some (some (.ref f))) (hf:Fun K "__init__" qual st f fd) (hb:Binds K fd ps []) (ho:Paired (fun x D=>mg x = some (.ref D)) os Cs) (hv:mg "ValueError" = none) (hx:xAll K C B f n Cs = true):XCl K mg c n b qual st ps os:=by
  unfold xAll at hx
  simp only [Bool.and_eq_true,beq_iff_eq] at hx
  obtain ⟨⟨⟨⟨⟨⟨⟨⟨⟨⟨⟨⟨⟨⟨⟨⟨x1,x2⟩,x3⟩,x4⟩,x5⟩,x6⟩,x7⟩,x8⟩,x9⟩,x10⟩,x11⟩,x12⟩,x13⟩,x14⟩,x15⟩,x16⟩,x17⟩:=hx
  exact ⟨C,B,f,fd,Cs,h1,h2,h3,⟨⟨x1,x2,x3,x4,x5,x6,x7,x8⟩,hi,x9,x10⟩,x11,⟨x12,x13,x14⟩,hf,hb,ho,x15,x16,x17,hv⟩
theorem xif_t {f:TB} {x n:Str} {fs:TVs} {u:VEnds -> XQ -> En -> Prop} {D:VEnds} {R:XQ} {ρ:En} (d:PyData) (h:f ρ = VL.ret true) (hf:fs ρ = VL.ret [.d d]) (q:R x [(n,d)]):xIf f x n fs u D R ρ:=by
  show f ρ _
  rw [h]
  show fs ρ _
  rw [hf]
  exact ⟨d,rfl,q⟩
theorem xif_f {f:TB} {x n:Str} {fs:TVs} {u:VEnds -> XQ -> En -> Prop} {D:VEnds} {R:XQ} {ρ:En} (h:f ρ = VL.ret false) (q:u D R ρ):xIf f x n fs u D R ρ:=by
  show f ρ _
  rw [h]
  exact q
end L2.VL

namespace L2.VL
open PySem PySem.Spec PyProof.Rows
noncomputable def xLoopF (fl:List Nat) (g:TGv) (t u:VEnds -> XQ -> En -> Prop):List PyData -> VEnds -> XQ -> En -> Prop
  | [],D,QE,ρ=>u D QE ρ
  | x :: xs,D,QE,ρ=>g x ρ fun ρ2=>t { D with nx:=fun ρ'=>xLoopF fl g t u xs D QE (fo fl ρ'),ct:=fun ρ'=>xLoopF fl g t u xs D QE (fo fl ρ'),bk:=fun ρ'=>u D QE (fo fl ρ') } QE ρ2
noncomputable def xForF (fl:List Nat) (fi:En -> (List PyData -> Prop) -> Prop) (g:TGv) (t u:VEnds -> XQ -> En -> Prop):VEnds -> XQ -> En -> Prop:=fun D QE ρ=>fi ρ fun xs=>xLoopF fl g t u xs D QE (fo fl ρ)
section
variable {X:Cx} {rl:RlT} {E:XK} {rest body:List Stmt} {t u:VEnds -> XQ -> En -> Prop} {pos:Pos}
theorem e_forF (fl:List Nat) {tg iter:Expr} {fi:En -> (List PyData -> Prop) -> Prop} {g:TGv} (hp:PassesOwn (model X.prog X.w) X.A X.env X.xe) (hc:X.calm = true) (hi:PIV X rl tg iter fi) (hg:PGV X rl tg g) (hb:PSsE X rl E body t) (h2:PSsE X rl E rest u)
    (hs:∀ x,foldedSetIterable iter X.env x = pure x:=by intro _; rfl):PSsE X rl E (.For tg iter body [] pos :: rest) (xForF fl fi g t u):=by
  obtain ⟨wi,p0,k0⟩:=hi
  obtain ⟨G,p1,k1⟩:=hg
  obtain ⟨T,p2,k2⟩:=hb
  obtain ⟨T2,p3,k3⟩:=h2
  refine ⟨_,pss_cons (ps_for hp hc p0 p1 p2 hs) p3,fun {F₀ H₀ F H σ ρ} R Dv D QE ok l q=>k0 R _ _ q fun J xs F1 H1 g1 vi q1=>?_⟩
  have fin:∀ F' H' σ' ρ',Same F1 F' -> VR X.K rl F₀ H₀ F' H' σ' ρ' -> u Dv QE ρ' -> T2 D σ' H':=fun F' H' σ' ρ' s' R' q'=>k3 R' Dv D QE (ok.on (g1.fs.trans s')) (XLink.on l (g1.fs.trans s')) q'
  refine ⟨fun i m σ H=>m = xs.length - i /\ i <= xs.length /\ ∃ F ρ,Same F1 F /\ VR X.K rl F₀ H₀ F H σ ρ /\ xLoopF fl g t u (xs.drop i) Dv QE ρ,⟨xs.length,by simp,Nat.zero_le _,F1,fo fl ρ,.refl _,(R.grow g1).le (le_fo fl ρ),by simpa using q1⟩,?_⟩
  rintro i m σ H ⟨rfl,hi,F2,ρ2,s2,R2,j2⟩
  have sH:Same F1 H:=s2.trans R2.sub
  by_cases hlt:i < xs.length
  · have ei:xs[i]? = some xs[i]:=by simp [hlt]
    rw [List.drop_eq_getElem_cons hlt] at j2
    refine .inr ⟨vi.go i H _ ei sH,fun σ' H'=>∃ F ρ,Same F1 F /\ VR X.K rl F₀ H₀ F H' σ' ρ /\ xLoopF fl g t u (xs.drop (i + 1)) Dv QE ρ,fun σ' H' z=>⟨xs.length - (i + 1),by omega,rfl,hlt,z⟩,fun v H' y=>?_⟩
    obtain ⟨Fy,gy,rv⟩:=vi.yld i H v H' _ F2 ei s2 R2.sub R2.reel y
    refine k1 (R2.grow gy) v _ _ _ rv j2 fun F3 H3 σ3 ρ3 s3 n3 R3 q3=>?_
    have s13:Same F1 F3:=s2.trans (gy.fs.trans s3.fs)
    exact k2 R3 { Dv with nx:=fun ρ'=>xLoopF fl g t u (xs.drop (i + 1)) Dv QE (fo fl ρ'),ct:=fun ρ'=>xLoopF fl g t u (xs.drop (i + 1)) Dv QE (fo fl ρ'),bk:=fun ρ'=>u Dv QE (fo fl ρ') } _ QE
      ⟨fun F4 H4 σ4 ρ4 s4 R4 q4=>⟨F4,fo fl ρ4,s13.trans s4,R4.le (le_fo fl ρ4),q4⟩,ok.rt,fun F4 H4 σ4 ρ4 s4 R4 q4=>fin _ _ _ _ (s13.trans s4) (R4.le (le_fo fl ρ4)) q4,fun F4 H4 σ4 ρ4 s4 R4 q4=>⟨F4,fo fl ρ4,s13.trans s4,R4.le (le_fo fl ρ4),q4⟩⟩ (XLink.on l (g1.fs.trans s13)) q3
  · have e:i = xs.length:=by omega
    subst e
    rw [List.drop_length] at j2
    exact .inl ⟨vi.stop _ H (Nat.le_refl _) sH,fin _ _ _ _ s2 R2 j2⟩
end
theorem xloop_find {α:Type} {fl:List Nat} {g:TGv} {t u:VEnds -> XQ -> En -> Prop} {D:VEnds} {QE:XQ} {ρ:En} {enc : α -> PyData} {p : α -> Bool}:∀ xs:List α,
    (∀ x ∈ xs,p x = false -> ∀ K:VEnds,(∀ ρ',fo fl ρ' = ρ -> K.nx ρ') -> g (enc x) ρ fun ρ2=>t K QE ρ2) -> (∀ x ∈ xs,p x = true -> xs.find? p = some x -> ∀ K:VEnds,g (enc x) ρ fun ρ2=>t K QE ρ2) ->
    (xs.find? p = none -> u D QE ρ) -> xLoopF fl g t u (xs.map enc) D QE ρ
  | [],_,_,h3=>h3 rfl
  | x :: xs,h1,h2,h3=>by
    show g (enc x) ρ _
    cases e:p x with
    | true=>exact h2 x List.mem_cons_self e (by rw [List.find?_cons,e]) _
    | false =>
      refine h1 x List.mem_cons_self e _ fun ρ' z=>?_
      show xLoopF _ _ _ _ _ _ _ (fo fl ρ')
      rw [z]
      have ef:(x :: xs).find? p = xs.find? p:=by rw [List.find?_cons,e]
      exact xloop_find xs (fun y my=>h1 y (List.mem_cons_of_mem _ my)) (fun y my ey z=>h2 y (List.mem_cons_of_mem _ my) ey (ef.trans z)) fun z=>h3 (ef.trans z)
theorem xof_of {t:TSv} {D:VEnds} {R:XQ} {ρ:En} (h:t D ρ):xOf t D R ρ:=h
noncomputable def gIsX:W -> W -> (W -> Prop) -> Prop:=fun x y Q=>y = .d .none /\ ((∃ d,x = .d d /\ Q (.d (.bool (isNonD d)))) \/ ∃ c fs,x = .xc c fs /\ Q (.d (.bool false)))
section
variable {X:Cx} {rl:RlT}
theorem vo_isX:VOp X rl (fun x y H Q=>y = .non /\ Q (.bl (decide (x = .non))) H) gIsX:=fun {F H x y wx wy} Qd Q s ra r1 r2 q k=>by
  obtain ⟨rfl,q⟩:=q
  have e2:y = .non:=by cases (show Rep X.K F y .none from r2); rfl
  refine ⟨e2,?_⟩
  rcases q with ⟨d,rfl,q⟩ | ⟨c,fs,rfl,q⟩
  · rw [rep_non (show Rep X.K F x d from r1)]
    exact k _ (.d _) _ _ (Grow.refl s ra) (.bl _) trivial q
  · obtain ⟨e,dx,us,C,ev,_⟩:=r1
    rw [ev,decide_eq_false (fun z=>by cases z)]
    exact k _ (.d _) _ _ (Grow.refl s ra) (.bl _) trivial q
end
theorem kit_app {K:W.Frag} {v:Value}:∀ {l1 l2:List Value},W.kitAny K v (l1 ++ l2) = some false -> W.kitAny K v l1 = some false /\ W.kitAny K v l2 = some false
  | [],l2,h=>⟨by simp [W.kitAny],h⟩
  | c :: l1,l2,h=>by
    rw [List.cons_append] at h
    simp only [W.kitAny] at h ⊢
    cases e:W.kitOne K v c with
    | none=>rw [e] at h; cases h
    | some b =>
      rw [e] at h
      cases b with
      | true=>cases h
      | false=>exact kit_app h
end L2.VL

namespace L2.VL
open PySem PySem.Spec PyProof.Rows
section
variable {X:Cx} {al:Option Addr} {c1 c2 c3:Nat} {elt tg iter:Expr} {ifs:List Expr} {scope:Scope} {pos:Pos} {fi:En -> (List PyData -> Prop) -> Prop} {g:TGv} {ft:TB} {fe:TV}
theorem cs_setcompR (n:Nat) (i:Nat) {b:Bool} {x:Str} {px spos:Pos} (hN:X.N.Nodup) (N':List Str) (fr:List (Option Nat)) (hc:X.calm = true) (hi:CI X al c1 tg iter fi)
    (hg:∀ y m,PGV (blk X N' scope y) ⟨al,m⟩ tg g) (ht:∀ y,CTs (blk X N' scope y) al c2 ifs ft) (he:∀ y,CV (blk X N' scope y) al c3 elt fe)
    (hsw:swapsWith (.ListComp elt [⟨tg,iter,ifs,0⟩] scope pos) (some (.Name x px)) spos.line X.env = pure b:=by rfl)
    (hix:X.N[i]? = some x:=by rfl) (hx:Loc X.env.scope x:=by first | exact Or.inl rfl | exact Or.inr rfl) (hf:X.fn x = true \/ X.env.scope.names.lookup x = some .local:=by first | exact .inl rfl | exact .inr rfl)
    (hfr:frOk fr N' X.N scope X.env.scope = true:=by rfl) (hsc:scOk scope X.env.scope = true:=by rfl)
    (hs:∀ x,foldedSetIterable iter X.env x = pure x:=by intro _; rfl):CS X al (c1 + n * (c2 + c3)) (.Assign [.Name x px] (.ListComp elt [⟨tg,iter,ifs,0⟩] scope pos) spos) (vSet i (vCompC n fi fr g ft fe)):=by
  obtain ⟨wi,p0,k0⟩:=hi
  refine ⟨_,ps_setcomp N' fr hc p0 hfr hsc (fun y=>tgC_p (hg y)) (fun y=>(Classical.choose_spec (ht y)).1) (fun y=>(Classical.choose_spec (he y)).1) hN hix hx hf hsw hs,fun R Dv D ok q=>lcompC_k n fr k0 hg ht he R _ _ q fun v w F1 H1 g1 r1 n1 ⟨hp,q1⟩=>?_⟩
  exact ok.nx _ _ _ _ g1.fs (R.setC g1 (by omega) r1 n1 (fun xs z=>by subst z; cases hp) i) q1
end
end L2.VL

namespace K66
open PySem PySem.Spec PyProof.Rows L2 L2.VL
local macro_rules | `(tactic| simp_arith only [$xs,*])=>`(tactic| simp (maxSteps:=2000000) (disch:=(first | assumption | omega | decide)) only [BMON0,BITE0,BEXP0,BEXP1,BEXP2,BSTM0,BSTM1,BPRJ0,BPRJ1,BPRJ2,BLST0,BLST1,zipO,slI,slM,kindB,startV,frEn,W.cap,lpQ,List.replicate,id,↓reduceIte,if_true,Nat.reduceAdd,Nat.reduceSub,Nat.reduceLeDiff,Int.cast_ofNat_Int,Int.reduceBEq,Int.reduceSub,Int.reduceAdd,Int.reduceLT,Int.reduceLE,Int.reduceMul,Int.reduceNeg,reduceCtorEq,isNonD,$xs,*])
local macro_rules | `(tactic| simp_arith only [$xs,*] at $h:ident)=>`(tactic| simp only [List.cons.injEq,W.d.injEq,PyData.int.injEq,PyData.bool.injEq,PyData.str.injEq,PyData.list.injEq,PyData.tuple.injEq,tupI_inj,lstI_inj,tupT_inj,map_int_inj,and_true,true_and,reduceCtorEq,$xs,*] at $h:ident)
section
variable {P:Program} {w:World} {K:PySem.W.Frag} {mg:Str -> Option Value} {base:Heap} {rl:RlT} {al:Option Addr}
noncomputable def preT (ws:List W):Prop:=∃ (ns:List Int) (k:Int),ws = [.sc ns,.d (.int k)] /\ ns.length <= 63 /\ 0 <= k /\ k < 1000
theorem sc__law_tape:FnScope ["_law_script", "_law_at", "_law_cell"] ["_law_script", "_law_at"] (defScope (top 29)):=⟨rfl,rfl,rfl,by decide +kernel,rfl,by decide +kernel,by decide +kernel⟩
theorem d__law_tape (Fn:FnIn K mg "_law_tape" (top 29) ["_law_script", "_law_at"]) (Z:Bz mg):DfnR P w K mg base "_law_tape" ["_law_script", "_law_at"] 2 preT:=by
  have sc:=sc__law_tape
  obtain ⟨f,fd,hm,F,hb⟩:=Fn.ex
  refine ⟨f,fd,hm,F.kp,hb,?_⟩
  refine F.ok (k:=1) sc (fun vs H Q E h=>?_) (fun cdv A outer s H vs Q E hr h=>?_)
  · obtain ⟨F,ws,_,r,_,⟨ns,k,rfl,_⟩,_⟩:=h
    have:=Paired.length r
    simpa using this
  · obtain ⟨F,ws,sm,r,ao,⟨ns,k,rfl,hn,k0,k1⟩,fin⟩:=h
    obtain ⟨T,p,kk⟩:=tape_body (X:=(cxOf CX0 P w K mg base ["_law_script", "_law_at", "_law_cell"] "_law_tape" (defScope (top 29)) f cdv A outer s H E).nox) (vs_setZ 2 sc.nd (vn 1)) (vs_if (vb_cmp op_gt vo_gt (nomark _) (v_lenSc Z.len_ (pvs_cons (vn 0) pvs_nil)) pv_int) (vs_one (vs_setZ 2 sc.nd (v_add (v_ixSc (vn 0) (v_mod (vn 1) (v_lenSc Z.len_ (pvs_cons (vn 0) pvs_nil)))) (v_div (vn 1) (v_lenSc Z.len_ (pvs_cons (vn 0) pvs_nil)))))) vs_nil) (vn 2) (v_max2 Z.max_ (pvs_cons pv_int (pvs_cons (v_sub (vn 2) (v_pow pv_int pv_int)) pvs_nil))) pv_int
    refine ⟨T,p,kk (vr_start sm (fun _ z=>by cases z) r ao) _ ?_ fin⟩
    simp_arith only [len_ok]
    by_cases h:(0:Int) < (ns.length:Int)
    · have hz:(ns.length:Int) ≠ 0:=by omega
      obtain ⟨z,hz'⟩:∃ z,L2.atI ns (k.fmod (ns.length:Int)) = some z:=by
        obtain ⟨z,e,_⟩:=at_in (xs:=ns) (Int.fmod_nonneg_of_pos k h) (Int.fmod_lt_of_pos k h)
        exact ⟨z,e⟩
      have cd:CDivB k (ns.length:Int):=CDivB.of hz (by omega)
      rw [if_pos (by simpa using h)]
      simp_arith only [grd_t,len_ok,hz']
      refine ⟨_,rfl,?_⟩
      simp_arith only [len_ok]
      refine ⟨⟨by decide,by decide,by decide⟩,?_⟩
      exact ⟨_,_,_,rfl,by omega,rfl⟩
    · rw [if_neg (by simpa using h)]
      refine ⟨_,rfl,?_⟩
      simp_arith only [len_ok]
      refine ⟨⟨by decide,by decide,by decide⟩,?_⟩
      exact ⟨_,_,_,rfl,by omega,rfl⟩
noncomputable def p__law_pick:List W -> (PyData -> Prop) -> Prop:=fun ws Q=>∃ (m:Int),ws = [.reel,.d (.int m)] /\ ((0 < m) /\ (m < 2 ^ 60)) /\ ∀ k:Int,(0 <= k /\ k < m) -> Q (.int k)
theorem p__law_pick.mono:∀ ws (Q Q':PyData -> Prop),(∀ d,Q d -> Q' d) -> p__law_pick ws Q -> p__law_pick ws Q':=fun _ _ _ h_=>Exists.imp fun _=>And.imp_right (And.imp_right fun q_ o_ ho_=>h_ _ (q_ o_ ho_))
theorem p__law_pick.len:∀ ws (Q:PyData -> Prop),p__law_pick ws Q -> ws.length = 2:=fun _ _ h_=>by obtain ⟨_,e_,_⟩:=h_; subst e_; rfl
theorem p__law_pick.eq (m:Int) (hm : 0 < m) (hb:m < 2 ^ 60):p__law_pick [.reel,.d (.int m)] = bnd (anyM fun k:Int=>0 <= k /\ k < m) fun k=>VL.ret (.int k:PyData):=by
  refine mo_ext fun Q=>⟨?_,fun q_=>⟨m,rfl,⟨hm,hb⟩,q_⟩⟩
  rintro ⟨m',e_,_,q_⟩
  simp_arith only [and_true] at e_
  obtain rfl:=e_
  exact q_
theorem sc__law_pick:FnScope ["_law_tape_here", "_law_many", "_law_turn", "_law_found", "_law_stirred"] ["_law_tape_here", "_law_many"] (defScope (top 30)):=⟨rfl,rfl,rfl,by decide +kernel,rfl,by decide +kernel,by decide +kernel⟩
theorem d__law_pick (Fn:FnIn K mg "_law_pick" (top 30) ["_law_tape_here", "_law_many"]) (Z:Bz mg)    : DfnC P w K mg base al 1 "_law_pick" ["_law_tape_here", "_law_many"] 1 p__law_pick:=by
  have sc:=sc__law_pick
  refine DfnC.of Fn sc (p__law_pick.mono) (p__law_pick.len) (fun cdv A outer s H E hr=>(cs_bump 2 0 (hr.mono (Nat.zero_le _)) sc.nd (by decide) (cs_cons (cs fun _=>(vs_if (vb_cmp op_gt vo_gt (nomark _) (v_rget (i:=0) (hr.mono (Nat.zero_le _)) (.inl rfl)) pv_int) (vs_cons (vs_setZ 3 sc.nd (v_mod (v_rget (i:=0) (hr.mono (Nat.zero_le _)) (.inl rfl)) (vn 1)))
      (vs_cons (vs_rput (i:=0) (hr.mono (Nat.zero_le _)) (.inl rfl) (v_div (v_rget (i:=0) (hr.mono (Nat.zero_le _)) (.inl rfl)) (vn 1)))
      (vs_one (vs_ret (vn 3))))) vs_nil))
      (cs_cons (cs fun _=>(vs_setZ 4 sc.nd (v_mul (v_add (v_add (v_mod (v_rcell (i:=0) (hr.mono (Nat.zero_le _))) pv_int) (v_mul (v_mul pv_int (vn 2)) (vn 2))) pv_int) pv_int)))
      (cs_cons (cs fun _=>(vs_setZ 4 sc.nd (v_mul (v_add (v_mod (vn 4) pv_int) (v_mul pv_int (vn 2))) pv_int)))
      (cs_one (cs fun _=>(vs_ret (v_mod (v_div (v_mod (vn 4) pv_int) pv_int) (vn 1)))))))))) (by decide) ?_
  rintro ws Q ⟨m,rfl,⟨hm,hb⟩,hQ⟩
  have hm0:m ≠ 0:=by omega
  have hmd:∀ i:Int,CDivB i m:=fun i=>CDivB.of hm0 (by omega)
  refine read_of ?_
  simp_arith only [grd_t,len_ok,m_vRN,m_vRI,s_rput,s_bump,asR_r,s_forC,m_compC,rangeD_length]
  refine any_step fun n hn=>?_
  have h59:n.natAbs < 2 ^ 59990:=by
    have h1:=hn.2
    rw [<- Int.natAbs_of_nonneg hn.1] at h1
    exact_mod_cast h1
  have bn:Big n:=Nat.lt_of_lt_of_le h59 (Nat.pow_le_pow_right (by decide) (by decide))
  have c1:CMulB 31 n:=.lt (by decide)
  have bn2:Big (31 * n):=by
    unfold Big at bn ⊢
    rw [Int.natAbs_mul]
    have h2:n.natAbs < 2 ^ 59990:=h59
    have:(31:Int).natAbs * n.natAbs < 2 ^ 5 * 2 ^ 59990:=Nat.mul_lt_mul'' (by decide) h2
    rw [<- Nat.pow_add] at this
    exact Nat.lt_of_lt_of_le this (Nat.pow_le_pow_right (by decide) (by decide))
  have c2:CMulB (31 * n) n:=.bb bn2 bn
  have c3:CMulB 7 n:=.lt (by decide)
  have c4:∀ z:Int,CMulB z 48271:=fun z=>.rt (by decide)
  have c5:∀ z:Int,CMulB z 69621:=fun z=>.rt (by decide)
  have d7:∀ z:Int,CDivB z 7:=fun z=>CDivB.of (by decide) (by decide)
  (with_reducible (first | refine any_step fun l hl=>?_ | refine sqb_any fun l hl=>?_))
  rw [sq_ite]
  refine ite_step (fun _=>?_) fun _=>?_
  · simp_arith only [grd_t,len_ok,m_vRN,m_vRI,s_rput,s_bump,asR_r,s_forC,m_compC,rangeD_length]
    (with_reducible (first | refine any_step fun l2 hl2=>?_ | refine sqb_any fun l2 hl2=>?_))
    try simp_arith only [grd_t,len_ok,m_vRN,m_vRI,s_rput,s_bump,asR_r,s_forC,m_compC,rangeD_length]
    (with_reducible (first | refine any_step fun l3 hl3=>?_ | refine sqb_any fun l3 hl3=>?_))
    have h0:=Int.fdiv_nonneg hl3 (show 0 <= m by omega)
    try simp_arith only [grd_t,len_ok,m_vRN,m_vRI,s_rput,s_bump,asR_r,s_forC,m_compC,rangeD_length]
    exact grd_step (hmd _) (rt_end (hQ _ ⟨Int.fmod_nonneg_of_pos _ hm,Int.fmod_lt_of_pos _ hm⟩))
  · simp_arith only [grd_t,len_ok,m_vRN,m_vRI,s_rput,s_bump,asR_r,s_forC,m_compC,rangeD_length]
    (with_reducible (first | refine any_step fun z hz=>?_ | refine sqb_any fun z hz=>?_))
    try simp_arith only [grd_t,len_ok,m_vRN,m_vRI,s_rput,s_bump,asR_r,s_forC,m_compC,rangeD_length]
    exact grd_step (c4 _) (grd_step (c5 _) (grd_step (d7 _) (rt_end (hQ _ ⟨Int.fmod_nonneg_of_pos _ hm,Int.fmod_lt_of_pos _ hm⟩))))
theorem i_NoUpper:∀ f fd,Fun K "__init__" "NoUpper.__init__" (inClass (top 8) 0) f fd -> FnOk P w K mg base CX0 1 f fd ["self", "number"] (spI K "number"):=by
  intro f fd F
  refine F.ok (k:=0) (N:=["self", "number"]) ⟨rfl,rfl,rfl,by decide +kernel,rfl,by decide +kernel,by decide +kernel⟩ (fun vs H Q E h=>?_) fun cdv A outer s H vs Q E hr h=>⟨_,pss_one (ps_x1 (pe_var (i:=0) rfl (.inl rfl)) (pe_var (i:=1) rfl (.inl rfl)) rfl),?_⟩
  · obtain ⟨a,C,y,e,_⟩:=h
    subst e
    rfl
  · obtain ⟨a,C,y,e,xc,na,ea,z⟩:=h
    subst e
    exact ⟨y,rfl,.ref a,rfl,a,C,rfl,xc,na,ea,z⟩
noncomputable def tbD (t:List (List Int)):PyData:=.tuple (t.map tupI)
noncomputable def IsTb (p:Int) (r c:Nat) (t:List (List Int)):Prop:=t.length = r /\ ∀ row ∈ t,row.length = c /\ ∀ x ∈ row,0 <= x /\ x < p
theorem tup_of (xs:List Int):PyData.tuple (xs.map PyData.int) = tupI xs:=rfl
noncomputable def dot (xs ys:List Int):Int:=((xs.zip ys).map fun z=>z.1 * z.2).sum
noncomputable def apT (p:Int) (t:List (List Int)) (fs:List Int):List Int:=t.map fun row=>(dot row fs).fmod p
theorem zip_ints (xs ys:List Int):zipD (xs.map PyData.int) (ys.map PyData.int) = (xs.zip ys).map fun z=>PyData.tuple [.int z.1,.int z.2]:=by
  induction xs generalizing ys with
  | nil=>rfl
  | cons x xs ih=>cases ys with
    | nil=>rfl
    | cons y ys=>rw [List.map_cons,List.map_cons,List.zip_cons_cons,List.map_cons]; show _ :: zipD _ _ = _; rw [ih]
noncomputable def Sm10 (xs:List Int):Prop:=xs.length <= 8 /\ ∀ x ∈ xs,0 <= x /\ x < 10
theorem seqD_tI (xs:List Int):seqD (tupI xs) = some (xs.map .int):=rfl
theorem tupD_tI (xs:List Int):tupD (tupI xs) = some (xs.map .int):=rfl
noncomputable def tbK (k:Bool) (t:List (List Int)):PyData:=bif k then .tuple (t.map tupI) else .list (t.map tupI)
noncomputable def Tb8 (p:Int) (t:List (List Int)):Prop:=t.length <= 8 /\ ∀ row ∈ t,Sm10 row
theorem tbK_i {k k':Bool} {a b:List (List Int)}:tbK k a = tbK k' b ↔ k = k' /\ a = b:=by
  have h:a.map tupI = b.map tupI ↔ a = b:=List.map_inj_right fun x y h=>tupI_inj.mp h
  cases k <;> cases k'
  · show PyData.list _ = PyData.list _ ↔ _
    rw [PyData.list.injEq,h]; simp
  · show PyData.list _ = PyData.tuple _ ↔ _
    simp
  · show PyData.tuple _ = PyData.list _ ↔ _
    simp
  · show PyData.tuple _ = PyData.tuple _ ↔ _
    rw [PyData.tuple.injEq,h]; simp
theorem tbD_i {a b:List (List Int)}:tbD a = tbD b ↔ a = b:=by
  have:=tbK_i (k:=true) (k':=true) (a:=a) (b:=b)
  show tbK true a = tbK true b ↔ _
  simpa using this
theorem opt_if {α β:Type} {c:Prop} [Decidable c] {x : α} {k : α -> Mo β} {Q : β -> Prop} (h:c) (q:k x Q):optM (if c then some x else none) k Q:=by rw [if_pos h]; exact q
theorem tupD_tb (t:List (List Int)):tupD (tbD t) = some (t.map tupI):=rfl
theorem map_ints {α:Type} (l:List α) (f : α -> Int):l.map (fun z=>PyData.int (f z)) = (l.map f).map .int:=by rw [List.map_map]; rfl
theorem map_tups {α:Type} (l:List α) (f : α -> List Int):l.map (fun z=>tupI (f z)) = (l.map f).map tupI:=by rw [List.map_map]; rfl
theorem item_tb (t:List (List Int)) (i:Int):VL.itemAt (tbD t) i = (atI t i).map tupI:=atI_map _ _ _
theorem lenD_tI (xs:List Int):lenD (tupI xs) = some xs.length:=by show some (xs.map PyData.int).length = _; rw [List.length_map]
theorem lenD_tb (t:List (List Int)):lenD (tbD t) = some t.length:=by show some (t.map tupI).length = _; rw [List.length_map]
theorem IsTb.t8 {p:Int} {r c:Nat} {t:List (List Int)} (h:IsTb p r c t) (p7:p <= 7) (r8:r <= 8) (c8:c <= 8):Tb8 p t:=⟨by rw [h.1]; exact r8,fun row mr=>⟨by rw [(h.2 row mr).1]; exact c8,fun x mx=>by have:=(h.2 row mr).2 x mx; omega⟩⟩
theorem cut_len (xs:List PyData) (l u:Option Int):(VL.cutD xs l u).length <= xs.length:=by unfold VL.cutD; rw [List.length_take,List.length_drop]; omega
noncomputable def S (n:Nat) (f:Nat -> Int):Int:=((List.range n).map f).sum
theorem un_nx (ρ:En):unR (.nx ρ) = VL.ret (.nx (nR ρ)):=rfl
theorem un_rt (x:PyData):unR (.rt (.d x)) = VL.ret (.rt (.d x)):=mo_ext fun Q=>⟨fun ⟨_,h⟩=>h,fun h=>⟨rfl,h⟩⟩
theorem preT.eq {ns:List Int} {k:Int} (h:ns.length <= 63) (k0 : 0 <= k) (k1:k < 1000):preT [.sc ns,.d (.int k)] = True:=eq_true ⟨ns,k,rfl,h,k0,k1⟩
theorem tI_Sm {xs:List Int} (h:Sm10 xs):Sm 2 8 (tupI xs):=(Sm.seq (dp:=0) (bk:=0) (n:=8) (fun d md=>by
    obtain ⟨x,mx,rfl⟩:=List.mem_map.mp md
    have:=h.2 x mx
    exact Sm.int (Nat.lt_of_lt_of_le (show x.natAbs < 2 ^ 4 by omega) (Nat.pow_le_pow_right (by decide) (by decide)))) (by rw [List.length_map]; exact h.1)).1
theorem tb_Sm {p:Int} {t:List (List Int)} (h:Tb8 p t):Sm 4 72 (tbD t):=(Sm.seq (dp:=2) (bk:=8) (n:=8) (fun d md=>by
    obtain ⟨x,mx,rfl⟩:=List.mem_map.mp md
    exact tI_Sm (h.2 x mx)) (by rw [List.length_map]; exact h.1)).1
theorem ints_i {a b:List Int}:a.map PyData.int = b.map PyData.int ↔ a = b:=map_int_inj
theorem exD_i {a b:List Int}:exD a = exD b ↔ a = b:=by unfold exD; rw [PyData.tuple.injEq]; exact ints_i
noncomputable def p_common_divisor:List W -> (PyData -> Prop) -> Prop:=fun ws Q=>∃ (i j:Int),ws = [.d (.int i),.d (.int j)] /\ (True) /\ Q (.int (Int.gcd i j:Nat))
theorem p_common_divisor.mono:∀ ws (Q Q':PyData -> Prop),(∀ d,Q d -> Q' d) -> p_common_divisor ws Q -> p_common_divisor ws Q':=fun _ _ _ h_=>Exists.imp fun _=>Exists.imp fun _=>And.imp_right (And.imp_right (h_ _))
theorem p_common_divisor.len:∀ ws (Q:PyData -> Prop),p_common_divisor ws Q -> ws.length = 2:=fun _ _ h_=>by obtain ⟨_,_,e_,_⟩:=h_; subst e_; rfl
theorem p_common_divisor.eq (i j:Int)  : p_common_divisor [.d (.int i),.d (.int j)] = VL.ret (.int (Int.gcd i j:Nat):PyData):=by
  refine mo_ext fun Q=>⟨?_,fun q_=>⟨i,j,rfl,trivial,q_⟩⟩
  rintro ⟨i',j',e_,_,q_⟩
  simp_arith only [and_true] at e_
  obtain ⟨rfl,rfl⟩:=e_
  exact q_
theorem sc_common_divisor:FnScope ["one", "other"] ["one", "other"] (defScope (top 12)):=⟨rfl,rfl,rfl,by decide +kernel,rfl,by decide +kernel,by decide +kernel⟩
theorem d_common_divisor (Fn:FnIn K mg "common_divisor" (top 12) ["one", "other"]) (Z:Bz mg)    : Dfn P w K mg base rl "common_divisor" ["one", "other"] 1 p_common_divisor:=by
  have sc:=sc_common_divisor
  refine Dfn.of Fn sc (p_common_divisor.mono) (p_common_divisor.len) (fun cdv A outer s H E hr=>(vs_cons (vs_whileF [] PassesOwn.never (vb_cmp (op_neD hr.units) vo_eqD (nomark _) (vn 1) pv_int) (vs_one (vs_par 0 1 rfl sc.nd (pvs_cons (vn 1) (pvs_cons (v_mod (vn 0) (vn 1)) pvs_nil)))))
      (vs_one (vs_ret (v_abs Z.abs_ (pvs_cons (vn 0) pvs_nil)))))) ?_
  rintro ws Q ⟨i,j,rfl,_,hQ⟩
  refine read_of ?_
  simp_arith only [len_ok]
  refine while_go (σ:=Int × Int) (fun s=>[some (.d (.int s.1)),some (.d (.int s.2))]) (fun s=>!(s.2 == 0)) (fun s=>(s.2,s.1.fmod s.2)) (fun s=>s.2.natAbs) (fun s=>Int.gcd s.1 s.2 = Int.gcd i j) (i,j) rfl rfl ?_ ?_ ?_
  · intro s _
    simp_arith only [len_ok]
  · intro s e c
    have hc:s.2 ≠ 0:=by simpa using c
    refine ⟨by rw [gcd_fmod]; exact e,fmod_abs_lt hc,_,?_,rfl⟩
    simp_arith only [grd_t,len_ok]
  · intro s e c
    have hc:s.2 = 0:=by simpa using c
    simp_arith only [len_ok]
    rw [hc,Int.gcd_zero_right] at e
    refine rt_end ?_
    have:(if s.1 < 0 then -s.1 else s.1) = ((Int.gcd i j:Nat):Int):=by rw [<- e]; split <;> omega
    rw [this]
    exact hQ
noncomputable def p_fraction:List W -> (PyData -> Prop) -> Prop:=fun ws Q=>∃ (a b:Int),ws = [.d (.int a),.d (.int b)] /\ ((0 < b) /\ (b.natAbs < 2 ^ 8000)) /\ Q (fr (qd a b))
theorem p_fraction.mono:∀ ws (Q Q':PyData -> Prop),(∀ d,Q d -> Q' d) -> p_fraction ws Q -> p_fraction ws Q':=fun _ _ _ h_=>Exists.imp fun _=>Exists.imp fun _=>And.imp_right (And.imp_right (h_ _))
theorem p_fraction.len:∀ ws (Q:PyData -> Prop),p_fraction ws Q -> ws.length = 2:=fun _ _ h_=>by obtain ⟨_,_,e_,_⟩:=h_; subst e_; rfl
theorem p_fraction.eq (a b:Int) (hb : 0 < b) (hz:b.natAbs < 2 ^ 8000):p_fraction [.d (.int a),.d (.int b)] = VL.ret (fr (qd a b):PyData):=by
  refine mo_ext fun Q=>⟨?_,fun q_=>⟨a,b,rfl,⟨hb,hz⟩,q_⟩⟩
  rintro ⟨a',b',e_,_,q_⟩
  simp_arith only [and_true] at e_
  obtain ⟨rfl,rfl⟩:=e_
  exact q_
theorem sc_fraction:FnScope ["top", "bottom", "divisor"] ["top", "bottom"] (defScope (top 13)):=⟨rfl,rfl,rfl,by decide +kernel,rfl,by decide +kernel,by decide +kernel⟩
theorem d_fraction (Fn:FnIn K mg "fraction" (top 13) ["top", "bottom"]) (Z:Bz mg) (d_common_divisor:∀ rl,Dfn P w K mg base rl "common_divisor" ["one", "other"] 1 p_common_divisor)   : Dfn P w K mg base rl "fraction" ["top", "bottom"] 2 p_fraction:=by
  have sc:=sc_fraction
  refine Dfn.of Fn sc (p_fraction.mono) (p_fraction.len) (fun cdv A outer s H E hr=>(vs_cons (vs_if (vb_cmp (op_eqD hr.units) vo_eqD (nomark _) (vn 1) pv_int) (vs_one vs_never) vs_nil)
      (vs_cons (vs_setZ 2 sc.nd (v_call (d_common_divisor _) (hr.mono (by decide)) (pvs_cons (vn 0) (pvs_cons (vn 1) pvs_nil))))
      (vs_cons (vs_if (vb_cmp op_lt vo_lt (nomark _) (vn 1) pv_int) (vs_one (vs_setZ 2 sc.nd (v_neg (vn 2)))) vs_nil)
      (vs_one (vs_ret (v_tup (pvs_cons (v_div (vn 0) (vn 2)) (pvs_cons (v_div (vn 1) (vn 2)) pvs_nil))))))))) ?_
  rintro ws Q ⟨a,b,rfl,⟨hb,hz⟩,hQ⟩
  refine read_of ?_
  have c1:CDivB a (Int.gcd a b:Int):=gcd_div hb hz _
  have c2:CDivB b (Int.gcd a b:Int):=gcd_div hb hz _
  have h0:(b == 0) = false:=by simp; omega
  have h1:decide (b < 0) = false:=by simp; omega
  simp_arith only [grd_t,len_ok,p_common_divisor.eq,h0,h1]
  rw [low_qd hb]
  exact rt_end hQ
noncomputable def p_power:List W -> (PyData -> Prop) -> Prop:=fun ws Q=>∃ (b k:Int),ws = [.d (.int b),.d (.int k)] /\ ((2 <= b) /\ (b <= 16) /\ (0 <= k) /\ (k <= 4000)) /\ Q (.int (b ^ k.toNat))
theorem p_power.mono:∀ ws (Q Q':PyData -> Prop),(∀ d,Q d -> Q' d) -> p_power ws Q -> p_power ws Q':=fun _ _ _ h_=>Exists.imp fun _=>Exists.imp fun _=>And.imp_right (And.imp_right (h_ _))
theorem p_power.len:∀ ws (Q:PyData -> Prop),p_power ws Q -> ws.length = 2:=fun _ _ h_=>by obtain ⟨_,_,e_,_⟩:=h_; subst e_; rfl
theorem p_power.eq (b k:Int) (h2 : 2 <= b) (h16:b <= 16) (h0 : 0 <= k) (hk:k <= 4000):p_power [.d (.int b),.d (.int k)] = VL.ret (.int (b ^ k.toNat):PyData):=by
  refine mo_ext fun Q=>⟨?_,fun q_=>⟨b,k,rfl,⟨h2,h16,h0,hk⟩,q_⟩⟩
  rintro ⟨b',k',e_,_,q_⟩
  simp_arith only [and_true] at e_
  obtain ⟨rfl,rfl⟩:=e_
  exact q_
theorem sc_power:FnScope ["base", "exponent", "product", "step"] ["base", "exponent"] (defScope (top 15)):=⟨rfl,rfl,rfl,by decide +kernel,rfl,by decide +kernel,by decide +kernel⟩
theorem d_power (Fn:FnIn K mg "power" (top 15) ["base", "exponent"]) (Z:Bz mg)    : Dfn P w K mg base rl "power" ["base", "exponent"] 1 p_power:=by
  have sc:=sc_power
  refine Dfn.of Fn sc (p_power.mono) (p_power.len) (fun cdv A outer s H E hr=>(vs_cons (vs_setZ 2 sc.nd pv_int)
      (vs_cons (vs_forF [3] PassesOwn.never rfl (vi_range1 Z.range_ (pvs_cons (vn 1) pvs_nil)) (vg_name 3 sc.nd) (vs_one (vs_aug 2 sc.nd ip_mulC (vn 0))))
      (vs_one (vs_ret (vn 2)))))) ?_
  rintro ws Q ⟨b,k,rfl,⟨h2,h16,h0,hk⟩,hQ⟩
  refine read_of ?_
  simp_arith only [grd_t,len_ok]
  refine foldR_go (fun i=>[some (.d (.int b)),some (.d (.int k)),some (.d (.int (b ^ i))),none]) (by rw [Int.pow_zero]) ?_ ?_
  · intro i hi
    have c:CMulB (b ^ i) b:=.rt (by omega)
    refine ⟨_,by (simp_arith only [grd_t,len_ok]) <;> rfl,?_⟩
    simp_arith only [len_ok,Int.pow_succ]
  · simp_arith only [len_ok]
    exact rt_end hQ
noncomputable def p__law_power:List W -> (PyData -> Prop) -> Prop:=fun ws Q=>∃ (b k:Int),ws = [.d (.int b),.d (.int k)] /\ ((2 <= b) /\ (b <= 16) /\ (0 <= k) /\ (k <= 4000)) /\ Q (.int (b ^ k.toNat))
theorem p__law_power.mono:∀ ws (Q Q':PyData -> Prop),(∀ d,Q d -> Q' d) -> p__law_power ws Q -> p__law_power ws Q':=fun _ _ _ h_=>Exists.imp fun _=>Exists.imp fun _=>And.imp_right (And.imp_right (h_ _))
theorem p__law_power.len:∀ ws (Q:PyData -> Prop),p__law_power ws Q -> ws.length = 2:=fun _ _ h_=>by obtain ⟨_,_,e_,_⟩:=h_; subst e_; rfl
theorem p__law_power.eq (b k:Int) (h2 : 2 <= b) (h16:b <= 16) (h0 : 0 <= k) (hk:k <= 4000):p__law_power [.d (.int b),.d (.int k)] = VL.ret (.int (b ^ k.toNat):PyData):=by
  refine mo_ext fun Q=>⟨?_,fun q_=>⟨b,k,rfl,⟨h2,h16,h0,hk⟩,q_⟩⟩
  rintro ⟨b',k',e_,_,q_⟩
  simp_arith only [and_true] at e_
  obtain ⟨rfl,rfl⟩:=e_
  exact q_
theorem sc__law_power:FnScope ["_law_p", "_law_many", "_law_found", "_law_k"] ["_law_p", "_law_many"] (defScope (top 32)):=⟨rfl,rfl,rfl,by decide +kernel,rfl,by decide +kernel,by decide +kernel⟩
theorem d__law_power (Fn:FnIn K mg "_law_power" (top 32) ["_law_p", "_law_many"]) (Z:Bz mg)    : Dfn P w K mg base rl "_law_power" ["_law_p", "_law_many"] 1 p__law_power:=by
  have sc:=sc__law_power
  refine Dfn.of Fn sc (p__law_power.mono) (p__law_power.len) (fun cdv A outer s H E hr=>(vs_cons (vs_setZ 2 sc.nd pv_int)
      (vs_cons (vs_forF [3] PassesOwn.never rfl (vi_range1 Z.range_ (pvs_cons (vn 1) pvs_nil)) (vg_name 3 sc.nd) (vs_one (vs_setZ 2 sc.nd (v_mul (vn 2) (vn 0)))))
      (vs_one (vs_ret (vn 2)))))) ?_
  rintro ws Q ⟨b,k,rfl,⟨h2,h16,h0,hk⟩,hQ⟩
  refine read_of ?_
  simp_arith only [grd_t,len_ok]
  refine foldR_go (fun i=>[some (.d (.int b)),some (.d (.int k)),some (.d (.int (b ^ i))),none]) (by rw [Int.pow_zero]) ?_ ?_
  · intro i hi
    have c:CMulB (b ^ i) b:=.rt (by omega)
    refine ⟨_,by (simp_arith only [grd_t,len_ok]) <;> rfl,?_⟩
    simp_arith only [len_ok,Int.pow_succ]
  · simp_arith only [len_ok]
    exact rt_end hQ
noncomputable def p_figures_of:List W -> (PyData -> Prop) -> Prop:=fun ws Q=>∃ (b n:Int),ws = [.d (.int b),.d (.int n)] /\ ((2 <= b) /\ (b <= 16) /\ (0 <= n) /\ (n.toNat < 2 ^ 4000)) /\ Q (.list ((dgs b n).map .int))
theorem p_figures_of.mono:∀ ws (Q Q':PyData -> Prop),(∀ d,Q d -> Q' d) -> p_figures_of ws Q -> p_figures_of ws Q':=fun _ _ _ h_=>Exists.imp fun _=>Exists.imp fun _=>And.imp_right (And.imp_right (h_ _))
theorem p_figures_of.len:∀ ws (Q:PyData -> Prop),p_figures_of ws Q -> ws.length = 2:=fun _ _ h_=>by obtain ⟨_,_,e_,_⟩:=h_; subst e_; rfl
theorem p_figures_of.eq (b n:Int) (h2 : 2 <= b) (h16:b <= 16) (h0 : 0 <= n) (hn:n.toNat < 2 ^ 4000):p_figures_of [.d (.int b),.d (.int n)] = VL.ret (.list ((dgs b n).map .int):PyData):=by
  refine mo_ext fun Q=>⟨?_,fun q_=>⟨b,n,rfl,⟨h2,h16,h0,hn⟩,q_⟩⟩
  rintro ⟨b',n',e_,_,q_⟩
  simp_arith only [fr_i,sdD_i,ptD_i,boxD_i,ptsQ_i,frs_i,exD_i,ints_i] at e_
  obtain ⟨rfl,rfl⟩:=e_
  exact q_
theorem sc_figures_of:FnScope ["base", "n", "figures", "figure"] ["base", "n"] (defScope (top 16)):=⟨rfl,rfl,rfl,by decide +kernel,rfl,by decide +kernel,by decide +kernel⟩
theorem d_figures_of (Fn:FnIn K mg "figures_of" (top 16) ["base", "n"]) (Z:Bz mg)    : Dfn P w K mg base rl "figures_of" ["base", "n"] 1 p_figures_of:=by
  have sc:=sc_figures_of
  refine Dfn.of Fn sc (p_figures_of.mono) (p_figures_of.len) (fun cdv A outer s H E hr=>(vs_cons (vs_set 2 sc.nd (v_lst pvs_nil))
      (vs_cons (vs_whileF [3] PassesOwn.never (vb_cmp op_gt vo_gt (nomark _) (vn 1) pv_int) (vs_cons (vs_asg (v_divmod Z.divmod_ (pvs_cons (vn 1) (pvs_cons (vn 0) pvs_nil))) (vg_tup (n:=2) rfl (vgs_cons (vg_name 1 sc.nd) (vgs_cons (vg_name 3 sc.nd) vgs_nil))))
      (vs_one (vs_app 2 (pvs_cons (vn 3) pvs_nil)))))
      (vs_one (vs_frz 2 (vs_ret (vn 2))))))) ?_
  rintro ws Q ⟨b,n,rfl,⟨h2,h16,h0,hn⟩,hQ⟩
  refine read_of ?_
  have sz:=PySem.sizeLine_eq
  simp_arith only [grd_t,len_ok]
  refine while_go (σ:=Int × List Int) (fun s=>[some (.d (.int b)),some (.d (.int s.1)),some (.ml (s.2.map .int)),none]) (fun s=>decide (0 < s.1)) (fun s=>(s.1 / b,s.2 ++ [s.1 % b])) (fun s=>s.1.toNat) (fun s=>0 <= s.1 /\ s.2 ++ dgs b s.1 = dgs b n) (n,[]) rfl ⟨h0,rfl⟩ ?_ ?_ ?_
  · intro s _
    simp_arith only [len_ok]
  · rintro ⟨m,f⟩ ⟨i0,e⟩ c
    have hm : 0 < m:=by simpa using c
    have e:f ++ dgs b m = dgs b n:=e
    have hl:f.length < sizeLine:=by
      have h1:=congrArg List.length e
      rw [List.length_append] at h1
      have h3:(dgs b n).length <= 4000:=len_dgs h2 h0 (by
        have e1:n < 2 ^ 4000:=by
          have:((n.toNat:Nat):Int) < ((2 ^ 4000:Nat):Int):=by exact_mod_cast hn
          rw [Int.toNat_of_nonneg h0] at this
          exact_mod_cast this
        exact Int.lt_of_lt_of_le e1 (two_pow_le h2 4000))
      omega
    have b1:b < 1073741824:=by omega
    have b0 : 0 < b:=by omega
    refine ⟨⟨Int.ediv_nonneg i0 (by omega),?_⟩,?_,_,by (simp_arith only [grd_t,len_ok]) <;> rfl,?_⟩
    · rw [<- e,dgs_pos h2 hm]; simp
    · have:=Int.ediv_lt_self_of_pos_of_ne_one hm (show b ≠ 1 by omega)
      have h9 : 0 <= m / b:=Int.ediv_nonneg i0 (by omega)
      show (m / b).toNat < m.toNat
      omega
    · simp_arith only [len_ok,List.map_append]
  · rintro ⟨m, f⟩ ⟨i0, e⟩ c
    have hm : m = 0 := by have : ¬ 0 < m := by simpa using c
                          omega
    subst hm
    rw [dgs_0,List.append_nil] at e
    have e:f = dgs b n:=e
    subst e
    simp_arith only [grd_t,len_ok]
    exact rt_end hQ
noncomputable def p_figures_in:List W -> (PyData -> Prop) -> Prop:=fun ws Q=>∃ (b n k:Int),ws = [.d (.int b),.d (.int n),.d (.int k)] /\ ((2 <= b) /\ (b <= 16) /\ (0 <= n) /\ (0 <= k) /\ (k <= 1000) /\ (n < b ^ k.toNat)) /\ Q (.list ((pad b n k.toNat).map .int))
theorem p_figures_in.mono:∀ ws (Q Q':PyData -> Prop),(∀ d,Q d -> Q' d) -> p_figures_in ws Q -> p_figures_in ws Q':=fun _ _ _ h_=>Exists.imp fun _=>Exists.imp fun _=>Exists.imp fun _=>And.imp_right (And.imp_right (h_ _))
theorem p_figures_in.len:∀ ws (Q:PyData -> Prop),p_figures_in ws Q -> ws.length = 3:=fun _ _ h_=>by obtain ⟨_,_,_,e_,_⟩:=h_; subst e_; rfl
theorem p_figures_in.eq (b n k:Int) (h2 : 2 <= b) (h16:b <= 16) (h0 : 0 <= n) (hk0 : 0 <= k) (hk:k <= 1000) (hn:n < b ^ k.toNat):p_figures_in [.d (.int b),.d (.int n),.d (.int k)] = VL.ret (.list ((pad b n k.toNat).map .int):PyData):=by
  refine mo_ext fun Q=>⟨?_,fun q_=>⟨b,n,k,rfl,⟨h2,h16,h0,hk0,hk,hn⟩,q_⟩⟩
  rintro ⟨b',n',k',e_,_,q_⟩
  simp_arith only [fr_i,sdD_i,ptD_i,boxD_i,ptsQ_i,frs_i,exD_i,ints_i] at e_
  obtain ⟨rfl,rfl,rfl⟩:=e_
  exact q_
theorem sc_figures_in:FnScope ["base", "n", "k", "figures"] ["base", "n", "k"] (defScope (top 17)):=⟨rfl,rfl,rfl,by decide +kernel,rfl,by decide +kernel,by decide +kernel⟩
theorem d_figures_in (Fn:FnIn K mg "figures_in" (top 17) ["base", "n", "k"]) (Z:Bz mg) (d_figures_of:∀ rl,Dfn P w K mg base rl "figures_of" ["base", "n"] 1 p_figures_of)   : Dfn P w K mg base rl "figures_in" ["base", "n", "k"] 2 p_figures_in:=by
  have sc:=sc_figures_in
  refine Dfn.of Fn sc (p_figures_in.mono) (p_figures_in.len) (fun cdv A outer s H E hr=>(vs_cons (vs_setZ 3 sc.nd (v_call (d_figures_of _) (hr.mono (by decide)) (pvs_cons (vn 0) (pvs_cons (vn 1) pvs_nil))))
      (vs_one (vs_ret (v_catD (vn 3) (v_repL (v_lst (pvs_cons pv_int pvs_nil)) (v_sub (vn 2) (v_len Z.len_ (pvs_cons (vn 3) pvs_nil))))))))) ?_
  rintro ws Q ⟨b,n,k,rfl,⟨h2,h16,h0,hk0,hk,hn⟩,hQ⟩
  refine read_of ?_
  have sz:=PySem.sizeLine_eq
  have l1:=len_dgs h2 h0 hn
  have hb:n.toNat < 2 ^ 4000:=pow_b16 h2 h16 h0 hk hn
  have e1:(k - ((dgs b n).length:Int)).toNat = k.toNat - (dgs b n).length:=by omega
  have e2:(List.replicate (k.toNat - (dgs b n).length) [PyData.int 0]).flatten = List.replicate (k.toNat - (dgs b n).length) (PyData.int 0):=by simp
  have g2:(dgs b n).length + (k.toNat - (dgs b n).length) <= sizeLine:=by omega
  simp_arith only [len_ok,p_figures_of.eq,List.length_map,e1,e2,List.length_replicate]
  refine grd_step (by omega) ?_
  have e3:(dgs b n).map PyData.int ++ List.replicate (k.toNat - (dgs b n).length) (PyData.int 0) = (pad b n k.toNat).map .int:=by unfold pad; rw [List.map_append,List.map_replicate]
  rw [e3]
  exact rt_endL hQ
noncomputable def szM (p:Int):Int:=if p = 2 then 5 else if p = 3 then 3 else if p = 5 then 2 else 1
theorem lk_sz {p:Int} (h:p = 2 \/ p = 3 \/ p = 5 \/ p = 7):List.lookup p [((2:Int),(5:Int)),(3,3),(5,2),(7,1)] = some (szM p):=by rcases h with rfl | rfl | rfl | rfl <;> rfl
theorem szM_in {p:Int} (h:p = 2 \/ p = 3 \/ p = 5 \/ p = 7) : 1 <= szM p /\ szM p <= 5:=by rcases h with rfl | rfl | rfl | rfl <;> decide
noncomputable def Pm (p m:Int):Prop:=(p = 2 \/ p = 3 \/ p = 5 \/ p = 7) /\ 1 <= m /\ m <= szM p
noncomputable def p__law_size:List W -> (PyData -> Prop) -> Prop:=fun ws Q=>ws = [.reel] /\ (True) /\ ∀ z:Int × Int,(Pm z.1 z.2) -> Q (.tuple [.int z.1,.int z.2])
theorem p__law_size.mono:∀ ws (Q Q':PyData -> Prop),(∀ d,Q d -> Q' d) -> p__law_size ws Q -> p__law_size ws Q':=fun _ _ _ h_=>And.imp_right (And.imp_right fun q_ o_ ho_=>h_ _ (q_ o_ ho_))
theorem p__law_size.len:∀ ws (Q:PyData -> Prop),p__law_size ws Q -> ws.length = 1:=fun _ _ h_=>by obtain ⟨e_,_⟩:=h_; subst e_; rfl
theorem p__law_size.eq   : p__law_size [.reel] = bnd (anyM fun z:Int × Int=>Pm z.1 z.2) fun z=>VL.ret (.tuple [.int z.1,.int z.2]:PyData):=by
  refine mo_ext fun Q=>⟨?_,fun q_=>⟨rfl,trivial,q_⟩⟩
  rintro ⟨e_,_,q_⟩
  simp_arith only [and_true] at e_
  
  exact q_
theorem sc__law_size:FnScope ["_law_tape_here", "_law_p"] ["_law_tape_here"] (defScope (top 31)):=⟨rfl,rfl,rfl,by decide +kernel,rfl,by decide +kernel,by decide +kernel⟩
theorem d__law_size (Fn:FnIn K mg "_law_size" (top 31) ["_law_tape_here"]) (Z:Bz mg) (d__law_pick:∀ al,DfnC P w K mg base al 1 "_law_pick" ["_law_tape_here", "_law_many"] 1 p__law_pick)   : DfnC P w K mg base al 2 "_law_size" ["_law_tape_here"] 2 p__law_size:=by
  have sc:=sc__law_size
  refine DfnC.of Fn sc (p__law_size.mono) (p__law_size.len) (fun cdv A outer s H E hr=>(cs_cons (cs_setZ 1 sc.nd (c_ix (cv fun _=>(v_lst (pvs_cons pv_int (pvs_cons pv_int (pvs_cons pv_int (pvs_cons pv_int (pvs_cons pv_int (pvs_cons pv_int (pvs_cons pv_int pvs_nil))))))))) (c_call (d__law_pick _) (hr.mono (by decide)) (cvs_cons (cv fun _=>(vn 0)) (cvs_cons (cv fun _=>pv_int) cvs_nil)))))
      (cs_one (cs_ret (c_tup (cvs_cons (cv fun _=>(vn 1)) (cvs_cons (c_add (cv fun _=>pv_int) (c_call (d__law_pick _) (hr.mono (by decide)) (cvs_cons (cv fun _=>(vn 0)) (cvs_cons (cv fun _=>(v_disp4 (hr.mono (Nat.zero_le _)) (by decide) (vn 1))) cvs_nil)))) cvs_nil))))))) (by decide) ?_
  rintro ws Q ⟨rfl,_,hQ⟩
  refine read_of ?_
  have sz:=PySem.sizeLine_eq
  simp_arith only [grd_t,len_ok,m_vRN,m_vRI,s_rput,s_bump,asR_r,s_forC,m_compC,rangeD_length,p__law_pick.eq,m_vDisp4]
  (with_reducible (first | refine any_step fun a ha=>?_ | refine sqb_any fun a ha=>?_))
  try simp_arith only [grd_t,len_ok,m_vRN,m_vRI,s_rput,s_bump,asR_r,s_forC,m_compC,rangeD_length,p__law_pick.eq,m_vDisp4]
  refine sqo (menuA_step (xs:=[2,2,2,3,3,5,7]) (enc:=PyData.int) (fun p=>p = 2 \/ p = 3 \/ p = 5 \/ p = 7) rfl ha.1 (by show a < 7; omega) (by intro z hz; simp at hz; omega) fun p hp=>?_)
  have e1:=lk_sz hp
  obtain ⟨s1,s5⟩:=szM_in hp
  have g1 : 0 < szM p:=by omega
  have g2:szM p < 2 ^ 60:=by omega
  simp_arith only [grd_t,len_ok,m_vRN,m_vRI,s_rput,s_bump,asR_r,s_forC,m_compC,rangeD_length,p__law_pick.eq,m_vDisp4,e1]
  (with_reducible (first | refine any_step fun m hm=>?_ | refine sqb_any fun m hm=>?_))
  exact rt_end (hQ (p,1 + m) ⟨hp,by show 1 <= 1 + m; omega,by show 1 + m <= szM p; omega⟩)
theorem seqD_lI (xs:List Int):seqD (lstI xs) = some (xs.map .int):=rfl
theorem oneT_tI (xs:List Int):oneT [.d (tupI xs)] = some (xs.map .int):=rfl
theorem asT_tI (xs:List Int):asT (.d (tupI xs)) = some (xs.map .int):=rfl
theorem revT_tI (xs:List Int):W.d (.tuple (xs.map PyData.int).reverse) = .d (tupI xs.reverse):=by rw [<- List.map_reverse]; rfl
theorem lstD_lI (xs:List Int):lstD (lstI xs) = some (xs.map .int):=rfl
noncomputable def p_product_sum:List W -> (PyData -> Prop) -> Prop:=fun ws Q=>∃ (p:Int) (xs ys:List Int),ws = [.d (.int p),.d (tupI xs),.d (lstI ys)] /\ ((2 <= p) /\ (Sm10 xs) /\ (Sm10 ys)) /\ Q (.int ((dot xs ys).fmod p))
theorem p_product_sum.mono:∀ ws (Q Q':PyData -> Prop),(∀ d,Q d -> Q' d) -> p_product_sum ws Q -> p_product_sum ws Q':=fun _ _ _ h_=>Exists.imp fun _=>Exists.imp fun _=>Exists.imp fun _=>And.imp_right (And.imp_right (h_ _))
theorem p_product_sum.len:∀ ws (Q:PyData -> Prop),p_product_sum ws Q -> ws.length = 3:=fun _ _ h_=>by obtain ⟨_,_,_,e_,_⟩:=h_; subst e_; rfl
theorem p_product_sum.eq (p:Int) (xs ys:List Int) (p2 : 2 <= p) (hx:Sm10 xs) (hy:Sm10 ys):p_product_sum [.d (.int p),.d (tupI xs),.d (lstI ys)] = VL.ret (.int ((dot xs ys).fmod p):PyData):=by
  refine mo_ext fun Q=>⟨?_,fun q_=>⟨p,xs,ys,rfl,⟨p2,hx,hy⟩,q_⟩⟩
  rintro ⟨p',xs',ys',e_,_,q_⟩
  simp_arith only [and_true] at e_
  obtain ⟨rfl,rfl,rfl⟩:=e_
  exact q_
theorem sc_product_sum:FnScope ["p", "one", "other"] ["p", "one", "other"] (defScope (top 20)):=⟨rfl,rfl,rfl,by decide +kernel,rfl,by decide +kernel,by decide +kernel⟩
theorem d_product_sum (Fn:FnIn K mg "product_sum" (top 20) ["p", "one", "other"]) (Z:Bz mg)    : Dfn P w K mg base rl "product_sum" ["p", "one", "other"] 1 p_product_sum:=by
  have sc:=sc_product_sum
  refine Dfn.of Fn sc (p_product_sum.mono) (p_product_sum.len) (fun cdv A outer s H E hr=>(vs_one (vs_ret (v_mod (v_sum Z.sum_ (pvs_cons (v_lcompR ["x", "y"] [none,none] rfl (vi_zipTL Z.zip_ (pvs_cons (vn 1) (pvs_cons (vn 2) pvs_nil))) (fun _=>(vg_tup (n:=2) rfl (vgs_cons (vg_name 0 (show List.Nodup (["x", "y"]:List Str) by decide +kernel)) (vgs_cons (vg_name 1 (show List.Nodup (["x", "y"]:List Str) by decide +kernel)) vgs_nil)))) (fun _=>vt_nil) (fun _=>(v_mul (vn 0) (vn 1)))) pvs_nil)) (vn 0))))) ?_
  rintro ws Q ⟨p,xs,ys,rfl,⟨p2,hx,hy⟩,hQ⟩
  refine read_of ?_
  have sz:=PySem.sizeLine_eq
  have p0:p ≠ 0:=by omega
  simp_arith only [grd_t,len_ok,seqD_tI,tupD_tI,seqD_lI,lstD_lI]
  refine opt_if (by exact ⟨rfl,rfl⟩) ?_
  rw [zip_ints]
  refine cmap_go (xs:=xs.zip ys) (enc:=fun z=>PyData.tuple [.int z.1,.int z.2]) (fun z=>.int (z.1 * z.2)) rfl ?_ (by rw [List.length_zip]; have:=hx.1; omega) ?_
  · rintro ⟨a,b⟩ mz
    have ha:=hx.2 a (List.of_mem_zip mz).1
    have cm:CMulB a b:=.lt (by omega)
    simp_arith only [grd_t,len_ok,itM]
  · rw [map_ints]
    simp_arith only [grd_t,len_ok,BSM]
    exact rt_end hQ
noncomputable def p_applied:List W -> (PyData -> Prop) -> Prop:=fun ws Q=>∃ (p:Int) (t:List (List Int)) (fs:List Int),ws = [.d (.int p),.d (tbD t),.d (lstI fs)] /\ ((2 <= p) /\ (Tb8 p t) /\ (Sm10 fs)) /\ Q (tupI (apT p t fs))
theorem p_applied.mono:∀ ws (Q Q':PyData -> Prop),(∀ d,Q d -> Q' d) -> p_applied ws Q -> p_applied ws Q':=fun _ _ _ h_=>Exists.imp fun _=>Exists.imp fun _=>Exists.imp fun _=>And.imp_right (And.imp_right (h_ _))
theorem p_applied.len:∀ ws (Q:PyData -> Prop),p_applied ws Q -> ws.length = 3:=fun _ _ h_=>by obtain ⟨_,_,_,e_,_⟩:=h_; subst e_; rfl
theorem p_applied.eq (p:Int) (t:List (List Int)) (fs:List Int) (p2 : 2 <= p) (ht:Tb8 p t) (hf:Sm10 fs):p_applied [.d (.int p),.d (tbD t),.d (lstI fs)] = VL.ret (tupI (apT p t fs):PyData):=by
  refine mo_ext fun Q=>⟨?_,fun q_=>⟨p,t,fs,rfl,⟨p2,ht,hf⟩,q_⟩⟩
  rintro ⟨p',t',fs',e_,_,q_⟩
  simp_arith only [tbD_i] at e_
  obtain ⟨rfl,rfl,rfl⟩:=e_
  exact q_
theorem sc_applied:FnScope ["p", "table", "figures"] ["p", "table", "figures"] (defScope (top 21)):=⟨rfl,rfl,rfl,by decide +kernel,rfl,by decide +kernel,by decide +kernel⟩
theorem d_applied (Fn:FnIn K mg "applied" (top 21) ["p", "table", "figures"]) (Z:Bz mg) (d_product_sum:∀ rl,Dfn P w K mg base rl "product_sum" ["p", "one", "other"] 1 p_product_sum)   : Dfn P w K mg base rl "applied" ["p", "table", "figures"] 2 p_applied:=by
  have sc:=sc_applied
  refine Dfn.of Fn sc (p_applied.mono) (p_applied.len) (fun cdv A outer s H E hr=>(vs_one (vs_ret (v_tuple Z.tuple_ (pvs_cons (v_lcompR ["row", "p", "figures"] [none,some 0,some 2] rfl (vi_tup (vn 1)) (fun _=>(vg_name 0 (show List.Nodup (["row", "p", "figures"]:List Str) by decide +kernel))) (fun _=>vt_nil) (fun _=>(v_call (d_product_sum _) (hr.mono (by decide)) (pvs_cons (vn 1) (pvs_cons (vn 0) (pvs_cons (vn 2) pvs_nil)))))) pvs_nil))))) ?_
  rintro ws Q ⟨p,t,fs,rfl,⟨p2,ht,hf⟩,hQ⟩
  refine read_of ?_
  have sz:=PySem.sizeLine_eq
  have t8:=ht.1
  simp_arith only [grd_t,len_ok,tupD_tb]
  refine cmap_go (xs:=t) (enc:=tupI) (fun row=>.int ((dot row fs).fmod p)) rfl ?_ (by omega) ?_
  · intro row mr
    have hr:=ht.2 row mr
    simp_arith only [grd_t,len_ok,itM,p_product_sum.eq]
  · rw [map_ints]
    simp_arith only [grd_t,len_ok,tup_of]
    exact rt_end hQ
noncomputable def p_number_of:List W -> (PyData -> Prop) -> Prop:=fun ws Q=>∃ (b:Int) (xs:List Int),ws = [.d (.int b),.d (tupI xs)] /\ ((0 <= b) /\ (b <= 16)) /\ Q (.int (nv b xs))
theorem p_number_of.mono:∀ ws (Q Q':PyData -> Prop),(∀ d,Q d -> Q' d) -> p_number_of ws Q -> p_number_of ws Q':=fun _ _ _ h_=>Exists.imp fun _=>Exists.imp fun _=>And.imp_right (And.imp_right (h_ _))
theorem p_number_of.len:∀ ws (Q:PyData -> Prop),p_number_of ws Q -> ws.length = 2:=fun _ _ h_=>by obtain ⟨_,_,e_,_⟩:=h_; subst e_; rfl
theorem p_number_of.eq (b:Int) (xs:List Int) (h0 : 0 <= b) (h16:b <= 16):p_number_of [.d (.int b),.d (tupI xs)] = VL.ret (.int (nv b xs):PyData):=by
  refine mo_ext fun Q=>⟨?_,fun q_=>⟨b,xs,rfl,⟨h0,h16⟩,q_⟩⟩
  rintro ⟨b',xs',e_,_,q_⟩
  simp_arith only [and_true] at e_
  obtain ⟨rfl,rfl⟩:=e_
  exact q_
theorem sc_number_of:FnScope ["base", "figures", "n", "figure"] ["base", "figures"] (defScope (top 18)):=⟨rfl,rfl,rfl,by decide +kernel,rfl,by decide +kernel,by decide +kernel⟩
theorem d_number_of (Fn:FnIn K mg "number_of" (top 18) ["base", "figures"]) (Z:Bz mg)    : Dfn P w K mg base rl "number_of" ["base", "figures"] 1 p_number_of:=by
  have sc:=sc_number_of
  refine Dfn.of Fn sc (p_number_of.mono) (p_number_of.len) (fun cdv A outer s H E hr=>(vs_cons (vs_setZ 2 sc.nd pv_int)
      (vs_cons (vs_forF [3] PassesOwn.never rfl (vi_reversedT Z.reversed_ (pvs_cons (vn 1) pvs_nil)) (vg_name 3 sc.nd) (vs_one (vs_setZ 2 sc.nd (v_add (v_mul (vn 2) (vn 0)) (vn 3)))))
      (vs_one (vs_ret (vn 2)))))) ?_
  rintro ws Q ⟨b,xs,rfl,⟨h0,h16⟩,hQ⟩
  refine read_of ?_
  have c:∀ i,CMulB i b:=fun i=>.rt (by omega)
  simp_arith only [grd_t,len_ok,m_iRvT,oneT_tI]
  refine fold_go (xs:=xs.reverse) (enc:=PyData.int) (fun t:Int=>[some (.d (.int b)),some (.d (tupI xs)),some (.d (.int t)),none]) (fun t a=>t * b + a) 0 (fun _=>True) rfl (by rw [List.map_reverse]) trivial ?_ ?_
  · intro x mx t _
    refine ⟨trivial,_,by (simp_arith only [grd_t,len_ok,c]) <;> rfl,?_⟩
    simp_arith only [len_ok]
  · have e:xs.reverse.foldl (fun t a=>t * b + a) 0 = nv b xs:=tv_rev b xs
    rw [e]
    simp_arith only [len_ok]
    exact rt_end hQ
noncomputable def p_table_number:List W -> (PyData -> Prop) -> Prop:=fun ws Q=>∃ (p:Int) (t:List (List Int)) (fs:List Int),ws = [.d (.int p),.d (tbD t),.d (lstI fs)] /\ ((2 <= p) /\ (p <= 7) /\ (Tb8 p t) /\ (Sm10 fs)) /\ Q (fr (qd (tv p (apT p t fs)) (p ^ t.length)))
theorem p_table_number.mono:∀ ws (Q Q':PyData -> Prop),(∀ d,Q d -> Q' d) -> p_table_number ws Q -> p_table_number ws Q':=fun _ _ _ h_=>Exists.imp fun _=>Exists.imp fun _=>Exists.imp fun _=>And.imp_right (And.imp_right (h_ _))
theorem p_table_number.len:∀ ws (Q:PyData -> Prop),p_table_number ws Q -> ws.length = 3:=fun _ _ h_=>by obtain ⟨_,_,_,e_,_⟩:=h_; subst e_; rfl
theorem p_table_number.eq (p:Int) (t:List (List Int)) (fs:List Int) (p2 : 2 <= p) (p7:p <= 7) (ht:Tb8 p t) (hf:Sm10 fs):p_table_number [.d (.int p),.d (tbD t),.d (lstI fs)] = VL.ret (fr (qd (tv p (apT p t fs)) (p ^ t.length)):PyData):=by
  refine mo_ext fun Q=>⟨?_,fun q_=>⟨p,t,fs,rfl,⟨p2,p7,ht,hf⟩,q_⟩⟩
  rintro ⟨p',t',fs',e_,_,q_⟩
  simp_arith only [tbD_i] at e_
  obtain ⟨rfl,rfl,rfl⟩:=e_
  exact q_
theorem sc_table_number:FnScope ["p", "table", "figures", "told"] ["p", "table", "figures"] (defScope (top 23)):=⟨rfl,rfl,rfl,by decide +kernel,rfl,by decide +kernel,by decide +kernel⟩
theorem d_table_number (Fn:FnIn K mg "table_number" (top 23) ["p", "table", "figures"]) (Z:Bz mg) (d_applied:∀ rl,Dfn P w K mg base rl "applied" ["p", "table", "figures"] 2 p_applied) (d_fraction:∀ rl,Dfn P w K mg base rl "fraction" ["top", "bottom"] 2 p_fraction) (d_number_of:∀ rl,Dfn P w K mg base rl "number_of" ["base", "figures"] 1 p_number_of) (d_power:∀ rl,Dfn P w K mg base rl "power" ["base", "exponent"] 1 p_power)   : Dfn P w K mg base rl "table_number" ["p", "table", "figures"] 3 p_table_number:=by
  have sc:=sc_table_number
  refine Dfn.of Fn sc (p_table_number.mono) (p_table_number.len) (fun cdv A outer s H E hr=>(vs_cons (vs_setZ 3 sc.nd (v_call (d_applied _) (hr.mono (by decide)) (pvs_cons (vn 0) (pvs_cons (vn 1) (pvs_cons (vn 2) pvs_nil)))))
      (vs_one (vs_ret (v_call (d_fraction _) (hr.mono (by decide)) (pvs_cons (v_call (d_number_of _) (hr.mono (by decide)) (pvs_cons (vn 0) (pvs_cons (v_revT (vn 3)) pvs_nil))) (pvs_cons (v_call (d_power _) (hr.mono (by decide)) (pvs_cons (vn 0) (pvs_cons (v_len Z.len_ (pvs_cons (vn 3) pvs_nil)) pvs_nil))) pvs_nil))))))) ?_
  rintro ws Q ⟨p,t,fs,rfl,⟨p2,p7,ht,hf⟩,hQ⟩
  refine read_of ?_
  have sz:=PySem.sizeLine_eq
  have t8:=ht.1
  have al:(apT p t fs).length = t.length:=by unfold apT; rw [List.length_map]
  have h00 : 0 <= p:=by omega
  have h16:p <= 16:=by omega
  have k0:(0:Int) <= (t.length:Int):=by omega
  have k4:((t.length:Nat):Int) <= 4000:=by omega
  have hp : 0 < p ^ t.length:=Int.pow_pos (by omega)
  have hz:(p ^ t.length).natAbs < 2 ^ 8000:=by
    have:=pow_b16z p2 h16 (k:=t.length) (by omega)
    exact this
  have en:nv p (apT p t fs).reverse = tv p (apT p t fs):=by rw [<- tv_rev,List.reverse_reverse]
  simp_arith only [grd_t,len_ok,p_applied.eq,p_fraction.eq,p_number_of.eq,p_power.eq,lenD_tI,al,en,Int.toNat_natCast,tupD_tI,asT_tI,revT_tI]
  exact rt_end hQ
theorem item_lI (xs:List Int) (i:Int):VL.itemAt (lstI xs) i = (atI xs i).map .int:=atI_map _ _ _
theorem cut_to {α:Type} (xs:List α) (f : α -> PyData) {k:Int} (h : 0 <= k):VL.cutD (xs.map f) none (some k) = (xs.take k.toNat).map f:=by
  unfold VL.cutD
  rw [HT.sIx_none,sIx_int h,List.drop_zero,List.length_map,Nat.sub_zero,<- List.map_take]
  congr 1
  by_cases z:k.toNat <= xs.length
  · rw [Nat.min_eq_left z]
  · rw [Nat.min_eq_right (by omega),List.take_of_length_le (by omega),List.take_of_length_le (by omega)]
theorem cut_from {α:Type} (xs:List α) (f : α -> PyData) {k:Int} (h : 0 <= k):VL.cutD (xs.map f) (some k) none = (xs.drop k.toNat).map f:=by
  unfold VL.cutD
  rw [HT.sIx_none,sIx_int h,List.length_map,<- List.map_drop,<- List.map_take]
  congr 1
  by_cases z:k.toNat <= xs.length
  · rw [Nat.min_eq_left z,List.take_of_length_le (by rw [List.length_drop]; omega)]
  · rw [Nat.min_eq_right (by omega),List.drop_of_length_le (by omega),List.drop_of_length_le (by omega)]; simp
noncomputable def tbsD (ts:List (List (List Int))):PyData:=.tuple (ts.map tbD)
noncomputable def IsTs (p:Int) (m:Nat) (ts:List (List (List Int))):Prop:=1 <= ts.length /\ ts.length <= 4 /\ ∀ t ∈ ts,IsTb p m m t
noncomputable def numT (p:Int) (t:List (List Int)) (fs:List Int):Rat:=qd (tv p (apT p t fs)) (p ^ t.length)
noncomputable def ptT (p:Int) (m:Nat) (ts:List (List (List Int))) (n:Int):List Rat:=ts.map fun t=>numT p t (pad p n m)
noncomputable def ptsT (p:Int) (m:Nat) (ts:List (List (List Int))):List (List Rat):=(List.range (p ^ m).toNat).map fun n=>ptT p m ts (n:Nat)
noncomputable def lowF (p:Int):Nat -> Int -> List Int
  | 0,_=>[]
  | m + 1,n=>n.fmod p :: lowF p m (n.fdiv p)
theorem low_pad {p:Int} (p2 : 2 <= p):∀ (m:Nat) (n:Int),0 <= n -> n < p ^ m -> lowF p m n = pad p n m
  | 0,n,h0,h1=>by
    have:n = 0:=by rw [Int.pow_zero] at h1; omega
    subst this
    simp [lowF,pad,dgs_0]
  | m + 1,n,h0,h1=>by
    have hd : 0 <= n / p:=Int.ediv_nonneg h0 (by omega)
    have hl:n / p < p ^ m:=Int.ediv_lt_of_lt_mul (by omega) (by rw [<- Int.pow_succ]; exact h1)
    have ih:=low_pad p2 m (n / p) hd hl
    rw [lowF,Int.fmod_eq_emod_of_nonneg _ (by omega),Int.fdiv_eq_ediv_of_nonneg _ (by omega),ih]
    by_cases z:n = 0
    · subst z
      simp [pad,dgs_0,List.replicate_succ]
    · unfold pad
      rw [dgs_pos (n:=n) p2 (by omega),List.length_cons,Nat.add_sub_add_right,List.cons_append]
theorem pm_le {p m:Int} (h:Pm p m):p ^ m.toNat <= 40 /\ 2 <= p /\ p <= 7 /\ 1 <= m /\ m <= 5:=by
  obtain ⟨hp,m1,ms⟩:=h
  rcases hp with rfl | rfl | rfl | rfl <;> simp [szM] at ms
  · obtain rfl | rfl | rfl | rfl | rfl:m = 1 \/ m = 2 \/ m = 3 \/ m = 4 \/ m = 5:=by omega
    all_goals decide
  · obtain rfl | rfl | rfl:m = 1 \/ m = 2 \/ m = 3:=by omega
    all_goals decide
  · obtain rfl | rfl:m = 1 \/ m = 2:=by omega
    all_goals decide
  · obtain rfl:m = 1:=by omega
    decide
theorem item_tbs (ts:List (List (List Int))) (i:Int):VL.itemAt (tbsD ts) i = (atI ts i).map tbD:=atI_map _ _ _
theorem tupD_tbs (ts:List (List (List Int))):tupD (tbsD ts) = some (ts.map tbD):=rfl
theorem tbsD_i {a b:List (List (List Int))}:tbsD a = tbsD b ↔ a = b:=by
  unfold tbsD; rw [PyData.tuple.injEq]; exact List.map_inj_right fun x y h=>tbD_i.mp h
theorem pad_sm {p:Int} {m:Nat} {n:Int} (p2 : 2 <= p) (p7:p <= 7) (m8:m <= 8) (h0 : 0 <= n) (h1:n < p ^ m):Sm10 (pad p n m) :=
  ⟨by rw [pad_len p2 h0 h1]; exact m8,fun x mx=>by have:=pad_fig (k:=m) (c:=n) p2 x mx; omega⟩
noncomputable def p_points_of_tables:List W -> (PyData -> Prop) -> Prop:=fun ws Q=>∃ (p:Int) (ts:List (List (List Int))),ws = [.d (.int p),.d (tbsD ts)] /\ ((∃ m:Int,Pm p m /\ IsTs p m.toNat ts /\ m.toNat = (ts.headD []).length)) /\ Q (ptsQ (ptsT p (ts.headD []).length ts))
theorem p_points_of_tables.mono:∀ ws (Q Q':PyData -> Prop),(∀ d,Q d -> Q' d) -> p_points_of_tables ws Q -> p_points_of_tables ws Q':=fun _ _ _ h_=>Exists.imp fun _=>Exists.imp fun _=>And.imp_right (And.imp_right (h_ _))
theorem p_points_of_tables.len:∀ ws (Q:PyData -> Prop),p_points_of_tables ws Q -> ws.length = 2:=fun _ _ h_=>by obtain ⟨_,_,e_,_⟩:=h_; subst e_; rfl
theorem p_points_of_tables.eq (p:Int) (ts:List (List (List Int))) (hm:∃ m:Int,Pm p m /\ IsTs p m.toNat ts /\ m.toNat = (ts.headD []).length):p_points_of_tables [.d (.int p),.d (tbsD ts)] = VL.ret (ptsQ (ptsT p (ts.headD []).length ts):PyData):=by
  refine mo_ext fun Q=>⟨?_,fun q_=>⟨p,ts,rfl,hm,q_⟩⟩
  rintro ⟨p',ts',e_,_,q_⟩
  simp_arith only [tbsD_i] at e_
  obtain ⟨rfl,rfl⟩:=e_
  exact q_
theorem sc_points_of_tables:FnScope ["p", "tables", "m", "points", "n", "figures"] ["p", "tables"] (defScope (top 24)):=⟨rfl,rfl,rfl,by decide +kernel,rfl,by decide +kernel,by decide +kernel⟩
theorem d_points_of_tables (Fn:FnIn K mg "points_of_tables" (top 24) ["p", "tables"]) (Z:Bz mg) (d_power:∀ rl,Dfn P w K mg base rl "power" ["base", "exponent"] 1 p_power) (d_figures_in:∀ rl,Dfn P w K mg base rl "figures_in" ["base", "n", "k"] 2 p_figures_in) (d_table_number:∀ rl,Dfn P w K mg base rl "table_number" ["p", "table", "figures"] 3 p_table_number)   : Dfn P w K mg base rl "points_of_tables" ["p", "tables"] 4 p_points_of_tables:=by
  have sc:=sc_points_of_tables
  refine Dfn.of Fn sc (p_points_of_tables.mono) (p_points_of_tables.len) (fun cdv A outer s H E hr=>(vs_cons (vs_setZ 2 sc.nd (v_len Z.len_ (pvs_cons (v_ix (vn 1) pv_int) pvs_nil)))
      (vs_cons (vs_set 3 sc.nd (v_lst pvs_nil))
      (vs_cons (vs_forF [4,5] PassesOwn.never rfl (vi_range1 Z.range_ (pvs_cons (v_call (d_power _) (hr.mono (by decide)) (pvs_cons (vn 0) (pvs_cons (vn 2) pvs_nil))) pvs_nil)) (vg_name 4 sc.nd) (vs_cons (vs_setZ 5 sc.nd (v_call (d_figures_in _) (hr.mono (by decide)) (pvs_cons (vn 0) (pvs_cons (vn 4) (pvs_cons (vn 2) pvs_nil)))))
      (vs_one (vs_app 3 (pvs_cons (v_tuple Z.tuple_ (pvs_cons (v_lcompR ["table", "p", "figures"] [none,some 0,some 5] rfl (vi_tup (vn 1)) (fun _=>(vg_name 0 (show List.Nodup (["table", "p", "figures"]:List Str) by decide +kernel))) (fun _=>vt_nil) (fun _=>(v_call (d_table_number _) (hr.mono (by decide)) (pvs_cons (vn 1) (pvs_cons (vn 0) (pvs_cons (vn 2) pvs_nil)))))) pvs_nil)) pvs_nil)))))
      (vs_one (vs_ret (v_tuple Z.tuple_ (pvs_cons (vn 3) pvs_nil)))))))) ?_
  rintro ws Q ⟨p,ts,rfl,hm,hQ⟩
  refine read_of ?_
  have sz:=PySem.sizeLine_eq
  obtain ⟨m,pm,ht,hh⟩:=hm
  obtain ⟨w40,p2,p7,m1,m5⟩:=pm_le pm
  obtain ⟨t1,t4,ht⟩:=ht
  rw [<- hh] at hQ
  have h16:p <= 16:=by omega
  have e0:atI ts 0 = some (ts.headD []):=by
    cases ts with
    | nil=>simp at t1
    | cons a l=>exact atI_nat (j:=0) rfl
  have hp : 0 < p ^ m.toNat:=Int.pow_pos (by omega)
  have m4:((m.toNat:Nat):Int) <= 4000:=by omega
  have mk:((m.toNat:Nat):Int) <= 1000:=by omega
  have g1 : -(2 ^ 62) <= p ^ m.toNat /\ p ^ m.toNat < 2 ^ 62:=by omega
  simp_arith only [grd_t,len_ok,item_tbs,e0,lenD_tb,p_power.eq,<- hh]
  refine foldR_go (fun i=>[some (.d (.int p)),some (.d (tbsD ts)),some (.d (.int (m.toNat:Nat))),some (.ml ((List.range i).map fun n=>ptD (ptT p m.toNat ts (n:Nat)))),none,none]) rfl ?_ ?_
  · intro i hi
    have h0 : 0 <= 0 + (i:Int):=by omega
    have hn : 0 + (i:Int) < p ^ m.toNat:=by omega
    have hn' : 0 + (i:Int) < p ^ ((m.toNat:Nat):Int).toNat:=by rw [Int.toNat_natCast]; exact hn
    have hf:Sm10 (pad p (0 + (i:Int)) m.toNat):=pad_sm p2 p7 (by omega) h0 hn
    have cm:∀ (b:PyData -> Mo (Option PyData)),(∀ t ∈ ts,b (tbD t) = VL.ret (some (fr (numT p t (pad p (0 + (i:Int)) m.toNat))))) -> compM b (ts.map tbD) [] = VL.ret ((ptT p m.toNat ts (0 + (i:Int))).map fr):=fun b hb=>by
      rw [comp_map (enc:=tbD) (fun t=>fr (numT p t (pad p (0 + (i:Int)) m.toNat))) hb (by omega)]
      unfold ptT
      rw [List.map_map]
      rfl
    refine ⟨[some (.d (.int p)),some (.d (tbsD ts)),some (.d (.int (m.toNat:Nat))),some (.ml ((List.range i).map (fun n=>ptD (ptT p m.toNat ts (n:Nat))) ++ [ptD (ptT p m.toNat ts (0 + (i:Int)))])),some (.d (.int (0 + (i:Int)))),some (.d (lstI (pad p (0 + (i:Int)) m.toNat)))],?_,?_⟩
    · simp_arith only [grd_t,len_ok,p_figures_in.eq,tupD_tbs,Int.toNat_natCast]
      rw [cm _ ?_]
      · have l4:(ptT p m.toNat ts (0 + (i:Int))).length <= sizeLine:=by unfold ptT; rw [List.length_map]; omega
        have l5:(List.range i).length < sizeLine:=by rw [List.length_range]; omega
        simp_arith only [grd_t,len_ok]
        rfl
      · intro t mt
        have tb:=ht t mt
        have t8:Tb8 p t:=tb.t8 p7 (by omega) (by omega)
        have et:p_table_number [W.d (.int p),W.d (tbD t),W.d (PyData.list ((pad p (0 + (i:Int)) m.toNat).map PyData.int))] = VL.ret (fr (numT p t (pad p (0 + (i:Int)) m.toNat))):=p_table_number.eq p t _ p2 p7 t8 hf
        simp_arith only [grd_t,len_ok,itM,et]
    · simp only [fo,List.range_succ,List.map_append,Int.zero_add]
      rfl
  · simp_arith only [len_ok]
    have e2:PyData.tuple ((List.range (p ^ m.toNat).toNat).map fun n=>ptD (ptT p m.toNat ts (n:Nat))) = ptsQ (ptsT p m.toNat ts):=by
      unfold ptsQ ptsT; rw [List.map_map]; rfl
    rw [e2]
    exact rt_end hQ
noncomputable def stF (p j:Int):Nat -> Nat -> Int
  | i,0=>if i = 0 then 1 else 0
  | i,k + 1=>((if 0 < i then stF p j (i - 1) k else 0) + j * stF p j i k).fmod p
theorem map_tbl {α:Type} (l:List α) (f : α -> List (List Int)):l.map (fun z=>tbD (f z)) = (l.map f).map tbD:=by rw [List.map_map]; rfl
noncomputable def stR (p j:Int) (n i:Nat):List Int:=(List.range n).map (stF p j i)
noncomputable def stT (p m j:Int):List (List Int):=(List.range m.toNat).map (stR p j m.toNat)
theorem stR_len (p j:Int) (n i:Nat):(stR p j n i).length = n:=by unfold stR; rw [List.length_map,List.length_range]
theorem stR_at {p j:Int} {n i k:Nat} (h:k < n):(stR p j n i)[k]? = some (stF p j i k):=by unfold stR; rw [List.getElem?_map,List.getElem?_range h]; rfl
theorem stR_succ (p j:Int) (n i:Nat):stR p j (n + 1) i = stR p j n i ++ [stF p j i n]:=by unfold stR; rw [List.range_succ,List.map_append]; rfl
noncomputable def p__law_sum_table:List W -> (PyData -> Prop) -> Prop:=fun ws Q=>∃ (p m j:Int),ws = [.d (.int p),.d (.int m),.d (.int j)] /\ ((2 <= p) /\ (p <= 7) /\ (1 <= m) /\ (m <= 5) /\ (0 <= j) /\ (j <= 7)) /\ Q (tbD (stT p m j))
theorem p__law_sum_table.mono:∀ ws (Q Q':PyData -> Prop),(∀ d,Q d -> Q' d) -> p__law_sum_table ws Q -> p__law_sum_table ws Q':=fun _ _ _ h_=>Exists.imp fun _=>Exists.imp fun _=>Exists.imp fun _=>And.imp_right (And.imp_right (h_ _))
theorem p__law_sum_table.len:∀ ws (Q:PyData -> Prop),p__law_sum_table ws Q -> ws.length = 3:=fun _ _ h_=>by obtain ⟨_,_,_,e_,_⟩:=h_; subst e_; rfl
theorem p__law_sum_table.eq (p m j:Int) (p2 : 2 <= p) (p7:p <= 7) (m1 : 1 <= m) (m5:m <= 5) (j0 : 0 <= j) (j7:j <= 7):p__law_sum_table [.d (.int p),.d (.int m),.d (.int j)] = VL.ret (tbD (stT p m j):PyData):=by
  refine mo_ext fun Q=>⟨?_,fun q_=>⟨p,m,j,rfl,⟨p2,p7,m1,m5,j0,j7⟩,q_⟩⟩
  rintro ⟨p',m',j',e_,_,q_⟩
  simp_arith only [tbD_i] at e_
  obtain ⟨rfl,rfl,rfl⟩:=e_
  exact q_
theorem sc__law_sum_table:FnScope ["_law_p", "_law_m", "_law_j", "_law_found", "_law_i", "_law_row", "_law_k", "_law_above"] ["_law_p", "_law_m", "_law_j"] (defScope (top 33)):=⟨rfl,rfl,rfl,by decide +kernel,rfl,by decide +kernel,by decide +kernel⟩
theorem d__law_sum_table (Fn:FnIn K mg "_law_sum_table" (top 33) ["_law_p", "_law_m", "_law_j"]) (Z:Bz mg)    : Dfn P w K mg base rl "_law_sum_table" ["_law_p", "_law_m", "_law_j"] 1 p__law_sum_table:=by
  have sc:=sc__law_sum_table
  refine Dfn.of Fn sc (p__law_sum_table.mono) (p__law_sum_table.len) (fun cdv A outer s H E hr=>(vs_cons (vs_set 3 sc.nd (v_lst pvs_nil))
      (vs_cons (vs_forF [4,5,6,7] PassesOwn.never rfl (vi_range1 Z.range_ (pvs_cons (vn 1) pvs_nil)) (vg_name 4 sc.nd) (vs_cons (vs_set 5 sc.nd (v_lst (pvs_cons (v_int1 Z.int_ (pvs_cons (v_cmp (op_eqD hr.units) vo_eqD (nomark _) (vn 4) pv_int) pvs_nil)) pvs_nil)))
      (vs_cons (vs_forF [6,7] PassesOwn.never rfl (vi_range2 Z.range_ (pvs_cons pv_int (pvs_cons (vn 1) pvs_nil))) (vg_name 6 sc.nd) (vs_cons (vs_setZ 7 sc.nd (v_ifExp (vb_cmp op_gt vo_gt (nomark _) (vn 4) pv_int) (v_ix (v_ix (vn 3) (v_sub (vn 4) pv_int)) (v_sub (vn 6) pv_int)) pv_int))
      (vs_one (vs_app 5 (pvs_cons (v_mod (v_add (vn 7) (v_mul (vn 2) (v_ix (vn 5) (v_sub (vn 6) pv_int)))) (vn 0)) pvs_nil)))))
      (vs_one (vs_frz 5 (vs_app 3 (pvs_cons (vn 5) pvs_nil)))))))
      (vs_one (vs_frz 3 (vs_ret (v_tuple Z.tuple_ (pvs_cons (v_lcompR ["_law_row"] [none] rfl (vi_list (vn 3)) (fun _=>(vg_name 0 (show List.Nodup (["_law_row"]:List Str) by decide +kernel))) (fun _=>vt_nil) (fun _=>(v_tuple Z.tuple_ (pvs_cons (vn 0) pvs_nil)))) pvs_nil)))))))) ?_
  rintro ws Q ⟨p,m,j,rfl,⟨p2,p7,m1,m5,j0,j7⟩,hQ⟩
  refine read_of ?_
  have sz:=PySem.sizeLine_eq
  have g1 : -(2 ^ 62) <= m /\ m < 2 ^ 62:=by omega
  simp_arith only [grd_t,len_ok]
  refine invR_go (fun i ρ=>ρ = [some (.d (.int p)),some (.d (.int m)),some (.d (.int j)),some (.ml (((List.range i).map (stR p j m.toNat)).map lstI)),none,none,none,none]) rfl ?_ ?_
  · rintro i hi ρ rfl K hK
    simp_arith only [grd_t,len_ok]
    have p0:p ≠ 0:=by omega
    have x0:(if (0 + (i:Int) == 0) = true then (1:Int) else 0) = stF p j i 0:=by
      rw [Int.zero_add]
      cases i with
      | zero=>simp [stF]
      | succ i=>rw [if_neg (by simp; omega)]; simp [stF]
    rw [x0]
    refine invR_go (fun n ρ=>ρ = [some (.d (.int p)),some (.d (.int m)),some (.d (.int j)),some (.ml (((List.range i).map (stR p j m.toNat)).map lstI)),some (.d (.int (0 + (i:Int)))),some (.ml ((stR p j (n + 1) i).map .int)),none,none]) rfl ?_ ?_
    · rintro n hn ρ rfl K2 hK2
      have cm:∀ x,CMulB j x:=fun x=>.lt (by omega)
      have hl:(stR p j (n + 1) i).length = n + 1:=stR_len ..
      have a2:atI ((stR p j (n + 1) i).map PyData.int) (1 + (n:Int) - 1) = some (.int (stF p j i n)):=by
        rw [show 1 + (n:Int) - 1 = (n:Int) by omega]; exact atI_nat (by rw [List.getElem?_map,stR_at (by omega)]; rfl)
      have rl:((stR p j (n + 1) i).map PyData.int).length < sizeLine:=by rw [List.length_map,hl]; omega
      have fin:∀ u z:Int,z = stF p j i (n + 1) -> K2 (Fl.nx [some (.d (.int p)),some (.d (.int m)),some (.d (.int j)),some (.ml (((List.range i).map (stR p j m.toNat)).map lstI)),some (.d (.int (0 + (i:Int)))),some (.ml ((stR p j (n + 1) i).map PyData.int ++ [PyData.int z])),some (.d (.int (1 + (n:Int)))),some (.d (.int u))]):=fun u z hz =>
        hK2 _ (lpS_nx (by rw [hz,stR_succ p j (n + 1) i]; simp [fo,List.map_append]))
      by_cases i0:i = 0
      · have d0:decide ((0:Int) < 0 + (i:Int)) = false:=by simp; omega
        simp_arith only [grd_t,len_ok,d0,a2]
        exact grd_step (cm _) (fin _ _ (by subst i0; simp [stF]))
      · have d0:decide ((0:Int) < 0 + (i:Int)) = true:=by simp; omega
        have a1:atI (((List.range i).map (stR p j m.toNat)).map lstI) (0 + (i:Int) - 1) = some (lstI (stR p j m.toNat (i - 1))):=by
          rw [show 0 + (i:Int) - 1 = ((i - 1:Nat):Int) by omega]; exact atI_nat (by rw [List.getElem?_map,List.getElem?_map,List.getElem?_range (by omega)]; rfl)
        have a3:VL.itemAt (lstI (stR p j m.toNat (i - 1))) (1 + (n:Int) - 1) = some (.int (stF p j (i - 1) n)):=by
          rw [item_lI,show 1 + (n:Int) - 1 = (n:Int) by omega,atI_nat (stR_at (by omega))]; rfl
        simp_arith only [grd_t,len_ok,d0,a1,a2,a3]
        exact grd_step (cm _) (fin _ _ (by simp [stF,Nat.pos_of_ne_zero i0]))
    · rintro ρ rfl
      have tz:(List.range i).length < sizeLine:=by rw [List.length_range]; omega
      have em:(m - 1).toNat + 1 = m.toNat:=by omega
      rw [em]
      simp_arith only [grd_t,len_ok]
      refine hK _ (lpS_nx ?_)
      rw [List.range_succ]
      simp [fo,List.map_append,lstI]
  · rintro ρ rfl
    simp_arith only [grd_t,len_ok]
    refine cmap_go (xs:=(List.range m.toNat).map (stR p j m.toNat)) (enc:=lstI) tupI rfl ?_ (by simp; omega) ?_
    · intro row mr
      have:row.length <= 5:=by
        obtain ⟨i,_,rfl⟩:=List.mem_map.mp mr
        rw [stR_len]; omega
      simp_arith only [grd_t,len_ok,itM,seqD_lI,tup_of]
    · try simp_arith only [grd_t,len_ok]
      exact rt_end hQ
noncomputable def Sz5 (t:List (List Int)):Prop:=t.length <= 5 /\ ∀ r ∈ t,r.length <= 5
noncomputable def upB (t:List (List Int)):Bool:=t.zipIdx.all fun z=>(z.1.take z.2).all (· == 0)
noncomputable def badT (ts:List (List (List Int))):Option (List (List Int) × Nat):=ts.zipIdx.find? fun z=>!upB z.1
noncomputable def begT (k:Nat) (ts:List (List (List Int))):List (List (List Int)):=ts.map fun t=>(t.take k).map fun r=>r.take k
noncomputable def tldD (k:Nat) (ts:List (List (List Int))):PyData:=match badT ts with | some z=>.int (z.2:Nat) | none=>tbsD (begT k ts)
theorem tldD_n {k:Nat} {ts:List (List (List Int))} (h:badT ts = none):tldD k ts = tbsD (begT k ts):=by unfold tldD; rw [h]
theorem tldD_s {k:Nat} {ts:List (List (List Int))} {z:List (List Int) × Nat} (h:badT ts = some z):tldD k ts = .int (z.2:Nat):=by unfold tldD; rw [h]
theorem len_flat {α β:Type} {n:Nat} {f : α -> List β}:∀ {l:List α},(∀ x ∈ l,(f x).length <= n) -> (l.flatMap f).length <= l.length * n
  | [],_=>by simp
  | x :: l,h=>by
    have h1:=h x List.mem_cons_self
    have h2:=len_flat (l:=l) fun y my=>h y (List.mem_cons_of_mem _ my)
    rw [List.flatMap_cons,List.length_append,List.length_cons,Nat.succ_mul]; omega
theorem opt_is {α β:Type} {o:Option α} {a : α} {k : α -> Mo β} {Q : β -> Prop} (e:o = some a) (h:k a Q):optM o k Q:=by rw [e,opt_some]; exact h
theorem eqv_i (i j:Int):PyData.eqv (.int i) (.int j) = (i == j):=by simp [PyData.eqv]
noncomputable def p_is_upper:List W -> (PyData -> Prop) -> Prop:=fun ws Q=>∃ (t:List (List Int)),ws = [.d (tbD t)] /\ ((Sz5 t)) /\ Q (.bool (upB t))
theorem p_is_upper.mono:∀ ws (Q Q':PyData -> Prop),(∀ d,Q d -> Q' d) -> p_is_upper ws Q -> p_is_upper ws Q':=fun _ _ _ h_=>Exists.imp fun _=>And.imp_right (And.imp_right (h_ _))
theorem p_is_upper.len:∀ ws (Q:PyData -> Prop),p_is_upper ws Q -> ws.length = 1:=fun _ _ h_=>by obtain ⟨_,e_,_⟩:=h_; subst e_; rfl
theorem p_is_upper.eq (t:List (List Int)) (hu:Sz5 t):p_is_upper [.d (tbD t)] = VL.ret (.bool (upB t):PyData):=by
  refine mo_ext fun Q=>⟨?_,fun q_=>⟨t,rfl,hu,q_⟩⟩
  rintro ⟨t',e_,_,q_⟩
  simp_arith only [tbD_i] at e_
  obtain rfl:=e_
  exact q_
theorem sc_is_upper:FnScope ["table"] ["table"] (defScope (top 26)):=⟨rfl,rfl,rfl,by decide +kernel,rfl,by decide +kernel,by decide +kernel⟩
theorem d_is_upper (Fn:FnIn K mg "is_upper" (top 26) ["table"]) (Z:Bz mg)    : Dfn P w K mg base rl "is_upper" ["table"] 1 p_is_upper:=by
  have sc:=sc_is_upper
  refine Dfn.of Fn sc (p_is_upper.mono) (p_is_upper.len) (fun cdv A outer s H E hr=>(vs_one (vs_ret (v_all Z.all_ (pvs_cons (v_lcomp2 ["number", "row", "figure"] [none,none,none] rfl (vi_enumerateT Z.enumerate_ (pvs_cons (vn 0) pvs_nil)) (fun _=>(vg_tup (n:=2) rfl (vgs_cons (vg_name 0 (show List.Nodup (["number", "row", "figure"]:List Str) by decide +kernel)) (vgs_cons (vg_name 1 (show List.Nodup (["number", "row", "figure"]:List Str) by decide +kernel)) vgs_nil)))) (fun _=>vt_nil) (fun _=>(vi_tup (v_slA (vn 1) vo_none (vo_some (vn 0))))) (fun _=>(vg_name 2 (show List.Nodup (["number", "row", "figure"]:List Str) by decide +kernel))) (fun _=>vt_nil) (fun _=>(v_cmp (op_eqD hr.units) vo_eqD (nomark _) (vn 2) pv_int))) pvs_nil))))) ?_
  rintro ws Q ⟨t,rfl,hu,hQ⟩
  refine read_of ?_
  have sz:=PySem.sizeLine_eq
  obtain ⟨u1,u2⟩:=hu
  have ee:enuT [.d (tbD t)] = some (t.zipIdx.map fun z=>PyData.tuple [.int (z.2:Nat),tupI z.1]):=(enuT_t _).trans (congrArg some (enumD_map t tupI))
  simp_arith only [grd_t,len_ok,m_iEnT,m_comp2,ee]
  refine c2_go (xs:=t.zipIdx) (enc:=fun z=>PyData.tuple [.int (z.2:Nat),tupI z.1]) (fun z=>(z.1.take z.2).map fun x=>PyData.bool (x == 0)) rfl ?_ ?_ ?_
  · rintro ⟨r,i⟩ mz acc hl
    simp_arith only [grd_t,len_ok,itM2,tupD_tI]
    rw [cut_to r PyData.int (k:=(i:Int)) (by omega),Int.toNat_natCast]
    rw [List.length_map] at hl
    have hc:=compM_acc (b:=itM [some (W.d (PyData.int (i:Nat))),some (W.d (tupI r)),none] (hName 2) (fun x Q=>Q true) (vOp (fun {wx wy}=>optM wx.dat fun dx=>optM wy.dat fun dy=>grd (SeqAt.shaped dx = true) (grd (SeqAt.shaped dy = true) (VL.ret (W.d (PyData.bool (dx.eqv dy)))))) (vVar 2) (vC (PyData.int 0)))) (enc:=PyData.int) (fun x=>some (PyData.bool (x == 0))) (r.take i) acc ?_ hl
    · rw [hc,List.filterMap_eq_map']
    · intro x mx
      simp_arith only [grd_t,len_ok,itM,eqv_i]
  · refine Nat.le_trans (len_flat (n:=5) (fun z mz=>?_)) (by rw [List.length_zipIdx]; omega)
    obtain ⟨hi,er⟩:=List.getElem?_eq_some_iff.mp (List.mem_zipIdx_iff_getElem?.mp mz)
    have:=u2 z.1 (er ▸ List.getElem_mem hi)
    simp; omega
  · have e:t.zipIdx.flatMap (fun z=>(z.1.take z.2).map fun x=>PyData.bool (x == 0)) = ((t.zipIdx.flatMap fun z=>z.1.take z.2).map fun x=>x == 0).map .bool:=by rw [List.map_map,List.map_flatMap]; rfl
    have ea:((t.zipIdx.flatMap fun z=>z.1.take z.2).map fun x=>x == 0).all id = upB t:=by unfold upB; rw [List.all_map,List.all_flatMap]; rfl
    rw [e]
    simp_arith only [grd_t,len_ok,ea]
    exact rt_end hQ
noncomputable def pE_beginning:List W -> (PyData -> Prop) -> XQ -> Prop:=fun ws Q R=>∃ (ts:List (List (List Int))) (k:Int),ws = [.d (tbsD ts),.d (.int k)] /\ (ts.length <= 4 /\ (∀ t ∈ ts,Sz5 t) /\ 0 <= k /\ k <= 5) /\ (∀ z,badT ts = some z -> R "NoUpper" [("number", .int (z.2:Nat))]) /\ (badT ts = none -> Q (tbsD (begT k.toNat ts)))
theorem pE_beginning.mono:∀ ws (Q Q':PyData -> Prop) (R R':XQ),(∀ d,Q d -> Q' d) -> (∀ c fs,R c fs -> R' c fs) -> pE_beginning ws Q R -> pE_beginning ws Q' R':=fun _ _ _ _ _ h1 h2=>Exists.imp fun _=>Exists.imp fun _=>And.imp_right (And.imp_right fun h=>⟨fun z e=>h2 _ _ (h.1 z e),fun e=>h1 _ (h.2 e)⟩)
theorem pE_beginning.len:∀ ws (Q:PyData -> Prop) (R:XQ),pE_beginning ws Q R -> ws.length = 2:=fun _ _ _ h=>by obtain ⟨_,_,e_,_⟩:=h; subst e_; rfl
theorem scE_beginning:FnScope ["tables", "k", "number", "table"] ["tables", "k"] (defScope (top 27)):=⟨rfl,rfl,rfl,by decide +kernel,rfl,by decide +kernel,by decide +kernel⟩
theorem dE_beginning (Fn:FnIn K mg "beginning" (top 27) ["tables", "k"]) (Z:Bz mg) (d_is_upper:∀ rl,Dfn P w K mg base rl "is_upper" ["table"] 1 p_is_upper)   (xo_:∃ C,XOne P w K mg base "NoUpper" "number" C):DfnE P w K mg base rl "beginning" ["tables", "k"] 3 pE_beginning:=by
  have sc:=scE_beginning
  obtain ⟨C_,xo⟩:=xo_
  refine DfnE.of Fn sc pE_beginning.mono pE_beginning.len (fun cdv A outer s H E hr hxe=>e_forF [2,3] PassesOwn.leaving rfl (vi_enumerateT Z.enumerate_ (pvs_cons (vn 0) pvs_nil)) (vg_tup (n:=2) rfl (vgs_cons (vg_name 2 sc.nd) (vgs_cons (vg_name 3 sc.nd) vgs_nil))) (e_if hxe (hr.mono (by decide)) xo (vb_not (vb_val (v_call (d_is_upper _) (hr.mono (by decide)) (pvs_cons (vn 3) pvs_nil)))) (pvs_cons (vn 2) pvs_nil) (e_of vs_nil)) (e_of (vs_one (vs_ret (v_tuple Z.tuple_ (pvs_cons (v_lcompR ["table", "k"] [none,some 1] rfl (vi_tup (vn 0)) (fun _=>(vg_name 0 (show List.Nodup (["table", "k"]:List Str) by decide +kernel))) (fun _=>vt_nil) (fun _=>(v_tuple Z.tuple_ (pvs_cons (v_lcompR ["row", "k"] [none,some 1] rfl (vi_tup (v_slA (vn 0) vo_none (vo_some (vn 1)))) (fun _=>(vg_name 0 (show List.Nodup (["row", "k"]:List Str) by decide +kernel))) (fun _=>vt_nil) (fun _=>(v_slA (vn 0) vo_none (vo_some (vn 1))))) pvs_nil)))) pvs_nil)))))) ?_
  rintro ws Q R ⟨ts,k,rfl,⟨hl,hs,k0,k5⟩,hR,hQ⟩
  have sz:=PySem.sizeLine_eq
  have ee:enuT [.d (tbsD ts)] = some (ts.zipIdx.map fun z=>PyData.tuple [.int (z.2:Nat),tbD z.1]):=(enuT_t _).trans (congrArg some (enumD_map ts tbD))
  unfold xForF
  refine (show _ from ?_)
  have e0:iEn true (vCons (vVar 0) vNil) (startV ["tables", "k", "number", "table"] [.d (tbsD ts),.d (.int k)]) = VL.ret (ts.zipIdx.map fun z=>PyData.tuple [.int (z.2:Nat),tbD z.1]):=by
    simp_arith only [grd_t,len_ok,m_iEnT,ee]
  have eg:∀ (t:List (List Int)) (i:Nat),hTup 2 (hCons (hName 2) (hCons (hName 3) hNil)) (PyData.tuple [PyData.int (i:Nat),tbD t]) (fo [2,3] (startV ["tables", "k", "number", "table"] [W.d (tbsD ts),W.d (PyData.int k)])) = VL.ret [some (W.d (tbsD ts)),some (W.d (PyData.int k)),some (W.d (.int (i:Nat))),some (W.d (tbD t))]:=fun t i=>by
    simp_arith only [grd_t,len_ok,fo_cons,fo_nil]
  rw [e0]
  refine xloop_find (p:=fun z=>!upB z.1) ts.zipIdx ?_ ?_ ?_
  · rintro ⟨t,i⟩ mz hp K hK
    have hu:=hs t (by obtain ⟨hi,er⟩:=List.getElem?_eq_some_iff.mp (List.mem_zipIdx_iff_getElem?.mp mz); dsimp only at er hi; exact er ▸ List.getElem_mem hi)
    have eg:=eg t i
    rw [eg]
    have hpp:upB t = true:=by simpa using hp
    refine xif_f ?_ ?_
    · simp_arith only [grd_t,len_ok,p_is_upper.eq,hpp]
    · exact hK _ rfl
  · rintro ⟨t,i⟩ mz hp hf K
    have hu:=hs t (by obtain ⟨hi,er⟩:=List.getElem?_eq_some_iff.mp (List.mem_zipIdx_iff_getElem?.mp mz); dsimp only at er hi; exact er ▸ List.getElem_mem hi)
    have eg:=eg t i
    rw [eg]
    have hpp:upB t = false:=by simpa using hp
    refine xif_t (.int (i:Nat)) ?_ ?_ (hR (t,i) hf)
    · simp_arith only [grd_t,len_ok,p_is_upper.eq,hpp]
    · simp_arith only [len_ok]
  · intro hn
    have hQ:=hQ hn
    refine xof_of (read_of ?_)
    simp_arith only [grd_t,len_ok]
    refine opt_is (tupD_tbs ts) (cmap_go (xs:=ts) (enc:=tbD) (fun t=>tbD ((t.take k.toNat).map fun r=>r.take k.toNat)) rfl ?_ (by omega) ?_)
    · intro t mt
      obtain ⟨u1,u2⟩:=hs t mt
      simp_arith only [grd_t,len_ok,itM,tupD_tb]
      rw [cut_to t tupI k0,comp_map (xs:=t.take k.toNat) (enc:=tupI) (fun r=>tupI (r.take k.toNat)) ?_ (by rw [List.length_take]; omega),bnd_ret,map_tups]
      · try simp_arith only [grd_t,len_ok,tup_of]
        rfl
      · intro r mr
        simp_arith only [grd_t,len_ok,itM,tupD_tI]
        rw [cut_to r PyData.int k0]
        rfl
    · rw [map_tbl]
      try simp_arith only [grd_t,len_ok]
      exact rt_end hQ
noncomputable def p__law_told:List W -> (PyData -> Prop) -> Prop:=fun ws Q=>∃ (ts:List (List (List Int))) (k:Int),ws = [.d (tbsD ts),.d (.int k)] /\ (ts.length <= 4 /\ (∀ t ∈ ts,Sz5 t) /\ 0 <= k /\ k <= 5) /\ Q (tldD k.toNat ts)
theorem p__law_told.mono:∀ ws (Q Q':PyData -> Prop),(∀ d,Q d -> Q' d) -> p__law_told ws Q -> p__law_told ws Q':=fun _ _ _ h_=>Exists.imp fun _=>Exists.imp fun _=>And.imp_right (And.imp_right (h_ _))
theorem p__law_told.len:∀ ws (Q:PyData -> Prop),p__law_told ws Q -> ws.length = 2:=fun _ _ h_=>by obtain ⟨_,_,e_,_⟩:=h_; subst e_; rfl
theorem p__law_told.eq (ts:List (List (List Int))) (k:Int) (h1:ts.length <= 4) (h2:∀ t ∈ ts,Sz5 t) (h3 : 0 <= k) (h4:k <= 5):p__law_told [.d (tbsD ts),.d (.int k)] = VL.ret (tldD k.toNat ts):=by
  refine mo_ext fun Q=>⟨?_,fun q_=>⟨ts,k,rfl,⟨h1,h2,h3,h4⟩,q_⟩⟩
  rintro ⟨ts',k',e_,_,q_⟩
  simp only [List.cons.injEq,W.d.injEq,PyData.int.injEq,and_true,tbsD_i] at e_
  obtain ⟨rfl,rfl⟩:=e_
  exact q_
theorem sc__law_told:FnScope ["_law_tables", "_law_k", "_law_error", "_law_found", "e", "_law_kinds"] ["_law_tables", "_law_k"] (defScope (top 36)):=⟨rfl,rfl,rfl,by decide +kernel,rfl,by decide +kernel,by decide +kernel⟩
theorem d__law_told (Fn:FnIn K mg "_law_told" (top 36) ["_law_tables", "_law_k"]) (Z:Bz mg) (dE_beginning:∀ rl,DfnE P w K mg base rl "beginning" ["tables", "k"] 3 pE_beginning) (xc_:XCl K mg "NoUpper" "number" "NoUpper" "NoUpper.__init__" (inClass (top 8) 0) ["self", "number"] ["NoDeed", "NoNet", "NoPaper", "NoRoom", "NoRow", "NoText", "Nought", "TooMany"]):Dfn P w K mg base rl "_law_told" ["_law_tables", "_law_k"] 4 p__law_told:=by
  have sc:=sc__law_told
  obtain ⟨C,B,f,fd,Cs,ns,mC,mB,M,na,ov,_,_,pr,k0,k1,k2,zV⟩:=xc_.ex
  have un:∀ C',PySem.W.nsIn K mainGlobals "NoUpper" = some (some (.ref C')) -> C' = C:=fun C' e=>by rw [ns] at e; cases e; rfl
  have x2:∀ C',PySem.W.nsIn K mainGlobals "NoUpper" = some (some (.ref C')) -> XCls K C' /\ PySem.W.kitOne K (.ref C') (.type "ValueError") = some true:=fun C' e=>by cases un C' e; exact ⟨M.cl,k2⟩
  have x3:∀ C',PySem.W.nsIn K mainGlobals "NoUpper" = some (some (.ref C')) -> XCls K C' /\ NoAttr K C' "number" := fun C' e=>by cases un C' e; exact ⟨M.cl,na⟩
  have x4:∀ c' ∈ (["NoUpper"]:List Str),∀ C',PySem.W.nsIn K mainGlobals c' = some (some (.ref C')) -> XOver K C' B:=fun c' hc C' e=>by
    cases List.mem_singleton.mp hc
    cases un C' e
    exact ov
  obtain ⟨c1,c2,c3,c4,c5,c6,c7,c8,rfl,m1,m2,m3,m4,m5,m6,m7,m8⟩:∃ c1 c2 c3 c4 c5 c6 c7 c8,Cs = [c1,c2,c3,c4,c5,c6,c7,c8] /\ mg "NoDeed" = some (.ref c1) /\ mg "NoNet" = some (.ref c2) /\ mg "NoPaper" = some (.ref c3) /\ mg "NoRoom" = some (.ref c4) /\ mg "NoRow" = some (.ref c5) /\ mg "NoText" = some (.ref c6) /\ mg "Nought" = some (.ref c7) /\ mg "TooMany" = some (.ref c8):=by
    cases pr with | cons m1 pr=>cases pr with | cons m2 pr=>cases pr with | cons m3 pr=>cases pr with | cons m4 pr=>cases pr with | cons m5 pr=>cases pr with | cons m6 pr=>cases pr with | cons m7 pr=>cases pr with | cons m8 pr=>cases pr; exact ⟨_,_,_,_,_,_,_,_,rfl,m1,m2,m3,m4,m5,m6,m7,m8⟩
  have kk:=kit_app (l1:=[c1,c2,c3,c4,c5].map Value.ref) (l2:=[c6,c7,c8].map Value.ref) k0
  have y1:∀ C',PySem.W.nsIn K mainGlobals "NoUpper" = some (some (.ref C')) -> XCls K C' /\ PySem.W.kitAny K (.ref C') ([c1,c2,c3,c4,c5].map Value.ref) = some false:=fun C' e=>by cases un C' e; exact ⟨M.cl,kk.1⟩
  have y2:∀ C',PySem.W.nsIn K mainGlobals "NoUpper" = some (some (.ref C')) -> XCls K C' /\ PySem.W.kitAny K (.ref C') ([c6,c7,c8].map Value.ref) = some false:=fun C' e=>by cases un C' e; exact ⟨M.cl,kk.2⟩
  refine Dfn.of Fn sc p__law_told.mono p__law_told.len (fun cdv A outer s H E hr=>vs_cons (vs_set 2 sc.nd pv_non) (vs_cons (vs_set 3 sc.nd pv_non) (vs_cons (vs_try (B:=B) 4 rfl rfl sc.nd rfl rfl mB x4
    (fun pn XE E' hx=>e_set 3 hx sc.nd (dE_beginning rl) hr (pvs_cons (vn 0) (pvs_cons (vn 1) pvs_nil)))
    (fun a=>vs_one (vs_set 2 sc.nd (vn 4))))
    (vs_cons (vs_if (vb_cmp op_isN vo_isX (nomark _) (vn 2) pv_non) (vs_one (vs_ret (vn 3))) vs_nil)
    (vs_cons (vs_set 5 sc.nd (v_lst (pvs_cons (v_isxT 2 (Cs:=[c1,c2,c3,c4,c5]) Z.isinstance_ y1 (pcs_cons m1 (pcs_cons m2 (pcs_cons m3 (pcs_cons m4 (pcs_cons m5 pcs_nil))))) (by rw [sizeLine_eq]; exact (by decide : 5 <= 16777216))) pvs_nil)))
    (vs_cons (vs_app 5 (pvs_cons (v_isxT 2 (Cs:=[c6,c7,c8]) Z.isinstance_ y2 (pcs_cons m6 (pcs_cons m7 (pcs_cons m8 pcs_nil))) (by rw [sizeLine_eq]; exact (by decide : 3 <= 16777216))) pvs_nil))
    (vs_one (vs_frz 5 (vs_ret (v_ifExp (PBW.pb (vb_and (vb_cmp (op_eqD hr.units) vo_eqD (nomark _) (vn 5) (v_lst (pvs_cons pv_bl (pvs_cons pv_bl pvs_nil)))) (vb_and1 (vb_val (v_isx1 2 (v:=.ty "ValueError") Z.isinstance_ x2 (pe_bltn rfl zV rfl rfl) (fun u e=>e)))))) (v_xfld 2 x3) pv_str)))))))))) ?_
  rintro ws Q ⟨ts,k,rfl,hp,hQ⟩
  refine ⟨rfl,rfl,.d (tbsD ts),rfl,.d (.int k),rfl,rfl,ts,k,rfl,hp,fun z hz=>?_,fun hn=>?_⟩
  · rw [tldD_s hz] at hQ
    have l1:([PyData.bool false]:List PyData).length < sizeLine:=by rw [sizeLine_eq]; exact (by decide : 1 < 16777216)
    have l2:([PyData.bool false,.bool false]:List PyData).length <= sizeLine:=by rw [sizeLine_eq]; exact (by decide : 2 <= 16777216)
    refine ⟨List.mem_singleton.mpr rfl,⟨_,rfl,rfl,⟨_,rfl,rfl,.inr ⟨_,_,rfl,false,rfl,?_⟩⟩⟩⟩
    refine ⟨_,rfl,[.bool false],rfl,Nat.le_of_lt l1,rfl,?_⟩
    refine ⟨[.bool false],rfl,_,rfl,.bool false,rfl,l1,?_⟩
    refine ⟨[.bool false,.bool false],rfl,?_⟩
    refine ⟨_,rfl,[.bool false,.bool false],rfl,l2,?_⟩
    refine ⟨_,_,rfl,rfl,rfl,rfl,true,rfl,?_⟩
    refine ⟨_,rfl,true,rfl,?_⟩
    refine ⟨_,.int (z.2:Nat),rfl,by simp [List.lookup],?_⟩
    exact ⟨_,rfl,hQ⟩
  · rw [tldD_n hn] at hQ
    exact ⟨_,rfl,rfl,.inl ⟨_,rfl,true,rfl,⟨_,rfl,_,rfl,hQ⟩⟩⟩
noncomputable def Up (t:List (List Int)):Prop:=∀ i (h:i < t.length),∀ x ∈ t[i].take i,x = 0
theorem up_iff {t:List (List Int)}:upB t = true ↔ Up t:=by
  unfold upB Up
  rw [List.all_eq_true]
  constructor
  · intro h i hi x mx
    have:=h (t[i],i) (List.mem_zipIdx_iff_getElem?.mpr (List.getElem?_eq_getElem hi))
    have:=List.all_eq_true.mp this x mx
    simpa using this
  · rintro h ⟨r,i⟩ mz
    obtain ⟨hi,er⟩:=List.getElem?_eq_some_iff.mp (List.mem_zipIdx_iff_getElem?.mp mz)
    dsimp only at er hi
    subst er
    refine List.all_eq_true.mpr fun x mx=>?_
    have:=h i hi x mx
    simpa using this
theorem bad_some {ts:List (List (List Int))} {j:Nat} (hj:j < ts.length) (h:∀ i (hi:i < ts.length),i < j -> upB ts[i] = true) (hb:upB ts[j] = false):badT ts = some (ts[j],j):=by
  unfold badT
  refine List.find?_eq_some_iff_getElem.mpr ⟨by simp [hb],j,by rw [List.length_zipIdx]; exact hj,by simp,fun i hi=>?_⟩
  have:=h i (by omega) hi
  simp [this]
theorem bad_none {ts:List (List (List Int))} (h:∀ t ∈ ts,upB t = true):badT ts = none:=by
  unfold badT
  refine List.find?_eq_none.mpr fun z mz=>?_
  obtain ⟨hi,er⟩:=List.getElem?_eq_some_iff.mp (List.mem_zipIdx_iff_getElem?.mp mz)
  have:=h z.1 (er ▸ List.getElem_mem hi)
  simp [this]
theorem paired_row {S:Nat -> Int -> Prop}:∀ {xs:List Nat} {ds:List PyData},Paired (fun k d=>∃ x,S k x /\ d = PyData.int x) xs ds -> ∃ row:List Int,ds = row.map .int /\ row.length = xs.length /\ ∀ (k:Nat) (h:k < row.length) (h':k < xs.length),S xs[k] row[k]
  | _,_,.nil=>⟨[],rfl,rfl,fun k h=>absurd h (by simp)⟩
  | x :: xs,_,.cons r rs=>by
    obtain ⟨y,hy,rfl⟩:=r
    obtain ⟨row,rfl,hl,hs⟩:=paired_row rs
    refine ⟨y :: row,rfl,by simp [hl],fun k h h'=>?_⟩
    cases k with
    | zero=>exact hy
    | succ k=>exact hs k (by simpa using h) (by simpa using h')
theorem tbm_i {a b:List (List (List Int))}:a.map tbD = b.map tbD ↔ a = b:=List.map_inj_right fun x y h=>tbD_i.mp h
theorem rangeD_map (n:Nat):rangeD 0 n = (List.range n).map fun j:Nat=>PyData.int (0 + (j:Int)):=rfl
noncomputable def p__law_upper:List W -> (PyData -> Prop) -> Prop:=fun ws Q=>∃ (p m:Int),ws = [.reel,.d (.int p),.d (.int m)] /\ ((2 <= p) /\ (p <= 7) /\ (1 <= m) /\ (m <= 5)) /\ ∀ t:List (List Int),(IsTb p m.toNat m.toNat t /\ Up t) -> Q (tbD t)
theorem p__law_upper.mono:∀ ws (Q Q':PyData -> Prop),(∀ d,Q d -> Q' d) -> p__law_upper ws Q -> p__law_upper ws Q':=fun _ _ _ h_=>Exists.imp fun _=>Exists.imp fun _=>And.imp_right (And.imp_right fun q_ o_ ho_=>h_ _ (q_ o_ ho_))
theorem p__law_upper.len:∀ ws (Q:PyData -> Prop),p__law_upper ws Q -> ws.length = 3:=fun _ _ h_=>by obtain ⟨_,_,e_,_⟩:=h_; subst e_; rfl
theorem p__law_upper.eq (p m:Int) (p2 : 2 <= p) (p7:p <= 7) (m1 : 1 <= m) (m5:m <= 5):p__law_upper [.reel,.d (.int p),.d (.int m)] = bnd (anyM fun t:List (List Int)=>IsTb p m.toNat m.toNat t /\ Up t) fun t=>VL.ret (tbD t:PyData):=by
  refine mo_ext fun Q=>⟨?_,fun q_=>⟨p,m,rfl,⟨p2,p7,m1,m5⟩,q_⟩⟩
  rintro ⟨p',m',e_,_,q_⟩
  simp_arith only [and_true] at e_
  obtain ⟨rfl,rfl⟩:=e_
  exact q_
theorem sc__law_upper:FnScope ["_law_tape_here", "_law_p", "_law_m", "_law_found", "_law_i"] ["_law_tape_here", "_law_p", "_law_m"] (defScope (top 34)):=⟨rfl,rfl,rfl,by decide +kernel,rfl,by decide +kernel,by decide +kernel⟩
theorem d__law_upper (Fn:FnIn K mg "_law_upper" (top 34) ["_law_tape_here", "_law_p", "_law_m"]) (Z:Bz mg) (d__law_pick:∀ al,DfnC P w K mg base al 1 "_law_pick" ["_law_tape_here", "_law_many"] 1 p__law_pick)   : DfnC P w K mg base al 4096 "_law_upper" ["_law_tape_here", "_law_p", "_law_m"] 2 p__law_upper:=by
  have sc:=sc__law_upper
  refine DfnC.of Fn sc (p__law_upper.mono) (p__law_upper.len) (fun cdv A outer s H E hr=>(cs_cons (cs fun _=>(vs_set 3 sc.nd (v_lst pvs_nil)))
      (cs_cons (cs_for 64 [4] PassesOwn.never rfl (ci fun _=>(vi_range1 Z.range_ (pvs_cons (vn 2) pvs_nil))) (fun _=>(vg_name 4 sc.nd)) (cs_one (cs_app 3 (cvs_cons (c_tuple Z.tuple_ (cvs_cons (c_lcomp 64 ["_law_k", "_law_tape_here", "_law_p", "_law_i"] [none,some 0,some 1,some 4] rfl (ci fun _=>(vi_range1 Z.range_ (pvs_cons (vn 2) pvs_nil))) (fun _ _=>(vg_name 0 (show List.Nodup (["_law_k", "_law_tape_here", "_law_p", "_law_i"]:List Str) by decide +kernel))) (fun _=>ct_nil) (fun _=>(c_mul (c_call (d__law_pick _) (hr.mono (by decide)) (cvs_cons (cv fun _=>(vn 1)) (cvs_cons (cv fun _=>(vn 2)) cvs_nil))) (cv fun _=>(v_int1 Z.int_ (pvs_cons (v_cmp op_ge vo_ge (nomark _) (vn 0) (vn 3)) pvs_nil)))))) cvs_nil)) cvs_nil))))
      (cs_one (cs fun _=>(vs_ret (v_tuple Z.tuple_ (pvs_cons (vn 3) pvs_nil)))))))) (by decide) ?_
  rintro ws Q ⟨p,m,rfl,⟨p2,p7,m1,m5⟩,hQ⟩
  refine read_of ?_
  have sz:=PySem.sizeLine_eq
  have g1 : -(2 ^ 62) <= m /\ m < 2 ^ 62:=by omega
  have pp : 0 < p:=by omega
  have pb:p < 2 ^ 60:=by omega
  simp_arith only [grd_t,len_ok,m_vRN,m_vRI,s_rput,s_bump,asR_r,s_forC,m_compC,rangeD_length]
  refine invR_go (fun i ρ=>∃ t:List (List Int),IsTb p i m.toNat t /\ Up t /\ ρ = [some .reel,some (.d (.int p)),some (.d (.int m)),some (.ml (t.map tupI)),none]) ⟨[],⟨rfl,by simp⟩,fun i h=>absurd h (by simp),rfl⟩ ?_ ?_
  · rintro i hi ρ ⟨t,ht,hu,rfl⟩ K hK
    simp_arith only [grd_t,len_ok,m_vRN,m_vRI,s_rput,s_bump,asR_r,s_forC,m_compC,rangeD_length]
    rw [rangeD_map]
    refine cany_go (xs:=List.range m.toNat) (enc:=fun j:Nat=>PyData.int (0 + (j:Int))) (fun k d=>∃ x,((0 <= x /\ x < p) /\ (k < i -> x = 0)) /\ d = PyData.int x) rfl ?_ (by rw [List.length_range]; omega) ?_
    · intro k mk K2 hK2
      simp_arith only [grd_t,len_ok,itM,p__law_pick.eq]
      (with_reducible (first | refine any_step fun x hx=>?_ | refine sqb_any fun x hx=>?_))
      have cm:CMulB x (if decide (0 + (i:Int) <= 0 + (k:Int)) = true then 1 else 0):=.lt (by omega)
      try simp_arith only [grd_t,len_ok,itM]
      refine hK2 _ ⟨_,⟨?_,fun hk=>?_⟩,rfl⟩
      · split <;> omega
      · rw [if_neg (by simp; omega)]; omega
    · intro ds hds
      obtain ⟨row,rfl,hl,hs⟩:=paired_row hds
      rw [List.length_range] at hl
      have tz:t.length < sizeLine:=by have:=ht.1; omega
      have rz:row.length <= sizeLine:=by omega
      simp_arith only [grd_t,len_ok,m_vRN,m_vRI,s_rput,s_bump,asR_r,s_forC,m_compC,rangeD_length,tup_of]
      have rk:∀ (k:Nat) (h:k < row.length),(0 <= row[k] /\ row[k] < p) /\ (k < i -> row[k] = 0):=fun k h=>by
        have:=hs k h (by rw [List.length_range]; omega)
        rw [List.getElem_range] at this
        exact this
      refine hK _ (lpS_nx ⟨t ++ [row],⟨by simp [ht.1],fun z hz=>?_⟩,fun n hn x mx=>?_,by simp [fo,List.map_append,tupI]⟩)
      · rcases List.mem_append.mp hz with h | h
        · exact ht.2 z h
        · cases List.mem_singleton.mp h
          refine ⟨hl,fun x mx=>?_⟩
          obtain ⟨k,hk,rfl⟩:=List.getElem_of_mem mx
          exact (rk k hk).1
      · by_cases hn':n < t.length
        · rw [List.getElem_append_left hn'] at mx
          exact hu n hn' x mx
        · have hn2:n = t.length:=by simp at hn; omega
          subst hn2
          rw [List.getElem_append_right (Nat.le_refl _)] at mx
          simp only [Nat.sub_self,List.getElem_cons_zero] at mx
          obtain ⟨k,hk,rfl⟩:=List.getElem_of_mem mx
          rw [List.getElem_take]
          rw [List.length_take] at hk
          exact (rk k (by omega)).2 (by have:=ht.1; omega)
  · rintro ρ ⟨t,ht,hu,rfl⟩
    have tl:=ht.1
    simp_arith only [grd_t,len_ok,m_vRN,m_vRI,s_rput,s_bump,asR_r,s_forC,m_compC,rangeD_length,tup_of]
    exact rt_end (hQ t ⟨ht,hu⟩)
noncomputable def p__law_lowered:List W -> (PyData -> Prop) -> Prop:=fun ws Q=>∃ (p:Int) (t:List (List Int)),ws = [.reel,.d (.int p),.d (tbD t)] /\ ((2 <= p) /\ (p <= 7) /\ (1 <= t.length) /\ (t.length <= 5) /\ (IsTb p t.length t.length t)) /\ ∀ u:List (List Int),(IsTb p t.length t.length u) -> Q (tbD u)
theorem p__law_lowered.mono:∀ ws (Q Q':PyData -> Prop),(∀ d,Q d -> Q' d) -> p__law_lowered ws Q -> p__law_lowered ws Q':=fun _ _ _ h_=>Exists.imp fun _=>Exists.imp fun _=>And.imp_right (And.imp_right fun q_ o_ ho_=>h_ _ (q_ o_ ho_))
theorem p__law_lowered.len:∀ ws (Q:PyData -> Prop),p__law_lowered ws Q -> ws.length = 3:=fun _ _ h_=>by obtain ⟨_,_,e_,_⟩:=h_; subst e_; rfl
theorem p__law_lowered.eq (p:Int) (t:List (List Int)) (p2 : 2 <= p) (p7:p <= 7) (m1 : 1 <= t.length) (m5:t.length <= 5) (ht:IsTb p t.length t.length t):p__law_lowered [.reel,.d (.int p),.d (tbD t)] = bnd (anyM fun u:List (List Int)=>IsTb p t.length t.length u) fun u=>VL.ret (tbD u:PyData):=by
  refine mo_ext fun Q=>⟨?_,fun q_=>⟨p,t,rfl,⟨p2,p7,m1,m5,ht⟩,q_⟩⟩
  rintro ⟨p',t',e_,_,q_⟩
  simp_arith only [tbD_i] at e_
  obtain ⟨rfl,rfl⟩:=e_
  exact q_
theorem sc__law_lowered:FnScope ["_law_tape_here", "_law_p", "_law_table", "_law_i", "_law_k", "_law_row"] ["_law_tape_here", "_law_p", "_law_table"] (defScope (top 35)):=⟨rfl,rfl,rfl,by decide +kernel,rfl,by decide +kernel,by decide +kernel⟩
theorem d__law_lowered (Fn:FnIn K mg "_law_lowered" (top 35) ["_law_tape_here", "_law_p", "_law_table"]) (Z:Bz mg) (d__law_pick:∀ al,DfnC P w K mg base al 1 "_law_pick" ["_law_tape_here", "_law_many"] 1 p__law_pick)   : DfnC P w K mg base al 3 "_law_lowered" ["_law_tape_here", "_law_p", "_law_table"] 2 p__law_lowered:=by
  have sc:=sc__law_lowered
  refine DfnC.of Fn sc (p__law_lowered.mono) (p__law_lowered.len) (fun cdv A outer s H E hr=>(cs_cons (cs fun _=>(vs_if (vb_cmp (op_eqD hr.units) vo_eqD (nomark _) (v_len Z.len_ (pvs_cons (vn 2) pvs_nil)) pv_int) (vs_one (vs_ret (vn 2))) vs_nil))
      (cs_cons (cs_setZ 3 sc.nd (c_add (cv fun _=>pv_int) (c_call (d__law_pick _) (hr.mono (by decide)) (cvs_cons (cv fun _=>(vn 0)) (cvs_cons (cv fun _=>(v_sub (v_len Z.len_ (pvs_cons (vn 2) pvs_nil)) pv_int)) cvs_nil)))))
      (cs_cons (cs_setZ 4 sc.nd (c_call (d__law_pick _) (hr.mono (by decide)) (cvs_cons (cv fun _=>(vn 0)) (cvs_cons (cv fun _=>(vn 3)) cvs_nil))))
      (cs_cons (cs_setZ 5 sc.nd (c_catA (c_catA (cv fun _=>(v_slA (v_ix (vn 2) (vn 3)) vo_none (vo_some (vn 4)))) (c_tup (cvs_cons (c_add (cv fun _=>pv_int) (c_call (d__law_pick _) (hr.mono (by decide)) (cvs_cons (cv fun _=>(vn 0)) (cvs_cons (cv fun _=>(v_sub (vn 1) pv_int)) cvs_nil)))) cvs_nil))) (cv fun _=>(v_slA (v_ix (vn 2) (vn 3)) (vo_some (v_add (vn 4) pv_int)) vo_none))))
      (cs_one (cs fun _=>(vs_ret (v_catA (v_catA (v_slA (vn 2) vo_none (vo_some (vn 3))) (v_tup (pvs_cons (vn 5) pvs_nil))) (v_slA (vn 2) (vo_some (v_add (vn 3) pv_int)) vo_none)))))))))) (by decide) ?_
  rintro ws Q ⟨p,t,rfl,⟨p2,p7,m1,m5,ht⟩,hQ⟩
  refine read_of ?_
  have sz:=PySem.sizeLine_eq
  simp_arith only [grd_t,len_ok,m_vRN,m_vRI,s_rput,s_bump,asR_r,s_forC,m_compC,rangeD_length,lenD_tb,p__law_pick.eq]
  by_cases l1:t.length = 1
  · rw [if_pos (by rw [l1]; rfl)]
    exact rt_end (hQ t ht)
  · rw [if_neg (by simp; omega)]
    have a1 : 0 < (t.length:Int) - 1:=by omega
    have a2:(t.length:Int) - 1 < 2 ^ 60:=by omega
    simp_arith only [grd_t,len_ok,m_vRN,m_vRI,s_rput,s_bump,asR_r,s_forC,m_compC,rangeD_length,p__law_pick.eq]
    (with_reducible (first | refine any_step fun a ha=>?_ | refine sqb_any fun a ha=>?_))
    have b1 : 0 < 1 + a:=by omega
    have b2 : 1 + a < 2 ^ 60:=by omega
    try simp_arith only [grd_t,len_ok,m_vRN,m_vRI,s_rput,s_bump,asR_r,s_forC,m_compC,rangeD_length,p__law_pick.eq]
    (with_reducible (first | refine any_step fun k hk=>?_ | refine sqb_any fun k hk=>?_))
    have c1 : 0 < p - 1:=by omega
    have c2:p - 1 < 2 ^ 60:=by omega
    have hi:(1 + a).toNat < t.length:=by omega
    have ei:atI t (1 + a) = some t[(1 + a).toNat]:=atI_at (by omega) (by omega)
    have hr:=ht.2 _ (List.getElem_mem hi)
    generalize t[(1 + a).toNat] = r at ei hr
    have rl:=hr.1
    have d1:=cut_to r PyData.int hk.1
    have d2:=cut_from r PyData.int (show 0 <= k + 1 by omega)
    have d3:=cut_to t tupI (show 0 <= 1 + a by omega)
    have d4:=cut_from t tupI (show 0 <= 1 + a + 1 by omega)
    simp_arith only [grd_t,len_ok,m_vRN,m_vRI,s_rput,s_bump,asR_r,s_forC,m_compC,rangeD_length,p__law_pick.eq,item_tb,ei,tupD_tI,tupD_tb,d1,d2,d3,d4]
    (with_reducible (first | refine any_step fun x hx=>?_ | refine sqb_any fun x hx=>?_))
    try simp_arith only [grd_t,len_ok,m_vRN,m_vRI,s_rput,s_bump,asR_r,s_forC,m_compC,rangeD_length,tupD_tI,tupD_tb,d1,d2,d3,d4]
    refine grd_step (by rw [List.length_take]; omega) (grd_step (by simp; omega) (grd_step (by rw [List.length_take]; omega) (grd_step (by simp; omega) ?_)))
    have eu:PyData.tuple ((t.take (1 + a).toNat).map tupI ++ [PyData.tuple ((r.take k.toNat).map PyData.int ++ [PyData.int (1 + x)] ++ (r.drop (k + 1).toNat).map PyData.int)] ++ (t.drop (1 + a + 1).toNat).map tupI) = tbD (t.take (1 + a).toNat ++ [r.take k.toNat ++ [1 + x] ++ r.drop (k + 1).toNat] ++ t.drop (1 + a + 1).toNat):=by simp [tbD,tupI,List.map_append]
    rw [eu]
    refine rt_end (hQ _ ⟨by simp; omega,fun y my=>?_⟩)
    rcases List.mem_append.mp my with h | h
    · rcases List.mem_append.mp h with h | h
      · exact ht.2 y (List.mem_of_mem_take h)
      · cases List.mem_singleton.mp h
        refine ⟨by simp; omega,fun v mv=>?_⟩
        rcases List.mem_append.mp mv with h | h
        · rcases List.mem_append.mp h with h | h
          · exact hr.2 v (List.mem_of_mem_take h)
          · cases List.mem_singleton.mp h; omega
        · exact hr.2 v (List.mem_of_mem_drop h)
    · exact ht.2 y (List.mem_of_mem_drop h)
noncomputable def p__law_first_lower:List W -> (PyData -> Prop) -> Prop:=fun ws Q=>∃ (ts:List (List (List Int))),ws = [.d (.list (ts.map tbD))] /\ ((ts.length <= 4) /\ (∀ t ∈ ts,Sz5 t) /\ (∀ t ∈ ts,∀ r ∈ t,∀ x ∈ r,(0:Int) <= x)) /\ Q ((match badT ts with | some z=>PyData.int (z.2:Nat) | none=>PyData.none))
theorem p__law_first_lower.mono:∀ ws (Q Q':PyData -> Prop),(∀ d,Q d -> Q' d) -> p__law_first_lower ws Q -> p__law_first_lower ws Q':=fun _ _ _ h_=>Exists.imp fun _=>And.imp_right (And.imp_right (h_ _))
theorem p__law_first_lower.len:∀ ws (Q:PyData -> Prop),p__law_first_lower ws Q -> ws.length = 1:=fun _ _ h_=>by obtain ⟨_,e_,_⟩:=h_; subst e_; rfl
theorem p__law_first_lower.eq (ts:List (List (List Int))) (hl:ts.length <= 4) (hs:∀ t ∈ ts,Sz5 t) (hn:∀ t ∈ ts,∀ r ∈ t,∀ x ∈ r,(0:Int) <= x):p__law_first_lower [.d (.list (ts.map tbD))] = VL.ret ((match badT ts with | some z=>PyData.int (z.2:Nat) | none=>PyData.none):PyData):=by
  refine mo_ext fun Q=>⟨?_,fun q_=>⟨ts,rfl,⟨hl,hs,hn⟩,q_⟩⟩
  rintro ⟨ts',e_,_,q_⟩
  simp_arith only [tbm_i] at e_
  obtain rfl:=e_
  exact q_
theorem sc__law_first_lower:FnScope ["_law_tables", "_law_j", "_law_i"] ["_law_tables"] (defScope (top 37)):=⟨rfl,rfl,rfl,by decide +kernel,rfl,by decide +kernel,by decide +kernel⟩
theorem d__law_first_lower (Fn:FnIn K mg "_law_first_lower" (top 37) ["_law_tables"]) (Z:Bz mg)    : Dfn P w K mg base rl "_law_first_lower" ["_law_tables"] 1 p__law_first_lower:=by
  have sc:=sc__law_first_lower
  refine Dfn.of Fn sc (p__law_first_lower.mono) (p__law_first_lower.len) (fun cdv A outer s H E hr=>(vs_cons (vs_forF [1,2] PassesOwn.never rfl (vi_range1 Z.range_ (pvs_cons (v_len Z.len_ (pvs_cons (vn 0) pvs_nil)) pvs_nil)) (vg_name 1 sc.nd) (vs_one (vs_forF [2] PassesOwn.never rfl (vi_range1 Z.range_ (pvs_cons (v_len Z.len_ (pvs_cons (v_ix (vn 0) (vn 1)) pvs_nil)) pvs_nil)) (vg_name 2 sc.nd) (vs_one (vs_if (vb_cmp op_gt vo_gt (nomark _) (v_maxT Z.max_ (pvs_cons (v_catA (v_tup (pvs_cons pv_int pvs_nil)) (v_slA (v_ix (v_ix (vn 0) (vn 1)) (vn 2)) vo_none (vo_some (vn 2)))) pvs_nil)) pv_int) (vs_one (vs_ret (vn 1))) vs_nil)))))
      (vs_one (vs_ret pv_non)))) ?_
  rintro ws Q ⟨ts,rfl,⟨hl,hs,hn⟩,hQ⟩
  refine read_of ?_
  have sz:=PySem.sizeLine_eq
  simp_arith only [grd_t,len_ok]
  refine invR_go (fun j ρ=>ρ = [some (.d (.list (ts.map tbD))),none,none] /\ ∀ i (hi:i < ts.length),i < j -> upB ts[i] = true) ⟨rfl,fun i hi z=>absurd z (by omega)⟩ ?_ ?_
  · rintro j hj ρ ⟨rfl,hj0⟩ K hK
    have ej:atI (ts.map tbD) (0 + (j:Int)) = some (tbD ts[j]):=by rw [Int.zero_add]; exact atI_nat (by rw [List.getElem?_map,List.getElem?_eq_getElem hj]; rfl)
    have h5:=hs _ (List.getElem_mem hj)
    have h0:=hn _ (List.getElem_mem hj)
    have hb:upB ts[j] = false -> badT ts = some (ts[j],j):=fun z=>bad_some hj (fun i hi z=>hj0 i hi z) z
    have hfin:upB ts[j] = true -> K (.nx [some (.d (.list (ts.map tbD))),some (.d (.int (0 + (j:Int)))),none]):=fun z=>hK _ (lpS_nx ⟨rfl,fun i hi hlt=>by
      rcases Nat.lt_succ_iff_lt_or_eq.mp hlt with h | h
      · exact hj0 i hi h
      · subst h; exact z⟩)
    have hret:upB ts[j] = false -> K (.rt (.d (.int (0 + (j:Int))))):=fun z=>hK _ (lpS_rt (by
      rw [hb z] at hQ
      rw [Int.zero_add]
      exact rt_end hQ))
    generalize ts[j] = t at *
    obtain ⟨t5,r5⟩:=h5
    simp_arith only [grd_t,len_ok,ej,lenD_tb]
    refine endS ?_
    refine invR_go (fun i ρ=>ρ = [some (.d (.list (ts.map tbD))),some (.d (.int (0 + (j:Int)))),none] /\ ∀ n (h:n < t.length),n < i -> ∀ x ∈ t[n].take n,x = 0) ⟨rfl,fun n h z=>absurd z (by omega)⟩ ?_ ?_
    · rintro i hi ρ ⟨rfl,hz⟩ K2 hK2
      have ei:atI t (0 + (i:Int)) = some t[i]:=by rw [Int.zero_add]; exact atI_nat (List.getElem?_eq_getElem hi)
      have c1:=cut_to t[i] PyData.int (show 0 <= 0 + (i:Int) by omega)
      have mr:=List.getElem_mem hi
      have rl:=r5 _ mr
      have g1 : 1 + (List.take (0 + (i:Int)).toNat t[i]).length <= sizeLine:=by rw [List.length_take]; omega
      simp_arith only [grd_t,len_ok,ej,ei,item_tb,tupD_tI,c1,m_gMaxT]
      refine opt_is (intsT_t (0 :: t[i].take (0 + (i:Int)).toNat)) (grd_step (by simp) fun M hM=>?_)
      dsimp only
      have en:(0 + (i:Int)).toNat = i:=by omega
      rw [en] at hM
      obtain ⟨m1,m2⟩:=hM
      by_cases hp : 0 < M
      · rw [if_pos (by simpa using hp)]
        refine hK2 _ (lpS_rt (hret (Bool.eq_false_iff.mpr fun z=>?_)))
        rcases List.mem_cons.mp m1 with h | h
        · omega
        · have:=up_iff.mp z i hi M h; omega
      · rw [if_neg (by simpa using hp)]
        refine hK2 _ (lpS_nx ⟨rfl,fun n h hlt x mx=>?_⟩)
        rcases Nat.lt_succ_iff_lt_or_eq.mp hlt with h' | h'
        · exact hz n h h' x mx
        · subst h'
          have:=m2 x (List.mem_cons_of_mem _ mx)
          have:=h0 _ mr x (List.mem_of_mem_take mx)
          omega
    · rintro ρ ⟨rfl,hz⟩
      exact hfin (up_iff.mpr fun n h=>hz n h h)
  · rintro ρ ⟨rfl,h⟩
    rw [bad_none fun t mt=>by obtain ⟨i,hi,rfl⟩:=List.getElem_of_mem mt; exact h i hi hi] at hQ
    simp_arith only [grd_t,len_ok]
    exact rt_end hQ
theorem stF_in {p j:Int} (p2 : 2 <= p):∀ i k,0 <= stF p j i k /\ stF p j i k < p
  | i,0=>by rw [stF]; split <;> omega
  | i,k + 1=>by rw [stF]; exact ⟨Int.fmod_nonneg_of_pos _ (by omega),Int.fmod_lt_of_pos _ (by omega)⟩
theorem stF_up {p j:Int}:∀ (k i:Nat),k < i -> stF p j i k = 0
  | 0,i,h=>by rw [stF,if_neg (by omega)]
  | k + 1,i,h=>by rw [stF,if_pos (by omega),stF_up k (i - 1) (by omega),stF_up k i (by omega)]; simp
theorem stT_tb {p m j:Int} (p2 : 2 <= p):IsTb p m.toNat m.toNat (stT p m j):=by
  unfold stT
  refine ⟨by simp,fun r mr=>?_⟩
  obtain ⟨i,_,rfl⟩:=List.mem_map.mp mr
  refine ⟨stR_len ..,fun x mx=>?_⟩
  obtain ⟨k,_,rfl⟩:=List.mem_map.mp mx
  exact stF_in p2 ..
theorem stT_up (p m j:Int):Up (stT p m j):=fun i hi x mx=>by
  have e:(stT p m j)[i] = stR p j m.toNat i:=by simp [stT]
  rw [e] at mx
  unfold stR at mx
  rw [<- List.map_take,List.take_range] at mx
  obtain ⟨k,mk,rfl⟩:=List.mem_map.mp mx
  rw [List.mem_range] at mk
  exact stF_up k i (by omega)
theorem sz_of {p:Int} {n:Nat} {t:List (List Int)} (h:IsTb p n n t) (n5:n <= 5):Sz5 t:=⟨by rw [h.1]; exact n5,fun r mr=>by rw [(h.2 r mr).1]; exact n5⟩
theorem paired_r {α:Type} {P:PyData -> Prop}:∀ {xs:List α} {ds:List PyData},Paired (fun _ d=>P d) xs ds -> ∀ d ∈ ds,P d
  | _,_,.nil=>fun d md=>absurd md List.not_mem_nil
  | _,_,.cons r rs=>fun d md=>by
    rcases List.mem_cons.mp md with rfl | h
    · exact r
    · exact paired_r rs d h
noncomputable def UT (p:Int) (n:Nat) (t:List (List Int)):Prop:=IsTb p n n t /\ Up t
theorem lowF_z (p:Int):∀ m,lowF p m 0 = List.replicate m 0
  | 0=>rfl
  | m + 1=>by rw [lowF,Int.zero_fmod,Int.zero_fdiv,lowF_z p m,List.replicate_succ]
theorem low_app {p:Int} (p2 : 2 <= p):∀ (k d:Nat) (n:Int),0 <= n -> n < p ^ k -> lowF p (k + d) n = lowF p k n ++ List.replicate d 0
  | 0,d,n,h0,h1=>by
    have:n = 0:=by rw [Int.pow_zero] at h1; omega
    subst this
    rw [Nat.zero_add,lowF_z]; rfl
  | k + 1,d,n,h0,h1=>by
    have hd : 0 <= n.fdiv p:=by rw [Int.fdiv_eq_ediv_of_nonneg _ (by omega)]; exact Int.ediv_nonneg h0 (by omega)
    have hl:n.fdiv p < p ^ k:=by rw [Int.fdiv_eq_ediv_of_nonneg _ (by omega)]; exact Int.ediv_lt_of_lt_mul (by omega) (by rw [<- Int.pow_succ]; exact h1)
    rw [show k + 1 + d = (k + d) + 1 by omega,lowF,lowF,low_app p2 k d _ hd hl,List.cons_append]
theorem pow_mono {p:Int} (p2 : 2 <= p) {k m:Nat} (h:k <= m):p ^ k <= p ^ m:=by
  obtain ⟨d,rfl⟩:=Nat.exists_eq_add_of_le h
  rw [Int.pow_add]
  have h1 : 0 < p ^ k:=Int.pow_pos (by omega)
  have h2 : 0 < p ^ d:=Int.pow_pos (by omega)
  have:=Int.mul_le_mul_of_nonneg_left (show 1 <= p ^ d by omega) (show 0 <= p ^ k by omega)
  omega
theorem pad_app {p:Int} (p2 : 2 <= p) {k m:Nat} (h:k <= m) {n:Int} (h0 : 0 <= n) (h1:n < p ^ k):pad p n m = pad p n k ++ List.replicate (m - k) 0:=by
  have hm:n < p ^ m:=Int.lt_of_lt_of_le h1 (pow_mono p2 h)
  rw [<- low_pad p2 m n h0 hm,<- low_pad p2 k n h0 h1]
  conv=>lhs; rw [show m = k + (m - k) by omega]
  exact low_app p2 k (m - k) n h0 h1
theorem dot_nil (xs:List Int):dot xs [] = 0:=by unfold dot; rw [List.zip_nil_right]; rfl
theorem dot_cons (x y:Int) (xs ys:List Int):dot (x :: xs) (y :: ys) = x * y + dot xs ys:=by unfold dot; rw [List.zip_cons_cons,List.map_cons,List.sum_cons]
theorem dot_z:∀ (xs:List Int) (d:Nat),dot xs (List.replicate d 0) = 0
  | [],_=>rfl
  | x :: xs,0=>dot_nil _
  | x :: xs,d + 1=>by rw [List.replicate_succ,dot_cons,dot_z xs d]; simp
theorem dot_cut:∀ (xs fs:List Int) (d:Nat),dot xs (fs ++ List.replicate d 0) = dot (xs.take fs.length) fs
  | xs,[],d=>by rw [List.nil_append,dot_z,dot_nil]
  | [],f :: fs,d=>by simp [dot]
  | x :: xs,f :: fs,d=>by rw [List.cons_append,dot_cons,dot_cut xs fs d,List.length_cons,List.take_succ_cons,dot_cons]
theorem dot_0:∀ (xs fs:List Int),(∀ x ∈ xs,x = 0) -> dot xs fs = 0
  | [],_,_=>rfl
  | x :: xs,[],_=>dot_nil _
  | x :: xs,f :: fs,h=>by rw [dot_cons,h x List.mem_cons_self,dot_0 xs fs fun y my=>h y (List.mem_cons_of_mem _ my)]; simp
noncomputable def cutT (k:Nat) (t:List (List Int)):List (List Int):=(t.take k).map fun r=>r.take k
theorem ap_cut {p:Int} {m k:Nat} {t:List (List Int)} {f:List Int} (ht:IsTb p m m t) (hu:Up t) (hk:k <= m) (hf:f.length = k):apT p t (f ++ List.replicate (m - k) 0) = apT p (cutT k t) f ++ List.replicate (m - k) 0:=by
  subst hf
  unfold apT cutT
  rw [List.map_map]
  conv=>lhs; rw [<- List.take_append_drop f.length t]
  rw [List.map_append]
  congr 1
  · refine List.map_congr_left fun r _=>?_
    rw [dot_cut]; rfl
  · refine List.eq_replicate_iff.mpr ⟨by rw [List.length_map,List.length_drop,ht.1],fun x mx=>?_⟩
    obtain ⟨r,mr,rfl⟩:=List.mem_map.mp mx
    obtain ⟨i,hi,rfl⟩:=List.getElem_of_mem mr
    rw [List.getElem_drop,dot_cut,dot_0]
    · simp
    · intro x mx
      rw [List.length_drop] at hi
      refine hu (f.length + i) (by omega) x ?_
      obtain ⟨j,hj,rfl⟩:=List.getElem_of_mem mx
      rw [List.length_take] at hj
      rw [List.getElem_take]
      exact List.mem_take_iff_getElem.mpr ⟨j,by omega,rfl⟩
theorem tv_zs (p:Int) (xs:List Int):∀ d,tv p (xs ++ List.replicate d 0) = tv p xs * p ^ d
  | 0=>by simp
  | d + 1=>by rw [List.replicate_succ',<- List.append_assoc,tv_snoc,tv_zs p xs d,Int.pow_succ]; rw [Int.add_zero,Int.mul_assoc]
theorem qd_k {a b c:Int} (hb : 0 < b) (hc : 0 < c):qd (a * c) (b * c) = qd a b:=by
  rw [<- qd_mm hb hc]
  have:qd c c = 1:=by
    unfold qd
    rw [Rat.div_def]
    exact Rat.mul_inv_cancel _ (by intro z; have e:c = 0:=by exact_mod_cast z
                                   omega)
  rw [this,Rat.mul_one]
theorem num_cut {p:Int} {m k:Nat} {t:List (List Int)} {n:Int} (p2 : 2 <= p) (ht:IsTb p m m t) (hu:Up t) (hk:k <= m) (h0 : 0 <= n) (h1:n < p ^ k):numT p t (pad p n m) = numT p (cutT k t) (pad p n k):=by
  have hl:(pad p n k).length = k:=pad_len p2 h0 h1
  unfold numT
  rw [pad_app p2 hk h0 h1,ap_cut ht hu hk hl,tv_zs]
  have e1:t.length = m:=ht.1
  have e2:(cutT k t).length = k:=by unfold cutT; rw [List.length_map,List.length_take]; omega
  rw [e1,e2]
  conv=>lhs; rw [show m = k + (m - k) by omega,Int.pow_add]
  rw [show k + (m - k) - k = m - k by omega]
  exact qd_k (Int.pow_pos (by omega)) (Int.pow_pos (by omega))
theorem pts_cut {p:Int} {m k:Nat} {ts:List (List (List Int))} (p2 : 2 <= p) (ht:∀ t ∈ ts,UT p m t) (hk:k <= m):ptsT p k (begT k ts) = (ptsT p m ts).take (p ^ k).toNat:=by
  unfold ptsT
  rw [<- List.map_take,List.take_range]
  have h2:=pow_mono p2 hk
  rw [show min (p ^ k).toNat (p ^ m).toNat = (p ^ k).toNat by omega]
  refine List.map_congr_left fun n mn=>?_
  rw [List.mem_range] at mn
  unfold ptT begT
  rw [List.map_map]
  refine List.map_congr_left fun t mt=>?_
  exact (num_cut p2 (ht t mt).1 (ht t mt).2 hk (by omega) (by omega)).symm
theorem beg_ts {p:Int} {m k:Nat} {ts:List (List (List Int))} (h1 : 1 <= ts.length) (h4:ts.length <= 4) (ht:∀ t ∈ ts,UT p m t) (hk:k <= m):IsTs p k (begT k ts):=by
  unfold begT
  refine ⟨by rw [List.length_map]; exact h1,by rw [List.length_map]; exact h4,fun t mt=>?_⟩
  obtain ⟨u,mu,rfl⟩:=List.mem_map.mp mt
  obtain ⟨⟨a,b⟩,_⟩:=ht u mu
  refine ⟨by rw [List.length_map,List.length_take]; omega,fun r mr=>?_⟩
  obtain ⟨s,ms,rfl⟩:=List.mem_map.mp mr
  have:=b s (List.mem_of_mem_take ms)
  exact ⟨by rw [List.length_take]; omega,fun x mx=>this.2 x (List.mem_of_mem_take mx)⟩
theorem tbs_Sm {p:Int} {m:Nat} {ts:List (List (List Int))} (p7:p <= 7) (m8:m <= 8) (h:IsTs p m ts):Sm 6 292 (tbsD ts):=(Sm.seq (dp:=4) (bk:=72) (n:=4) (fun d md=>by
    obtain ⟨t,mt,rfl⟩:=List.mem_map.mp md
    exact tb_Sm ((h.2.2 t mt).t8 p7 m8 m8)) (by rw [List.length_map]; exact h.2.1)).1
theorem head_len {p:Int} {m:Nat} {ts:List (List (List Int))} (h:IsTs p m ts):m = (ts.headD []).length:=by
  obtain ⟨h1,_,h3⟩:=h
  cases ts with
  | nil=>simp at h1
  | cons a l=>exact (h3 a List.mem_cons_self).1.symm
theorem eqv_fr (q:Rat):PyData.eqv (fr q) (fr q) = true:=by unfold fr; simp [PyData.eqv,PyData.eqvAll]
theorem eqv_pt (p:List Rat):PyData.eqv (ptD p) (ptD p) = true:=by
  unfold ptD
  induction p with
  | nil=>rfl
  | cons x xs ih=>have:=eqv_fr x; simp [PyData.eqv,PyData.eqvAll] at *; exact ⟨this,ih⟩
theorem eqv_ps (ps:List (List Rat)):PyData.eqv (ptsQ ps) (ptsQ ps) = true:=by
  unfold ptsQ
  induction ps with
  | nil=>rfl
  | cons x xs ih=>have:=eqv_pt x; simp [PyData.eqv,PyData.eqvAll] at *; exact ⟨this,ih⟩
theorem shp_ps (ps:List (List Rat)):SeqAt.shaped (ptsQ ps) = true:=by
  have:=dep_pts ps
  unfold ptsQ
  simp [SeqAt.shaped,PyData.canLay0,PyData.depth,lay_pts]
  omega
theorem sc_law:FnScope ["_law_script", "_law_k", "_law_tape_here", "_law_p", "_law_m", "_law_tables", "_law_bent", "_law_told_here", "_law_many", "_law_found", "_law_due", "_law_number"] ["_law_script"] (defScope (top 38)):=⟨rfl,rfl,rfl,by decide +kernel,rfl,by decide +kernel,by decide +kernel⟩
theorem law_body (Z:Bz mg) (d__law_tape:DfnR P w K mg base "_law_tape" ["_law_script", "_law_at"] 2 preT) (d__law_size:∀ al,DfnC P w K mg base al 2 "_law_size" ["_law_tape_here"] 2 p__law_size) (d_points_of_tables:∀ rl,Dfn P w K mg base rl "points_of_tables" ["p", "tables"] 4 p_points_of_tables) (d__law_upper:∀ al,DfnC P w K mg base al 4096 "_law_upper" ["_law_tape_here", "_law_p", "_law_m"] 2 p__law_upper) (d__law_pick:∀ al,DfnC P w K mg base al 1 "_law_pick" ["_law_tape_here", "_law_many"] 1 p__law_pick) (d__law_told:∀ rl,Dfn P w K mg base rl "_law_told" ["_law_tables", "_law_k"] 4 p__law_told) (d__law_first_lower:∀ rl,Dfn P w K mg base rl "_law_first_lower" ["_law_tables"] 1 p__law_first_lower) (d__law_sum_table:∀ rl,Dfn P w K mg base rl "_law_sum_table" ["_law_p", "_law_m", "_law_j"] 1 p__law_sum_table) (d__law_lowered:∀ al,DfnC P w K mg base al 3 "_law_lowered" ["_law_tape_here", "_law_p", "_law_table"] 2 p__law_lowered) (d__law_power:∀ rl,Dfn P w K mg base rl "_law_power" ["_law_p", "_law_many"] 1 p__law_power)   {f:Addr} {fd:FuncData} (F:Fun K "law" "law" (top 38) f fd):FnOk P w K mg base CX0 6 f fd ["_law_script"] (spLaw2 K):=by
  have sc:=sc_law
  refine ok_law2 F sc (fun cdv A outer s H E hr=>(vs_cons (vs_forF [1,2,3,4,5,6,7,8,9,10,11] PassesOwn.never rfl (vi_range1 Z.range_ (pvs_cons (v_add pv_int (v_len Z.len_ (pvs_cons (v_slSc (vn 0) vo_none (vo_some pv_int)) pvs_nil))) pvs_nil)) (vg_name 1 sc.nd) (cs_newR 2 d__law_tape (hr.mono (by decide)) sc.nd (pvs_cons (vn 0) (pvs_cons (vn 1) pvs_nil)) (fun r=>(cs_cons (cs_asg (c_call (d__law_size _) (hr.mono (by decide)) (cvs_cons (cv fun _=>(vn 2)) cvs_nil)) (fun _=>(vg_tup (n:=2) rfl (vgs_cons (vg_name 3 sc.nd) (vgs_cons (vg_name 4 sc.nd) vgs_nil)))))
      (cs_cons (cs_setcompR 64 5 sc.nd ["_law_j", "_law_tape_here", "_law_p", "_law_m"] [none,some 2,some 3,some 4] rfl (ci_range1 Z.range_ (cvs_cons (c_add (cv fun _=>pv_int) (c_call (d__law_pick _) (hr.mono (by decide)) (cvs_cons (cv fun _=>(vn 2)) (cvs_cons (cv fun _=>pv_int) cvs_nil)))) cvs_nil)) (fun _ _=>(vg_name 0 (show List.Nodup (["_law_j", "_law_tape_here", "_law_p", "_law_m"]:List Str) by decide +kernel))) (fun _=>ct_nil) (fun _=>(c_call (d__law_upper _) (hr.mono (by decide)) (cvs_cons (cv fun _=>(vn 1)) (cvs_cons (cv fun _=>(vn 2)) (cvs_cons (cv fun _=>(vn 3)) cvs_nil))))))
      (cs_cons (cs_lput 5 (cv fun _=>pv_int) (c_ix (c_lst (cvs_cons (cv fun _=>(v_ix (vn 5) pv_int)) (cvs_cons (c_callN (fun n=>d__law_sum_table _) (hr.mono (by decide)) (cvs_cons (cv fun _=>(vn 3)) (cvs_cons (cv fun _=>(vn 4)) (cvs_cons (c_call (d__law_pick _) (hr.mono (by decide)) (cvs_cons (cv fun _=>(vn 2)) (cvs_cons (cv fun _=>(vn 3)) cvs_nil))) cvs_nil)))) cvs_nil))) (c_call (d__law_pick _) (hr.mono (by decide)) (cvs_cons (cv fun _=>(vn 2)) (cvs_cons (cv fun _=>pv_int) cvs_nil)))))
      (cs_cons (cs_frz 5 (cs_setcomp 64 6 sc.nd ["_law_one", "_law_tape_here", "_law_p"] [none,some 2,some 3] rfl (ci fun _=>(vi_list (vn 5))) (fun _ _=>(vg_name 0 (show List.Nodup (["_law_one", "_law_tape_here", "_law_p"]:List Str) by decide +kernel))) (fun _=>ct_nil) (fun _=>(c_ifExp (cb_cmp (op_eqD hr.units) (fun _=>vo_eqD) (nomark _) (c_call (d__law_pick _) (hr.mono (by decide)) (cvs_cons (cv fun _=>(vn 1)) (cvs_cons (cv fun _=>pv_int) cvs_nil))) (cv fun _=>pv_int)) (c_call (d__law_lowered _) (hr.mono (by decide)) (cvs_cons (cv fun _=>(vn 1)) (cvs_cons (cv fun _=>(vn 2)) (cvs_cons (cv fun _=>(vn 0)) cvs_nil)))) (cv fun _=>(vn 0))))))
      (cs_cons (cs fun _=>(vs_setZ 7 sc.nd (v_call (d_points_of_tables _) (hr.mono (by decide)) (pvs_cons (vn 3) (pvs_cons (v_tuple Z.tuple_ (pvs_cons (vn 5) pvs_nil)) pvs_nil)))))
      (cs_one (cs fun _=>(vs_forF [8,9,10,11] PassesOwn.never rfl (vi_range2 Z.range_ (pvs_cons pv_int (pvs_cons (v_add (vn 4) pv_int) pvs_nil))) (vg_name 8 sc.nd) (vs_cons (vs_setZ 9 sc.nd (v_call (d__law_told _) (hr.mono (by decide)) (pvs_cons (v_tuple Z.tuple_ (pvs_cons (vn 5) pvs_nil)) (pvs_cons (vn 8) pvs_nil))))
      (vs_cons (vs_setZ 10 sc.nd (v_tuple Z.tuple_ (pvs_cons (v_lcompR ["_law_one", "_law_many"] [none,some 8] rfl (vi_list (vn 5)) (fun _=>(vg_name 0 (show List.Nodup (["_law_one", "_law_many"]:List Str) by decide +kernel))) (fun _=>vt_nil) (fun _=>(v_tuple Z.tuple_ (pvs_cons (v_lcompR ["_law_row", "_law_many"] [none,some 1] rfl (vi_tup (v_slA (vn 0) vo_none (vo_some (vn 1)))) (fun _=>(vg_name 0 (show List.Nodup (["_law_row", "_law_many"]:List Str) by decide +kernel))) (fun _=>vt_nil) (fun _=>(v_slA (vn 0) vo_none (vo_some (vn 1))))) pvs_nil)))) pvs_nil)))
      (vs_cons (vs_if (PBW.pb (vb_or (vb_cmp op_ne vo_neS (nomark _) (v_repr (hr.mono (Nat.zero_le _)) Z.repr_ (pvs_cons (vn 9) pvs_nil)) (v_repr (hr.mono (Nat.zero_le _)) Z.repr_ (pvs_cons (vn 10) pvs_nil))) (vb_or1 (vb_cmp (op_neD hr.units) vo_eqD (nomark _) (v_call (d_points_of_tables _) (hr.mono (by decide)) (pvs_cons (vn 3) (pvs_cons (vn 9) pvs_nil))) (v_slA (vn 7) vo_none (vo_some (v_call (d__law_power _) (hr.mono (by decide)) (pvs_cons (vn 3) (pvs_cons (vn 8) pvs_nil))))))))) (vs_one (vs_ret pv_bl)) vs_nil)
      (vs_cons (vs_setZ 11 sc.nd (v_call (d__law_first_lower _) (hr.mono (by decide)) (pvs_cons (vn 6) pvs_nil)))
      (vs_one (vs_if (PBW.pb (vb_and (vb_cmp op_notN vo_notN (nomark _) (vn 11) pv_non) (vb_and1 (vb_cmp op_ne vo_neS (nomark _) (v_repr (hr.mono (Nat.zero_le _)) Z.repr_ (pvs_cons (v_call (d__law_told _) (hr.mono (by decide)) (pvs_cons (v_tuple Z.tuple_ (pvs_cons (vn 6) pvs_nil)) (pvs_cons (vn 8) pvs_nil))) pvs_nil)) (v_repr (hr.mono (Nat.zero_le _)) Z.repr_ (pvs_cons (vn 11) pvs_nil)))))) (vs_one (vs_ret pv_bl)) vs_nil))))))))))))))) (by decide +kernel)))
      (vs_one (vs_ret pv_bl)))) ?_
  intro ns hn
  have sz:=PySem.sizeLine_eq
  have cl:(VL.cutD (ns.map PyData.int) none (some 4)).length <= 63:=Nat.le_trans (cut_len _ _ _) (by rw [List.length_map]; exact hn)
  have g0 : -(2 ^ 62) <= 1 + ((VL.cutD (ns.map PyData.int) none (some 4)).length:Int) /\ 1 + ((VL.cutD (ns.map PyData.int) none (some 4)).length:Int) < 2 ^ 62:=by omega
  simp_arith only [grd_t,len_ok,m_vRN,m_vRI,s_rput,s_bump,asR_r,s_forC,m_compC,rangeD_length]
  refine eachR_go ?_ ?_
  · intro i hi K hK
    have pt:=preT.eq hn (show 0 <= 0 + (i:Int) by omega) (show 0 + (i:Int) < 1000 by omega)
    simp_arith only [grd_t,len_ok,m_vRN,m_vRI,s_rput,s_bump,asR_r,s_forC,m_compC,rangeD_length,pt,p__law_size.eq,un_nx,un_rt]
    refine (show sq _ _ (fun fl=>unR fl K) from ?_)
    (with_reducible (first | refine any_step fun z hz=>?_ | refine sqb_any fun z hz=>?_))
    obtain ⟨p,m⟩:=z
    have hz:Pm p m:=hz
    obtain ⟨w40,p2,p7,m1,m5⟩:=pm_le hz
    try simp_arith only [grd_t,len_ok,m_vRN,m_vRI,s_rput,s_bump,asR_r,s_forC,m_compC,rangeD_length,p__law_pick.eq]
    (with_reducible (first | refine any_step fun s hs=>?_ | refine sqb_any fun s hs=>?_))
    have pp : 0 < p:=by omega
    have pb:p < 2 ^ 60:=by omega
    refine grd_step (by omega) (grd_step (by omega) ?_)
    refine sqb (canyR_go (fun d=>∃ t,(IsTb p m.toNat m.toNat t /\ Up t) /\ d = tbD t) ?_ (by omega) ?_)
    · intro j hj K2 hK2
      simp_arith only [grd_t,len_ok,itM,p__law_upper.eq]
      (with_reducible (first | refine any_step fun t ht=>?_ | refine sqb_any fun t ht=>?_))
      exact hK2 _ ⟨t,ht,rfl⟩
    intro ds hl hds
    obtain ⟨ts,rfl,tl,ht⟩:=dec_list hds
    have tn : 1 <= ts.length /\ ts.length <= 4:=by omega
    clear tl hl hds
    have e0:atI (ts.map tbD) 0 = some (tbD (ts[0]'(by omega))):=atI_nat (j:=0) (by rw [List.getElem?_map,List.getElem?_eq_getElem (show 0 < ts.length by omega)]; rfl)
    have ht0:=ht _ (List.getElem_mem (show 0 < ts.length by omega))
    have lg : 0 <= (0:Int) /\ (0:Int) < (ts.length:Int):=by omega
    simp_arith only [grd_t,len_ok,m_vRN,m_vRI,s_rput,s_bump,asR_r,s_forC,m_compC,rangeD_length,s_lput,e0,p__law_pick.eq,p__law_sum_table.eq]
    (with_reducible (first | refine any_step fun j hj=>?_ | refine sqb_any fun j hj=>?_))
    have j0:=hj.1
    have j7:j <= 7:=by omega
    try simp_arith only [grd_t,len_ok,m_vRN,m_vRI,s_rput,s_bump,asR_r,s_forC,m_compC,rangeD_length,s_lput,e0,p__law_pick.eq,p__law_sum_table.eq]
    (with_reducible (first | refine any_step fun b hb=>?_ | refine sqb_any fun b hb=>?_))
    refine sqo (menu_step hb.1 hb.2 fun z mz=>?_)
    obtain ⟨u,rfl,hu⟩:∃ u,z = tbD u /\ UT p m.toNat u:=by
      simp only [List.mem_cons,List.not_mem_nil,or_false] at mz
      rcases mz with rfl | rfl
      · exact ⟨_,rfl,ht0⟩
      · exact ⟨_,rfl,stT_tb p2,stT_up p m j⟩
    obtain ⟨us,eu,hus,ul⟩:∃ us:List (List (List Int)),(ts.map tbD).set (Int.toNat 0) (tbD u) = us.map tbD /\ (∀ t ∈ us,UT p m.toNat t) /\ us.length = ts.length:=by
      refine ⟨ts.set 0 u,by rw [List.map_set]; rfl,fun t mt=>?_,by simp⟩
      rcases List.mem_or_eq_of_mem_set mt with h | h
      · exact ht t h
      · subst h; exact hu
    rw [eu]
    rw [<- ul] at tn
    clear e0 ht0 ht hb hj ul lg hu
    simp_arith only [grd_t,len_ok,m_vRN,m_vRI,s_rput,s_bump,asR_r,s_forC,m_compC,rangeD_length]
    refine sqb (cany_go (xs:=us) (enc:=tbD) (fun _ d=>∃ u,IsTb p m.toNat m.toNat u /\ d = tbD u) rfl ?_ (by omega) ?_)
    · intro t mt K2 hK2
      have hT:=(hus t mt).1
      have tl:=hT.1
      have ht:IsTb p t.length t.length t:=by rw [tl]; exact hT
      have l1 : 1 <= t.length:=by omega
      have l5:t.length <= 5:=by omega
      simp_arith only [grd_t,len_ok,itM,p__law_pick.eq,p__law_lowered.eq,eqv_i]
      (with_reducible (first | refine any_step fun a ha=>?_ | refine sqb_any fun a ha=>?_))
      try simp_arith only [grd_t,len_ok,itM,p__law_pick.eq,p__law_lowered.eq,eqv_i]
      refine ite_step (fun _=>fun u hu=>hK2 _ ⟨u,by rw [tl] at hu; exact hu,rfl⟩) fun _=>hK2 _ ⟨t,hT,rfl⟩
    intro ds hds
    obtain ⟨bs,rfl,bl,hbs⟩:∃ bs:List (List (List Int)),ds = bs.map tbD /\ bs.length = us.length /\ ∀ t ∈ bs,IsTb p m.toNat m.toNat t:=by
      have h1:=hds.length
      obtain ⟨bs,rfl,bl,h⟩:=dec_list (enc:=tbD) (P:=fun t=>IsTb p m.toNat m.toNat t) (ds:=ds) (paired_r hds)
      exact ⟨bs,rfl,by rw [List.length_map] at h1; omega,h⟩
    clear hds
    have hts:IsTs p m.toNat us:=⟨tn.1,tn.2,fun t mt=>(hus t mt).1⟩
    have pe:=p_points_of_tables.eq p us ⟨m,hz,hts,head_len hts⟩
    rw [<- head_len hts] at pe
    have lu:us.length <= sizeLine:=by omega
    have tu:PyData.tuple (us.map tbD) = tbsD us:=rfl
    simp_arith only [grd_t,len_ok,m_vRN,m_vRI,s_rput,s_bump,asR_r,s_forC,m_compC,rangeD_length,tup_of,tu,pe]
    refine endS ?_
    refine eachR_go ?_ ?_
    · intro n hn K2 hK2
      have n1 : 1 <= 1 + (n:Int):=by omega
      have nm : 1 + (n:Int) <= m:=by omega
      have k0 : 0 <= 1 + (n:Int):=by omega
      have k5 : 1 + (n:Int) <= 5:=by omega
      have hsz:∀ t ∈ us,Sz5 t:=fun t mt=>sz_of (hus t mt).1 (by omega)
      have hbz:∀ t ∈ bs,Sz5 t:=fun t mt=>sz_of (hbs t mt) (by omega)
      have e1:=p__law_told.eq us (1 + (n:Int)) tn.2 hsz k0 k5
      rw [tldD_n (bad_none fun t mt=>up_iff.mpr (hus t mt).2)] at e1
      simp_arith only [grd_t,len_ok,m_vRN,m_vRI,s_rput,s_bump,asR_r,s_forC,m_compC,rangeD_length,tup_of,tu,e1]
      refine sqb (cmap_go (xs:=us) (enc:=tbD) (fun t=>tbD (cutT (1 + (n:Int)).toNat t)) rfl ?_ (by omega) ?_)
      · intro t mt
        obtain ⟨u1,u2⟩:=hsz t mt
        simp_arith only [grd_t,len_ok,itM,tupD_tb]
        rw [cut_to t tupI k0,comp_map (xs:=t.take (1 + (n:Int)).toNat) (enc:=tupI) (fun r=>tupI (r.take (1 + (n:Int)).toNat)) ?_ (by rw [List.length_take]; omega),bnd_ret,map_tups]
        · try simp_arith only [grd_t,len_ok,tup_of]
          rfl
        · intro r mr
          simp_arith only [grd_t,len_ok,itM,tupD_tI]
          rw [cut_to r PyData.int k0]
          rfl
      have eb:PyData.tuple (us.map fun t=>tbD (cutT (1 + (n:Int)).toNat t)) = tbsD (begT (1 + (n:Int)).toNat us):=by rw [map_tbl]; rfl
      rw [eb]
      have hb:=beg_ts tn.1 tn.2 hus (show (1 + (n:Int)).toNat <= m.toNat by omega)
      have pmk:Pm p (1 + (n:Int)):=⟨hz.1,n1,Int.le_trans nm hz.2.2⟩
      have pk:=p_points_of_tables.eq p (begT (1 + (n:Int)).toNat us) ⟨1 + (n:Int),pmk,hb,head_len hb⟩
      rw [<- head_len hb,pts_cut p2 hus (show (1 + (n:Int)).toNat <= m.toNat by omega)] at pk
      have sw:Shw (tbsD (begT (1 + (n:Int)).toNat us)):=(tbs_Sm p7 (by omega) hb).shw (by decide) (by decide)
      have h16:p <= 16:=by omega
      have k4 : 1 + (n:Int) <= 4000:=by omega
      have hp0 : 0 <= p ^ (1 + (n:Int)).toNat:=Int.le_of_lt (Int.pow_pos (by omega))
      have ct:=cut_to (ptsT p m.toNat us) ptD hp0
      have eq1:PyData.tuple (((ptsT p m.toNat us).take (p ^ (1 + (n:Int)).toNat).toNat).map ptD) = ptsQ ((ptsT p m.toNat us).take (p ^ (1 + (n:Int)).toNat).toNat):=rfl
      have tp:∀ ps:List (List Rat),tupD (ptsQ ps) = some (ps.map ptD):=fun ps=>rfl
      have lb4:bs.length <= 4:=by omega
      have hbn:∀ t ∈ bs,∀ r ∈ t,∀ x ∈ r,(0:Int) <= x:=fun t mt r mr x mx=>(((hbs t mt).2 r mr).2 x mx).1
      have fe:=p__law_first_lower.eq bs lb4 hbz hbn
      have e2:=p__law_told.eq bs (1 + (n:Int)) lb4 hbz k0 k5
      have tb:PyData.tuple (bs.map tbD) = tbsD bs:=rfl
      simp_arith only [grd_t,len_ok,m_vRN,m_vRI,s_rput,s_bump,asR_r,s_forC,m_compC,rangeD_length,BFR,pk,p__law_power.eq,tp,ct,eq1,eqv_ps,shp_ps,fe]
      cases hB:badT bs with
      | none =>
        rw [if_neg (by simp)]
        exact hK2 _ (lpS_nx rfl)
      | some z =>
        rw [tldD_s hB] at e2
        have zl:z.2 < bs.length:=(List.getElem?_eq_some_iff.mp (List.mem_zipIdx_iff_getElem?.mp (List.mem_of_find?_eq_some hB))).1
        have sz2:Shw (PyData.int (z.2:Nat)):=(Sm.int (Nat.lt_of_lt_of_le (show ((z.2:Nat):Int).natAbs < 2 ^ 7 by omega) (Nat.pow_le_pow_right (by decide) (by decide)))).shw (by decide) (by decide)
        rw [if_pos (by rfl)]
        simp_arith only [grd_t,len_ok,m_vRN,m_vRI,s_rput,s_bump,asR_r,s_forC,m_compC,rangeD_length,tb,e2]
        exact hK2 _ (lpS_nx rfl)
    · exact hK _ (lpS_nx rfl)
  · simp_arith only [grd_t,len_ok]
    exact law_end
structure Txt (K:PySem.W.Frag) (mg:Str -> Option Value):Prop where
  bz:Bz mg
  f__law_tape:FnIn K mg "_law_tape" (top 29) ["_law_script", "_law_at"]
  f__law_pick:FnIn K mg "_law_pick" (top 30) ["_law_tape_here", "_law_many"]
  f_common_divisor:FnIn K mg "common_divisor" (top 12) ["one", "other"]
  f_fraction:FnIn K mg "fraction" (top 13) ["top", "bottom"]
  f_power:FnIn K mg "power" (top 15) ["base", "exponent"]
  f__law_power:FnIn K mg "_law_power" (top 32) ["_law_p", "_law_many"]
  f_figures_of:FnIn K mg "figures_of" (top 16) ["base", "n"]
  f_figures_in:FnIn K mg "figures_in" (top 17) ["base", "n", "k"]
  f__law_size:FnIn K mg "_law_size" (top 31) ["_law_tape_here"]
  f_product_sum:FnIn K mg "product_sum" (top 20) ["p", "one", "other"]
  f_applied:FnIn K mg "applied" (top 21) ["p", "table", "figures"]
  f_number_of:FnIn K mg "number_of" (top 18) ["base", "figures"]
  f_table_number:FnIn K mg "table_number" (top 23) ["p", "table", "figures"]
  f_points_of_tables:FnIn K mg "points_of_tables" (top 24) ["p", "tables"]
  f__law_sum_table:FnIn K mg "_law_sum_table" (top 33) ["_law_p", "_law_m", "_law_j"]
  f_is_upper:FnIn K mg "is_upper" (top 26) ["table"]
  f__law_told:FnIn K mg "_law_told" (top 36) ["_law_tables", "_law_k"]
  f__law_upper:FnIn K mg "_law_upper" (top 34) ["_law_tape_here", "_law_p", "_law_m"]
  f__law_lowered:FnIn K mg "_law_lowered" (top 35) ["_law_tape_here", "_law_p", "_law_table"]
  f__law_first_lower:FnIn K mg "_law_first_lower" (top 37) ["_law_tables"]
  f_beginning:FnIn K mg "beginning" (top 27) ["tables", "k"]

  x_NoUpper:XCl K mg "NoUpper" "number" "NoUpper" "NoUpper.__init__" (inClass (top 8) 0) ["self", "number"] ["NoDeed", "NoNet", "NoPaper", "NoRoom", "NoRow", "NoText", "Nought", "TooMany"]
theorem ok_law {f:Addr} {fd:FuncData} (F:Fun K "law" "law" (top 38) f fd) (T:Txt K mg)  : FnOk P w K mg base CX0 6 f fd ["_law_script"] (spLaw2 K):=by
  have d__law_tape:DfnR P w K mg base "_law_tape" ["_law_script", "_law_at"] 2 preT:=K66.d__law_tape T.f__law_tape T.bz   
  have d__law_pick:∀ al,DfnC P w K mg base al 1 "_law_pick" ["_law_tape_here", "_law_many"] 1 p__law_pick:=fun rl=>K66.d__law_pick T.f__law_pick T.bz   
  have d_common_divisor:∀ rl,Dfn P w K mg base rl "common_divisor" ["one", "other"] 1 p_common_divisor:=fun rl=>K66.d_common_divisor T.f_common_divisor T.bz   
  have d_fraction:∀ rl,Dfn P w K mg base rl "fraction" ["top", "bottom"] 2 p_fraction:=fun rl=>K66.d_fraction T.f_fraction T.bz d_common_divisor  
  have d_power:∀ rl,Dfn P w K mg base rl "power" ["base", "exponent"] 1 p_power:=fun rl=>K66.d_power T.f_power T.bz   
  have d__law_power:∀ rl,Dfn P w K mg base rl "_law_power" ["_law_p", "_law_many"] 1 p__law_power:=fun rl=>K66.d__law_power T.f__law_power T.bz   
  have d_figures_of:∀ rl,Dfn P w K mg base rl "figures_of" ["base", "n"] 1 p_figures_of:=fun rl=>K66.d_figures_of T.f_figures_of T.bz   
  have d_figures_in:∀ rl,Dfn P w K mg base rl "figures_in" ["base", "n", "k"] 2 p_figures_in:=fun rl=>K66.d_figures_in T.f_figures_in T.bz d_figures_of  
  have d__law_size:∀ al,DfnC P w K mg base al 2 "_law_size" ["_law_tape_here"] 2 p__law_size:=fun rl=>K66.d__law_size T.f__law_size T.bz d__law_pick  
  have d_product_sum:∀ rl,Dfn P w K mg base rl "product_sum" ["p", "one", "other"] 1 p_product_sum:=fun rl=>K66.d_product_sum T.f_product_sum T.bz   
  have d_applied:∀ rl,Dfn P w K mg base rl "applied" ["p", "table", "figures"] 2 p_applied:=fun rl=>K66.d_applied T.f_applied T.bz d_product_sum  
  have d_number_of:∀ rl,Dfn P w K mg base rl "number_of" ["base", "figures"] 1 p_number_of:=fun rl=>K66.d_number_of T.f_number_of T.bz   
  have d_table_number:∀ rl,Dfn P w K mg base rl "table_number" ["p", "table", "figures"] 3 p_table_number:=fun rl=>K66.d_table_number T.f_table_number T.bz d_applied d_fraction d_number_of d_power  
  have d_points_of_tables:∀ rl,Dfn P w K mg base rl "points_of_tables" ["p", "tables"] 4 p_points_of_tables:=fun rl=>K66.d_points_of_tables T.f_points_of_tables T.bz d_power d_figures_in d_table_number  
  have d__law_sum_table:∀ rl,Dfn P w K mg base rl "_law_sum_table" ["_law_p", "_law_m", "_law_j"] 1 p__law_sum_table:=fun rl=>K66.d__law_sum_table T.f__law_sum_table T.bz   
  have d_is_upper:∀ rl,Dfn P w K mg base rl "is_upper" ["table"] 1 p_is_upper:=fun rl=>K66.d_is_upper T.f_is_upper T.bz   
  have dE_beginning:∀ rl,DfnE P w K mg base rl "beginning" ["tables", "k"] 3 pE_beginning:=fun rl=>K66.dE_beginning T.f_beginning T.bz d_is_upper   (T.x_NoUpper.one i_NoUpper)
  have d__law_told:∀ rl,Dfn P w K mg base rl "_law_told" ["_law_tables", "_law_k"] 4 p__law_told:=fun rl=>K66.d__law_told T.f__law_told T.bz dE_beginning T.x_NoUpper
  have d__law_upper:∀ al,DfnC P w K mg base al 4096 "_law_upper" ["_law_tape_here", "_law_p", "_law_m"] 2 p__law_upper:=fun rl=>K66.d__law_upper T.f__law_upper T.bz d__law_pick  
  have d__law_lowered:∀ al,DfnC P w K mg base al 3 "_law_lowered" ["_law_tape_here", "_law_p", "_law_table"] 2 p__law_lowered:=fun rl=>K66.d__law_lowered T.f__law_lowered T.bz d__law_pick  
  have d__law_first_lower:∀ rl,Dfn P w K mg base rl "_law_first_lower" ["_law_tables"] 1 p__law_first_lower:=fun rl=>K66.d__law_first_lower T.f__law_first_lower T.bz   
  exact law_body T.bz d__law_tape d__law_size d_points_of_tables d__law_upper d__law_pick d__law_told d__law_first_lower d__law_sum_table d__law_lowered d__law_power   F
end
theorem us_0 {us:List Value} (hl:us.length = 0):us = []:=List.eq_nil_of_length_eq_zero hl
theorem us_1 {us:List Value} (hl:us.length = 1):∃ a0,us = [a0]:=by
  cases us with
  | nil=>cases hl
  | cons a0 t=>cases us_0 (Nat.succ.inj hl); exact ⟨a0,rfl⟩
theorem us_2 {us:List Value} (hl:us.length = 2):∃ a0 a1,us = [a0,a1]:=by
  cases us with
  | nil=>cases hl
  | cons a0 t=>obtain ⟨a1,rfl⟩:=us_1 (Nat.succ.inj hl); exact ⟨a0,a1,rfl⟩
theorem us_3 {us:List Value} (hl:us.length = 3):∃ a0 a1 a2,us = [a0,a1,a2]:=by
  cases us with
  | nil=>cases hl
  | cons a0 t=>obtain ⟨a1,a2,rfl⟩:=us_2 (Nat.succ.inj hl); exact ⟨a0,a1,a2,rfl⟩
theorem fin_mk {K:PySem.W.Frag} {h:Heap} {mg:Str -> Option Value} (X:K.In h) (G:h.Ns mainGlobals mg) {x:Str} {st:Stmt} {ps:List Str} {f:Addr} {oc kV dc pm cd ct:Value} {od an:Option Addr} {sl:Array (Option Value)} (a:PySem.W.nsIn K mainGlobals x = some (some (.ref f))) (l:K.lookup f = some ⟨oc,od,.func (PySem.W.fnOf x x (defArgs st) (defBody st) (defScope st) .none kV dc pm an cd ct),sl⟩) (c:PySem.W.codeIn K cd x = true) (k:PySem.W.keepIn K (.ref f) = true) (hb:∀ (kV doc pm:Value) (an:Option Addr) (cdv ct:Value) (us:List Value),us.length = ps.length -> bindArgs (PySem.W.fnOf x x (defArgs st) (defBody st) (defScope st) .none kV doc pm an cdv ct) ⟨us,[]⟩ = pure (ps.zip us)):FnIn K mg x st ps:=⟨⟨f,_,PySem.W.mg_of X G a,fun_mk l c k,(fun_mk l c k).binds hb⟩⟩
abbrev NI (K:PySem.W.Frag) (x:Str) (f:Addr):Prop:=PySem.W.nsIn K mainGlobals x = some (some (.ref f))
abbrev NZ (K:PySem.W.Frag) (x:Str):Prop:=PySem.W.nsIn K mainGlobals x = some none
abbrev LK (K:PySem.W.Frag) (x:Str) (st:Stmt) (f:Addr) (oc:Value) (od:Option Addr) (kV dc pm:Value) (an:Option Addr) (cd ct:Value) (sl:Array (Option Value)):Prop:=K.lookup f = some ⟨oc,od,.func (PySem.W.fnOf x x (defArgs st) (defBody st) (defScope st) .none kV dc pm an cd ct),sl⟩
theorem all_mk {l:PySem.W.OpenLaw} {w:World} {K:PySem.W.Frag} {h:Heap} {mg:Str -> Option Value} {fa:Addr} (X:K.In h) (G:h.Ns mainGlobals mg) (hfa:mg "law" = some (.ref fa))
    {f1 f2 f3 f4 f5 f6 f7 f8 f9 f10 f11 f12 f13 f14 f15 f16 f17 f18 f19 f20 f21 f22:Addr} {od1 an1 od2 an2 od3 an3 od4 an4 od5 an5 od6 an6 od7 an7 od8 an8 od9 an9 od10 an10 od11 an11 od12 an12 od13 an13 od14 an14 od15 an15 od16 an16 od17 an17 od18 an18 od19 an19 od20 an20 od21 an21 od22 an22:Option Addr} {sl1 sl2 sl3 sl4 sl5 sl6 sl7 sl8 sl9 sl10 sl11 sl12 sl13 sl14 sl15 sl16 sl17 sl18 sl19 sl20 sl21 sl22:Array (Option Value)} {oc1 kV1 dc1 pm1 cd1 ct1 oc2 kV2 dc2 pm2 cd2 ct2 oc3 kV3 dc3 pm3 cd3 ct3 oc4 kV4 dc4 pm4 cd4 ct4 oc5 kV5 dc5 pm5 cd5 ct5 oc6 kV6 dc6 pm6 cd6 ct6 oc7 kV7 dc7 pm7 cd7 ct7 oc8 kV8 dc8 pm8 cd8 ct8 oc9 kV9 dc9 pm9 cd9 ct9 oc10 kV10 dc10 pm10 cd10 ct10 oc11 kV11 dc11 pm11 cd11 ct11 oc12 kV12 dc12 pm12 cd12 ct12 oc13 kV13 dc13 pm13 cd13 ct13 oc14 kV14 dc14 pm14 cd14 ct14 oc15 kV15 dc15 pm15 cd15 ct15 oc16 kV16 dc16 pm16 cd16 ct16 oc17 kV17 dc17 pm17 cd17 ct17 oc18 kV18 dc18 pm18 cd18 ct18 oc19 kV19 dc19 pm19 cd19 ct19 oc20 kV20 dc20 pm20 cd20 ct20 oc21 kV21 dc21 pm21 cd21 ct21 oc22 kV22 dc22 pm22 cd22 ct22:Value} {xC_NoUpper xB_NoUpper xF_NoUpper x1_NoUpper x2_NoUpper x3_NoUpper x4_NoUpper x5_NoUpper x6_NoUpper x7_NoUpper x8_NoUpper:Addr} {xod_NoUpper xan_NoUpper:Option Addr} {xsl_NoUpper:Array (Option Value)} {xoc_NoUpper xkV_NoUpper xdc_NoUpper xpm_NoUpper xcd_NoUpper xct_NoUpper:Value}
    (a1:NI K "_law_tape" f1) (l1:LK K "_law_tape" (top 29) f1 oc1 od1 kV1 dc1 pm1 an1 cd1 ct1 sl1) (c1:PySem.W.codeIn K cd1 "_law_tape" = true) (k1:PySem.W.keepIn K (.ref f1) = true) (a2:NI K "_law_pick" f2) (l2:LK K "_law_pick" (top 30) f2 oc2 od2 kV2 dc2 pm2 an2 cd2 ct2 sl2) (c2:PySem.W.codeIn K cd2 "_law_pick" = true) (k2:PySem.W.keepIn K (.ref f2) = true) (a3:NI K "common_divisor" f3) (l3:LK K "common_divisor" (top 12) f3 oc3 od3 kV3 dc3 pm3 an3 cd3 ct3 sl3) (c3:PySem.W.codeIn K cd3 "common_divisor" = true) (k3:PySem.W.keepIn K (.ref f3) = true) (a4:NI K "fraction" f4) (l4:LK K "fraction" (top 13) f4 oc4 od4 kV4 dc4 pm4 an4 cd4 ct4 sl4) (c4:PySem.W.codeIn K cd4 "fraction" = true) (k4:PySem.W.keepIn K (.ref f4) = true) (a5:NI K "power" f5) (l5:LK K "power" (top 15) f5 oc5 od5 kV5 dc5 pm5 an5 cd5 ct5 sl5) (c5:PySem.W.codeIn K cd5 "power" = true) (k5:PySem.W.keepIn K (.ref f5) = true) (a6:NI K "_law_power" f6) (l6:LK K "_law_power" (top 32) f6 oc6 od6 kV6 dc6 pm6 an6 cd6 ct6 sl6) (c6:PySem.W.codeIn K cd6 "_law_power" = true) (k6:PySem.W.keepIn K (.ref f6) = true) (a7:NI K "figures_of" f7) (l7:LK K "figures_of" (top 16) f7 oc7 od7 kV7 dc7 pm7 an7 cd7 ct7 sl7) (c7:PySem.W.codeIn K cd7 "figures_of" = true) (k7:PySem.W.keepIn K (.ref f7) = true) (a8:NI K "figures_in" f8) (l8:LK K "figures_in" (top 17) f8 oc8 od8 kV8 dc8 pm8 an8 cd8 ct8 sl8) (c8:PySem.W.codeIn K cd8 "figures_in" = true) (k8:PySem.W.keepIn K (.ref f8) = true) (a9:NI K "_law_size" f9) (l9:LK K "_law_size" (top 31) f9 oc9 od9 kV9 dc9 pm9 an9 cd9 ct9 sl9) (c9:PySem.W.codeIn K cd9 "_law_size" = true) (k9:PySem.W.keepIn K (.ref f9) = true) (a10:NI K "product_sum" f10) (l10:LK K "product_sum" (top 20) f10 oc10 od10 kV10 dc10 pm10 an10 cd10 ct10 sl10) (c10:PySem.W.codeIn K cd10 "product_sum" = true) (k10:PySem.W.keepIn K (.ref f10) = true) (a11:NI K "applied" f11) (l11:LK K "applied" (top 21) f11 oc11 od11 kV11 dc11 pm11 an11 cd11 ct11 sl11) (c11:PySem.W.codeIn K cd11 "applied" = true) (k11:PySem.W.keepIn K (.ref f11) = true) (a12:NI K "number_of" f12) (l12:LK K "number_of" (top 18) f12 oc12 od12 kV12 dc12 pm12 an12 cd12 ct12 sl12) (c12:PySem.W.codeIn K cd12 "number_of" = true) (k12:PySem.W.keepIn K (.ref f12) = true) (a13:NI K "table_number" f13) (l13:LK K "table_number" (top 23) f13 oc13 od13 kV13 dc13 pm13 an13 cd13 ct13 sl13) (c13:PySem.W.codeIn K cd13 "table_number" = true) (k13:PySem.W.keepIn K (.ref f13) = true) (a14:NI K "points_of_tables" f14) (l14:LK K "points_of_tables" (top 24) f14 oc14 od14 kV14 dc14 pm14 an14 cd14 ct14 sl14) (c14:PySem.W.codeIn K cd14 "points_of_tables" = true) (k14:PySem.W.keepIn K (.ref f14) = true) (a15:NI K "_law_sum_table" f15) (l15:LK K "_law_sum_table" (top 33) f15 oc15 od15 kV15 dc15 pm15 an15 cd15 ct15 sl15) (c15:PySem.W.codeIn K cd15 "_law_sum_table" = true) (k15:PySem.W.keepIn K (.ref f15) = true) (a16:NI K "is_upper" f16) (l16:LK K "is_upper" (top 26) f16 oc16 od16 kV16 dc16 pm16 an16 cd16 ct16 sl16) (c16:PySem.W.codeIn K cd16 "is_upper" = true) (k16:PySem.W.keepIn K (.ref f16) = true) (a17:NI K "_law_told" f17) (l17:LK K "_law_told" (top 36) f17 oc17 od17 kV17 dc17 pm17 an17 cd17 ct17 sl17) (c17:PySem.W.codeIn K cd17 "_law_told" = true) (k17:PySem.W.keepIn K (.ref f17) = true) (a18:NI K "_law_upper" f18) (l18:LK K "_law_upper" (top 34) f18 oc18 od18 kV18 dc18 pm18 an18 cd18 ct18 sl18) (c18:PySem.W.codeIn K cd18 "_law_upper" = true) (k18:PySem.W.keepIn K (.ref f18) = true) (a19:NI K "_law_lowered" f19) (l19:LK K "_law_lowered" (top 35) f19 oc19 od19 kV19 dc19 pm19 an19 cd19 ct19 sl19) (c19:PySem.W.codeIn K cd19 "_law_lowered" = true) (k19:PySem.W.keepIn K (.ref f19) = true) (a20:NI K "_law_first_lower" f20) (l20:LK K "_law_first_lower" (top 37) f20 oc20 od20 kV20 dc20 pm20 an20 cd20 ct20 sl20) (c20:PySem.W.codeIn K cd20 "_law_first_lower" = true) (k20:PySem.W.keepIn K (.ref f20) = true) (a21:NI K "beginning" f21) (l21:LK K "beginning" (top 27) f21 oc21 od21 kV21 dc21 pm21 an21 cd21 ct21 sl21) (c21:PySem.W.codeIn K cd21 "beginning" = true) (k21:PySem.W.keepIn K (.ref f21) = true) (a22:NI K "law" f22) (l22:LK K "law" (top 38) f22 oc22 od22 kV22 dc22 pm22 an22 cd22 ct22 sl22) (c22:PySem.W.codeIn K cd22 "law" = true) (k22:PySem.W.keepIn K (.ref f22) = true)
    (z_int:NZ K "int") (z_bool:NZ K "bool") (z_str:NZ K "str") (z_list:NZ K "list") (z_tuple:NZ K "tuple") (z_dict:NZ K "dict") (z_isinstance:NZ K "isinstance") (z_len:NZ K "len") (z_abs:NZ K "abs") (z_repr:NZ K "repr") (z_range:NZ K "range") (z_all:NZ K "all") (z_any:NZ K "any") (z_sum:NZ K "sum") (z_min:NZ K "min") (z_max:NZ K "max") (z_sorted:NZ K "sorted") (z_zip:NZ K "zip") (z_enumerate:NZ K "enumerate") (z_reversed:NZ K "reversed") (z_divmod:NZ K "divmod") (z_set:NZ K "set")   (xa_NoUpper:PySem.W.nsIn K mainGlobals "NoUpper" = some (some (.ref xC_NoUpper))) (xb_NoUpper:PySem.W.nsIn K mainGlobals "NoUpper" = some (some (.ref xB_NoUpper))) (xi_NoUpper:PySem.W.findIn K (.ref xC_NoUpper) "__init__" = some (some (.ref xF_NoUpper))) (xl_NoUpper:K.lookup xF_NoUpper = some ⟨xoc_NoUpper,xod_NoUpper,.func (PySem.W.fnOf "__init__" "NoUpper.__init__" (defArgs (inClass (top 8) 0)) (defBody (inClass (top 8) 0)) (defScope (inClass (top 8) 0)) .none xkV_NoUpper xdc_NoUpper xpm_NoUpper xan_NoUpper xcd_NoUpper xct_NoUpper),xsl_NoUpper⟩) (xd_NoUpper:PySem.W.codeIn K xcd_NoUpper "NoUpper.__init__" = true) (xk_NoUpper:PySem.W.keepIn K (.ref xF_NoUpper) = true) (xo1_NoUpper:PySem.W.nsIn K mainGlobals "NoDeed" = some (some (.ref x1_NoUpper))) (xo2_NoUpper:PySem.W.nsIn K mainGlobals "NoNet" = some (some (.ref x2_NoUpper))) (xo3_NoUpper:PySem.W.nsIn K mainGlobals "NoPaper" = some (some (.ref x3_NoUpper))) (xo4_NoUpper:PySem.W.nsIn K mainGlobals "NoRoom" = some (some (.ref x4_NoUpper))) (xo5_NoUpper:PySem.W.nsIn K mainGlobals "NoRow" = some (some (.ref x5_NoUpper))) (xo6_NoUpper:PySem.W.nsIn K mainGlobals "NoText" = some (some (.ref x6_NoUpper))) (xo7_NoUpper:PySem.W.nsIn K mainGlobals "Nought" = some (some (.ref x7_NoUpper))) (xo8_NoUpper:PySem.W.nsIn K mainGlobals "TooMany" = some (some (.ref x8_NoUpper))) (xv_NoUpper:NZ K "ValueError") (xx_NoUpper:xAll K xC_NoUpper xB_NoUpper xF_NoUpper "number" [x1_NoUpper,x2_NoUpper,x3_NoUpper,x4_NoUpper,x5_NoUpper,x6_NoUpper,x7_NoUpper,x8_NoUpper] = true) :
    ∃ fd:FuncData,(∀ (s:Shared) (v:Value),BindsTo s fd ⟨[v],[]⟩ [("_law_script", v)]) /\ ∀ base:Heap,K.In base -> base.Ns mainGlobals mg -> FnOk l.prog w K mg base CX0 6 fa fd ["_law_script"] (spLaw2 K):=by
  have e:=hfa.symm.trans (PySem.W.mg_of X G a22)
  cases e
  have B:Bz mg:=⟨PySem.W.mg_none_of X G z_int,PySem.W.mg_none_of X G z_bool,PySem.W.mg_none_of X G z_str,PySem.W.mg_none_of X G z_list,PySem.W.mg_none_of X G z_tuple,PySem.W.mg_none_of X G z_dict,PySem.W.mg_none_of X G z_isinstance,PySem.W.mg_none_of X G z_len,PySem.W.mg_none_of X G z_abs,PySem.W.mg_none_of X G z_repr,PySem.W.mg_none_of X G z_range,PySem.W.mg_none_of X G z_all,PySem.W.mg_none_of X G z_any,PySem.W.mg_none_of X G z_sum,PySem.W.mg_none_of X G z_min,PySem.W.mg_none_of X G z_max,PySem.W.mg_none_of X G z_sorted,PySem.W.mg_none_of X G z_zip,PySem.W.mg_none_of X G z_enumerate,PySem.W.mg_none_of X G z_reversed,PySem.W.mg_none_of X G z_divmod,PySem.W.mg_none_of X G z_set⟩
  have T:Txt K mg:=⟨B,(fin_mk X G a1 l1 c1 k1 fun _ _ _ _ _ _ us hl=>(by obtain ⟨_,_,rfl⟩:=us_2 hl; exact rfl)),(fin_mk X G a2 l2 c2 k2 fun _ _ _ _ _ _ us hl=>(by obtain ⟨_,_,rfl⟩:=us_2 hl; exact rfl)),(fin_mk X G a3 l3 c3 k3 fun _ _ _ _ _ _ us hl=>(by obtain ⟨_,_,rfl⟩:=us_2 hl; exact rfl)),(fin_mk X G a4 l4 c4 k4 fun _ _ _ _ _ _ us hl=>(by obtain ⟨_,_,rfl⟩:=us_2 hl; exact rfl)),(fin_mk X G a5 l5 c5 k5 fun _ _ _ _ _ _ us hl=>(by obtain ⟨_,_,rfl⟩:=us_2 hl; exact rfl)),(fin_mk X G a6 l6 c6 k6 fun _ _ _ _ _ _ us hl=>(by obtain ⟨_,_,rfl⟩:=us_2 hl; exact rfl)),(fin_mk X G a7 l7 c7 k7 fun _ _ _ _ _ _ us hl=>(by obtain ⟨_,_,rfl⟩:=us_2 hl; exact rfl)),(fin_mk X G a8 l8 c8 k8 fun _ _ _ _ _ _ us hl=>(by obtain ⟨_,_,_,rfl⟩:=us_3 hl; exact rfl)),(fin_mk X G a9 l9 c9 k9 fun _ _ _ _ _ _ us hl=>(by obtain ⟨_,rfl⟩:=us_1 hl; exact rfl)),(fin_mk X G a10 l10 c10 k10 fun _ _ _ _ _ _ us hl=>(by obtain ⟨_,_,_,rfl⟩:=us_3 hl; exact rfl)),(fin_mk X G a11 l11 c11 k11 fun _ _ _ _ _ _ us hl=>(by obtain ⟨_,_,_,rfl⟩:=us_3 hl; exact rfl)),(fin_mk X G a12 l12 c12 k12 fun _ _ _ _ _ _ us hl=>(by obtain ⟨_,_,rfl⟩:=us_2 hl; exact rfl)),(fin_mk X G a13 l13 c13 k13 fun _ _ _ _ _ _ us hl=>(by obtain ⟨_,_,_,rfl⟩:=us_3 hl; exact rfl)),(fin_mk X G a14 l14 c14 k14 fun _ _ _ _ _ _ us hl=>(by obtain ⟨_,_,rfl⟩:=us_2 hl; exact rfl)),(fin_mk X G a15 l15 c15 k15 fun _ _ _ _ _ _ us hl=>(by obtain ⟨_,_,_,rfl⟩:=us_3 hl; exact rfl)),(fin_mk X G a16 l16 c16 k16 fun _ _ _ _ _ _ us hl=>(by obtain ⟨_,rfl⟩:=us_1 hl; exact rfl)),(fin_mk X G a17 l17 c17 k17 fun _ _ _ _ _ _ us hl=>(by obtain ⟨_,_,rfl⟩:=us_2 hl; exact rfl)),(fin_mk X G a18 l18 c18 k18 fun _ _ _ _ _ _ us hl=>(by obtain ⟨_,_,_,rfl⟩:=us_3 hl; exact rfl)),(fin_mk X G a19 l19 c19 k19 fun _ _ _ _ _ _ us hl=>(by obtain ⟨_,_,_,rfl⟩:=us_3 hl; exact rfl)),(fin_mk X G a20 l20 c20 k20 fun _ _ _ _ _ _ us hl=>(by obtain ⟨_,rfl⟩:=us_1 hl; exact rfl)),(fin_mk X G a21 l21 c21 k21 fun _ _ _ _ _ _ us hl=>(by obtain ⟨_,_,rfl⟩:=us_2 hl; exact rfl)),.mk' xa_NoUpper (PySem.W.mg_of X G xa_NoUpper) (PySem.W.mg_of X G xb_NoUpper) xi_NoUpper (fun_mk (st:=(inClass (top 8) 0)) xl_NoUpper xd_NoUpper xk_NoUpper) ((fun_mk (st:=(inClass (top 8) 0)) xl_NoUpper xd_NoUpper xk_NoUpper).binds (ps:=["self", "number"]) fun _ _ _ _ _ _ us hl=>(by obtain ⟨_,_,rfl⟩:=us_2 hl; exact rfl)) (.cons (PySem.W.mg_of X G xo1_NoUpper) (.cons (PySem.W.mg_of X G xo2_NoUpper) (.cons (PySem.W.mg_of X G xo3_NoUpper) (.cons (PySem.W.mg_of X G xo4_NoUpper) (.cons (PySem.W.mg_of X G xo5_NoUpper) (.cons (PySem.W.mg_of X G xo6_NoUpper) (.cons (PySem.W.mg_of X G xo7_NoUpper) (.cons (PySem.W.mg_of X G xo8_NoUpper) .nil)))))))) (PySem.W.mg_none_of X G xv_NoUpper) xx_NoUpper⟩
  have FL:=fun_mk (st:=top 38) l22 c22 k22
  exact ⟨_,fun s v=>.of_eq rfl,fun base _ _=>ok_law FL T ⟩
theorem walk {l:PySem.W.OpenLaw} {q:Program} {loose:List Str} {XP:(Str -> Option Value) -> Heap -> Prop} {YP:World -> Heap -> Prop} {d:DefRec} {K:Params -> PySem.W.Frag} (hn:l.most = some 63) (hdf:d.params.defaults = [])
    (hY:∀ (w:World) (h:Heap),YP w h -> (K w.params).In h)
    (F:∀ (w:World) (mg:Str -> Option Value) (fa:Addr) (h:Heap),(K w.params).In h -> h.Ns mainGlobals mg -> mg d.name = some (.ref fa) ->
      ∃ fd:FuncData,(∀ (s:Shared) (u:Value),BindsTo s fd ⟨[u],[]⟩ [("_law_script", u)]) /\ ∀ base:Heap,(K w.params).In base -> base.Ns mainGlobals mg -> FnOk l.prog w (K w.params) mg base CX0 6 fa fd ["_law_script"] (spLaw2 (K w.params))) :
    PySem.W.WalkO q loose XP YP l.row.toRowW d [] (fun f vs=>PySem.call f vs) :=
  L2.walk_of (n:=63) (k:=6) (x := "_law_script") (CX:=fun _=>CX0) (sp:=fun w=>spLaw2 (K w.params)) hn (by decide) hdf ⟨rfl,by decide,by decide,rfl⟩ hY F (fun _ _ a ns hl _ hS=>⟨a,ns,rfl,hS,hl,fun _=>rfl⟩) fun _ _ _ _ _ z=>z
end K66
noncomputable def PySem.W.Fast.tw15309759911713424262:PySem.Params -> PySem.W.Frag:=K66.heapK
theorem PySem.W.Fast.te15309759911713424262:K66.heapK = PySem.W.Fast.tw15309759911713424262:=rfl
open PySem PySem.W PyProof.Rows
set_option maxRecDepth 100000 in
set_option maxHeartbeats 0 in
theorem PySem.Challenge.cw_evenpoints_k66_beginnings_holds : PySem.Challenge.rw_evenpoints_k66_beginnings.Holds := by
  refine (congrArg PySem.W.OpenLaw.Holds K66.rw_eq).mpr ?_
  w_on; o_law
  refine holds_open (loose:=[]) (XP:=XL K66.zview []) (YP:=Hook.says (kHook K66.heapK K66.heapA K66.heapE)) K66.zleft
    (Hook.of _) (Hook.keeps _) (fun s e=>xl_of s (Bool.and_eq_true_iff.mp e).1)
    XL.keeps (by rfl) (by rfl) (by rfl) (fun s e=>recFacts_of (Bool.and_eq_true_iff.mp e).2) (by rfl)
    (by first | assumption | decide +kernel) (by decide +kernel) ⟨rfl,rfl,rfl,rfl,rfl,by decide +kernel⟩ ?hw ?hc
  (case hw=>w_witness2)
  k_fill
  refine K66.walk (l:=K66.rwN) rfl rfl (fun w h Y=>PySem.W.kIn_of (as:=K66.heapA) (e:=K66.heapE) Y) ?F
  case F =>
    intro w mg fa h KX G hmg
    refine' K66.all_mk KX G hmg ?a1 ?l1 ?c1 ?k1 ?a2 ?l2 ?c2 ?k2 ?a3 ?l3 ?c3 ?k3 ?a4 ?l4 ?c4 ?k4 ?a5 ?l5 ?c5 ?k5 ?a6 ?l6 ?c6 ?k6 ?a7 ?l7 ?c7 ?k7 ?a8 ?l8 ?c8 ?k8 ?a9 ?l9 ?c9 ?k9 ?a10 ?l10 ?c10 ?k10 ?a11 ?l11 ?c11 ?k11 ?a12 ?l12 ?c12 ?k12 ?a13 ?l13 ?c13 ?k13 ?a14 ?l14 ?c14 ?k14 ?a15 ?l15 ?c15 ?k15 ?a16 ?l16 ?c16 ?k16 ?a17 ?l17 ?c17 ?k17 ?a18 ?l18 ?c18 ?k18 ?a19 ?l19 ?c19 ?k19 ?a20 ?l20 ?c20 ?k20 ?a21 ?l21 ?c21 ?k21 ?a22 ?l22 ?c22 ?k22 ?zint ?zbool ?zstr ?zlist ?ztuple ?zdict ?zisinstance ?zlen ?zabs ?zrepr ?zrange ?zall ?zany ?zsum ?zmin ?zmax ?zsorted ?zzip ?zenumerate ?zreversed ?zdivmod ?zset   ?xa_NoUpper ?xb_NoUpper ?xi_NoUpper ?xl_NoUpper ?xd_NoUpper ?xk_NoUpper ?xo1_NoUpper ?xo2_NoUpper ?xo3_NoUpper ?xo4_NoUpper ?xo5_NoUpper ?xo6_NoUpper ?xo7_NoUpper ?xo8_NoUpper ?xv_NoUpper ?xx_NoUpper
    all_goals (try change _ = _)
    (case a1=>k_is); (case l1=>k_is); (case c1=>k_is); (case k1=>k_is)
    (case a2=>k_is); (case l2=>k_is); (case c2=>k_is); (case k2=>k_is)
    (case a3=>k_is); (case l3=>k_is); (case c3=>k_is); (case k3=>k_is)
    (case a4=>k_is); (case l4=>k_is); (case c4=>k_is); (case k4=>k_is)
    (case a5=>k_is); (case l5=>k_is); (case c5=>k_is); (case k5=>k_is)
    (case a6=>k_is); (case l6=>k_is); (case c6=>k_is); (case k6=>k_is)
    (case a7=>k_is); (case l7=>k_is); (case c7=>k_is); (case k7=>k_is)
    (case a8=>k_is); (case l8=>k_is); (case c8=>k_is); (case k8=>k_is)
    (case a9=>k_is); (case l9=>k_is); (case c9=>k_is); (case k9=>k_is)
    (case a10=>k_is); (case l10=>k_is); (case c10=>k_is); (case k10=>k_is)
    (case a11=>k_is); (case l11=>k_is); (case c11=>k_is); (case k11=>k_is)
    (case a12=>k_is); (case l12=>k_is); (case c12=>k_is); (case k12=>k_is)
    (case a13=>k_is); (case l13=>k_is); (case c13=>k_is); (case k13=>k_is)
    (case a14=>k_is); (case l14=>k_is); (case c14=>k_is); (case k14=>k_is)
    (case a15=>k_is); (case l15=>k_is); (case c15=>k_is); (case k15=>k_is)
    (case a16=>k_is); (case l16=>k_is); (case c16=>k_is); (case k16=>k_is)
    (case a17=>k_is); (case l17=>k_is); (case c17=>k_is); (case k17=>k_is)
    (case a18=>k_is); (case l18=>k_is); (case c18=>k_is); (case k18=>k_is)
    (case a19=>k_is); (case l19=>k_is); (case c19=>k_is); (case k19=>k_is)
    (case a20=>k_is); (case l20=>k_is); (case c20=>k_is); (case k20=>k_is)
    (case a21=>k_is); (case l21=>k_is); (case c21=>k_is); (case k21=>k_is)
    (case a22=>k_is); (case l22=>k_is); (case c22=>k_is); (case k22=>k_is)
    (case zint=>k_is)
    (case zbool=>k_is)
    (case zstr=>k_is)
    (case zlist=>k_is)
    (case ztuple=>k_is)
    (case zdict=>k_is)
    (case zisinstance=>k_is)
    (case zlen=>k_is)
    (case zabs=>k_is)
    (case zrepr=>k_is)
    (case zrange=>k_is)
    (case zall=>k_is)
    (case zany=>k_is)
    (case zsum=>k_is)
    (case zmin=>k_is)
    (case zmax=>k_is)
    (case zsorted=>k_is)
    (case zzip=>k_is)
    (case zenumerate=>k_is)
    (case zreversed=>k_is)
    (case zdivmod=>k_is)
    (case zset=>k_is)
    (case xa_NoUpper=>k_is)
    (case xb_NoUpper=>k_is)
    (case xi_NoUpper=>k_is)
    (case xl_NoUpper=>k_is)
    (case xd_NoUpper=>k_is)
    (case xk_NoUpper=>k_is)
    (case xo1_NoUpper=>k_is)
    (case xo2_NoUpper=>k_is)
    (case xo3_NoUpper=>k_is)
    (case xo4_NoUpper=>k_is)
    (case xo5_NoUpper=>k_is)
    (case xo6_NoUpper=>k_is)
    (case xo7_NoUpper=>k_is)
    (case xo8_NoUpper=>k_is)
    (case xv_NoUpper=>k_is)
    (case xx_NoUpper=>kernel_rfl)

