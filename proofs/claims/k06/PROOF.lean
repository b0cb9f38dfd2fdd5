import PyProof.Rows.All
import Wide.All
import OpenK.AllK
import Wide.FinOn
import Lean
import PyProof.EqAt
import PyProof.EqKinds
import PyProof.TupleCall
import KE.KDictSum
import KE.KMinKey
import PyProof.Rows.CallKwBuiltin
import PySem.Challenge.RW_evenpoints_k06_simplest_between
set_option Elab.async false
set_option linter.all false
set_option maxRecDepth 100000
set_option maxHeartbeats 4000000
namespace L2
open PySem
def inClass (s:Stmt) (j:Nat):Stmt:=match s with
  | .ClassDef _ _ _ body _ _ _ _ _ _ _=>body.getD j (.Pass ⟨0,0,0,0⟩)
  | _=>.Pass ⟨0,0,0,0⟩
def defArgs (s:Stmt):Arguments:=match s with
  | .FunctionDef _ a _ _ _ _ _ _ _ _=>a
  | _=>{ posonlyargs:=[],args:=[],vararg:=none,kwonlyargs:=[],kw_defaults:=[],kwarg:=none,defaults:=[] }
def defBody (s:Stmt):List Stmt:=match s with
  | .FunctionDef _ _ b _ _ _ _ _ _ _=>b
  | _=>[]
def defScope (s:Stmt):Scope:=match s with
  | .FunctionDef _ _ _ _ _ _ sc _ _ _=>sc
  | _=>{ kind:=.function,names:=[],isGenerator:=false,isCoroutine:=false }
end L2
namespace L2.TT
open PySem PySem.W
def goT (tb:String -> Option Builtin) (p:Program) (w:World) (m:Nat) (ann:Option Value):Nat -> SharedT -> Thread -> Option SharedT
  | 0,_,_=>none
  | n + 1,s,t=>match through t with
    | true=>some s
    | false=>match stepOk m ann t with
      | false=>none
      | true=>match stepT (denote tb) p w s t with
        | some r=>goT tb p w m ann n r.1 r.2
        | none=>none
theorem goT_of {tb:String -> Option Builtin} {p:Program} {w:World} {m:Nat} {ann:Option Value}:∀ {n:Nat} {s s':SharedT} {t:Thread},goT tb p w m ann n s t = some s' -> topRun tb p w m ann n s.abs t = some s'.abs
  | 0,_,_,_,h=>by cases h
  | n + 1,s,s',t,h=>by
    unfold goT at h
    unfold topRun
    cases he:through t with
    | true=>rw [he] at h; cases h; rfl
    | false =>
      rw [he] at h
      cases hk:stepOk m ann t with
      | false=>rw [hk] at h; cases h
      | true =>
        rw [hk] at h
        cases hs:stepT (denote tb) p w s t with
        | none=>rw [hs] at h; cases h
        | some r=>rw [hs] at h; rw [stepT_spec hs]; exact goT_of h
def bt (os:List Obj):Nat -> Nat -> Nat -> BT
  | 0,_,_=>.nil
  | f + 1,a,b=>match os[b]? with
    | some o=>.node o (bt os f (2 * a) (a + b)) (bt os f (2 * a) (2 * a + b))
    | none=>.nil
theorem boot_abs (P:Params):absHeap (bt (boot_heap P).objs.toList 12 1 0) (boot_heap P).objs.size (boot_heap P).life = boot_heap P:=by kernel_rfl
abbrev looks (p q:Program) (loose:List Str) (Xt:Shared -> Bool) {α:Type} (Yf:Shared -> α) (h₀:Heap) (s:Shared) :=
  (staticsOk (importedModules p.main.body) h₀ s.heap && namesBound p s.heap && gensDone s && laidKept h₀ s.heap,openSeen q loose (importedModules p.main.body) Xt true s,Yf s)
theorem left_of {p q:Program} {loose:List Str} {Xt:Shared -> Bool} {α:Type} {Yf:Shared -> α} {Ya:World -> α} {N m M:Nat} {ann:Option Value}
    (e:opening p = plainProg p.main.scope.names) (hN:Nat.ble 600 N = true) (f:∀ s,fenceModules? p s = some s) (le:Nat.ble M N = true)
    (size:∀ w:World,((boot_heap w.params).isNs mainGlobals,(boot_heap w.params).objs.size,(boot_heap w.params).nsMap mainGlobals "__annotations__") = (true,m,ann))
    (run:∀ (w:World) (os:OsState),(goT treeTable p w m ann M ⟨bt (boot_heap w.params).objs.toList 12 1 0,(boot_heap w.params).objs.size,(boot_heap w.params).life,Array.mk [],boot_drawn,boot_toks,os⟩ (topStub p)).map (fun s=>looks p q loose Xt Yf (boot_heap w.params) s.abs) = some (true,openGood q loose,Ya w)) :
    LeftO p q loose Xt Yf Ya N:=fun w=>by
  obtain ⟨⟨h,gs,d,k,os⟩,eo,e'⟩:=Option.map_eq_some_iff.mp (boot_open e hN f w)
  obtain ⟨rfl,rfl,rfl,rfl⟩:h = boot_heap w.params /\ gs = Array.mk [] /\ d = boot_drawn /\ k = boot_toks:=by simpa using e'
  obtain ⟨z1,z2,z3⟩:_ /\ _ /\ _:=by simpa only [Prod.mk.injEq] using size w
  obtain ⟨s',r,l⟩:=Option.map_eq_some_iff.mp (run w os)
  obtain ⟨l1,l2,l3⟩:_ /\ _ /\ _:=by simpa only [looks,Prod.mk.injEq] using l
  have r:=goT_of r
  have hb:SharedT.abs ⟨bt (boot_heap w.params).objs.toList 12 1 0,(boot_heap w.params).objs.size,(boot_heap w.params).life,Array.mk [],boot_drawn,boot_toks,os⟩ = ⟨boot_heap w.params,Array.mk [],boot_drawn,boot_toks,os⟩:=by
    show Shared.mk (absHeap _ _ _) _ _ _ _ = _
    rw [boot_abs]
  rw [hb] at r
  have r:=topRun_mono (N - M) _ _ _ _ r
  rw [show M + (N - M) = N by have:=Nat.le_of_ble_eq_true le; omega] at r
  have t:topFrom treeTable p w N ⟨boot_heap w.params,Array.mk [],boot_drawn,boot_toks,os⟩ = some s'.abs:=by
    unfold topFrom
    dsimp only
    rw [z1,z2,z3,r]
    show (match staticsOk (importedModules p.main.body) (boot_heap w.params) s'.abs.heap && namesBound p s'.abs.heap && gensDone s'.abs && laidKept (boot_heap w.params) s'.abs.heap with | true=>_ | false=>_) = _
    rw [l1]
  unfold openEnds
  rw [eo]
  show (topFrom treeTable p w N _).map _ = _
  rw [t]
  exact congrArg some (Prod.ext l2 l3)
end L2.TT
namespace K06
open PySem
def top (i:Nat):Stmt:=PySem.Challenge.pw_evenpoints_k06_simplest_between.main.body.getD i (.Pass ⟨0,0,0,0⟩)
end K06
def PySem.W.Fast.tw7708204508413024130:PySem.Program:=PySem.Challenge.pw_evenpoints_k06_simplest_between
theorem PySem.W.Fast.te7708204508413024130:PySem.Challenge.pw_evenpoints_k06_simplest_between = PySem.W.Fast.tw7708204508413024130:=rfl
namespace K06
open PySem PySem.W L2
def zs0:Stmt:=top 0
def zs1:Stmt:=top 1
def zs2:Stmt:=top 2
def zs3:Stmt:=top 3
def zs4:Stmt:=top 4
def zs5:Stmt:=top 5
def zs6:Stmt:=top 6
def zs7:Stmt:=top 7
def zs8:Stmt:=top 8
def zs9:Stmt:=top 9
def zs10:Stmt:=top 10
def zs11:Stmt:=top 11
def zs12:Stmt:=top 12
def zs13:Stmt:=top 13
def zs14:Stmt:=top 14
def zs15:Stmt:=top 15
def zs16:Stmt:=top 16
def zs17:Stmt:=top 17
def zs18:Stmt:=top 18
def zs19:Stmt:=top 19
def zs20:Stmt:=top 20
def zs21:Stmt:=top 21
def zs22:Stmt:=top 22
def zs23:Stmt:=top 23
def zs24:Stmt:=top 24
def zs25:Stmt:=top 25
def zs26:Stmt:=top 26
def zs27:Stmt:=top 27
def zs28:Stmt:=top 28
def pwN:Program:={ PySem.Challenge.pw_evenpoints_k06_simplest_between with main:={ PySem.Challenge.pw_evenpoints_k06_simplest_between.main with body:=[zs0,zs1,zs2,zs3,zs4,zs5,zs6,zs7,zs8,zs9,zs10,zs11,zs12,zs13,zs14,zs15,zs16,zs17,zs18,zs19,zs20,zs21,zs22,zs23,zs24,zs25,zs26,zs27,zs28] } }
def rwN:OpenLaw:={ PySem.Challenge.rw_evenpoints_k06_simplest_between with prog:=pwN }
def zview:Program:={ PySem.Challenge.pw_evenpoints_k06_simplest_between with main:={ PySem.Challenge.pw_evenpoints_k06_simplest_between.main with body:=[zs1,zs2,zs3,zs4,zs5,zs6,zs7,zs8,zs9,zs10,zs12,zs14,zs15,zs17,zs18,zs19,zs20,zs21,zs22,zs23,zs24,zs25,zs26,zs27,zs28] } }
theorem rw_eq:PySem.Challenge.rw_evenpoints_k06_simplest_between = rwN:=rfl
def zen (P:Params) (x:Str) (t:Nat) (v:Value):DictEntry:=⟨PyData.keyHash P x,.str x t,v⟩
def zfo (n q:Str) (s:Stmt) (pm cd:Value):Obj:=⟨.type "function", none,.func (fnOf n q (defArgs s) (defBody s) (defScope s) .none .none .none pm none cd .none),#[]⟩
def zco (n q:Str) (a b c:Nat) (l x y:Int) (r:Nat) (z:Int) (r2:Nat) (v1 v2 v3:Value) (r3:Nat) (u:Int) (c2:Nat):Obj:=⟨.type "code", none,.fields #[.str n a,.str q b,.str "/claim/cut.py" c,.int l 0,.int x 0,.int 0 0,.int 0 0,.int y 0,.ref r,.bool true,.int z 0,.ref r2,v1,v2,v3,.ref r3,.int u 0,.int l 0,.str "/claim/cut.py" c2],#[]⟩
def zm0:Value:=.str "evenpoints.errors" 187
def zm1:Value:=.str "evenpoints.fractions" 436
def zm2:Value:=.str "evenpoints.simplest" 446
def zm3:Value:=.str "law_evenpoints_k06_simplest_between" 475
abbrev zfp (n:Str):=zfo n n
abbrev zcp (n:Str):=zco n n
def heapK (P:Params):Frag :=
  (nat_lit 2,(.mk .none none (.dict #[] 0) #[])) ::
  (nat_lit 3,(.mk (.type "dict") none (.dict #[zen P "__name__" 165 (.str "law_evenpoints_k06_simplest_between" 475),zen P "__doc__" 166 .none,zen P "__package__" 167 .none,zen P "__loader__" 168 (.builtin "__main__.__loader__#opaque"),zen P "__spec__" 169 .none,zen P "__annotations__" 170 (.ref 6),zen P "__builtins__" 171 (.ref 4),zen P "__file__" 173 (.str "/claim/cut.py" 172),zen P "__cached__" 174 .none,zen P "EvenError" 206 (.ref 24),zen P "Nought" 231 (.ref 44),zen P "NoRoom" 256 (.ref 63),zen P "TooMany" 281 (.ref 82),zen P "NoText" 306 (.ref 101),zen P "NoPaper" 333 (.ref 120),zen P "NoNet" 360 (.ref 139),zen P "NoUpper" 385 (.ref 158),zen P "NoDeed" 410 (.ref 177),zen P "NoRow" 435 (.ref 196),zen P "is_below" 445 (.ref 205),zen P "simplest" 457 (.ref 212),zen P "simplest_above_nought" 474 (.ref 219),zen P "_law_reel" 483 (.ref 226),zen P "_law_pick" 495 (.ref 233),zen P "_law_made" 506 (.ref 240),zen P "_law_below" 514 (.ref 247),zen P "_law_told" 525 (.ref 254),zen P "_law_turned" 538 (.ref 261),zen P "_law_between" 547 (.ref 268),zen P "_law_is_simplest" 560 (.ref 275),zen P "_law_small" 568 (.ref 282),zen P "_law_near" 581 (.ref 289),zen P "_law_pair" 597 (.ref 296),zen P "law" 611 (.ref 303)] 34) #[])) ::
  (nat_lit 6,(.mk (.type "dict") none (.dict #[] 0) #[])) ::
  (nat_lit 15,(.mk (.type "tuple") none (.seq #[(.type "ValueError")] 0) #[])) ::
  (nat_lit 22,(.mk (.type "tuple") none (.seq #[] 0) #[])) ::
  (nat_lit 23,(.mk (.type "dict") none (.dict #[zen P "__module__" 196 (.str "evenpoints.errors" 187),zen P "__firstlineno__" 200 (.int 2 199),zen P "__static_attributes__" 201 (.ref 22),zen P "__weakref__" 203 (.ref 25),zen P "__doc__" 204 .none] 3) #[])) ::
  (nat_lit 24,(.mk (.type "type") none (.cls (.mk "EvenError" [(.type "ValueError")] [(.ref 24),(.type "ValueError"),(.type "Exception"),(.type "BaseException"),(.type "object")] 23 "EvenError" true [] [(.ref 44),(.ref 63),(.ref 82),(.ref 101),(.ref 120),(.ref 139),(.ref 158),(.ref 177),(.ref 196)] false none false)) #[(some (.ref 15)),none,(some (.str "EvenError" 189)),(some (.str "EvenError" 197)),(some (.builtin "ValueError.__new__")),(some (.bool true))])) ::
  (nat_lit 25,(.mk (.type "getset_descriptor") none (.fields #[(.str "__weakref__" 202),(.ref 24),(.builtin "ExceptionGroup.__weakref__"),.none]) #[])) ::
  (nat_lit 28,(.mk (.type "tuple") none (.seq #[(.ref 24)] 0) #[])) ::
  (nat_lit 40,zco "__init__" "Nought.__init__" 219 220 221 6 2 3 35 181 36 .none (.ref 37) (.ref 38) 39 224 225) ::
  (nat_lit 41,zfo "__init__" "Nought.__init__" (inClass (top 2) 0) zm0 (.ref 40)) ::
  (nat_lit 42,(.mk (.type "tuple") none (.seq #[(.str "word" 227)] 0) #[])) ::
  (nat_lit 43,(.mk (.type "dict") none (.dict #[zen P "__module__" 214 (.str "evenpoints.errors" 187),zen P "__firstlineno__" 218 (.int 4 217),zen P "__init__" 226 (.ref 41),zen P "__static_attributes__" 228 (.ref 42),zen P "__doc__" 229 .none] 2) #[])) ::
  (nat_lit 44,(.mk (.type "type") none (.cls (.mk "Nought" [(.ref 24)] [(.ref 44),(.ref 24),(.type "ValueError"),(.type "Exception"),(.type "BaseException"),(.type "object")] 43 "Nought" true [] [] false none false)) #[(some (.ref 28)),none,(some (.str "Nought" 207)),(some (.str "Nought" 215)),(some (.builtin "ValueError.__new__")),(some (.bool true))])) ::
  (nat_lit 47,(.mk (.type "tuple") none (.seq #[(.ref 24)] 0) #[])) ::
  (nat_lit 59,zco "__init__" "NoRoom.__init__" 244 245 246 10 2 3 54 181 55 .none (.ref 56) (.ref 57) 58 249 250) ::
  (nat_lit 60,zfo "__init__" "NoRoom.__init__" (inClass (top 3) 0) zm0 (.ref 59)) ::
  (nat_lit 61,(.mk (.type "tuple") none (.seq #[(.str "word" 252)] 0) #[])) ::
  (nat_lit 62,(.mk (.type "dict") none (.dict #[zen P "__module__" 239 (.str "evenpoints.errors" 187),zen P "__firstlineno__" 243 (.int 8 242),zen P "__init__" 251 (.ref 60),zen P "__static_attributes__" 253 (.ref 61),zen P "__doc__" 254 .none] 2) #[])) ::
  (nat_lit 63,(.mk (.type "type") none (.cls (.mk "NoRoom" [(.ref 24)] [(.ref 63),(.ref 24),(.type "ValueError"),(.type "Exception"),(.type "BaseException"),(.type "object")] 62 "NoRoom" true [] [] false none false)) #[(some (.ref 47)),none,(some (.str "NoRoom" 232)),(some (.str "NoRoom" 240)),(some (.builtin "ValueError.__new__")),(some (.bool true))])) ::
  (nat_lit 66,(.mk (.type "tuple") none (.seq #[(.ref 24)] 0) #[])) ::
  (nat_lit 78,zco "__init__" "TooMany.__init__" 269 270 271 14 2 3 73 181 74 .none (.ref 75) (.ref 76) 77 274 275) ::
  (nat_lit 79,zfo "__init__" "TooMany.__init__" (inClass (top 4) 0) zm0 (.ref 78)) ::
  (nat_lit 80,(.mk (.type "tuple") none (.seq #[(.str "word" 277)] 0) #[])) ::
  (nat_lit 81,(.mk (.type "dict") none (.dict #[zen P "__module__" 264 (.str "evenpoints.errors" 187),zen P "__firstlineno__" 268 (.int 12 267),zen P "__init__" 276 (.ref 79),zen P "__static_attributes__" 278 (.ref 80),zen P "__doc__" 279 .none] 2) #[])) ::
  (nat_lit 82,(.mk (.type "type") none (.cls (.mk "TooMany" [(.ref 24)] [(.ref 82),(.ref 24),(.type "ValueError"),(.type "Exception"),(.type "BaseException"),(.type "object")] 81 "TooMany" true [] [] false none false)) #[(some (.ref 66)),none,(some (.str "TooMany" 257)),(some (.str "TooMany" 265)),(some (.builtin "ValueError.__new__")),(some (.bool true))])) ::
  (nat_lit 85,(.mk (.type "tuple") none (.seq #[(.ref 24)] 0) #[])) ::
  (nat_lit 97,zco "__init__" "NoText.__init__" 294 295 296 18 2 3 92 181 93 .none (.ref 94) (.ref 95) 96 299 300) ::
  (nat_lit 98,zfo "__init__" "NoText.__init__" (inClass (top 5) 0) zm0 (.ref 97)) ::
  (nat_lit 99,(.mk (.type "tuple") none (.seq #[(.str "place" 302)] 0) #[])) ::
  (nat_lit 100,(.mk (.type "dict") none (.dict #[zen P "__module__" 289 (.str "evenpoints.errors" 187),zen P "__firstlineno__" 293 (.int 16 292),zen P "__init__" 301 (.ref 98),zen P "__static_attributes__" 303 (.ref 99),zen P "__doc__" 304 .none] 2) #[])) ::
  (nat_lit 101,(.mk (.type "type") none (.cls (.mk "NoText" [(.ref 24)] [(.ref 101),(.ref 24),(.type "ValueError"),(.type "Exception"),(.type "BaseException"),(.type "object")] 100 "NoText" true [] [] false none false)) #[(some (.ref 85)),none,(some (.str "NoText" 282)),(some (.str "NoText" 290)),(some (.builtin "ValueError.__new__")),(some (.bool true))])) ::
  (nat_lit 104,(.mk (.type "tuple") none (.seq #[(.ref 24)] 0) #[])) ::
  (nat_lit 116,zco "__init__" "NoPaper.__init__" 319 320 321 22 3 3 111 181 112 .none (.ref 113) (.ref 114) 115 325 326) ::
  (nat_lit 117,zfo "__init__" "NoPaper.__init__" (inClass (top 6) 0) zm0 (.ref 116)) ::
  (nat_lit 118,(.mk (.type "tuple") none (.seq #[(.str "path" 328),(.str "word" 329)] 0) #[])) ::
  (nat_lit 119,(.mk (.type "dict") none (.dict #[zen P "__module__" 314 (.str "evenpoints.errors" 187),zen P "__firstlineno__" 318 (.int 20 317),zen P "__init__" 327 (.ref 117),zen P "__static_attributes__" 330 (.ref 118),zen P "__doc__" 331 .none] 2) #[])) ::
  (nat_lit 120,(.mk (.type "type") none (.cls (.mk "NoPaper" [(.ref 24)] [(.ref 120),(.ref 24),(.type "ValueError"),(.type "Exception"),(.type "BaseException"),(.type "object")] 119 "NoPaper" true [] [] false none false)) #[(some (.ref 104)),none,(some (.str "NoPaper" 307)),(some (.str "NoPaper" 315)),(some (.builtin "ValueError.__new__")),(some (.bool true))])) ::
  (nat_lit 123,(.mk (.type "tuple") none (.seq #[(.ref 24)] 0) #[])) ::
  (nat_lit 135,zco "__init__" "NoNet.__init__" 346 347 348 27 3 3 130 181 131 .none (.ref 132) (.ref 133) 134 352 353) ::
  (nat_lit 136,zfo "__init__" "NoNet.__init__" (inClass (top 7) 0) zm0 (.ref 135)) ::
  (nat_lit 137,(.mk (.type "tuple") none (.seq #[(.str "number" 355),(.str "word" 356)] 0) #[])) ::
  (nat_lit 138,(.mk (.type "dict") none (.dict #[zen P "__module__" 341 (.str "evenpoints.errors" 187),zen P "__firstlineno__" 345 (.int 25 344),zen P "__init__" 354 (.ref 136),zen P "__static_attributes__" 357 (.ref 137),zen P "__doc__" 358 .none] 2) #[])) ::
  (nat_lit 139,(.mk (.type "type") none (.cls (.mk "NoNet" [(.ref 24)] [(.ref 139),(.ref 24),(.type "ValueError"),(.type "Exception"),(.type "BaseException"),(.type "object")] 138 "NoNet" true [] [] false none false)) #[(some (.ref 123)),none,(some (.str "NoNet" 334)),(some (.str "NoNet" 342)),(some (.builtin "ValueError.__new__")),(some (.bool true))])) ::
  (nat_lit 142,(.mk (.type "tuple") none (.seq #[(.ref 24)] 0) #[])) ::
  (nat_lit 154,zco "__init__" "NoUpper.__init__" 373 374 375 32 2 3 149 181 150 .none (.ref 151) (.ref 152) 153 378 379) ::
  (nat_lit 155,zfo "__init__" "NoUpper.__init__" (inClass (top 8) 0) zm0 (.ref 154)) ::
  (nat_lit 156,(.mk (.type "tuple") none (.seq #[(.str "number" 381)] 0) #[])) ::
  (nat_lit 157,(.mk (.type "dict") none (.dict #[zen P "__module__" 368 (.str "evenpoints.errors" 187),zen P "__firstlineno__" 372 (.int 30 371),zen P "__init__" 380 (.ref 155),zen P "__static_attributes__" 382 (.ref 156),zen P "__doc__" 383 .none] 2) #[])) ::
  (nat_lit 158,(.mk (.type "type") none (.cls (.mk "NoUpper" [(.ref 24)] [(.ref 158),(.ref 24),(.type "ValueError"),(.type "Exception"),(.type "BaseException"),(.type "object")] 157 "NoUpper" true [] [] false none false)) #[(some (.ref 142)),none,(some (.str "NoUpper" 361)),(some (.str "NoUpper" 369)),(some (.builtin "ValueError.__new__")),(some (.bool true))])) ::
  (nat_lit 161,(.mk (.type "tuple") none (.seq #[(.ref 24)] 0) #[])) ::
  (nat_lit 173,zco "__init__" "NoDeed.__init__" 398 399 400 36 2 3 168 181 169 .none (.ref 170) (.ref 171) 172 403 404) ::
  (nat_lit 174,zfo "__init__" "NoDeed.__init__" (inClass (top 9) 0) zm0 (.ref 173)) ::
  (nat_lit 175,(.mk (.type "tuple") none (.seq #[(.str "word" 406)] 0) #[])) ::
  (nat_lit 176,(.mk (.type "dict") none (.dict #[zen P "__module__" 393 (.str "evenpoints.errors" 187),zen P "__firstlineno__" 397 (.int 34 396),zen P "__init__" 405 (.ref 174),zen P "__static_attributes__" 407 (.ref 175),zen P "__doc__" 408 .none] 2) #[])) ::
  (nat_lit 177,(.mk (.type "type") none (.cls (.mk "NoDeed" [(.ref 24)] [(.ref 177),(.ref 24),(.type "ValueError"),(.type "Exception"),(.type "BaseException"),(.type "object")] 176 "NoDeed" true [] [] false none false)) #[(some (.ref 161)),none,(some (.str "NoDeed" 386)),(some (.str "NoDeed" 394)),(some (.builtin "ValueError.__new__")),(some (.bool true))])) ::
  (nat_lit 180,(.mk (.type "tuple") none (.seq #[(.ref 24)] 0) #[])) ::
  (nat_lit 192,zco "__init__" "NoRow.__init__" 423 424 425 40 2 3 187 181 188 .none (.ref 189) (.ref 190) 191 428 429) ::
  (nat_lit 193,zfo "__init__" "NoRow.__init__" (inClass (top 10) 0) zm0 (.ref 192)) ::
  (nat_lit 194,(.mk (.type "tuple") none (.seq #[(.str "row" 431)] 0) #[])) ::
  (nat_lit 195,(.mk (.type "dict") none (.dict #[zen P "__module__" 418 (.str "evenpoints.errors" 187),zen P "__firstlineno__" 422 (.int 38 421),zen P "__init__" 430 (.ref 193),zen P "__static_attributes__" 432 (.ref 194),zen P "__doc__" 433 .none] 2) #[])) ::
  (nat_lit 196,(.mk (.type "type") none (.cls (.mk "NoRow" [(.ref 24)] [(.ref 196),(.ref 24),(.type "ValueError"),(.type "Exception"),(.type "BaseException"),(.type "object")] 195 "NoRow" true [] [] false none false)) #[(some (.ref 180)),none,(some (.str "NoRow" 411)),(some (.str "NoRow" 419)),(some (.builtin "ValueError.__new__")),(some (.bool true))])) ::
  (nat_lit 204,zcp "is_below" 438 439 440 43 2 3 199 181 200 .none (.ref 201) (.ref 202) 203 443 444) ::
  (nat_lit 205,zfp "is_below" (top 12) zm1 (.ref 204)) ::
  (nat_lit 211,zcp "simplest" 448 449 450 46 2 3 206 181 207 .none (.ref 208) (.ref 209) 210 455 456) ::
  (nat_lit 212,zfp "simplest" (top 14) zm2 (.ref 211)) ::
  (nat_lit 218,zcp "simplest_above_nought" 458 459 460 55 2 3 213 181 214 .none (.ref 215) (.ref 216) 217 472 473) ::
  (nat_lit 219,zfp "simplest_above_nought" (top 15) zm2 (.ref 218)) ::
  (nat_lit 225,zcp "_law_reel" 477 478 479 69 1 3 220 181 221 .none (.ref 222) (.ref 223) 224 481 482) ::
  (nat_lit 226,zfp "_law_reel" (top 17) zm3 (.ref 225)) ::
  (nat_lit 232,zcp "_law_pick" 484 485 486 71 2 3 227 181 228 .none (.ref 229) (.ref 230) 231 493 494) ::
  (nat_lit 233,zfp "_law_pick" (top 18) zm3 (.ref 232)) ::
  (nat_lit 239,zcp "_law_made" 496 497 498 86 2 3 234 181 235 .none (.ref 236) (.ref 237) 238 504 505) ::
  (nat_lit 240,zfp "_law_made" (top 19) zm3 (.ref 239)) ::
  (nat_lit 246,zcp "_law_below" 507 508 509 92 2 3 241 181 242 .none (.ref 243) (.ref 244) 245 512 513) ::
  (nat_lit 247,zfp "_law_below" (top 20) zm3 (.ref 246)) ::
  (nat_lit 253,zcp "_law_told" 515 516 517 94 2 3 248 181 249 .none (.ref 250) (.ref 251) 252 523 524) ::
  (nat_lit 254,zfp "_law_told" (top 21) zm3 (.ref 253)) ::
  (nat_lit 260,zcp "_law_turned" 526 527 528 102 2 3 255 181 256 .none (.ref 257) (.ref 258) 259 536 537) ::
  (nat_lit 261,zfp "_law_turned" (top 22) zm3 (.ref 260)) ::
  (nat_lit 267,zcp "_law_between" 539 540 541 110 3 3 262 181 263 .none (.ref 264) (.ref 265) 266 545 546) ::
  (nat_lit 268,zfp "_law_between" (top 23) zm3 (.ref 267)) ::
  (nat_lit 274,zcp "_law_is_simplest" 548 549 550 112 3 3 269 181 270 .none (.ref 271) (.ref 272) 273 558 559) ::
  (nat_lit 275,zfp "_law_is_simplest" (top 24) zm3 (.ref 274)) ::
  (nat_lit 281,zcp "_law_small" 561 562 563 125 1 3 276 181 277 .none (.ref 278) (.ref 279) 280 566 567) ::
  (nat_lit 282,zfp "_law_small" (top 25) zm3 (.ref 281)) ::
  (nat_lit 288,zcp "_law_near" 569 570 571 128 1 3 283 181 284 .none (.ref 285) (.ref 286) 287 579 580) ::
  (nat_lit 289,zfp "_law_near" (top 26) zm3 (.ref 288)) ::
  (nat_lit 295,zcp "_law_pair" 582 583 584 137 1 3 290 181 291 .none (.ref 292) (.ref 293) 294 595 596) ::
  (nat_lit 296,zfp "_law_pair" (top 27) zm3 (.ref 295)) ::
  (nat_lit 302,zcp "law" 598 599 600 162 1 3 297 181 298 .none (.ref 299) (.ref 300) 301 609 610) ::
  (nat_lit 303,zfp "law" (top 28) zm3 (.ref 302)) :: []
def heapA:List Addr:=nat_lit 2 :: nat_lit 3 :: nat_lit 6 :: nat_lit 15 :: nat_lit 22 :: nat_lit 23 :: nat_lit 24 :: nat_lit 25 :: nat_lit 28 :: nat_lit 40 :: nat_lit 41 :: nat_lit 42 :: nat_lit 43 :: nat_lit 44 :: nat_lit 47 :: nat_lit 59 :: nat_lit 60 :: nat_lit 61 :: nat_lit 62 :: nat_lit 63 :: nat_lit 66 :: nat_lit 78 :: nat_lit 79 :: nat_lit 80 :: nat_lit 81 :: nat_lit 82 :: nat_lit 85 :: nat_lit 97 :: nat_lit 98 :: nat_lit 99 :: nat_lit 100 :: nat_lit 101 :: nat_lit 104 :: nat_lit 116 :: nat_lit 117 :: nat_lit 118 :: nat_lit 119 :: nat_lit 120 :: nat_lit 123 :: nat_lit 135 :: nat_lit 136 :: nat_lit 137 :: nat_lit 138 :: nat_lit 139 :: nat_lit 142 :: nat_lit 154 :: nat_lit 155 :: nat_lit 156 :: nat_lit 157 :: nat_lit 158 :: nat_lit 161 :: nat_lit 173 :: nat_lit 174 :: nat_lit 175 :: nat_lit 176 :: nat_lit 177 :: nat_lit 180 :: nat_lit 192 :: nat_lit 193 :: nat_lit 194 :: nat_lit 195 :: nat_lit 196 :: nat_lit 204 :: nat_lit 205 :: nat_lit 211 :: nat_lit 212 :: nat_lit 218 :: nat_lit 219 :: nat_lit 225 :: nat_lit 226 :: nat_lit 232 :: nat_lit 233 :: nat_lit 239 :: nat_lit 240 :: nat_lit 246 :: nat_lit 247 :: nat_lit 253 :: nat_lit 254 :: nat_lit 260 :: nat_lit 261 :: nat_lit 267 :: nat_lit 268 :: nat_lit 274 :: nat_lit 275 :: nat_lit 281 :: nat_lit 282 :: nat_lit 288 :: nat_lit 289 :: nat_lit 295 :: nat_lit 296 :: nat_lit 302 :: nat_lit 303 :: []
theorem heapE:∀ P,heapA = (heapK P).map (·.1):=fun _=>rfl
theorem zsize:∀ w:World,((boot_heap w.params).isNs mainGlobals,(boot_heap w.params).objs.size,(boot_heap w.params).nsMap mainGlobals "__annotations__") = (true,11,some (.ref 6)):=fun w=>by kernel_rfl
set_option maxHeartbeats 0 in
theorem zleft:LeftO pwN zview [] (fun s=>xlAt zview [] s && recOk (RowW.records rwN.row.toRowW) s) (Hook.obs (kHook heapK heapA heapE)) (Hook.val (kHook heapK heapA heapE)) 6588 :=
  L2.TT.left_of (M:=6588) (by kernel_rfl) rfl (fun s=>by kernel_rfl) rfl zsize fun w os=>by kernel_rfl
end K06
namespace L2
open PySem PySem.Spec PyProof.Rows

abbrev Key:=Sum Int Str
def keyIs:Key -> Value -> Bool
  | .inl k,v=>Value.isInt k v
  | .inr x,v=>Value.isStrOf x v
def keyH (w:World):Key -> Int
  | .inl k=>hashInt k
  | .inr x=>hashStr w x
theorem keyIs_shape:∀ {k:Key} {v:Value},keyIs k v = true -> (∃ i t,k = Sum.inl i /\ v = Value.int i t) \/ (∃ x t,k = Sum.inr x /\ v = Value.str x t)
  | .inl i,v,h=>by
    obtain ⟨t,e⟩:=Value.isInt_shape (k:=i) (v:=v) h
    exact .inl ⟨i,t,rfl,e⟩
  | .inr x,v,h=>by
    obtain ⟨t,e⟩:=Value.isStrOf_shape (x:=x) (v:=v) h
    exact .inr ⟨x,t,rfl,e⟩
theorem keyIs_int (i:Int) (t:Tok):keyIs (.inl i) (.int i t) = true:=by simp [keyIs,Value.isInt]
theorem keyIs_str (x:Str) (t:Tok):keyIs (.inr x) (.str x t) = true:=by simp [keyIs,Value.isStrOf]
theorem key_ll (a b:Int):decide ((Sum.inl a:Key) = Sum.inl b) = (a == b):=by
  by_cases e:a = b
  · subst e; simp
  · have h:¬ (Sum.inl a:Key) = Sum.inl b:=fun q=>e (Sum.inl.inj q)
    rw [decide_eq_false h]
    exact (beq_eq_false_iff_ne.mpr e).symm
theorem key_rr (a b:Str):decide ((Sum.inr a:Key) = Sum.inr b) = decide (a = b):=by
  by_cases e:a = b
  · subst e; simp
  · have h:¬ (Sum.inr a:Key) = Sum.inr b:=fun q=>e (Sum.inr.inj q)
    rw [decide_eq_false h,decide_eq_false e]
theorem key_lr (a:Int) (b:Str):decide ((Sum.inl a:Key) = Sum.inr b) = false:=decide_eq_false (fun q=>nomatch q)
theorem key_rl (a:Str) (b:Int):decide ((Sum.inr a:Key) = Sum.inl b) = false:=decide_eq_false (fun q=>nomatch q)

def mixKind (prog:Program) (w:World):PySem.KeyKind prog w Key where
  is:=keyIs
  hash:=keyH w
  inj := fun v a b ha hb => by
    rcases keyIs_shape ha with ⟨i,t,rfl,rfl⟩ | ⟨x,t,rfl,rfl⟩
    · rcases keyIs_shape hb with ⟨j,u,rfl,e⟩ | ⟨y,u,rfl,e⟩
      · injection e with e1 _; rw [e1]
      · exact nomatch e
    · rcases keyIs_shape hb with ⟨j,u,rfl,e⟩ | ⟨y,u,rfl,e⟩
      · exact nomatch e
      · injection e with e1 _; rw [e1]
  byValue:=fun k v h=>by
    rcases keyIs_shape h with ⟨i,t,rfl,rfl⟩ | ⟨x,t,rfl,rfl⟩ <;> rfl
  pyHash:=fun hv h=>by
    rcases keyIs_shape hv with ⟨i,t,rfl,rfl⟩ | ⟨x,t,rfl,rfl⟩
    · exact wpAny_pyHash_int h
    · exact wpAny_pyHash_str h
  eqBool:=fun hu hv h=>by
    rcases keyIs_shape hu with ⟨i,t,rfl,rfl⟩ | ⟨x,t,rfl,rfl⟩
    · rcases keyIs_shape hv with ⟨j,u,rfl,rfl⟩ | ⟨y,u,rfl,rfl⟩
      · rw [key_ll] at h; exact wpAny_eqBool_int h
      · rw [key_lr] at h; exact SeqAt.EqAt.int_str i t y u _ _ _ _ h
    · rcases keyIs_shape hv with ⟨j,u,rfl,rfl⟩ | ⟨y,u,rfl,rfl⟩
      · rw [key_rl] at h; exact SeqAt.EqAt.str_int x t j u _ _ _ _ h
      · rw [key_rr] at h; exact wpAny_eqBool_str h
  «strs»:=fun k x t v h=>by
    rcases keyIs_shape h with ⟨i,u,rfl,e⟩ | ⟨y,u,rfl,e⟩
    · exact nomatch e
    · injection e with e1 _
      subst e1
      cases v <;> rfl

theorem mixKind_int (prog:Program) (w:World) (i:Int) (t:Tok):(mixKind prog w).is (.inl i) (.int i t) = true:=keyIs_int i t
theorem mixKind_str (prog:Program) (w:World) (x:Str) (t:Tok):(mixKind prog w).is (.inr x) (.str x t) = true:=keyIs_str x t
end L2

namespace L2
open PySem PySem.Spec PyProof.Rows

inductive V where
  | non | bl (b:Bool) | int (i:Int) | str (x:Str) | byt (b:Array UInt8) | flt (b:UInt64) | ref (a:Addr) | ty (n:String)
  deriving DecidableEq

def RelV:V -> Value -> Prop
  | .non,u=>u = Value.none
  | .bl b,u=>u = Value.bool b
  | .int i,u=>∃ t,u = Value.int i t
  | .str x,u=>∃ t,u = Value.str x t
  | .byt b,u=>∃ t,u = Value.bytes b t
  | .flt b,u=>∃ t,u = Value.float b t
  | .ref a,u=>u = Value.ref a
  | .ty n,u=>u = Value.type n

abbrev Vals:List V -> List Value -> Prop:=Paired RelV
theorem Vals.length {xs:List V} {us:List Value} (r:Vals xs us):xs.length = us.length:=Paired.length r
theorem Vals.get:∀ {xs:List V} {us:List Value} {i:Nat} {x:V},Vals xs us -> xs[i]? = some x -> ∃ u,us[i]? = some u /\ RelV x u
  | _,_,_,_,.nil,e=>by simp at e
  | _,_,0,_,.cons r _,e=>by simp at e; subst e; exact ⟨_,rfl,r⟩
  | _,_,i + 1,x,.cons _ t,e=>by
    obtain ⟨u,h1,h2⟩:=Vals.get (i:=i) (x:=x) t (by simpa using e)
    exact ⟨u,by simpa using h1,h2⟩
theorem Vals.set {x:V} {u:Value} (r:RelV x u):∀ {xs:List V} {us:List Value} (i:Nat),Vals xs us -> Vals (xs.set i x) (us.set i u)
  | _,_,_,.nil=>.nil
  | _,_,0,.cons _ t=>.cons r t
  | _,_,i + 1,.cons q t=>.cons q (Vals.set r i t)
theorem Vals.append:∀ {xs ys:List V} {us ws:List Value},Vals xs us -> Vals ys ws -> Vals (xs ++ ys) (us ++ ws)
  | _,_,_,_,.nil,s=>s
  | _,_,_,_,.cons r t,s=>.cons r (Vals.append t s)
theorem Vals.take:∀ {xs:List V} {us:List Value} (n:Nat),Vals xs us -> Vals (xs.take n) (us.take n)
  | _,_,0,_=>.nil
  | _,_,_ + 1,.nil=>.nil
  | _,_,n + 1,.cons r t=>.cons r (Vals.take n t)
theorem Vals.drop:∀ {xs:List V} {us:List Value} (n:Nat),Vals xs us -> Vals (xs.drop n) (us.drop n)
  | _,_,0,r=>r
  | _,_,_ + 1,.nil=>.nil
  | _,_,n + 1,.cons _ t=>Vals.drop n t
def RelO:Option V -> Option Value -> Prop
  | some v,some u=>RelV v u
  | none,none=>True
  | _,_=>False
def KV {κ:Type}:List (κ × V) -> List (κ × Value) -> Prop:=Paired fun (p : κ × V) (q : κ × Value)=>p.1 = q.1 /\ RelV p.2 q.2

def kV:Key -> V
  | .inl i=>.int i
  | .inr x=>.str x

inductive HO where
  
  | lst (xs:List V)
  
  | tup (xs:List V)
  
  | dK (kvs:List (Key × V)) | dT (kvs:List (List Key × V))
  
  | set (S:Int -> Bool) (n:Nat)
  
  | ins (C dx:Addr) (fs:List (Str × V))
  
  | own (x:Addr)
  
  | xd (fs:List (Str × V))
  
  | met (f x:Addr)
  
  | rng (lo hi:Int)
  
  | frz (o:Obj) (u:HO)
  
  | tbl (ps:Array Value)
  
  | ext (φ:Heap -> Prop)

abbrev Hp:=Addr -> Option HO
def upd (H:Hp) (a:Addr) (o:HO):Hp:=fun b=>if b = a then some o else H b
theorem upd_same {H:Hp} {a:Addr} {o:HO}:upd H a o a = some o:=by unfold upd; rw [if_pos rfl]
theorem upd_ne {H:Hp} {a b:Addr} {o:HO} (h:b ≠ a):upd H a o b = H b:=by unfold upd; rw [if_neg h]
theorem upd_upd {H:Hp} {a:Addr} {o u:HO}:upd (upd H a o) a u = upd H a u:=by
  funext b; unfold upd; split <;> rfl
theorem ne_of {H:Hp} {a b:Addr} {o u:HO} (h:H a = some o) (h':H b = some u) (d:o ≠ u):a ≠ b:=by
  intro e; subst e; rw [h] at h'; exact d (Option.some.inj h')
theorem ne_of_none {H:Hp} {a b:Addr} {o:HO} (h:H a = some o) (h':H b = none):a ≠ b:=by
  intro e; subst e; rw [h] at h'; cases h'

section
variable (P:Program) (w:World)
def IsTupD (h:Heap) (a:Addr) (items:Array Value):Prop:=∃ o,h.get? a = some o /\ o.cls = .type "tuple" /\ (∃ n,o.data = .seq items n) /\ o.dict = none
theorem IsTupD.tup {h:Heap} {a:Addr} {items:Array Value} (x:IsTupD h a items):IsTup h a items:=let ⟨o,e1,e2,e3,_⟩:=x; ⟨o,e1,e2,e3⟩
theorem IsTupD.new (h:Heap) (items:Array Value):IsTupD (h.push { cls:=.type "tuple", data:=.seq items }) h.objs.size items:=⟨_,Heap.get?_push_size _ rfl,rfl,⟨_,rfl⟩,rfl⟩
def ObjOk (H:Hp) (h:Heap) (a:Addr):HO -> Prop
  | .lst xs=>xs.length <= sizeLine /\ ∃ (its:List Value) (n:Nat),Vals xs its /\ h.get? a = some { cls:=.type "list", data:=.seq its.toArray n }
  | .tup xs=>xs.length <= sizeLine /\ ∃ its:List Value,Vals xs its /\ IsTupD h a its.toArray
  | .dK kvs=>kvs.length <= sizeLine /\ (a == sysModules) = false /\ ∃ vs,KV kvs vs /\ h.DictOf (mixKind P w) a vs
  | .dT kvs=>kvs.length <= sizeLine /\ (a == sysModules) = false /\ ∃ xs:List (List Key × Addr × Value),
      Paired (fun (p:List Key × V) (q:List Key × Addr × Value)=>p.1 = q.1 /\ H q.2.1 = some (.tup (p.1.map kV)) /\ RelV p.2 q.2.2) kvs xs /\
      ∃ o es ep,h.get? a = some o /\ o.ExactDict /\ o.data = .dict es ep /\ es.toList = xs.map (entryOfKey (tupleKind (mixKind P w))) /\ (xs.map (·.1)).Nodup
  | .set S n=>h.SetOf (intKind P w) a S n
  | .ins C dx fs=>H dx = some (.own a) /\ fs.length <= 1000 /\ dx ≠ a /\ h.get? a = some (W.instObj C dx) /\
      ∃ mA,h.Ns1 dx mA /\ (∀ f,RelO (fs.lookup f) (mA f)) /\ PySem.Within mA (fs.map (·.1))
  | .own _=>∃ o,h.get? a = some o
  | .xd fs=>∃ mA,h.Ns1 a mA /\ ∀ f,RelO (fs.lookup f) (mA f)
  | .rng lo hi=>∃ t u v,h.get? a = some { cls:=.type "range", data:=.fields #[.int lo t,.int hi u,.int 1 v] }
  | .frz o u=>h.get? a = some o /\ ObjOk H h a u
  | .tbl ps=>h.get? a = some { cls:=.none,data:=.fields ps }
  | .met f x=>h.get? a = some (W.methodObj (.ref f) (.ref x))
  | .ext φ=>φ h /\ (∃ o,h.get? a = some o) /\ ∀ h1 h2:Heap,φ h1 -> (∀ o,h1.get? a = some o -> h2.get? a = some o) -> φ h2
def HOk (H:Hp) (h:Heap):Prop:=∀ a o,H a = some o -> ObjOk P w H h a o
end

section
variable {P:Program} {w:World} {H H':Hp} {h h':Heap} {a:Addr} {o:HO}
theorem ObjOk.lt (x:ObjOk P w H h a o):a < h.objs.size:=by
  cases o with
  | lst xs=>obtain ⟨_,_,_,_,e⟩:=x; exact Heap.lt_size e
  | tup xs=>obtain ⟨_,_,_,p⟩:=x; exact p.tup.lt
  | dK kvs=>obtain ⟨_,_,_,_,o,_,_,e,_⟩:=x; exact Heap.lt_size e
  | dT kvs=>obtain ⟨_,_,_,_,o,_,_,e,_⟩:=x; exact Heap.lt_size e
  | set S n=>obtain ⟨o,_,_,_,e,_⟩:=x; exact Heap.lt_size e
  | ins C dx fs=>obtain ⟨_,_,_,e,_⟩:=x; exact Heap.lt_size e
  | own y=>obtain ⟨_,e⟩:=x; exact Heap.lt_size e
  | xd fs=>obtain ⟨_,⟨_,_,_,e,_⟩,_⟩:=x; exact Heap.lt_size e
  | rng lo hi=>obtain ⟨_,_,_,e⟩:=x; exact Heap.lt_size e
  | frz ob u=>obtain ⟨e,_⟩:=x; exact Heap.lt_size e
  | tbl ps=>exact Heap.lt_size (show h.get? a = some _ from x)
  | met f y=>exact Heap.lt_size (show h.get? a = some _ from x)
  | ext φ=>obtain ⟨_,⟨_,e⟩,_⟩:=x; exact Heap.lt_size e
theorem Paired.mapP {α β:Type} {F G : α -> β -> Prop}:∀ {l₁:List α} {l₂:List β},Paired F l₁ l₂ -> (∀ a b,F a b -> G a b) -> Paired G l₁ l₂
  | _,_,.nil,_=>.nil
  | _,_,.cons r t,f=>.cons (f _ _ r) (Paired.mapP t f)
theorem ObjOk.stay (x:ObjOk P w H h a o) (k:∀ b u,(b = a \/ H b = some (.own a)) -> h.get? b = some u -> h'.get? b = some u)
    (ho:∀ b,H b = some (.own a) -> H' b = some (.own a)) (ht:∀ b xs,H b = some (.tup xs) -> H' b = some (.tup xs)):ObjOk P w H' h' a o:=by
  induction o with
  | lst xs=>obtain ⟨z,its,n,r,e⟩:=x; exact ⟨z,its,n,r,k _ _ (.inl rfl) e⟩
  | tup xs=>obtain ⟨z,its,r,ob,e,c⟩:=x; exact ⟨z,its,r,ob,k _ _ (.inl rfl) e,c⟩
  | dK kvs=>obtain ⟨z,y,vs,r,ob,es,ep,e,c⟩:=x; exact ⟨z,y,vs,r,ob,es,ep,k _ _ (.inl rfl) e,c⟩
  | dT kvs =>
    obtain ⟨z,y,xs,r,ob,es,ep,e,c⟩:=x
    exact ⟨z,y,xs,Paired.mapP r fun p q z=>⟨z.1,ht _ _ z.2.1,z.2.2⟩,ob,es,ep,k _ _ (.inl rfl) e,c⟩
  | set S n=>obtain ⟨ob,es,ep,t,e,c⟩:=x; exact ⟨ob,es,ep,t,k _ _ (.inl rfl) e,c⟩
  | ins C dx fs =>
    obtain ⟨d,z,ne,e,mA,⟨od,es,ep,e2,c⟩,r⟩:=x
    exact ⟨ho _ d,z,ne,k _ _ (.inl rfl) e,mA,⟨od,es,ep,k _ _ (.inr d) e2,c⟩,r⟩
  | own y=>obtain ⟨ob,e⟩:=x; exact ⟨ob,k _ _ (.inl rfl) e⟩
  | xd fs=>obtain ⟨mA,⟨od,es,ep,e,c⟩,r⟩:=x; exact ⟨mA,⟨od,es,ep,k _ _ (.inl rfl) e,c⟩,r⟩
  | rng lo hi=>obtain ⟨t,u,v,e⟩:=x; exact ⟨t,u,v,k _ _ (.inl rfl) e⟩
  | frz ob u ih=>obtain ⟨e,q⟩:=x; exact ⟨k _ _ (.inl rfl) e,ih q⟩
  | tbl ps =>
    have e:h.get? a = some { cls:=.none,data:=.fields ps }:=x
    show h'.get? a = some { cls:=.none,data:=.fields ps }
    exact k a _ (.inl rfl) e
  | met f y =>
    have e:h.get? a = some (W.methodObj (.ref f) (.ref y)):=x
    show h'.get? a = some (W.methodObj (.ref f) (.ref y))
    exact k a _ (.inl rfl) e
  | ext φ=>obtain ⟨p,⟨o,e⟩,st⟩:=x; exact ⟨st _ _ p fun o q=>k _ _ (.inl rfl) q,⟨o,k _ _ (.inl rfl) e⟩,st⟩
theorem HOk.lt (x:HOk P w H h) (e:H a = some o):a < h.objs.size:=(x a o e).lt
theorem HOk.fresh (x:HOk P w H h) (e:h.objs.size <= a):H a = none:=by
  cases q:H a with
  | none=>rfl
  | some u=>exact absurd (Nat.lt_of_lt_of_le (x.lt q) e) (Nat.lt_irrefl _)
theorem HOk.kept (x:HOk P w H h) (k:∀ b u,h.get? b = some u -> h'.get? b = some u):HOk P w H h':=fun a o e =>
  (x a o e).stay (fun b u _ q=>k b u q) (fun _ q=>q) fun _ _ q=>q
theorem HOk.laid (x:HOk P w H h) (k:∀ b u,h.get? b = some u -> h'.get? b = some u) (hp:h.objs.size <= a) (new:ObjOk P w (upd H a o) h' a o):HOk P w (upd H a o) h':=fun b u e=>by
  have hn:=x.fresh hp
  by_cases hb:b = a
  · subst hb; rw [upd_same] at e; cases e; exact new
  · rw [upd_ne hb] at e
    exact (x b u e).stay (fun c v _ q=>k c v q) (fun c q=>by rw [upd_ne (ne_of_none q hn)]; exact q) fun c xs q=>by rw [upd_ne (ne_of_none q hn)]; exact q
end

def Rd (H:Hp) (a:Addr) (u:HO):Prop:=H a = some u \/ ∃ o,H a = some (.frz o u)
theorem Rd.of {H:Hp} {a:Addr} {u:HO} (h:H a = some u):Rd H a u:=.inl h
theorem Rd.ok {P:Program} {w:World} {H:Hp} {h:Heap} {a:Addr} {u:HO} (r:Rd H a u) (x:HOk P w H h):ObjOk P w H h a u:=by
  rcases r with r | ⟨o,r⟩
  · exact x a u r
  · obtain ⟨_,q⟩:=x a _ r
    exact q
def Mut:Option HO -> Prop
  | some (.lst _)=>True
  | some (.dK _)=>True
  | some (.dT _)=>True
  | some (.set _ _)=>True
  | some (.ins _ _ _)=>True
  | some (.ext _)=>True
  | _=>False
section
variable {P:Program} {w:World} {H:Hp} {h h':Heap} {x e:Addr} {o':HO}
theorem HOk.write (ok:HOk P w H h) (mu:Mut (H x)) (he:e = x \/ H e = some (.own x)) (k:∀ b u,b ≠ e -> h.get? b = some u -> h'.get? b = some u) (heo:∃ u,h'.get? e = some u)
    (new:ObjOk P w (upd H x o') h' x o'):HOk P w (upd H x o') h':=fun b u q=>by
  have nown:∀ c y,H c = some (.own y) -> c ≠ x:=fun c y r z=>by subst z; rw [r] at mu; exact mu
  have ntup:∀ c xs,H c = some (.tup xs) -> c ≠ x:=fun c xs r z=>by subst z; rw [r] at mu; exact mu
  by_cases hb:b = x
  · subst hb; rw [upd_same] at q; cases q; exact new
  · rw [upd_ne hb] at q
    by_cases hbe:b = e
    · have q':H b = some (.own x):=by
        rcases he with z | z
        · exact absurd (hbe.trans z) hb
        · rw [hbe]; exact z
      rw [q] at q'; cases q'
      obtain ⟨v,hv⟩:=heo
      exact ⟨v,by rw [hbe]; exact hv⟩
    · refine (ok b u q).stay (fun c v hc r=>k c v ?_ r) (fun c r=>by rw [upd_ne (nown c b r)]; exact r) fun c xs r=>by rw [upd_ne (ntup c xs r)]; exact r
      rcases hc with rfl | hc
      · exact hbe
      · rintro rfl
        rcases he with z | z
        · exact nown c b hc z
        · rw [hc] at z; cases z; exact hb rfl
end

structure Un (fs ex:List Addr) (H H':Hp) (h h':Heap):Prop where
  keep:∀ b o,h.get? b = some o -> H b = none -> b ∉ fs -> b ∉ ex -> h'.get? b = some o
  slot:∀ b o,h.get? b = some o -> H b = none -> b ∈ fs -> b ∉ ex -> ∃ sl,h'.get? b = some { o with slots:=sl }
  free:∀ b o,h.get? b = some o -> H b = none -> b ∉ ex -> H' b = none
  there:∀ b o,h.get? b = some o -> b ∉ ex -> ∃ o',h'.get? b = some o'
  tups:∀ b xs,H b = some (.tup xs) -> H' b = some (.tup xs)
  frzs:∀ b o u,H b = some (.frz o u) -> H' b = some (.frz o u)
  tbls:∀ b ps,H b = some (.tbl ps) -> ∃ more,H' b = some (.tbl (ps ++ more))
section
variable {fs fs' ex ex':List Addr} {H H1 H2:Hp} {h h1 h2 h':Heap} {a x e:Addr} {o:HO}
theorem Un.any (u:Un fs ex H H1 h h1) {b:Addr} {ob:Obj} (q:h.get? b = some ob) (n:H b = none) (hx:b ∉ ex):∃ sl,h1.get? b = some { ob with slots:=sl }:=by
  by_cases hb:b ∈ fs
  · exact u.slot b ob q n hb hx
  · exact ⟨ob.slots,u.keep b ob q n hb hx⟩
theorem Un.trans (a:Un fs ex H H1 h h1) (b:Un fs ex H1 H2 h1 h2):Un fs ex H H2 h h2 where
  keep:=fun c ob q n hc hx=>b.keep c ob (a.keep c ob q n hc hx) (a.free c ob q n hx) hc hx
  slot:=fun c ob q n hc hx=>by
    obtain ⟨sl,e1⟩:=a.slot c ob q n hc hx
    obtain ⟨sl',e2⟩:=b.slot c _ e1 (a.free c ob q n hx) hc hx
    exact ⟨sl',e2⟩
  free:=fun c ob q n hx=>by
    obtain ⟨o',e1⟩:=a.there c ob q hx
    exact b.free c o' e1 (a.free c ob q n hx) hx
  there:=fun c ob q hx=>by
    obtain ⟨o',e1⟩:=a.there c ob q hx
    exact b.there c o' e1 hx
  tups:=fun c xs q=>b.tups c xs (a.tups c xs q)
  frzs:=fun c ob xs q=>b.frzs c ob xs (a.frzs c ob xs q)
  tbls:=fun c ps q=>by
    obtain ⟨m1,e1⟩:=a.tbls c ps q
    obtain ⟨m2,e2⟩:=b.tbls c _ e1
    exact ⟨m1 ++ m2,by rw [e2,Array.append_assoc]⟩
theorem Un.kept (k:∀ b u,h.get? b = some u -> h'.get? b = some u):Un fs ex H H h h' :=
  ⟨fun b ob q _ _ _=>k b ob q,fun b ob q _ _ _=>⟨ob.slots,k b ob q⟩,fun _ _ _ n _=>n,fun b ob q _=>⟨ob,k b ob q⟩,fun _ _ q=>q,fun _ _ _ q=>q,fun _ ps q=>⟨#[],by rw [q]; simp⟩⟩
theorem Un.refl:Un fs ex H H h h:=Un.kept fun _ _ q=>q
theorem Un.laid (k:∀ b u,h.get? b = some u -> h'.get? b = some u) (hp:h.objs.size <= a) (hn:H a = none):Un fs ex H (upd H a o) h h' where
  keep:=fun b u q _ _ _=>k b u q
  slot:=fun b u q _ _ _=>⟨u.slots,k b u q⟩
  free:=fun b u q n _=>by rw [upd_ne (Nat.ne_of_lt (Nat.lt_of_lt_of_le (Heap.lt_size q) hp))]; exact n
  there:=fun b u q _=>⟨u,k b u q⟩
  tups:=fun b xs q=>by rw [upd_ne (ne_of_none q hn)]; exact q
  frzs:=fun b u xs q=>by rw [upd_ne (ne_of_none q hn)]; exact q
  tbls:=fun b ps q=>⟨#[],by rw [upd_ne (ne_of_none q hn),q]; simp⟩
theorem Un.write (mu:Mut (H x)) (he:e = x \/ H e = some (.own x)) (k:∀ b u,b ≠ e -> h.get? b = some u -> h'.get? b = some u) (heo:∃ u,h'.get? e = some u):Un fs ex H (upd H x o) h h':=by
  have hx:∀ b,H b = none -> b ≠ x:=fun b n z=>by subst z; rw [n] at mu; exact mu
  have hb:∀ b,H b = none -> b ≠ e:=fun b n z=>by
    subst z
    rcases he with r | r
    · exact hx b n r
    · rw [n] at r; cases r
  have hm:∀ b u,H b = some u -> ¬ Mut (some u) -> b ≠ x:=fun b u q nm z=>by subst z; rw [q] at mu; exact nm mu
  refine ⟨fun b u q n _ _=>k b u (hb b n) q,fun b u q n _ _=>⟨u.slots,k b u (hb b n) q⟩,fun b u q n _=>by rw [upd_ne (hx b n)]; exact n,fun b u q _=>?_,
    fun b xs q=>by rw [upd_ne (hm b _ q fun z=>z)]; exact q,fun b u xs q=>by rw [upd_ne (hm b _ q fun z=>z)]; exact q,fun b ps q=>⟨#[],by rw [upd_ne (hm b _ q fun z=>z),q]; simp⟩⟩
  by_cases hbe:b = e
  · subst hbe; exact heo
  · exact ⟨u,k b u hbe q⟩
theorem Un.mono (u:Un fs ex H H1 h h1) (hs:∀ b ∈ fs,b ∈ fs') (hx:∀ b ∈ ex,b ∈ ex'):Un fs' ex' H H1 h h1 :=
  ⟨fun b ob q n hb he=>u.keep b ob q n (fun z=>hb (hs b z)) fun z=>he (hx b z),fun _ _ q n _ he=>u.any q n fun z=>he (hx _ z),fun b ob q n he=>u.free b ob q n fun z=>he (hx b z),fun b ob q he=>u.there b ob q fun z=>he (hx b z),u.tups,u.frzs,u.tbls⟩
end

def trk (h:Heap) (H:Hp):List Addr:=(List.range h.objs.size).filter fun a=>(H a).isSome
def hidT (h:Heap) (H:Hp):Heap:=W.hideAll h (trk h H)
theorem hidT_size (h:Heap) (H:Hp):(hidT h H).objs.size = h.objs.size:=W.hideAll_size _ _
theorem hidT_get {h:Heap} {H:Hp} {b:Addr} {o:Obj} (e:h.get? b = some o) (n:H b = none):(hidT h H).get? b = some o :=
  W.hideAll_get _ e fun hm=>by
    have q:(H b).isSome = true:=(List.mem_filter.mp hm).2
    rw [n] at q; simp at q
theorem of_hidT {h:Heap} {H:Hp} {b:Addr} {o:Obj} (e:(hidT h H).get? b = some o):h.get? b = some o /\ H b = none:=by
  have e':h.get? b = some o:=W.of_hideAll (trk h H) e
  refine ⟨e',?_⟩
  cases q:H b with
  | none=>rfl
  | some x =>
    have hm:b ∈ trk h H:=List.mem_filter.mpr ⟨List.mem_range.mpr (Heap.lt_size e'),by simp [q]⟩
    have z:(hidT h H).get? b = none:=W.hideAll_none (trk h H) hm
    rw [z] at e; cases e

def allNews (g h:Heap) (L:Addr):List (Addr × Obj):=(List.range h.objs.size).filterMap fun a=>if a = L \/ (g.get? a).isSome = true then none else (h.get? a).map fun o=>(a,o)
def rest (g h:Heap) (L d:Addr):List (Addr × Obj):=(allNews g h L).filter fun p=>decide (p.1 ≠ d)
end L2

namespace L2
open PySem PySem.Spec PyProof.Rows

structure Mod (K:W.Frag) (mg:Str -> Option Value) (base:Heap):Prop where
  kin:K.In base
  glob:base.Ns mainGlobals mg
  blt:∃ mb,base.Ns builtinsNs mb /\ ∀ x:Str,x ≠ "__name__" -> mb x = bootBuiltins x
  nolimit:base.NoLimit

structure Cx where
  prog:Program
  w:World
  K:W.Frag
  mg:Str -> Option Value
  base:Heap
  A:Around
  N:List Str
  s₀:Shared
  H₀:Hp
  env:Env
  outer:List Env
  stack:List Env
  ex:List Addr
  fn:Str -> Bool
  calm:Bool
  pn:List (Addr × Obj)
  xe:Value -> Shared -> Prop
def frs (l:List Env):List Addr:=l.filterMap (·.frame)
abbrev Cx.fs (X:Cx):List Addr:=frs X.outer

def Vis (sc:Scope) (x:Str):Prop:=sc.names.lookup x = some .local \/ sc.names.lookup x = some .cell \/ sc.names.lookup x = some .free
def Loc (sc:Scope) (x:Str):Prop:=sc.names.lookup x = some .local \/ sc.names.lookup x = some .cell
def Look (env:Env) (h:Heap) (m:Str -> Option Value) (x:Str) (u:Value):Prop :=
  (env.kindOf x = some .local /\ m x = some u) \/ ((env.kindOf x = some .cell \/ env.kindOf x = some .free) /\ ∃ c,env.cells.lookup x = some c /\ h.IsCell c (some u))

structure Cx.Ok (X:Cx):Prop where
  mod:Mod X.K X.mg X.base
  kind:X.env.scope.kind = .function
  glob:X.env.globals = mainGlobals
  blt:X.env.builtins = builtinsNs
  above:X.s₀.heap.objs.size <= X.env.locals
  inj:∀ x y c,X.env.cells.lookup x = some c -> X.env.cells.lookup y = some c -> x = y
  has:∀ x,(X.env.kindOf x = some .cell \/ X.env.kindOf x = some .free) -> ∃ c,X.env.cells.lookup x = some c
  cab:∀ x c,X.fn x = true -> X.env.cells.lookup x = some c -> X.s₀.heap.objs.size <= c
  hd:X.calm = true -> X.A.handled = none
  frames:X.A.frames = some X.stack
  stk:X.stack = X.outer \/ (X.stack = X.env :: X.outer /\ X.env.frame = some X.env.locals)
  exf:∀ b ∈ X.ex,b ≠ X.env.locals /\ ∀ x c,X.env.cells.lookup x = some c -> c ≠ b
  bs:∀ b o,X.base.get? b = some o -> X.s₀.heap.get? b = some o /\ X.H₀ b = none
  bsz:X.base.objs.size <= X.s₀.heap.objs.size
  noex:∀ b o,X.base.get? b = some o -> b ∉ X.ex
  exfs:∀ b ∈ X.ex,b ∉ X.fs
  funs:X.s₀.heap.FunFrames X.base X.outer
  frf:∀ b ∈ X.fs,X.H₀ b = none

structure Inv (X:Cx) (pins:List (Addr × Obj)) (σ:List (Option V)) (H:Hp) (s:Shared):Prop where
  ok:X.Ok
  os:s.os = X.s₀.os
  bare:AllBare s.gens
  base:Un X.fs X.ex X.H₀ H X.s₀.heap s.heap
  loc:∃ m,s.heap.Ns X.env.locals m /\ ∀ (i:Nat) (x:Str) (v:V),X.N[i]? = some x -> σ[i]? = some (some v) -> Vis X.env.scope x -> ∃ u,RelV v u /\ Look X.env s.heap m x u
  cell:∀ x c,X.env.cells.lookup x = some c -> ∃ v,s.heap.IsCell c v
  free:H X.env.locals = none
  freeC:∀ x c,X.env.cells.lookup x = some c -> H c = none
  pin:∀ p ∈ X.pn ++ pins,s.heap.get? p.1 = some p.2 /\ H p.1 = none /\ p.1 ≠ X.env.locals /\ p.1 ∉ X.fs /\ ∀ v,p.2.data ≠ .cell v
  hok:HOk X.prog X.w H s.heap
  len : σ.length = X.N.length

section
variable {X:Cx} {pins:List (Addr × Obj)} {σ:List (Option V)} {H H':Hp} {s:Shared} {h':Heap}

theorem Cx.Ok.nofr (ok:X.Ok) {b:Addr} {o:Obj} (e:X.base.get? b = some o):b ∉ X.fs:=fun hb=>by
  have:=(ok.funs.mem hb).1
  rw [e] at this; cases this
theorem Inv.bs (I:Inv X pins σ H s):∀ b o,X.base.get? b = some o -> s.heap.get? b = some o /\ H b = none:=fun b o e =>
  ⟨I.base.keep b o (I.ok.bs b o e).1 (I.ok.bs b o e).2 (I.ok.nofr e) (I.ok.noex b o e),I.base.free b o (I.ok.bs b o e).1 (I.ok.bs b o e).2 (I.ok.noex b o e)⟩
theorem Inv.bk (I:Inv X pins σ H s):∀ b o,X.base.get? b = some o -> s.heap.get? b = some o:=fun b o e=>(I.bs b o e).1
theorem Inv.mod (I:Inv X pins σ H s):Mod X.K X.mg X.base:=I.ok.mod
theorem Inv.kIn (I:Inv X pins σ H s):X.K.In s.heap:=I.ok.mod.kin.keeps I.bk
theorem Inv.nolimit (I:Inv X pins σ H s):s.heap.NoLimit:=I.ok.mod.nolimit.keeps I.bk
theorem Inv.fr (I:Inv X pins σ H s):∃ m,Fr X.base X.env.locals s.heap m :=
  let ⟨m,hn,_⟩:=I.loc
  ⟨m,hn,I.bk,Nat.le_trans I.ok.bsz I.ok.above⟩
theorem Inv.lt (I:Inv X pins σ H s):X.env.locals < s.heap.objs.size:=let ⟨_,hn,_⟩:=I.loc; hn.lt
theorem Inv.sz (I:Inv X pins σ H s):X.s₀.heap.objs.size <= s.heap.objs.size:=Nat.le_trans I.ok.above (Nat.le_of_lt I.lt)
theorem Inv.nofs (I:Inv X pins σ H s) {a:Addr} (h:s.heap.objs.size <= a):a ∉ X.fs:=fun hb=>by
  obtain ⟨_,o,ho,_⟩:=I.ok.funs.mem hb
  exact absurd (Nat.lt_of_lt_of_le (Heap.lt_size ho) (Nat.le_trans I.sz h)) (Nat.lt_irrefl _)
theorem Inv.cne (I:Inv X pins σ H s):∀ x c,X.env.cells.lookup x = some c -> c ≠ X.env.locals:=fun x c e z=>by
  obtain ⟨v,o,ho,hd⟩:=I.cell x c e
  obtain ⟨m,⟨o',es,ep,ho',hd',_⟩,_⟩:=I.loc
  rw [z,ho'] at ho; cases ho; rw [hd'] at hd; cases hd
theorem Inv.funs (I:Inv X pins σ H s):s.heap.FunFrames X.base X.outer:=by
  have all:∀ (l:List Env),(∀ b ∈ frs l,b ∈ X.fs) -> X.s₀.heap.FunFrames X.base l -> s.heap.FunFrames X.base l:=by
    intro l
    induction l with
    | nil=>intro _ _; trivial
    | cons env r ih =>
      intro hs hl
      obtain ⟨hk,⟨L,o,hf,hn,ho,hd⟩,hr⟩:=hl
      have hL:L ∈ X.fs:=hs L (by unfold frs; rw [List.filterMap_cons,hf]; exact List.mem_cons_self)
      obtain ⟨sl,e⟩:=I.base.slot L o ho (I.ok.frf L hL) hL fun z=>I.ok.exfs L z hL
      exact ⟨hk,⟨L,_,hf,hn,e,hd⟩,ih (fun b hb=>hs b (by unfold frs; rw [List.filterMap_cons,hf]; exact List.mem_cons_of_mem _ hb)) hr⟩
  exact all X.outer (fun _ hb=>hb) I.ok.funs

theorem Inv.stack (I:Inv X pins σ H s):s.heap.FunFrames X.base X.stack:=by
  rcases I.ok.stk with e | ⟨e,hf⟩
  · rw [e]; exact I.funs
  · rw [e]
    obtain ⟨m,hn,_⟩:=I.loc
    refine .cons (by rw [I.ok.kind]; decide) hf hn ?_ I.funs
    exact Heap.get?_none_of_le (Nat.le_trans I.ok.bsz I.ok.above)
theorem Inv.stkSub (I:Inv X pins σ H s):∀ b ∈ frs X.stack,b ∈ X.env.locals :: X.fs:=fun b hb=>by
  rcases I.ok.stk with e | ⟨e,hf⟩
  · rw [e] at hb; exact List.mem_cons_of_mem _ hb
  · rw [e] at hb
    unfold frs at hb
    rw [List.filterMap_cons,hf] at hb
    exact hb
theorem Inv.stkFree (I:Inv X pins σ H s):∀ b ∈ frs X.stack,H b = none:=fun b hb=>by
  rcases List.mem_cons.mp (I.stkSub b hb) with e | hb
  · rw [e]; exact I.free
  · obtain ⟨_,o,ho,_⟩:=I.ok.funs.mem hb
    exact I.base.free b o ho (I.ok.frf b hb) fun z=>I.ok.exfs b z hb

theorem Inv.step {g':Array GenState} {t':Nat} {d':Drawn} {ch:List Addr} (I:Inv X pins σ H s)
    (hch:∀ b ∈ ch,(b ∈ X.ex \/ X.s₀.heap.objs.size <= b) /\ b ≠ X.env.locals /\ (∀ x c,X.env.cells.lookup x = some c -> c ≠ b) /\ ∀ p ∈ X.pn ++ pins,p.1 ≠ b)
    (keep:∀ b o,b ≠ X.env.locals -> b ∉ X.fs -> b ∉ ch -> s.heap.get? b = some o -> H b = none -> h'.get? b = some o)
    (slot:∀ b o,b ≠ X.env.locals -> b ∈ X.fs -> b ∉ ch -> s.heap.get? b = some o -> H b = none -> ∃ sl,h'.get? b = some { o with slots:=sl }) (free:∀ b o,b ∉ ch -> s.heap.get? b = some o -> H b = none -> H' b = none)
    (there:∀ b o,b ∉ ch -> s.heap.get? b = some o -> ∃ o',h'.get? b = some o')
    (tups:∀ b xs,H b = some (.tup xs) -> H' b = some (.tup xs)) (frzs:∀ b o u,H b = some (.frz o u) -> H' b = some (.frz o u)) (tbls:∀ b ps,H b = some (.tbl ps) -> ∃ more,H' b = some (.tbl (ps ++ more)))
    (ns:∀ m,s.heap.Ns X.env.locals m -> h'.Ns X.env.locals m) (hok:HOk X.prog X.w H' h') (hg:AllBare g') :
    Inv X pins σ H' { s with heap:=h',gens:=g',drawn:=d',toks:=t' }:=by
  have neL:∀ b o,X.s₀.heap.get? b = some o -> b ≠ X.env.locals:=fun b o e=>Nat.ne_of_lt (Nat.lt_of_lt_of_le (Heap.lt_size e) I.ok.above)
  have neC:∀ b o,X.s₀.heap.get? b = some o -> b ∉ X.ex -> b ∉ ch:=fun b o e hx hb=>by
    rcases (hch b hb).1 with z | z
    · exact hx z
    · exact absurd (Nat.lt_of_lt_of_le (Heap.lt_size e) z) (Nat.lt_irrefl _)
  have cellK:∀ x c,X.env.cells.lookup x = some c -> ∀ v,s.heap.IsCell c v -> h'.IsCell c v:=fun x c e v ⟨o,ho,hd⟩=>by
    have nch:c ∉ ch:=fun z=>(hch c z).2.2.1 x c e rfl
    by_cases hc:c ∈ X.fs
    · obtain ⟨sl,q⟩:=slot c o (I.cne x c e) hc nch ho (I.freeC x c e)
      exact ⟨_,q,hd⟩
    · exact ⟨o,keep c o (I.cne x c e) hc nch ho (I.freeC x c e),hd⟩
  refine ⟨I.ok,I.os,hg,⟨fun b o e n hb hx=>?_,fun b o e n hb hx=>?_,fun b o e n hx=>?_,fun b o e hx=>?_,fun b xs e=>tups b xs (I.base.tups b xs e),fun b o xs e=>frzs b o xs (I.base.frzs b o xs e),fun b ps e=>?_⟩,?_,fun x c e=>?_,?_,fun x c e=>?_,fun p hp=>?_,hok,I.len⟩
  · exact keep b o (neL b o e) hb (neC b o e hx) (I.base.keep b o e n hb hx) (I.base.free b o e n hx)
  · obtain ⟨sl,e1⟩:=I.base.slot b o e n hb hx
    obtain ⟨sl',e2⟩:=slot b _ (neL b o e) hb (neC b o e hx) e1 (I.base.free b o e n hx)
    exact ⟨sl',e2⟩
  · obtain ⟨o',e1⟩:=I.base.there b o e hx
    exact free b o' (neC b o e hx) e1 (I.base.free b o e n hx)
  · obtain ⟨o',e1⟩:=I.base.there b o e hx
    exact there b o' (neC b o e hx) e1
  · obtain ⟨m1,e1⟩:=I.base.tbls b ps e
    obtain ⟨m2,e2⟩:=tbls b _ e1
    exact ⟨m1 ++ m2,by rw [e2,Array.append_assoc]⟩
  · obtain ⟨m,hn,hl⟩:=I.loc
    refine ⟨m,ns m hn,fun i x v e1 e2 e3=>?_⟩
    obtain ⟨u,r,l⟩:=hl i x v e1 e2 e3
    refine ⟨u,r,?_⟩
    rcases l with l | ⟨k,c,e,z⟩
    · exact .inl l
    · exact .inr ⟨k,c,e,cellK x c e _ z⟩
  · obtain ⟨v,z⟩:=I.cell x c e
    exact ⟨v,cellK x c e v z⟩
  · obtain ⟨m,⟨o,_,_,ho,_⟩,_⟩:=I.loc
    exact free _ o (fun z=>(hch _ z).2.1 rfl) ho I.free
  · obtain ⟨v,o,ho,hd⟩:=I.cell x c e
    exact free c o (fun z=>(hch c z).2.2.1 x c e rfl) ho (I.freeC x c e)
  · obtain ⟨e,n,ne,nf,d⟩:=I.pin p hp
    have nch:p.1 ∉ ch:=fun z=>(hch p.1 z).2.2.2 p hp rfl
    exact ⟨keep p.1 p.2 ne nf nch e n,free p.1 p.2 nch e n,ne,nf,d⟩
theorem Inv.un {t':Nat} (I:Inv X pins σ H s) (u:Un X.fs [] H H' s.heap h') (hok:HOk X.prog X.w H' h'):Inv X pins σ H' { s with heap:=h',toks:=t' }:=by
  obtain ⟨m,⟨o,es,ep,ho,r⟩,_⟩:=id I.loc
  obtain ⟨sl,hL⟩:=u.any ho I.free (by simp)
  exact I.step (g':=s.gens) (d':=s.drawn) (ch:=[]) (fun _ z=>nomatch z) (fun b o _ hb _ e n=>u.keep b o e n hb (by simp)) (fun b o _ hb _ e n=>u.slot b o e n hb (by simp)) (fun b o _ e n=>u.free b o e n (by simp)) (fun b o _ e=>u.there b o e (by simp)) u.tups u.frzs u.tbls (fun m' hm=>by
    obtain ⟨o',es',ep',ho',r'⟩:=hm
    rw [ho] at ho'; cases ho'
    exact ⟨_,es',ep',hL,r'⟩) hok I.bare
theorem Inv.call {g':Array GenState} {t':Nat} {d':Drawn} {ch:List Addr} (I:Inv X pins σ H s) (u:Un (frs X.stack) ch H H' s.heap h') (hok:HOk X.prog X.w H' h') (hg:AllBare g')
    (hch:∀ b ∈ ch,(b ∈ X.ex \/ X.s₀.heap.objs.size <= b) /\ b ≠ X.env.locals /\ (∀ x c,X.env.cells.lookup x = some c -> c ≠ b) /\ ∀ p ∈ X.pn ++ pins,p.1 ≠ b) :
    Inv X pins σ H' { s with heap:=h',gens:=g',drawn:=d',toks:=t' }:=by
  obtain ⟨m,⟨o,es,ep,ho,r⟩,_⟩:=id I.loc
  obtain ⟨sl,hL⟩:=u.any ho I.free fun z=>(hch _ z).2.1 rfl
  exact I.step (ch:=ch) hch (fun b o hL hb hc e n=>u.keep b o e n (fun z=>(List.mem_cons.mp (I.stkSub b z)).elim hL hb) hc) (fun b o _ _ hc e n=>u.any e n hc) (fun b o hc e n=>u.free b o e n hc) (fun b o hc e=>u.there b o e hc) u.tups u.frzs u.tbls (fun m' hm=>by
    obtain ⟨o',es',ep',ho',r'⟩:=hm
    rw [ho] at ho'; cases ho'
    exact ⟨_,es',ep',hL,r'⟩) hok hg
theorem Inv.turned {t':Nat} {it:Addr} (I:Inv X pins σ H s) (k:∀ b o,b ≠ it -> s.heap.get? b = some o -> h'.get? b = some o) (hn:H it = none) (hL:it ≠ X.env.locals)
    (h1:it ∈ X.ex \/ X.s₀.heap.objs.size <= it) (h2:∀ x c,X.env.cells.lookup x = some c -> c ≠ it) (h3:∀ p ∈ X.pn ++ pins,p.1 ≠ it):Inv X pins σ H { s with heap:=h',toks:=t' }:=by
  have nit:∀ b u,H b = some u -> b ≠ it:=fun b u e z=>by rw [z,hn] at e; cases e
  refine I.step (g':=s.gens) (d':=s.drawn) (ch:=[it]) (fun b hb=>?_) (fun b o _ _ hc e _=>k b o (fun z=>hc (by simp [z])) e) (fun b o _ _ hc e _=>⟨o.slots,k b o (fun z=>hc (by simp [z])) e⟩) (fun _ _ _ _ n=>n)
    (fun b o hc e=>⟨o,k b o (fun z=>hc (by simp [z])) e⟩) (fun _ _ e=>e) (fun _ _ _ e=>e) (fun b ps e=>⟨#[],by rw [e]; simp⟩) (fun m hm=>?_) (fun b u e=>?_) I.bare
  · have e:b = it:=by simpa using hb
    subst e
    exact ⟨h1,hL,h2,h3⟩
  · obtain ⟨o,es,ep,ho,r⟩:=hm
    exact ⟨o,es,ep,k _ o (Ne.symm hL) ho,r⟩
  · refine (I.hok b u e).stay (fun c v hc q=>k c v ?_ q) (fun _ q=>q) fun _ _ q=>q
    rcases hc with z | z
    · rw [z]; exact nit b u e
    · exact nit c _ z
theorem Inv.tok (I:Inv X pins σ H s) (t:Nat):Inv X pins σ H { s with toks:=t }:=I.un (h':=s.heap) (t':=t) Un.refl I.hok
theorem Inv.kept {t':Nat} (I:Inv X pins σ H s) (k:∀ b u,s.heap.get? b = some u -> h'.get? b = some u):Inv X pins σ H { s with heap:=h',toks:=t' }:=I.un (Un.kept k) (I.hok.kept k)
theorem Inv.laid {a:Addr} {o:HO} {t':Nat} (I:Inv X pins σ H s) (k:∀ b u,s.heap.get? b = some u -> h'.get? b = some u) (hp:s.heap.objs.size <= a) (new:ObjOk X.prog X.w (upd H a o) h' a o) :
    Inv X pins σ (upd H a o) { s with heap:=h',toks:=t' }:=I.un (Un.laid k hp (I.hok.fresh hp)) (I.hok.laid k hp new)
theorem Inv.write {x e:Addr} {o:HO} {t':Nat} (I:Inv X pins σ H s) (mu:Mut (H x)) (he:e = x \/ H e = some (.own x)) (k:∀ b u,b ≠ e -> s.heap.get? b = some u -> h'.get? b = some u) (heo:∃ u,h'.get? e = some u)
    (new:ObjOk X.prog X.w (upd H x o) h' x o):Inv X pins σ (upd H x o) { s with heap:=h',toks:=t' }:=I.un (Un.write mu he k heo) (I.hok.write mu he k heo new)
theorem Inv.weak {σ':List (Option V)} (I:Inv X pins σ H s) (hl : σ'.length = σ.length) (w:∀ (i:Nat) v,σ'[i]? = some (some v) -> σ[i]? = some (some v)):Inv X pins σ' H s :=
  ⟨I.ok,I.os,I.bare,I.base,let ⟨m,hn,hl'⟩:=I.loc; ⟨m,hn,fun i x v e1 e2 e3=>hl' i x v e1 (w i v e2) e3⟩,I.cell,I.free,I.freeC,I.pin,I.hok,hl.trans I.len⟩
theorem Inv.pins_of {pins':List (Addr × Obj)} (I:Inv X pins σ H s) (h:∀ p ∈ pins',s.heap.get? p.1 = some p.2 /\ H p.1 = none /\ p.1 ≠ X.env.locals /\ p.1 ∉ X.fs /\ ∀ v,p.2.data ≠ .cell v):Inv X pins' σ H s :=
  ⟨I.ok,I.os,I.bare,I.base,I.loc,I.cell,I.free,I.freeC,fun p hp=>(List.mem_append.mp hp).elim (fun z=>I.pin p (List.mem_append_left _ z)) (h p),I.hok,I.len⟩

theorem nodup_ix {N:List Str} (hN:N.Nodup) {i j:Nat} {x:Str} (a:N[i]? = some x) (b:N[j]? = some x):i = j:=by
  obtain ⟨h1,e1⟩:=List.getElem?_eq_some_iff.mp a
  obtain ⟨h2,e2⟩:=List.getElem?_eq_some_iff.mp b
  exact (List.getElem_inj hN).mp (e1.trans e2.symm)

theorem store_ok2 {M:Model} {A:Around} {E:Value -> Shared -> Prop} {i:Nat} {x:Str} {v:V} {u:Value} {Q:Unit -> Shared -> Prop} (I:Inv X pins σ H s) (hN:X.N.Nodup) (hi:X.N[i]? = some x) (hx:Loc X.env.scope x) (r:RelV v u)
    (h:∀ s',Inv X pins (σ.set i (some v)) H s' -> (∃ a,Heap.SameBut a s.heap s'.heap /\ (a = X.env.locals \/ X.env.cells.lookup x = some a)) -> Q () s') (hf:X.fn x = true \/ X.env.scope.names.lookup x = some .local:=by first | exact .inl rfl | exact .inr rfl | assumption):wpAny M A (storeName X.env x u) Q E s:=by
  obtain ⟨m,hn,hl⟩:=id I.loc
  have hcls:(X.env.scope.kind == .class || (X.env.scope.kind == .module && X.env.locals != X.env.globals)) = false:=by rw [I.ok.kind]; rfl
  have hiσ:i < σ.length:=by rw [I.len]; exact (List.getElem?_eq_some_iff.mp hi).1
  have cne:=I.cne
  have tracked:∀ {a:Addr} {h':Heap},(∃ o,s.heap.get? a = some o /\ H a = none) -> Heap.SameBut a s.heap h' -> HOk X.prog X.w H h':=fun {a h'} ha hs b ob e=>by
    obtain ⟨_,_,hfree⟩:=ha
    refine (I.hok b ob e).stay (fun c w' hc q=>(hs.2 c ?_).trans q) (fun _ q=>q) fun _ _ q=>q
    rintro rfl
    rcases hc with rfl | hc
    · rw [hfree] at e; cases e
    · rw [hfree] at hc; cases hc
  rcases hx with hk | hk
  · refine wpAny_storeName_local hk hn (fun h' hn' hs=>?_) hcls
    obtain ⟨oL,_,_,hoL,_⟩:=id hn
    refine h _ ⟨I.ok,I.os,I.bare,⟨fun b o e n hb hx=>?_,fun b o e n hb hx=>?_,I.base.free,fun b o e hx=>?_,I.base.tups,I.base.frzs,I.base.tbls⟩,⟨_,hn',fun j y v' e1 e2 e3=>?_⟩,fun y c e=>?_,I.free,I.freeC,fun p hp=>?_,tracked ⟨oL,hoL,I.free⟩ hs,by simpa using I.len⟩ ⟨_,hs,.inl rfl⟩
    · exact (hs.2 b (Nat.ne_of_lt (Nat.lt_of_lt_of_le (Heap.lt_size e) I.ok.above))).trans (I.base.keep b o e n hb hx)
    · obtain ⟨sl,e1⟩:=I.base.slot b o e n hb hx
      exact ⟨sl,(hs.2 b (Nat.ne_of_lt (Nat.lt_of_lt_of_le (Heap.lt_size e) I.ok.above))).trans e1⟩
    · obtain ⟨o',e1⟩:=I.base.there b o e hx
      exact ⟨o',(hs.2 b (Nat.ne_of_lt (Nat.lt_of_lt_of_le (Heap.lt_size e) I.ok.above))).trans e1⟩
    · by_cases hj:j = i
      · subst hj
        rw [hi] at e1; cases e1
        rw [List.getElem?_set_self hiσ] at e2
        cases e2
        exact ⟨u,r,.inl ⟨hk,by simp⟩⟩
      · rw [List.getElem?_set_ne (Ne.symm hj)] at e2
        obtain ⟨u',r',q⟩:=hl j y v' e1 e2 e3
        refine ⟨u',r',?_⟩
        rcases q with ⟨k,e⟩ | ⟨k,c,e,z⟩
        · refine .inl ⟨k,?_⟩
          have:y ≠ x:=fun e=>hj (nodup_ix hN e1 (e ▸ hi))
          simp [this,e]
        · exact .inr ⟨k,c,e,z.sameBut hs (cne y c e)⟩
    · obtain ⟨w',z⟩:=I.cell y c e
      exact ⟨w',z.sameBut hs (cne y c e)⟩
    · obtain ⟨e,n,ne,nf,d⟩:=I.pin p hp
      exact ⟨(hs.2 p.1 ne).trans e,n,ne,nf,d⟩
  · have hfn:X.fn x = true:=by
      rcases hf with z | z
      · exact z
      · rw [z] at hk; cases hk
    obtain ⟨c,hc⟩:=I.ok.has x (.inl hk)
    obtain ⟨w',z⟩:=I.cell x c hc
    refine wpAny_storeName_cell I.ok.kind hk hc z (fun h' hc' hs=>?_)
    obtain ⟨oc,hoc,hocd⟩:=id z
    refine h { s with heap:=h' } ⟨I.ok,I.os,I.bare,⟨fun b o e n hb hx=>?_,fun b o e n hb hx=>?_,I.base.free,fun b o e hx=>?_,I.base.tups,I.base.frzs,I.base.tbls⟩,⟨m,hn.sameBut hs (Ne.symm (cne x c hc)),fun j y v' e1 e2 e3=>?_⟩,fun y c' e=>?_,I.free,I.freeC,fun p hp=>?_,tracked ⟨oc,hoc,I.freeC x c hc⟩ hs,by simpa using I.len⟩ ⟨c,hs,.inr hc⟩
    · exact (hs.2 b (Nat.ne_of_lt (Nat.lt_of_lt_of_le (Heap.lt_size e) (I.ok.cab x c hfn hc)))).trans (I.base.keep b o e n hb hx)
    · obtain ⟨sl,e1⟩:=I.base.slot b o e n hb hx
      exact ⟨sl,(hs.2 b (Nat.ne_of_lt (Nat.lt_of_lt_of_le (Heap.lt_size e) (I.ok.cab x c hfn hc)))).trans e1⟩
    · obtain ⟨o',e1⟩:=I.base.there b o e hx
      exact ⟨o',(hs.2 b (Nat.ne_of_lt (Nat.lt_of_lt_of_le (Heap.lt_size e) (I.ok.cab x c hfn hc)))).trans e1⟩
    · by_cases hj:j = i
      · subst hj
        rw [hi] at e1; cases e1
        rw [List.getElem?_set_self hiσ] at e2
        cases e2
        exact ⟨u,r,.inr ⟨.inl hk,c,hc,hc'⟩⟩
      · rw [List.getElem?_set_ne (Ne.symm hj)] at e2
        obtain ⟨u',r',q⟩:=hl j y v' e1 e2 e3
        refine ⟨u',r',?_⟩
        rcases q with q | ⟨k,c',e,z'⟩
        · exact .inl q
        · refine .inr ⟨k,c',e,z'.sameBut hs ?_⟩
          rintro rfl
          exact hj (nodup_ix hN e1 (I.ok.inj _ _ _ e hc ▸ hi))
    · by_cases hcc:c' = c
      · subst hcc; exact ⟨_,hc'⟩
      · obtain ⟨w2,z2⟩:=I.cell y c' e
        exact ⟨w2,z2.sameBut hs hcc⟩
    · obtain ⟨e,n,ne,nf,d⟩:=I.pin p hp
      refine ⟨(hs.2 p.1 ?_).trans e,n,ne,nf,d⟩
      intro q
      rw [q,hoc] at e
      have q':oc = p.2:=Option.some.inj e
      exact d w' (by rw [<- q']; exact hocd)
theorem store_ok {M:Model} {A:Around} {E:Value -> Shared -> Prop} {i:Nat} {x:Str} {v:V} {u:Value} {Q:Unit -> Shared -> Prop} (I:Inv X pins σ H s) (hN:X.N.Nodup) (hi:X.N[i]? = some x) (hx:Loc X.env.scope x) (r:RelV v u)
    (h:∀ s',Inv X pins (σ.set i (some v)) H s' -> Q () s') (hf:X.fn x = true \/ X.env.scope.names.lookup x = some .local:=by first | exact .inl rfl | exact .inr rfl | assumption):wpAny M A (storeName X.env x u) Q E s :=
  store_ok2 I hN hi hx r (fun s' I' _=>h s' I') hf
theorem Inv.call' {s':Shared} {ch:List Addr} (I:Inv X pins σ H s) (ho:s'.os = s.os) (u:Un (frs X.stack) ch H H' s.heap s'.heap) (hok:HOk X.prog X.w H' s'.heap) (hg:AllBare s'.gens)
    (hch:∀ b ∈ ch,(b ∈ X.ex \/ X.s₀.heap.objs.size <= b) /\ b ≠ X.env.locals /\ (∀ x c,X.env.cells.lookup x = some c -> c ≠ b) /\ ∀ p ∈ X.pn ++ pins,p.1 ≠ b):Inv X pins σ H' s':=by
  obtain ⟨h',g',d',t',o'⟩:=s'
  have e:o' = s.os:=ho
  subst e
  exact I.call (g':=g') (t':=t') (d':=d') u hok hg hch
end

abbrev XK:=Value -> Option Addr -> Hp -> Prop
abbrev St:=List (Option V)
abbrev VK:=V -> Hp -> Prop
abbrev TE:=St -> Hp -> VK -> Prop
abbrev TT:=St -> Hp -> (Bool -> Hp -> Prop) -> Prop
abbrev TA:=St -> Hp -> (List V -> Hp -> Prop) -> Prop
structure Ends where
  nx:St -> Hp -> Prop
  rt:VK
  bk:St -> Hp -> Prop:=fun _ _=>False
  ct:St -> Hp -> Prop:=fun _ _=>False
abbrev TS:=Ends -> St -> Hp -> Prop

def EP (X:Cx) (pins:List (Addr × Obj)) (σ:St) (Q:VK) (u:Value) (s':Shared):Prop:=∃ v H',Inv X pins σ H' s' /\ RelV v u /\ Q v H'
def TP (X:Cx) (pins:List (Addr × Obj)) (σ:St) (Q:Bool -> Hp -> Prop) (b:Bool) (s':Shared):Prop:=∃ H',Inv X pins σ H' s' /\ Q b H'
def AP (X:Cx) (pins:List (Addr × Obj)) (σ:St) (Q:List V -> Hp -> Prop) (us:List Value) (s':Shared):Prop:=∃ vs H',Inv X pins σ H' s' /\ Vals vs us /\ Q vs H'
def SP (X:Cx) (pins:List (Addr × Obj)) (D:Ends) (f:Flow) (s':Shared):Prop :=
  match f with
  | .next=>∃ σ' H',Inv X pins σ' H' s' /\ D.nx σ' H'
  | .brk=>∃ σ' H',Inv X pins σ' H' s' /\ D.bk σ' H'
  | .cont=>∃ σ' H',Inv X pins σ' H' s' /\ D.ct σ' H'
  | .ret u=>∃ v σ' H',Inv X pins σ' H' s' /\ RelV v u /\ D.rt v H'

def PE (X:Cx) (e:Expr) (t:TE):Prop :=
  ∀ (pins:List (Addr × Obj)) (s:Shared) (σ:St) (H:Hp) (Q:VK),Inv X pins σ H s -> t σ H Q -> wpAny (model X.prog X.w) X.A (eval e X.env) (EP X pins σ Q) X.xe s
def PT (X:Cx) (e:Expr) (t:TT):Prop :=
  ∀ (pins:List (Addr × Obj)) (s:Shared) (σ:St) (H:Hp) (Q:Bool -> Hp -> Prop),Inv X pins σ H s -> t σ H Q -> wpAny (model X.prog X.w) X.A (isTrue e X.env (eval e X.env)) (TP X pins σ Q) X.xe s
def PW (X:Cx) (e:Expr) (t:TT):Prop :=
  ∀ (whole:Sem Value) (pins:List (Addr × Obj)) (s:Shared) (σ:St) (H:Hp) (Q:Bool -> Hp -> Prop),Inv X pins σ H s -> t σ H Q -> wpAny (model X.prog X.w) X.A (isTrue e X.env whole) (TP X pins σ Q) X.xe s
theorem PW.pt {X:Cx} {e:Expr} {t:TT} (h:PW X e t):PT X e t:=h _
def PA (X:Cx) (es:List Expr) (t:TA):Prop :=
  ∀ (pos:Pos) (pins:List (Addr × Obj)) (s:Shared) (σ:St) (H:Hp) (Q:List V -> Hp -> Prop),Inv X pins σ H s -> t σ H Q -> wpAny (model X.prog X.w) X.A (spliced (backTo pos (starEach es X.env))) (AP X pins σ Q) X.xe s
def PS (X:Cx) (st:Stmt) (t:TS):Prop :=
  ∀ (pins:List (Addr × Obj)) (s:Shared) (σ:St) (H:Hp) (D:Ends),Inv X pins σ H s -> t D σ H -> wpAny (model X.prog X.w) X.A (exec st X.env) (SP X pins D) X.xe s
def PSs (X:Cx) (st:List Stmt) (t:TS):Prop :=
  ∀ (pins:List (Addr × Obj)) (s:Shared) (σ:St) (H:Hp) (D:Ends),Inv X pins σ H s -> t D σ H -> wpAny (model X.prog X.w) X.A (execs st X.env) (SP X pins D) X.xe s
theorem thn {α:Type} {t:Sem α} {Q Q' : α -> Shared -> Prop} {M:Model} {A:Around} {E:Value -> Shared -> Prop} {s:Shared} (h:wpAny M A t Q E s) (hQ:∀ a s,Q a s -> Q' a s):wpAny M A t Q' E s:=wpAny_mono h hQ fun _ _ x=>x
end L2

namespace L2
open PySem PySem.Spec PyProof.Rows
section
variable {X:Cx}

def tVar (i:Nat):TE:=fun σ H Q=>∃ v,σ[i]? = some (some v) /\ Q v H
def tC (v:V):TE:=fun _ H Q=>Q v H
theorem pe_var {i:Nat} {x:Str} {pos:Pos} (hN:X.N[i]? = some x) (hv:Vis X.env.scope x) (hd:(x == ("__debug__" : Str)) = false:=by decide) (hcd:(x == ("__classdict__" : Str)) = false:=by decide):PE X (.Name x pos) (tVar i):=by
  intro pins s σ H Q I h
  obtain ⟨v,e,h⟩:=h
  obtain ⟨m,hn,hl⟩:=I.loc
  obtain ⟨u,r,l⟩:=hl i x v hN e hv
  have fin:EP X pins σ Q u s:=⟨v,H,I,r,h⟩
  rcases l with ⟨hk,hm⟩ | ⟨hk,c,hc,hcell⟩
  · exact wpAny_Name (wpAny_loadName_local I.ok.kind hk hn hm fin) hd
  · rcases hk with hk | hk
    · exact wpAny_Name (wpAny_loadName_cell I.ok.kind hk hc hcell fin) hd
    · exact wpAny_Name (wpAny_loadName_free I.ok.kind hk hc hcell fin hcd) hd
theorem pe_int {i j pos}:PE X (.Constant (.int i) j pos) (tC (.int i)):=fun _ _ _ H _ I h=>wpAny_Constant_int ⟨.int i,H,I.tok _,⟨_,rfl⟩,h⟩
theorem pe_bl {b j pos}:PE X (.Constant (.bool b) j pos) (tC (.bl b)):=fun _ _ _ H _ I h=>Constant_bool ⟨.bl b,H,I,rfl,h⟩
theorem pe_non {j pos}:PE X (.Constant .none j pos) (tC .non):=fun _ _ _ H _ I h=>Constant_none ⟨.non,H,I,rfl,h⟩
theorem pe_str {x j pos}:PE X (.Constant (.str x) j pos) (tC (.str x)):=fun _ _ _ H _ I h=>Calls.Constant_str ⟨.str x,H,I.tok _,⟨_,rfl⟩,h⟩

def Gl (X:Cx) (x:Str):Prop:=X.env.kindOf x = some .globalImplicit
theorem ld_glob {E:Value -> Shared -> Prop} {pins:List (Addr × Obj)} {s:Shared} {σ:St} {H:Hp} {x:Str} {u:Value} {pos:Pos} {Q:Value -> Shared -> Prop} (I:Inv X pins σ H s) (hg:Gl X x) (hm:X.mg x = some u) (h:Q u s)
    (hd:(x == ("__debug__" : Str)) = false:=by decide):wpAny (model X.prog X.w) X.A (eval (.Name x pos) X.env) Q E s :=
  Calls.Name_function_global I.ok.kind hg (Calls.loadGlobal_global (by rw [I.ok.glob]; exact I.mod.glob.keeps I.bk) hm h) hd
theorem ld_blt {E:Value -> Shared -> Prop} {pins:List (Addr × Obj)} {s:Shared} {σ:St} {H:Hp} {x:Str} {u:Value} {pos:Pos} {Q:Value -> Shared -> Prop} (I:Inv X pins σ H s) (hg:Gl X x) (hm:X.mg x = none) (hv:bootBuiltins x = some u) (h:Q u s)
    (hn:x ≠ "__name__" := by decide) (hd:(x == ("__debug__" : Str)) = false:=by decide):wpAny (model X.prog X.w) X.A (eval (.Name x pos) X.env) Q E s:=by
  obtain ⟨mb,h1,h2⟩:=I.mod.blt
  exact Calls.Name_function_global I.ok.kind hg (Calls.loadGlobal_builtin (by rw [I.ok.glob]; exact I.mod.glob.keeps I.bk) hm (by rw [I.ok.blt]; exact h1.keeps I.bk) ((h2 x hn).trans hv) h) hd
theorem pe_glob {x:Str} {v:V} {u:Value} {pos:Pos} (hg:Gl X x) (hm:X.mg x = some u) (r:RelV v u) (hd:(x == ("__debug__" : Str)) = false:=by decide):PE X (.Name x pos) (tC v) :=
  fun _ _ _ H _ I h=>ld_glob I hg hm ⟨v,H,I,r,h⟩ hd
theorem pe_bltn {x:Str} {v:V} {u:Value} {pos:Pos} (hg:Gl X x) (hm:X.mg x = none) (hv:bootBuiltins x = some u) (r:RelV v u) (hn:x ≠ "__name__" := by decide) (hd:(x == ("__debug__" : Str)) = false:=by decide):PE X (.Name x pos) (tC v) :=
  fun _ _ _ H _ I h=>ld_blt I hg hm hv ⟨v,H,I,r,h⟩ hn hd

variable {a b:Expr} {ta tb:TE} {pos:Pos}
def tB (t:TE):TT:=fun σ H Q=>t σ H fun x H1=>∃ c,x = .bl c /\ Q c H1
theorem pt_val {e:Expr} {t:TE} (h:PE X e t) (he:∀ whole,isTrue e X.env whole = (do let v <- whole; standAt e.pos; holding [v] (truthy v)):=by intro _; rfl):PT X e (tB t):=by
  intro pins s σ H Q I hw
  refine isTrue_plain (thn (h pins s σ H _ I hw) fun v s1 ⟨x,H1,I1,r1,q1⟩=>?_) (he _)
  obtain ⟨d,rfl,q⟩:=q1
  cases r1
  exact wpAny_truthy_bool ⟨H1,I1,q⟩

variable {tA tB':TT} {rest:List Expr}
def tAnd (t u:TT):TT:=fun σ H Q=>t σ H fun c H1=>if c = true then u σ H1 Q else Q false H1
def tOr (t u:TT):TT:=fun σ H Q=>t σ H fun c H1=>if c = true then Q true H1 else u σ H1 Q
def tNot (t:TT):TT:=fun σ H Q=>t σ H fun c H1=>Q (!c) H1
theorem pw_and1 (ha:PT X a tA):PW X (.BoolOp .And [a] pos) tA:=by
  intro wh pins s σ H Q I h
  refine isTrue_and (thn (ha pins s σ H Q I h) fun c s1 e=>?_)
  cases c with
  | true=>exact isTrue_and_nil e
  | false=>exact e
theorem pw_or1 (ha:PT X a tA):PW X (.BoolOp .Or [a] pos) tA:=by
  intro wh pins s σ H Q I h
  refine isTrue_or (thn (ha pins s σ H Q I h) fun c s1 e=>?_)
  cases c with
  | false=>exact isTrue_or_nil e
  | true=>exact e
theorem pw_and (ha:PT X a tA) (hb:PW X (.BoolOp .And (b :: rest) pos) tB'):PW X (.BoolOp .And (a :: b :: rest) pos) (tAnd tA tB'):=by
  intro wh pins s σ H Q I h
  refine isTrue_and (thn (ha pins s σ H _ I h) fun c s1 ⟨H1,I1,q1⟩=>?_)
  cases c with
  | true=>exact hb wh pins s1 σ H1 Q I1 q1
  | false=>exact ⟨H1,I1,q1⟩
theorem pw_or (ha:PT X a tA) (hb:PW X (.BoolOp .Or (b :: rest) pos) tB'):PW X (.BoolOp .Or (a :: b :: rest) pos) (tOr tA tB'):=by
  intro wh pins s σ H Q I h
  refine isTrue_or (thn (ha pins s σ H _ I h) fun c s1 ⟨H1,I1,q1⟩=>?_)
  cases c with
  | true=>exact ⟨H1,I1,q1⟩
  | false=>exact hb wh pins s1 σ H1 Q I1 q1
theorem pt_not (ha:PT X a tA):PT X (.UnaryOp .Not a pos) (tNot tA):=by
  intro pins s σ H Q I h
  exact isTrue_not (ha pins s σ H (fun c H1=>Q (!c) H1) I h)
def tAndV (ta tb:TE):TE:=fun σ H Q=>ta σ H fun x H1=>∃ c,x = .bl c /\ if c = true then tb σ H1 Q else Q (.bl false) H1
def tOrV (ta tb:TE):TE:=fun σ H Q=>ta σ H fun x H1=>∃ c,x = .bl c /\ if c = true then Q (.bl true) H1 else tb σ H1 Q
def tNotV (ta:TE):TE:=fun σ H Q=>ta σ H fun x H1=>∃ c,x = .bl c /\ Q (.bl (!c)) H1
theorem pe_one {op} {t:TE} (h:PE X a t):PE X (.BoolOp op [a] pos) t:=fun pins s σ H Q I hw=>BoolOp_one (h pins s σ H Q I hw)
theorem pe_and (ha:PE X a ta) (hb:PE X (.BoolOp .And (b :: rest) pos) tb):PE X (.BoolOp .And (a :: b :: rest) pos) (tAndV ta tb):=by
  intro pins s σ H Q I h
  refine BoolOp_and (thn (ha pins s σ H _ I h) fun v s1 ⟨x,H1,I1,r1,q1⟩=>?_)
  obtain ⟨c,rfl,q1⟩:=q1
  cases r1
  refine wpAny_truthy_bool ?_
  cases c with
  | true=>exact hb pins s1 σ H1 Q I1 q1
  | false=>exact ⟨.bl false,H1,I1,rfl,q1⟩
theorem pe_or (ha:PE X a ta) (hb:PE X (.BoolOp .Or (b :: rest) pos) tb):PE X (.BoolOp .Or (a :: b :: rest) pos) (tOrV ta tb):=by
  intro pins s σ H Q I h
  refine BoolOp_or (thn (ha pins s σ H _ I h) fun v s1 ⟨x,H1,I1,r1,q1⟩=>?_)
  obtain ⟨c,rfl,q1⟩:=q1
  cases r1
  refine wpAny_truthy_bool ?_
  cases c with
  | false=>exact hb pins s1 σ H1 Q I1 q1
  | true=>exact ⟨.bl true,H1,I1,rfl,q1⟩
theorem pe_not (ha:PE X a ta):PE X (.UnaryOp .Not a pos) (tNotV ta):=by
  intro pins s σ H Q I h
  refine UnaryOp_ (thn (ha pins s σ H _ I h) fun v s1 ⟨x,H1,I1,r1,q1⟩=>?_)
  obtain ⟨c,rfl,q1⟩:=q1
  cases r1
  exact not_of (wpAny_truthy_bool ⟨.bl (!c),H1,I1,rfl,q1⟩)
def tIf (t:TT) (ta tb:TE):TE:=fun σ H Q=>t σ H fun c H1=>if c = true then ta σ H1 Q else tb σ H1 Q
theorem pe_ifExp {c:Expr} (hc:PT X c tA) (ha:PE X a ta) (hb:PE X b tb):PE X (.IfExp c a b pos) (tIf tA ta tb):=by
  intro pins s σ H Q I h
  refine wpAny_IfExp (thn (hc pins s σ H _ I h) fun d s1 ⟨H1,I1,q1⟩=>?_)
  cases d with
  | true=>exact ha pins s1 σ H1 Q I1 q1
  | false=>exact hb pins s1 σ H1 Q I1 q1
end
end L2

namespace L2
open PySem PySem.Spec PyProof.Rows

def SqL (K:W.Frag) (H:Hp) (a:Addr) (xs:List V):Prop :=
  Rd H a (.lst xs) \/
    ∃ (o:Obj) (its:Array Value) (n:Nat),K.lookup a = some o /\ o.cls = .type "list" /\ o.dict = none /\ o.data = .seq its n /\ its.size <= sizeLine /\ Vals xs its.toList
def SqT (K:W.Frag) (H:Hp) (a:Addr) (xs:List V):Prop :=
  Rd H a (.tup xs) \/
    ∃ (o:Obj) (its:Array Value) (n:Nat),K.lookup a = some o /\ o.cls = .type "tuple" /\ o.data = .seq its n /\ its.size <= sizeLine /\ Vals xs its.toList /\ o.dict = none
def absV:Value -> Option V
  | .none=>some .non
  | .bool b=>some (.bl b)
  | .int i _=>some (.int i)
  | .str x _=>some (.str x)
  | .bytes b _=>some (.byt b)
  | .float b _=>some (.flt b)
  | .ref a=>some (.ref a)
  | .type n=>some (.ty n)
  | _=>none
theorem RelV.abs {x:V} {u:Value} (r:RelV x u):absV u = some x:=by
  cases x with
  | non=>cases r; rfl
  | bl _=>cases r; rfl
  | int _=>obtain ⟨t,rfl⟩:=r; rfl
  | str _=>obtain ⟨t,rfl⟩:=r; rfl
  | byt _=>obtain ⟨t,rfl⟩:=r; rfl
  | flt _=>obtain ⟨t,rfl⟩:=r; rfl
  | ref _=>cases r; rfl
  | ty _=>cases r; rfl
theorem RelV.inj {x y:V} {u:Value} (r:RelV x u) (q:RelV y u):x = y:=Option.some.inj (r.abs.symm.trans q.abs)
theorem Vals.inj:∀ {xs ys:List V} {us:List Value},Vals xs us -> Vals ys us -> xs = ys
  | _,_,_,.nil,.nil=>rfl
  | _,_,_,.cons r t,.cons r' t'=>by rw [r.inj r',Vals.inj t t']
section
variable {X:Cx} {pins:List (Addr × Obj)} {σ:St} {H:Hp} {s:Shared} {a:Addr} {xs ys:List V}
theorem SqL.of {K:W.Frag} (h:H a = some (.lst xs)):SqL K H a xs:=.inl (.inl h)
theorem SqT.of {K:W.Frag} (h:H a = some (.tup xs)):SqT K H a xs:=.inl (.inl h)
theorem Inv.list (I:Inv X pins σ H s) (h:SqL X.K H a xs):∃ its:List Value,Vals xs its /\ PlainL s.heap a its.toArray /\ xs.length <= sizeLine:=by
  rcases h with h | ⟨o,its,n,hk,hc,hd,hs,hz,r⟩
  · obtain ⟨z,its,n,r,e⟩:=h.ok I.hok
    exact ⟨its,r,⟨_,n,e,rfl,rfl,rfl⟩,z⟩
  · refine ⟨its.toList,r,⟨o,n,I.kIn a o hk,hc,hd,by simpa using hs⟩,?_⟩
    have e:=r.length
    simp only [Array.length_toList] at e
    omega
theorem Inv.tuple (I:Inv X pins σ H s) (h:SqT X.K H a xs):∃ its:List Value,Vals xs its /\ IsTup s.heap a its.toArray /\ xs.length <= sizeLine:=by
  rcases h with h | ⟨o,its,n,hk,hc,hs,hz,r,hd⟩
  · obtain ⟨z,its,r,p⟩:=h.ok I.hok
    exact ⟨its,r,p.tup,z⟩
  · refine ⟨its.toList,r,⟨o,I.kIn a o hk,hc,n,by simpa using hs⟩,?_⟩
    have e:=r.length
    simp only [Array.length_toList] at e
    omega
theorem Inv.list_inj (I:Inv X pins σ H s) (h:SqL X.K H a xs) (h':SqL X.K H a ys):xs = ys:=by
  obtain ⟨its,r,⟨o,n,e,_,_,d⟩,_⟩:=I.list h
  obtain ⟨its',r',⟨o',n',e',_,_,d'⟩,_⟩:=I.list h'
  rw [e] at e'; cases e'
  rw [d] at d'
  injection d' with d1 _
  have:its = its':=by simpa using congrArg Array.toList d1
  subst this
  exact r.inj r'
theorem Inv.tupleD (I:Inv X pins σ H s) (h:SqT X.K H a xs):∃ ob,s.heap.get? a = some ob /\ ob.cls = .type "tuple" /\ ob.dict = none:=by
  rcases h with h | ⟨o,its,n,hk,hc,hs,hz,r,hd⟩
  · obtain ⟨z,its,r,⟨o,e1,e2,_,e3⟩⟩:=h.ok I.hok
    exact ⟨o,e1,e2,e3⟩
  · exact ⟨o,I.kIn a o hk,hc,hd⟩
theorem Inv.tuple_inj (I:Inv X pins σ H s) (h:SqT X.K H a xs) (h':SqT X.K H a ys):xs = ys:=by
  obtain ⟨its,r,⟨o,e,_,n,d⟩,_⟩:=I.tuple h
  obtain ⟨its',r',⟨o',e',_,n',d'⟩,_⟩:=I.tuple h'
  rw [e] at e'; cases e'
  rw [d] at d'
  injection d' with d1 _
  have:its = its':=by simpa using congrArg Array.toList d1
  subst this
  exact r.inj r'
end

abbrev Cx.wish (X:Cx) (E:Value -> Shared -> Prop):Cx:={ X with xe:=E }
abbrev Cx.nox (X:Cx):Cx:=X.wish fun _ _=>False
theorem Cx.Ok.wish {X:Cx} (ok:X.Ok) (E:Value -> Shared -> Prop):(X.wish E).Ok :=
  ⟨ok.mod,ok.kind,ok.glob,ok.blt,ok.above,ok.inj,ok.has,ok.cab,ok.hd,ok.frames,ok.stk,ok.exf,ok.bs,ok.bsz,ok.noex,ok.exfs,ok.funs,ok.frf⟩
theorem Cx.Ok.unwish {X:Cx} {E:Value -> Shared -> Prop} (ok:(X.wish E).Ok):X.Ok :=
  ⟨ok.mod,ok.kind,ok.glob,ok.blt,ok.above,ok.inj,ok.has,ok.cab,ok.hd,ok.frames,ok.stk,ok.exf,ok.bs,ok.bsz,ok.noex,ok.exfs,ok.funs,ok.frf⟩
section
variable {X:Cx} {pins:List (Addr × Obj)} {σ:St} {H:Hp} {s:Shared} {E:Value -> Shared -> Prop}
theorem Inv.wish (I:Inv X pins σ H s) (E:Value -> Shared -> Prop):Inv (X.wish E) pins σ H s:=⟨I.ok.wish E,I.os,I.bare,I.base,I.loc,I.cell,I.free,I.freeC,I.pin,I.hok,I.len⟩
theorem Inv.unwish (I:Inv (X.wish E) pins σ H s):Inv X pins σ H s:=⟨I.ok.unwish,I.os,I.bare,I.base,I.loc,I.cell,I.free,I.freeC,I.pin,I.hok,I.len⟩
theorem SP.unwish {D:Ends} {f:Flow} {s':Shared} (h:SP (X.wish E) pins D f s'):SP X pins D f s':=by
  cases f with
  | next=>obtain ⟨σ',H',I,q⟩:=h; exact ⟨σ',H',I.unwish,q⟩
  | brk=>obtain ⟨σ',H',I,q⟩:=h; exact ⟨σ',H',I.unwish,q⟩
  | cont=>obtain ⟨σ',H',I,q⟩:=h; exact ⟨σ',H',I.unwish,q⟩
  | ret u=>obtain ⟨v,σ',H',I,r,q⟩:=h; exact ⟨v,σ',H',I.unwish,r,q⟩
theorem PE.nox {e:Expr} {t:TE} (h:PE X.nox e t):PE X e t:=fun pins s σ H Q I hw =>
  wpAny_mono (h pins s σ H Q (I.wish _) hw) (fun _ _ ⟨v,H',I',r,q⟩=>⟨v,H',I'.unwish,r,q⟩) fun _ _ z=>False.elim z
theorem PT.nox {e:Expr} {t:TT} (h:PT X.nox e t):PT X e t:=fun pins s σ H Q I hw =>
  wpAny_mono (h pins s σ H Q (I.wish _) hw) (fun _ _ ⟨H',I',q⟩=>⟨H',I'.unwish,q⟩) fun _ _ z=>False.elim z
theorem PSs.nox {st:List Stmt} {t:TS} (h:PSs X.nox st t):PSs X st t:=fun pins s σ H D I hw =>
  wpAny_mono (h pins s σ H D (I.wish _) hw) (fun _ _ q=>q.unwish) fun _ _ z=>False.elim z
end

section
variable {X:Cx} {st:Stmt} {rest:List Stmt} {t u:TS} {e:Expr} {te:TE} {pos:Pos}
def tNext:TS:=fun D σ H=>D.nx σ H
def tSeq (t u:TS):TS:=fun D σ H=>t { D with nx:=u D } σ H
theorem pss_nil:PSs X [] tNext:=fun _ _ σ H _ I h=>wpAny_execs_nil ⟨σ,H,I,h⟩
theorem pss_cons (h1:PS X st t) (h2:PSs X rest u):PSs X (st :: rest) (tSeq t u):=by
  intro pins s σ H D I h
  refine wpAny_execs_cons (thn (h1 pins s σ H { D with nx:=u D } I h) fun f s1 q=>?_)
  cases f with
  | next =>
    obtain ⟨σ',H',I',q⟩:=q
    exact h2 pins s1 σ' H' D I' q
  | ret v=>exact q
  | brk=>exact q
  | cont=>exact q
theorem pss_one (h1:PS X st t):PSs X [st] t:=by
  intro pins s σ H D I h
  refine wpAny_execs_cons (thn (h1 pins s σ H D I h) fun f s1 q=>?_)
  cases f with
  | next=>exact wpAny_execs_nil q
  | ret v=>exact q
  | brk=>exact q
  | cont=>exact q
theorem Inv.quiet {pins:List (Addr × Obj)} {σ:St} {H:Hp} {s:Shared} (I:Inv X pins σ H s):interactive X.env = false:=by simp [interactive,I.ok.kind]
def tDrop (te:TE):TS:=fun D σ H=>te σ H fun _ H1=>D.nx σ H1
theorem ps_expr (he:PE X e te) (hs:swapsWith e none pos.line X.env = pure false:=by rfl):PS X (.Expr e pos) (tDrop te):=by
  intro pins s σ H D I h
  exact wpAny_Expr_any (thn (he pins s σ H _ I h) fun v s1 ⟨x,H1,I1,r1,q1⟩=>⟨σ,H1,I1,q1⟩) I.quiet hs
def tRet (te:TE):TS:=fun D σ H=>te σ H D.rt
theorem ps_ret (he:PE X e te):PS X (.Return (some e) pos) (tRet te):=by
  intro pins s σ H D I h
  exact wpAny_Return_some (thn (he pins s σ H _ I h) fun v s1 ⟨x,H1,I1,r1,q1⟩=>⟨x,σ,H1,I1,r1,q1⟩)
def tIfS (c:TT) (t u:TS):TS:=fun D σ H=>c σ H fun b H1=>if b = true then t D σ H1 else u D σ H1
theorem ps_if {c:Expr} {a b:List Stmt} {tc:TT} (hc:PT X c tc) (ha:PSs X a t) (hb:PSs X b u):PS X (.If c a b pos) (tIfS tc t u):=by
  intro pins s σ H D I h
  refine wpAny_If (thn (hc pins s σ H _ I h) fun d s1 ⟨H1,I1,q1⟩=>?_)
  cases d with
  | true=>exact ha pins s1 σ H1 D I1 q1
  | false=>exact hb pins s1 σ H1 D I1 q1
end

abbrev TG:=V -> St -> Hp -> (St -> Hp -> Prop) -> Prop
abbrev TGs:=List V -> St -> Hp -> (St -> Hp -> Prop) -> Prop
def PG (X:Cx) (target:Expr) (t:TG):Prop :=
  ∀ (pins:List (Addr × Obj)) (s:Shared) (σ:St) (H:Hp) (v:V) (u:Value) (Q:St -> Hp -> Prop),Inv X pins σ H s -> RelV v u -> t v σ H Q ->
    wpAny (model X.prog X.w) X.A (assign target X.env u) (fun _ s'=>∃ σ' H',Inv X pins σ' H' s' /\ Q σ' H') X.xe s
def PGs (X:Cx) (ts:List Expr) (t:TGs):Prop :=
  ∀ (pins:List (Addr × Obj)) (s:Shared) (σ:St) (H:Hp) (vs:List V) (us:List Value) (Q:St -> Hp -> Prop),Inv X pins σ H s -> Vals vs us -> t vs σ H Q ->
    wpAny (model X.prog X.w) X.A (assignInOrder ((assignEach ts X.env).map (·.2)) us) (fun _ s'=>∃ σ' H',Inv X pins σ' H' s' /\ Q σ' H') X.xe s
abbrev TSet:=V -> V -> V -> Hp -> (Hp -> Prop) -> Prop
def PSet (X:Cx) (t:TSet):Prop :=
  ∀ (pins:List (Addr × Obj)) (s:Shared) (σ:St) (H:Hp) (o i v:V) (ov iv u:Value) (Q:Hp -> Prop),Inv X pins σ H s -> RelV o ov -> RelV i iv -> RelV v u -> t o i v H Q ->
    wpAny (model X.prog X.w) X.A (setItem ov iv u) (fun _ s'=>∃ H',Inv X pins σ H' s' /\ Q H') X.xe s
section
variable {X:Cx} {pos:Pos}
def gName (i:Nat):TG:=fun v σ H Q=>Q (σ.set i (some v)) H
theorem pg_name {i:Nat} {x:Str} (hN:X.N.Nodup) (hi:X.N[i]? = some x) (hx:Loc X.env.scope x) (hf:X.fn x = true \/ X.env.scope.names.lookup x = some .local:=by first | exact .inl rfl | exact .inr rfl | assumption):PG X (.Name x pos) (gName i):=by
  intro pins s σ H v u Q I r h
  exact wpAny_assign_Name (store_ok I hN hi hx r (fun s' I'=>⟨_,H,I',h⟩) hf)
def gNil:TGs:=fun vs σ H Q=>vs = [] /\ Q σ H
def gCons (t:TG) (u:TGs):TGs:=fun vs σ H Q=>∃ v r,vs = v :: r /\ t v σ H fun σ' H'=>u r σ' H' Q
theorem pgs_nil:PGs X [] gNil:=by
  intro pins s σ H vs us Q I r h
  obtain ⟨e,h⟩:=h
  subst e
  cases r
  exact assignInOrder_nil ⟨σ,H,I,h⟩
theorem pgs_cons {e:Expr} {es:List Expr} {t:TG} {u:TGs} (h1:PG X e t) (h2:PGs X es u)
    (hs:(assignEach (e :: es) X.env).map (·.2) = assign e X.env :: (assignEach es X.env).map (·.2):=by rfl):PGs X (e :: es) (gCons t u):=by
  intro pins s σ H vs us Q I r h
  obtain ⟨v,vr,e1,h⟩:=h
  subst e1
  cases r with
  | cons r rr =>
    rw [hs]
    refine assignInOrder_cons (thn (h1 pins s σ H _ _ _ I r h) fun _ s1 ⟨σ1,H1,I1,q1⟩=>?_)
    exact h2 pins s1 σ1 H1 _ _ Q I1 rr q1
def gTup (K:W.Frag) (n:Nat) (t:TGs):TG:=fun v σ H Q=>∃ a xs,v = .ref a /\ SqT K H a xs /\ xs.length = n /\ t xs σ H Q
theorem pg_tup {es:List Expr} {k:Nat} {t:TGs} {n:Nat} (hc:X.calm = true) (h:PGs X es t)
    (hn:(assignEach es X.env).length = n:=by rfl) (hst:(assignEach es X.env).findIdx? (·.1) = none:=by rfl):PG X (.Tuple es k pos) (gTup X.K n t):=by
  intro pins s σ H v u Q I r hw
  obtain ⟨a,xs,e1,hq,hl,hw⟩:=hw
  subst e1
  cases r
  obtain ⟨its,rv,ht,hz⟩:=I.tuple hq
  refine assign_Tuple_tuple (I.ok.hd hc) ht (by simp [hn,<- hl,rv.length]) hst fun h' hx=>?_
  have I1:Inv X pins σ H { s with heap:=h' }:=I.kept (t':=s.toks) fun b o e=>hx b o (Nat.ne_of_lt (Heap.lt_size e)) e
  exact h pins _ σ H xs _ Q I1 (by simpa using rv) hw
def gSub (to ti:TE) (t:TSet):TG:=fun v σ H Q=>to σ H fun o H1=>ti σ H1 fun i H2=>t o i v H2 fun H3=>Q σ H3
theorem pg_sub {o i:Expr} {to ti:TE} {t:TSet} (ho:PE X o to) (hi:PE X i ti) (hs:PSet X t)
    (ha:∀ v,assign (.Subscript o i pos) X.env v = (do
      let ov <- holding [v] (eval o X.env)
      let iv <- holding [v,ov] (eval i X.env)
      standAt pos
      holding [v,ov,iv] (setItem ov iv v)
      release [v,ov,iv] []):=by intro _; rfl):PG X (.Subscript o i pos) (gSub to ti t):=by
  intro pins s σ H v u Q I r h
  rw [ha]
  refine wpAny_bind (wpAny_holding (thn (ho pins s σ H _ I h) fun ov s1 ⟨x,H1,I1,r1,q1⟩=>?_))
  refine wpAny_bind (wpAny_holding (thn (hi pins s1 σ H1 _ I1 q1) fun iv s2 ⟨y,H2,I2,r2,q2⟩=>?_))
  refine wpAny_bind (wpAny_standAt (wpAny_bind (wpAny_holding (thn (hs pins s2 σ H2 x y v ov iv u _ I2 r1 r2 r q2) fun _ s3 ⟨H3,I3,q3⟩=>?_))))
  exact wpAny_release ⟨σ,H3,I3,q3⟩
def tAsg (te:TE) (g:TG):TS:=fun D σ H=>te σ H fun x H1=>g x σ H1 D.nx
theorem ps_asg {tg e:Expr} {te:TE} {g:TG} (he:PE X e te) (hg:PG X tg g) (hs:swapsWithSole [tg] e pos.line X.env = pure false:=by rfl) (hw:swappedStores [tg] e X.env = pure none:=by rfl)
    (h1:(assignEach [tg] X.env).map (·.2) = [assign tg X.env]:=by rfl):PS X (.Assign [tg] e pos) (tAsg te g):=by
  intro pins s σ H D I h
  refine wpAny_Assign_stores (thn (he pins s σ H _ I h) fun v s1 ⟨x,H1,I1,r1,q1⟩=>?_) hs hw
  rw [h1]
  exact thn (hg pins s1 σ H1 x v _ I1 r1 q1) fun _ s2 q=>q
theorem ps_set {i:Nat} {x:Str} {e:Expr} {te:TE} {pos':Pos} (hN:X.N.Nodup) (hi:X.N[i]? = some x) (hx:Loc X.env.scope x) (he:PE X e te) (hs:swapsWith e (some (.Name x pos')) pos.line X.env = pure false:=by rfl) (hf:X.fn x = true \/ X.env.scope.names.lookup x = some .local:=by first | exact .inl rfl | exact .inr rfl | assumption) :
    PS X (.Assign [.Name x pos'] e pos) (tAsg te (gName i)):=by
  intro pins s σ H D I h
  refine wpAny_Assign_Name (thn (he pins s σ H _ I h) fun v s1 ⟨y,H1,I1,r1,q1⟩=>?_) hs
  exact store_ok I1 hN hi hx r1 (fun s2 I2=>⟨_,H1,I2,q1⟩) hf
def tPar (i j:Nat) (ta:TA):TS:=fun D σ H=>ta σ H fun vs H1=>∃ v w,vs = [v,w] /\ D.nx ((σ.set i (some v)).set j (some w)) H1
theorem ps_par {i j:Nat} {x y:Str} {a b:Expr} {ta:TA} {px py pt:Pos} {kt k2 pt2} (hc:X.calm = true) (hN:X.N.Nodup) (hi:X.N[i]? = some x) (hj:X.N[j]? = some y) (hij:i ≠ j)
    (hx:X.env.scope.names.lookup x = some .local) (hy:X.env.scope.names.lookup y = some .local) (ha:PA X [a,b] ta)
    (hw:swappedStores [.Tuple [.Name x px,.Name y py] kt pt] (.Tuple [a,b] k2 pt2) X.env = pure (some [x,y]))
    (hs:swapsWithSole [.Tuple [.Name x px,.Name y py] kt pt] (.Tuple [a,b] k2 pt2) pos.line X.env = pure false:=by rfl) :
    PS X (.Assign [.Tuple [.Name x px,.Name y py] kt pt] (.Tuple [a,b] k2 pt2) pos) (tPar i j ta):=by
  intro pins s σ H D I h
  rw [exec_Assign_arm]
  refine wpAny_bind (wpAny_standAt ?_)
  rw [hs]
  refine wpAny_bind (wpAny_pure ?_)
  rw [if_neg (by decide)]
  refine wpAny_bind (Tuple_ (thn (ha _ pins s σ H _ I h) fun us s1 ⟨vs,H1,I1,r1,q1⟩=>?_))
  obtain ⟨v,w,e1,q1⟩:=q1
  subst e1
  obtain ⟨u1,u2,rfl,rv,rw'⟩:∃ u1 u2,us = [u1,u2] /\ RelV v u1 /\ RelV w u2:=by
    cases r1 with
    | cons p q =>
      cases q with
      | cons p' q' =>
        cases q'
        exact ⟨_,_,rfl,p,p'⟩
  refine wpAny_newObj_type ?_ (by show 2 <= sizeLine; decide)
  have I2:Inv X pins σ H1 { s1 with heap:=s1.heap.push { cls:=.type "tuple", data:=.seq [u1,u2].toArray } }:=I1.kept (t':=s1.toks) fun b o e=>Heap.get?_push_of_some _ e
  rw [hw]
  refine wpAny_bind (wpAny_pure ?_)
  show wpAny (model X.prog X.w) X.A (do rule "assign.swapped-stores"; let items <- unpackItems (.ref s1.heap.objs.size) 2 none; assignInOrder [fun v=>bindName X.env y v,fun v=>bindName X.env x v] items.reverse; pure Flow.next) _ _ _
  refine wpAny_bind (wpAny_rule (wpAny_bind (unpackItems_tuple (items:=#[u1,u2]) (I.ok.hd hc) (IsTup.new s1.heap _) fun h' hx'=>?_)))
  have I3:=I2.kept (h':=h') (t':=s1.toks) fun b o e=>hx' b o (Nat.ne_of_lt (Heap.lt_size e)) e
  show wpAny _ _ (assignInOrder [fun v=>bindName X.env y v,fun v=>bindName X.env x v] [u2,u1] >>= fun _=>pure Flow.next) _ _ _
  refine wpAny_bind (assignInOrder_cons (wpAny_bindName (store_ok I3 hN hj (.inl hy) rw' (fun s2 I4=>?_) (.inr hy))))
  refine assignInOrder_cons (wpAny_bindName (store_ok I4 hN hi (.inl hx) rv (fun s3 I5=>assignInOrder_nil (wpAny_pure ?_)) (.inr hx)))
  rw [List.set_comm _ _ (Ne.symm hij)] at I5
  exact ⟨_,H1,I5,q1⟩
end

section
variable {X:Cx} {pos:Pos}
def tWhile (c:TT) (tb:TS):TS:=fun D σ H=>∃ W:Nat -> St -> Hp -> Prop,(∃ m,W m σ H) /\ ∀ m σ H,W m σ H ->
  c σ H fun b H1=>if b = true then ∃ N:St -> Hp -> Prop,(∀ σ' H',N σ' H' -> ∃ m',m' < m /\ W m' σ' H') /\ tb { D with nx:=N,ct:=N,bk:=D.nx } σ H1 else D.nx σ H1
theorem ps_while {c:Expr} {body:List Stmt} {tc:TT} {tb:TS} (hp:PassesOwn (model X.prog X.w) X.A X.env X.xe) (hc:PT X c tc) (hb:PSs X body tb):PS X (.While c body [] pos) (tWhile tc tb):=by
  intro pins s σ H D I h
  obtain ⟨W,⟨m0,w0⟩,turn⟩:=h
  refine wpAny_While (codeAny_whileLoop (fun n s'=>∃ σ' H',Inv X pins σ' H' s' /\ W n σ' H') ?_ m0 ⟨σ,H,I,w0⟩)
  rintro n s1 ⟨σ1,H1,I1,w1⟩
  refine wpAny_passesOwn hp (thn (hc pins s1 σ1 H1 _ I1 (turn n σ1 H1 w1)) fun b s2 ⟨H2,I2,q2⟩=>?_)
  cases b with
  | true =>
    obtain ⟨N,hN,q2⟩:=q2
    rw [if_pos rfl]
    refine wpAny_passesOwn hp (thn (hb pins s2 σ1 H2 _ I2 q2) fun f s3 q3=>?_)
    cases f with
    | next =>
      obtain ⟨σ3,H3,I3,n3⟩:=q3
      obtain ⟨m',hm,w3⟩:=hN σ3 H3 n3
      exact ⟨m',hm,σ3,H3,I3,w3⟩
    | cont =>
      obtain ⟨σ3,H3,I3,n3⟩:=q3
      obtain ⟨m',hm,w3⟩:=hN σ3 H3 n3
      exact ⟨m',hm,σ3,H3,I3,w3⟩
    | brk=>exact q3
    | ret v=>exact q3
  | false =>
    rw [if_neg Bool.false_ne_true]
    exact wpAny_execs_nil ⟨σ1,H2,I2,q2⟩
end

structure It where
  go:Nat -> Hp -> Prop
  yld:Nat -> Hp -> V -> Hp -> Prop
  stop:Nat -> Hp -> Prop
def FpOk (X:Cx) (pins:List (Addr × Obj)) (H:Hp) (b:Addr):Prop :=
  H b = none /\ b ≠ X.env.locals /\ b ∉ X.fs /\ (b ∈ X.ex \/ X.s₀.heap.objs.size <= b) /\ (∀ x c,X.env.cells.lookup x = some c -> c ≠ b) /\ ∀ p ∈ X.pn ++ pins,p.1 ≠ b
theorem Inv.fpOk {X:Cx} {pins:List (Addr × Obj)} {σ:St} {H H':Hp} {s:Shared} {b:Addr} (I:Inv X pins σ H s) (hb:s.heap.objs.size <= b) (hn:H' b = none):FpOk X pins H' b:=by
  refine ⟨hn,Nat.ne_of_gt (Nat.lt_of_lt_of_le I.lt hb),I.nofs hb,.inr (Nat.le_trans I.sz hb),fun x c e z=>?_,fun p hp z=>?_⟩
  · obtain ⟨v,q⟩:=I.cell x c e
    exact absurd (Nat.lt_of_lt_of_le q.lt (by rw [z]; exact hb)) (Nat.lt_irrefl _)
  · exact absurd (Nat.lt_of_lt_of_le (Heap.lt_size (I.pin p hp).1) (by rw [z]; exact hb)) (Nat.lt_irrefl _)
structure Turn (P:Program) (w:World) (K:W.Frag) (tg:Expr) (J:It) (fp:List Addr) (it:Addr) (tn:Nat -> Heap -> Prop):Prop where
  mem:it ∈ fp
  obj:∀ i h,tn i h -> ∀ b ∈ fp,∃ o,h.get? b = some o /\ ∀ v,o.data ≠ .cell v
  keep:∀ i h h',tn i h -> (∀ b ∈ fp,∀ o,h.get? b = some o -> h'.get? b = some o) -> tn i h'
  item:∀ (X:Cx),X.prog = P -> X.w = w -> X.K = K -> X.calm = true -> ∀ (i:Nat) (pins:List (Addr × Obj)) (s:Shared) (σ:St) (H:Hp) (E:Value -> Shared -> Prop),Inv X pins σ H s -> (∀ b ∈ fp,FpOk X pins H b) -> tn i s.heap -> J.go i H ->
    wpAny (model P w) X.A (pyNext (.ref it)) (fun r s1=>∃ u,r = some u /\
      wpAny (model P w) X.A (letOwnedTupleGo tg (.ref it) u) (fun _ s2=>∃ x H',Inv X pins σ H' s2 /\ RelV x u /\ J.yld i H x H' /\ tn (i + 1) s2.heap /\ ∀ b ∈ fp,H' b = none) E s1) E s
  done:∀ (X:Cx),X.prog = P -> X.w = w -> X.K = K -> X.calm = true -> ∀ (i:Nat) (pins:List (Addr × Obj)) (s:Shared) (σ:St) (H:Hp) (E:Value -> Shared -> Prop),Inv X pins σ H s -> (∀ b ∈ fp,FpOk X pins H b) -> tn i s.heap -> J.stop i H ->
    wpAny (model P w) X.A (pyNext (.ref it)) (fun r s1=>r = none /\ Inv X pins σ H s1) E s
  self:∀ (A:Around) (i:Nat) (s:Shared) (Q:Value -> Shared -> Prop) (E:Value -> Shared -> Prop),tn i s.heap -> Q (.ref it) s -> wpAny (model P w) A (pyIter (.ref it)) Q E s
abbrev TI:=St -> Hp -> (It -> Hp -> Prop) -> Prop
def PIE (X:Cx) (pins:List (Addr × Obj)) (σ:St) (tg:Expr) (R:It -> Hp -> Prop) (itv:Value) (s2:Shared):Prop :=
  ∃ (it:Addr) (fp:List Addr) (tn:Nat -> Heap -> Prop) (J:It) (H':Hp),itv = .ref it /\ Inv X pins σ H' s2 /\ Turn X.prog X.w X.K tg J fp it tn /\ tn 0 s2.heap /\ (∀ b ∈ fp,FpOk X pins H' b) /\ R J H'
def PI (X:Cx) (tg iter:Expr) (wi:TI):Prop :=
  ∀ (pins:List (Addr × Obj)) (s:Shared) (σ:St) (H:Hp) (R:It -> Hp -> Prop),Inv X pins σ H s -> wi σ H R ->
    wpAny (model X.prog X.w) X.A (eval iter X.env) (fun v s1=>wpAny (model X.prog X.w) X.A (pyIter v) (PIE X pins σ tg R) X.xe s1) X.xe s

theorem go_of {M:Model} {A:Around} {E:Value -> Shared -> Prop} {s:Shared} {tg:Expr} {it:Addr} {u:Value} {o:Obj} {n:String} {vs:Array Value} {Q:Unit -> Shared -> Prop} (ho:s.heap.get? it = some o) (hc:o.cls = .type n) (hd:o.data = .fields vs)
    (hn:["enumerate", "zip", "dict_itemiterator", "dict_reverseitemiterator", "odict_iterator", "itertools.zip_longest", "itertools.pairwise"].contains n = false) (hQ:Q () s):wpAny M A (letOwnedTupleGo tg (.ref it) u) Q E s:=by
  unfold letOwnedTupleGo
  cases tg <;> first
    | exact wpAny_pure hQ
    | (cases u <;> first
        | exact wpAny_pure hQ
        | (refine wpAny_bind (wpAny_load ho ?_)
           rw [hc,hd]
           show wpAny M A (if (["enumerate", "zip", "dict_itemiterator", "dict_reverseitemiterator", "odict_iterator", "itertools.zip_longest", "itertools.pairwise"].contains n && vs[0]? == some (rawInt _)) = true then _ else _) Q E s
           rw [if_neg (by intro h; rw [hn,Bool.false_and] at h; cases h)]
           exact wpAny_pure hQ))

def Itt (K:W.Frag) (a:Addr):It :=
  ⟨fun i H=>∃ xs x,SqT K H a xs /\ xs[i]? = some x,fun i H x H'=>H' = H /\ ∀ xs,SqT K H a xs -> xs[i]? = some x,fun i H=>∃ xs,SqT K H a xs /\ xs.length <= i⟩
def Itr (lo:Int) (n:Nat):It:=⟨fun i _=>i < n,fun i H x H'=>H' = H /\ x = .int (lo + i),fun i _=>n <= i⟩
theorem turn_tuple {P:Program} {w:World} {K:W.Frag} {tg:Expr} (a it:Addr):Turn P w K tg (Itt K a) [it] it (fun i h=>h.IsTupleIter it a i) where
  mem:=by simp
  obj:=fun i h st b hb=>by
    have e:b = it:=by simpa using hb
    subst e
    obtain ⟨o,e,c,d⟩:=st
    exact ⟨o,e,fun v z=>by rw [d] at z; cases z⟩
  keep:=fun i h h' st k=>st.at fun o e=>k it (by simp) o e
  item:=by
    intro X hP hw hK hc i pins s σ H E I hf st hg
    subst hP hw hK
    obtain ⟨xs,x,hq,hx⟩:=hg
    obtain ⟨its,rv,p,hz⟩:=I.tuple hq
    obtain ⟨u,hu,ru⟩:=rv.get hx
    obtain ⟨f0,f1,f2,f3,f4,f5⟩:=hf it (by simp)
    refine wpAny_pyNext_tuple_item st (show s.heap.IsTuple a its.toArray from p) (x:=u) (by simpa using hu) fun h' st' sb=>?_
    have I1:Inv X pins σ H { s with heap:=h' }:=I.turned (t':=s.toks) (fun b o hb e=>(sb.2 b hb).trans e) f0 f1 f3 f4 f5
    obtain ⟨o,e,c,d⟩:=id st'
    exact ⟨u,rfl,go_of (s:={ s with heap:=h' }) e c d (by decide) ⟨x,H,I1,ru,⟨rfl,fun ys hy=>by rw [I.tuple_inj hy hq]; exact hx⟩,st',fun b hb=>(hf b hb).1⟩⟩
  done:=by
    intro X hP hw hK hc i pins s σ H E I hf st hg
    subst hP hw hK
    obtain ⟨xs,hq,hx⟩:=hg
    obtain ⟨its,rv,p,hz⟩:=I.tuple hq
    obtain ⟨f0,f1,f2,f3,f4,f5⟩:=hf it (by simp)
    have hl:=rv.length
    exact wpAny_pyNext_tuple_end (I.ok.hd hc) st (show s.heap.IsTuple a its.toArray from p) (by simp; omega) fun h' eb=>⟨rfl,I.turned (t':=s.toks) (fun b o hb e=>eb b o hb e) f0 f1 f3 f4 f5⟩
  self:=fun _ _ _ _ _ st h=>wpAny_pyIter_tupleiter st h
theorem turn_range {P:Program} {w:World} {K:W.Frag} {tg:Expr} (it:Addr) (lo:Int) (n:Nat):Turn P w K tg (Itr lo n) [it] it (fun i h=>IsRangeIter h it (lo + (i:Nat) * 1) ((n:Int) - (i:Nat)) 1) where
  mem:=by simp
  obj:=fun i h st b hb=>by
    have e:b = it:=by simpa using hb
    subst e
    exact ⟨_,st,fun v z=>by
      have z':Data.fields _ = Data.cell v:=z
      cases z'⟩
  keep:=fun i h h' st k=>k it (by simp) _ st
  item:=by
    intro X hP hw hK hc i pins s σ H E I hf st hg
    subst hP hw hK
    obtain ⟨f0,f1,f2,f3,f4,f5⟩:=hf it (by simp)
    have W:=Walks.range (prog:=X.prog) (w:=X.w) (I.ok.hd hc) it lo 1 n
    refine W.item i s _ _ hg st fun v h' tk hv st' kk=>?_
    obtain ⟨t,rfl⟩:=hv
    have I1:Inv X pins σ H { s with heap:=h',toks:=tk }:=I.turned (fun b o hb e=>kk b o (by simpa using hb) e) f0 f1 f3 f4 f5
    refine ⟨_,rfl,go_of (s:={ s with heap:=h',toks:=tk }) (n := "range_iterator") st' rfl rfl (by decide) ⟨.int (lo + i),H,I1,⟨t,?_⟩,⟨rfl,rfl⟩,st',fun b hb=>(hf b hb).1⟩⟩
    rw [Int.mul_one]
  done:=by
    intro X hP hw hK hc i pins s σ H E I hf st hg
    subst hP hw hK
    obtain ⟨f0,f1,f2,f3,f4,f5⟩:=hf it (by simp)
    exact wpAny_pyNext_range_end (I.ok.hd hc) st (by have:n <= i:=hg; omega) fun h' eb=>⟨rfl,I.turned (t':=s.toks) (fun b o hb e=>eb b o hb e) f0 f1 f3 f4 f5⟩
  self:=fun _ _ _ _ _ st h=>wpAny_pyIter_rangeiter st h
end L2

namespace L2
open PySem PySem.Spec PyProof.Rows
section
variable {X:Cx} {tg:Expr}
def iTup (K:W.Frag) (tl:TE):TI:=fun σ H R=>tl σ H fun x H1=>∃ a,x = .ref a /\ (∃ xs,SqT K H1 a xs) /\ R (Itt K a) H1
theorem pi_tup {l:Expr} {tl:TE} (hl:PE X l tl):PI X tg l (iTup X.K tl):=by
  intro pins s σ H R I h
  refine thn (hl pins s σ H _ I h) fun v s1 ⟨x,H1,I1,r1,q1⟩=>?_
  obtain ⟨a,e,⟨xs,hq⟩,q⟩:=q1
  subst e
  cases r1
  obtain ⟨its,rv,p,hz⟩:=I1.tuple hq
  refine wpAny_pyIter_tuple (show s1.heap.IsTuple a its.toArray from p) ?_
  refine ⟨s1.heap.objs.size,[s1.heap.objs.size],_,_,H1,rfl,I1.kept (t':=s1.toks) fun b o e=>Heap.get?_push_of_some _ e,turn_tuple a _,⟨_,Heap.get?_push_size _ rfl,rfl,rfl⟩,fun b hb=>?_,q⟩
  have e:b = s1.heap.objs.size:=by simpa using hb
  subst e
  exact I1.fpOk (Nat.le_refl _) (I1.hok.fresh (Nat.le_refl _))
theorem range_it {pins:List (Addr × Obj)} {σ:St} {H:Hp} {s:Shared} {R:It -> Hp -> Prop} {E:Value -> Shared -> Prop} {lo hi:Int} {t u v:Tok} {tk:Nat} (I:Inv X pins σ H s) (h1 : -(2 ^ 62) <= lo) (h2:lo < 2 ^ 62) (h3 : -(2 ^ 62) <= hi) (h4:hi < 2 ^ 62)
    (q:R (Itr lo (hi - lo).toNat) H):wpAny (model X.prog X.w) X.A (pyIter (.ref s.heap.objs.size)) (PIE X pins σ tg R) E { s with heap:=s.heap.push { cls:=.type "range", data:=.fields #[.int lo t,.int hi u,.int 1 v] },toks:=tk }:=by
  refine wpAny_pyIter_range (IsRange.new ..) (small_one h1 h2 h3 h4) ?_
  have I1:Inv X pins σ H { s with heap:=s.heap.push { cls:=.type "range", data:=.fields #[.int lo t,.int hi u,.int 1 v] },toks:=tk }:=I.kept fun b o e=>Heap.get?_push_of_some _ e
  refine ⟨(s.heap.push { cls:=.type "range", data:=.fields #[.int lo t,.int hi u,.int 1 v] }).objs.size,[(s.heap.push { cls:=.type "range", data:=.fields #[.int lo t,.int hi u,.int 1 v] }).objs.size],_,_,H,rfl,
    I1.kept (t':=tk) fun b o e=>Heap.get?_push_of_some _ e,turn_range _ lo (hi - lo).toNat,?_,fun b hb=>?_,q⟩
  · have e1:lo + ((0:Nat):Int) * 1 = lo:=by simp
    have e2:(((hi - lo).toNat:Nat):Int) - ((0:Nat):Int) = Builtin.Range.rangeSize lo hi 1:=by rw [rangeSize_one]; split <;> omega
    show IsRangeIter _ _ (lo + ((0:Nat):Int) * 1) ((((hi - lo).toNat:Nat):Int) - ((0:Nat):Int)) 1
    rw [e1,e2]
    exact Heap.get?_push_size _ rfl
  · have e:b = (s.heap.push { cls:=.type "range", data:=.fields #[.int lo t,.int hi u,.int 1 v] }).objs.size:=by simpa using hb
    subst e
    exact I1.fpOk (Nat.le_refl _) (I1.hok.fresh (Nat.le_refl _))
def iRng1 (ta:TA):TI:=fun σ H R=>ta σ H fun vs H1=>∃ j:Int,vs = [.int j] /\ -(2 ^ 62) <= j /\ j < 2 ^ 62 /\ R (Itr 0 j.toNat) H1
theorem pi_range1 {a:Expr} {ta:TA} {p pos:Pos} (hg:Gl X "range") (hm:X.mg "range" = none) (ha:PA X [a] ta) (hs:starEach [a] X.env = [(false,eval a X.env)]:=by rfl):PI X tg (.Call (.Name "range" p) [a] [] pos) (iRng1 ta):=by
  intro pins s σ H R I h
  refine Call_ (ld_blt I hg hm boot_range (PyProof.Rows.callWith_type1 (thn (ha pos pins s σ H _ I h) fun us s1 ⟨vs,H1,I1,r1,q1⟩=>?_) hs rfl))
  obtain ⟨j,e,q1,q2,q⟩:=q1
  subst e
  cases r1 with
  | cons r rr =>
    cases rr
    obtain ⟨t,rfl⟩:=r
    exact call_range_1 (range_it I1 (by omega) (by omega) q1 q2 (by simpa using q))
def tFor (wi:TI) (g:TG) (tb:TS):TS:=fun D σ H=>wi σ H fun J H1=>∃ W:Nat -> Nat -> St -> Hp -> Prop,(∃ m,W 0 m σ H1) /\ ∀ i m σ H,W i m σ H ->
  (J.stop i H /\ D.nx σ H) \/ (J.go i H /\ ∃ N:St -> Hp -> Prop,(∀ σ' H',N σ' H' -> ∃ m',m' < m /\ W (i + 1) m' σ' H') /\ ∀ x H',J.yld i H x H' -> g x σ H' fun σ2 H2=>tb { D with nx:=N,ct:=N,bk:=D.nx } σ2 H2)
def pinsAt (fp:List Addr) (h:Heap):List (Addr × Obj):=fp.filterMap fun b=>(h.get? b).map fun o=>(b,o)
theorem mem_pinsAt {fp:List Addr} {h:Heap} {b:Addr} {o:Obj} (hb:b ∈ fp) (e:h.get? b = some o):(b,o) ∈ pinsAt fp h:=List.mem_filterMap.mpr ⟨b,hb,by rw [e]; rfl⟩
theorem of_pinsAt {fp:List Addr} {h:Heap} {p:Addr × Obj} (hp:p ∈ pinsAt fp h):p.1 ∈ fp /\ h.get? p.1 = some p.2:=by
  obtain ⟨b,hb,e⟩:=List.mem_filterMap.mp hp
  cases q:h.get? b with
  | none=>rw [q] at e; cases e
  | some o =>
    rw [q] at e
    have e':(b,o) = p:=Option.some.inj e
    subst e'
    exact ⟨hb,q⟩
theorem Inv.pinned {pins:List (Addr × Obj)} {σ:St} {H:Hp} {s:Shared} {fp:List Addr} (I:Inv X pins σ H s) (hf:∀ b ∈ fp,FpOk X pins H b) (ho:∀ b ∈ fp,∃ o,s.heap.get? b = some o /\ ∀ v,o.data ≠ .cell v):Inv X (pins ++ pinsAt fp s.heap) σ H s :=
  I.pins_of fun p hp=>(List.mem_append.mp hp).elim (fun z=>I.pin p (List.mem_append_right _ z)) fun z=>by
    obtain ⟨hb,e⟩:=of_pinsAt z
    obtain ⟨f0,f1,f2,_⟩:=hf p.1 hb
    obtain ⟨o,e',d⟩:=ho p.1 hb
    rw [e] at e'; cases e'
    exact ⟨e,f0,f1,f2,d⟩
theorem Inv.unpinned {pins pl:List (Addr × Obj)} {σ:St} {H:Hp} {s:Shared} (I:Inv X (pins ++ pl) σ H s):Inv X pins σ H s:=I.pins_of fun p hp=>I.pin p (List.mem_append_right _ (List.mem_append_left _ hp))
theorem ps_for {iter:Expr} {body:List Stmt} {wi:TI} {g:TG} {tb:TS} {pos:Pos} (hp:PassesOwn (model X.prog X.w) X.A X.env X.xe) (hc:X.calm = true) (hi:PI X tg iter wi) (hg:PG X tg g) (hb:PSs X body tb)
    (hs:∀ x,foldedSetIterable iter X.env x = pure x:=by intro _; rfl):PS X (.For tg iter body [] pos) (tFor wi g tb):=by
  intro pins s σ H D I h
  refine wpAny_For (thn (hi pins s σ H _ I h) fun v s1 h1=>thn h1 fun itv s2 h2=>?_) hs
  obtain ⟨it,fp,tn,J,H2,e,I2,T,st2,f2,W,⟨m0,w0⟩,turn⟩:=h2
  subst e
  have stat:∀ {H':Hp},(∀ b ∈ fp,H' b = none) -> ∀ b ∈ fp,FpOk X pins H' b:=fun hn b hb=>⟨hn b hb,(f2 b hb).2⟩
  refine codeAny_forLoop_any (fun n s'=>∃ i σ' H',Inv X pins σ' H' s' /\ tn i s'.heap /\ (∀ b ∈ fp,H' b = none) /\ W i n σ' H') ?_ m0 ⟨0,σ,H2,I2,st2,fun b hb=>(f2 b hb).1,w0⟩
  rintro n s3 ⟨i,σ3,H3,I3,st3,fr3,w3⟩
  rcases turn i n σ3 H3 w3 with ⟨stop,qn⟩ | ⟨go,N,hN,step⟩
  · refine wpAny_passesOwn hp (thn (T.done X rfl rfl rfl hc i pins s3 σ3 H3 X.xe I3 (stat fr3) st3 stop) fun r s4 ⟨hr,I4⟩=>?_)
    subst hr
    exact wpAny_execs_nil ⟨σ3,H3,I4,qn⟩
  · refine wpAny_passesOwn hp (thn (T.item X rfl rfl rfl hc i pins s3 σ3 H3 X.xe I3 (stat fr3) st3 go) fun r s4 ⟨u,hr,h4⟩=>?_)
    subst hr
    refine wpAny_passesOwn hp (thn h4 fun _ s5 ⟨x,H5,I5,r5,y5,st5,fr5⟩=>?_)
    have I5':=I5.pinned (stat fr5) (T.obj _ _ st5)
    refine wpAny_passesOwn hp (thn (hg _ s5 σ3 H5 x u _ I5' r5 (step x H5 y5)) fun _ s6 ⟨σ6,H6,I6,q6⟩=>?_)
    refine wpAny_passesOwn hp (thn (hb _ s6 σ6 H6 _ I6 q6) fun f s7 q7=>?_)
    have again:∀ {σ7:St} {H7:Hp},Inv X (pins ++ pinsAt fp s5.heap) σ7 H7 s7 -> N σ7 H7 -> ∃ m,m < n /\ ∃ i σ' H',Inv X pins σ' H' s7 /\ tn i s7.heap /\ (∀ b ∈ fp,H' b = none) /\ W i m σ' H':=fun {σ7 H7} I7 n7=>by
      obtain ⟨m',hm,w7⟩:=hN σ7 H7 n7
      refine ⟨m',hm,i + 1,σ7,H7,I7.unpinned,T.keep _ _ _ st5 fun b hb o e=>(I7.pin (b,o) (List.mem_append_right _ (List.mem_append_right _ (mem_pinsAt hb e)))).1,fun b hb=>?_,w7⟩
      obtain ⟨o,e,d⟩:=T.obj _ _ st5 b hb
      exact (I7.pin (b,o) (List.mem_append_right _ (List.mem_append_right _ (mem_pinsAt hb e)))).2.1
    cases f with
    | next=>obtain ⟨σ7,H7,I7,n7⟩:=q7; exact again I7 n7
    | cont=>obtain ⟨σ7,H7,I7,n7⟩:=q7; exact again I7 n7
    | brk=>obtain ⟨σ7,H7,I7,q7⟩:=q7; exact ⟨σ7,H7,I7.unpinned,q7⟩
    | ret v=>obtain ⟨x7,σ7,H7,I7,r7,q7⟩:=q7; exact ⟨x7,σ7,H7,I7.unpinned,r7,q7⟩
end

end L2

namespace L2
open PySem PySem.Spec PyProof.Rows

abbrev R2:=V -> V -> Hp -> VK -> Prop
def OpR (X:Cx) (f:Value -> Value -> Sem Value) (r:R2):Prop :=
  ∀ (pins:List (Addr × Obj)) (s:Shared) (σ:St) (H:Hp) (x y:V) (v u:Value) (Q:VK),Inv X pins σ H s -> RelV x v -> RelV y u -> r x y H Q ->
    wpAny (model X.prog X.w) X.A (f v u) (EP X pins σ Q) X.xe s
def UnR (X:Cx) (f:Value -> Sem Value) (r:V -> Hp -> VK -> Prop):Prop :=
  ∀ (pins:List (Addr × Obj)) (s:Shared) (σ:St) (H:Hp) (x:V) (v:Value) (Q:VK),Inv X pins σ H s -> RelV x v -> r x H Q ->
    wpAny (model X.prog X.w) X.A (f v) (EP X pins σ Q) X.xe s
def CallR (X:Cx) (f:Value) (r:List V -> Hp -> VK -> Prop):Prop :=
  ∀ (pins:List (Addr × Obj)) (s:Shared) (σ:St) (H:Hp) (xs:List V) (us:List Value) (Q:VK),Inv X pins σ H s -> Vals xs us -> r xs H Q ->
    wpAny (model X.prog X.w) X.A (call f us) (EP X pins σ Q) X.xe s
def tOp (r:R2) (ta tb:TE):TE:=fun σ H Q=>ta σ H fun x H1=>tb σ H1 fun y H2=>r x y H2 Q
def tUn (r:V -> Hp -> VK -> Prop) (ta:TE):TE:=fun σ H Q=>ta σ H fun x H1=>r x H1 Q
def rI (C:Int -> Int -> Prop) (g:Int -> Int -> V):R2:=fun x y H Q=>∃ i j,x = .int i /\ y = .int j /\ C i j /\ Q (g i j) H
def rI0 (g:Int -> Int -> V):R2:=fun x y H Q=>∃ i j,x = .int i /\ y = .int j /\ Q (g i j) H
def rU (g:Int -> V):V -> Hp -> VK -> Prop:=fun x H Q=>∃ i,x = .int i /\ Q (g i) H

section
variable {X:Cx} {a b c:Expr} {ta tb tc:TE} {pos:Pos}

theorem binT (ha:PE X a ta) (hb:PE X b tb) {pins:List (Addr × Obj)} {s:Shared} {σ:St} {H:Hp} {R:V -> V -> Hp -> Prop} (I:Inv X pins σ H s)
    (h:ta σ H fun x H1=>tb σ H1 fun y H2=>R x y H2) {Q:Value -> Shared -> Prop} {f:Value -> Value -> Sem Value}
    (hf:∀ v u s2 x y H2,Inv X pins σ H2 s2 -> RelV x v -> RelV y u -> R x y H2 -> wpAny (model X.prog X.w) X.A (f v u) Q X.xe s2) :
    wpAny (model X.prog X.w) X.A (eval a X.env) (fun v s₁=>wpAny (model X.prog X.w) X.A (eval b X.env) (fun u s₂=>wpAny (model X.prog X.w) X.A (f v u) Q X.xe s₂) X.xe s₁) X.xe s:=by
  refine thn (ha pins s σ H _ I h) fun v s1 ⟨x,H1,I1,r1,q1⟩=>?_
  refine thn (hb pins s1 σ H1 _ I1 q1) fun u s2 ⟨y,H2,I2,r2,q2⟩=>?_
  exact hf v u s2 x y H2 I2 r1 r2 q2

theorem pe_op {op:Operator} {r:R2} (ho:OpR X (binaryOp op) r) (ha:PE X a ta) (hb:PE X b tb):PE X (.BinOp a op b pos) (tOp r ta tb):=by
  intro pins s σ H Q I h
  exact wpAny_BinOp (binT ha hb I h fun v u s2 x y H2 I2 rx ry q=>ho pins s2 σ H2 x y v u Q I2 rx ry q)
theorem pe_un {op:UnaryOp} {r:V -> Hp -> VK -> Prop} (ho:UnR X (unaryOp op) r) (ha:PE X a ta):PE X (.UnaryOp op a pos) (tUn r ta):=by
  intro pins s σ H Q I h
  exact UnaryOp_ (thn (ha pins s σ H _ I h) fun v s1 ⟨x,H1,I1,r1,q1⟩=>ho pins s1 σ H1 x v Q I1 r1 q1)
theorem opI {f:Value -> Value -> Sem Value} {C:Int -> Int -> Prop} {g:Int -> Int -> Int}
    (rule:∀ (i j:Int) (t u:Tok) (s:Shared) (Q:Value -> Shared -> Prop) (E:Value -> Shared -> Prop),C i j -> Q (.int (g i j) s.toks) { s with toks:=s.toks + 1 } -> wpAny (model X.prog X.w) X.A (f (.int i t) (.int j u)) Q E s) :
    OpR X f (rI C fun i j=>.int (g i j)):=by
  intro pins s σ H x y v u Q I rx ry h
  obtain ⟨i,j,rfl,rfl,hc,q⟩:=h
  obtain ⟨t,rfl⟩:=rx
  obtain ⟨t',rfl⟩:=ry
  exact rule i j t t' s _ _ hc ⟨.int (g i j),H,I.tok _,⟨_,rfl⟩,q⟩
theorem opI0 {f:Value -> Value -> Sem Value} {g:Int -> Int -> Int}
    (rule:∀ (i j:Int) (t u:Tok) (s:Shared) (Q:Value -> Shared -> Prop) (E:Value -> Shared -> Prop),Q (.int (g i j) s.toks) { s with toks:=s.toks + 1 } -> wpAny (model X.prog X.w) X.A (f (.int i t) (.int j u)) Q E s) :
    OpR X f (rI0 fun i j=>.int (g i j)):=by
  intro pins s σ H x y v u Q I rx ry h
  obtain ⟨i,j,rfl,rfl,q⟩:=h
  obtain ⟨t,rfl⟩:=rx
  obtain ⟨t',rfl⟩:=ry
  exact rule i j t t' s _ _ ⟨.int (g i j),H,I.tok _,⟨_,rfl⟩,q⟩
theorem opB0 {f:Value -> Value -> Sem Value} {g:Int -> Int -> Bool}
    (rule:∀ (i j:Int) (t u:Tok) (s:Shared) (Q:Value -> Shared -> Prop) (E:Value -> Shared -> Prop),Q (.bool (g i j)) s -> wpAny (model X.prog X.w) X.A (f (.int i t) (.int j u)) Q E s) :
    OpR X f (rI0 fun i j=>.bl (g i j)):=by
  intro pins s σ H x y v u Q I rx ry h
  obtain ⟨i,j,rfl,rfl,q⟩:=h
  obtain ⟨t,rfl⟩:=rx
  obtain ⟨t',rfl⟩:=ry
  exact rule i j t t' s _ _ ⟨.bl (g i j),H,I,rfl,q⟩

def CPow (i j:Int):Prop:=0 <= j /\ j <= 1000000 /\ i.natAbs < 2 ^ 64
def CMul (i j:Int):Prop:=(-(2 ^ 64) < i /\ i < 2 ^ 64) \/ (-(2 ^ 64) < j /\ j < 2 ^ 64)
theorem CMul.ok {i j:Int} (h:CMul i j):IntMulOk i j:=by
  rcases h with ⟨h1,h2⟩ | ⟨h1,h2⟩
  · exact .of_left (intBits_le_64 h1 h2)
  · exact .of_right (intBits_le_64 h1 h2)
theorem op_add:OpR X (binaryOp .Add) (rI0 fun i j=>.int (i + j)):=opI0 fun _ _ _ _ _ _ _ q=>add_int q
theorem op_sub:OpR X (binaryOp .Sub) (rI0 fun i j=>.int (i - j)):=opI0 fun _ _ _ _ _ _ _ q=>sub_int q
theorem op_modN:OpR X (binaryOp .Mod) (rI (fun _ j=>j ≠ 0) fun i j=>.int (i.fmod j)):=opI fun _ _ _ _ _ _ _ hc q=>mod_int' hc q
theorem op_pow:OpR X (binaryOp .Pow) (rI CPow fun i j=>.int (i ^ j.toNat)):=opI fun _ _ _ _ _ _ _ hc q=>pow_int_small hc.1 hc.2.1 hc.2.2 q
theorem unI {f:Value -> Sem Value} {g:Int -> Int}
    (rule:∀ (i:Int) (t:Tok) (s:Shared) (Q:Value -> Shared -> Prop) (E:Value -> Shared -> Prop),Q (.int (g i) s.toks) { s with toks:=s.toks + 1 } -> wpAny (model X.prog X.w) X.A (f (.int i t)) Q E s) :
    UnR X f (rU fun i=>.int (g i)):=by
  intro pins s σ H x v Q I rx h
  obtain ⟨i,rfl,q⟩:=h
  obtain ⟨t,rfl⟩:=rx
  exact rule i t s _ _ ⟨.int (g i),H,I.tok _,⟨_,rfl⟩,q⟩
theorem un_neg:UnR X (unaryOp .USub) (rU fun i=>.int (-i)):=unI fun _ _ _ _ _ q=>neg_int q
end

def scal:V -> V -> Bool
  | .non,.non=>true | .non,.int _=>true | .int _,.non=>true | .non,.bl _=>true | .bl _,.non=>true | .non,.str _=>true | .str _,.non=>true
  | .int _,.int _=>true | .bl _,.bl _=>true | .str _,.str _=>true | .byt _,.byt _=>true
  | .int _,.str _=>true | .str _,.int _=>true | .bl _,.str _=>true | .str _,.bl _=>true
  | _,_=>false
def rNe:R2:=fun x y H Q=>scal x y = true /\ Q (.bl (!decide (x = y))) H

theorem dec_int {i j:Int}:decide (V.int i = V.int j) = (i == j):=by
  rw [Bool.eq_iff_iff]
  simp
theorem dec_bl {i j:Bool}:decide (V.bl i = V.bl j) = (i == j):=by
  rw [Bool.eq_iff_iff]
  simp
theorem dec_str {i j:Str}:decide (V.str i = V.str j) = (i == j):=by
  rw [Bool.eq_iff_iff]
  simp
theorem dec_byt {i j:Array UInt8}:decide (V.byt i = V.byt j) = (i.toList == j.toList):=by
  rw [Bool.eq_iff_iff]
  cases i
  cases j
  simp

section
variable {X:Cx} {a b c:Expr} {ta tb tc:TE} {pos:Pos}
theorem fin_bl {pins:List (Addr × Obj)} {σ:St} {H:Hp} {s:Shared} {Q:VK} {k k':Bool} (I:Inv X pins σ H s) (q:Q (.bl k) H) (e:k = k'):EP X pins σ Q (.bool k') s:=by
  subst e
  exact ⟨.bl k,H,I,rfl,q⟩
theorem op_ne:OpR X (compareOp .NotEq) rNe:=by
  intro pins s σ H x y v u Q I rx ry h
  obtain ⟨hs,q⟩:=h
  cases x with
  | non =>
    cases rx
    cases y with
    | non=>cases ry; exact PySem.EqNone.ne_none_none (fin_bl I q (by simp))
    | bl j=>cases ry; exact PySem.EqNone.ne_none_bool (fin_bl I q (by simp))
    | int j=>obtain ⟨t',rfl⟩:=ry; exact PySem.EqNone.ne_none_int (fin_bl I q (by simp))
    | str j=>obtain ⟨t',rfl⟩:=ry; exact PySem.EqNone.ne_none_str (fin_bl I q (by simp))
    | _=>exact absurd (show false = true from hs) Bool.false_ne_true
  | bl i =>
    cases rx
    cases y with
    | non=>cases ry; exact PySem.EqNone.ne_bool_none (fin_bl I q (by simp))
    | bl j=>cases ry; exact ne_bool (fin_bl I q (congrArg not dec_bl))
    | str j=>obtain ⟨t',rfl⟩:=ry; exact PySem.EqMixed.ne_bool_str (fin_bl I q (by simp))
    | _=>exact absurd (show false = true from hs) Bool.false_ne_true
  | int i =>
    obtain ⟨t,rfl⟩:=rx
    cases y with
    | non=>cases ry; exact PySem.EqNone.ne_int_none (fin_bl I q (by simp))
    | int j=>obtain ⟨t',rfl⟩:=ry; exact ne_int (fin_bl I q (congrArg not dec_int))
    | str j=>obtain ⟨t',rfl⟩:=ry; exact PySem.EqMixed.ne_int_str (fin_bl I q (by simp))
    | _=>exact absurd (show false = true from hs) Bool.false_ne_true
  | str i =>
    obtain ⟨t,rfl⟩:=rx
    cases y with
    | non=>cases ry; exact PySem.EqNone.ne_str_none (fin_bl I q (by simp))
    | bl j=>cases ry; exact PySem.EqMixed.ne_str_bool (fin_bl I q (by simp))
    | int j=>obtain ⟨t',rfl⟩:=ry; exact PySem.EqMixed.ne_str_int (fin_bl I q (by simp))
    | str j=>obtain ⟨t',rfl⟩:=ry; exact ne_str (fin_bl I q (congrArg not dec_str))
    | _=>exact absurd (show false = true from hs) Bool.false_ne_true
  | byt i =>
    obtain ⟨t,rfl⟩:=rx
    cases y with
    | byt j=>obtain ⟨t',rfl⟩:=ry; exact W.ne_bytes (fin_bl I q (congrArg not dec_byt))
    | _=>exact absurd (show false = true from hs) Bool.false_ne_true
  | _=>cases y <;> exact absurd (show false = true from hs) Bool.false_ne_true

theorem op_lt:OpR X (compareOp .Lt) (rI0 fun i j=>.bl (decide (i < j))):=opB0 fun _ _ _ _ _ _ _ q=>lt_int q
theorem op_le:OpR X (compareOp .LtE) (rI0 fun i j=>.bl (decide (i <= j))):=opB0 fun _ _ _ _ _ _ _ q=>le_int q
theorem op_gt:OpR X (compareOp .Gt) (rI0 fun i j=>.bl (decide (j < i))):=opB0 fun _ _ _ _ _ _ _ q=>gt_int q
theorem op_ge:OpR X (compareOp .GtE) (rI0 fun i j=>.bl (decide (j <= i))):=opB0 fun _ _ _ _ _ _ _ q=>ge_int q
theorem nomark (b:Expr) {op:CmpOp} (h:op ≠ .In:=by decide) (h2:op ≠ .NotIn:=by decide):behindInMarks op b = false:=by
  have e1:(op == CmpOp.In) = false:=by cases op <;> first | rfl | exact absurd rfl h
  have e2:(op == CmpOp.NotIn) = false:=by cases op <;> first | rfl | exact absurd rfl h2
  cases b <;> simp [behindInMarks,e1,e2]
theorem pe_cmpR {op:CmpOp} {r:R2} (ho:OpR X (compareOp op) r) (ha:PE X a ta) (hb:PE X b tb) (hm:behindInMarks op b = false):PE X (.Compare a [op] [b] pos) (tOp r ta tb):=by
  intro pins s σ H Q I h
  exact wpAny_Compare1 (binT ha hb I h fun v u s2 x y H2 I2 rx ry q=>ho pins s2 σ H2 x y v u Q I2 rx ry q) hm
def tTest (t:TE):TT:=fun σ H Q=>t σ H fun x H'=>∃ k,x = .bl k /\ Q k H'
theorem pt_cmpR {op:CmpOp} {r:R2} (ho:OpR X (compareOp op) r) (ha:PE X a ta) (hb:PE X b tb) (hm:behindInMarks op b = false):PT X (.Compare a [op] [b] pos) (tTest (tOp r ta tb)):=by
  intro pins s σ H Q I h
  refine wpAny_isTrue_Compare1 (thn (ha pins s σ H _ I h) fun v s1 ⟨x,H1,I1,r1,q1⟩=>thn (hb pins s1 σ H1 _ I1 q1) fun u s2 ⟨y,H2,I2,r2,q2⟩ =>
    thn (ho pins s2 σ H2 x y v u _ I2 r1 r2 q2) fun c s3 ⟨z,H3,I3,r3,k,e,q3⟩=>?_) hm
  subst e
  cases r3
  exact wpAny_truthy_bool ⟨H3,I3,q3⟩
def tChain (r r':R2) (ta tb tc:TE):TE:=fun σ H Q=>ta σ H fun x H1=>tb σ H1 fun y H2=>r x y H2 fun z H3=>∃ k,z = .bl k /\
  (if k = true then tc σ H3 fun w' H4=>r' y w' H4 Q else Q (.bl false) H3)
theorem pt_chain {op op':CmpOp} {r r':R2} (ho:OpR X (compareOp op) r) (ho':OpR X (compareOp op') r') (ha:PE X a ta) (hb:PE X b tb) (hc:PE X c tc)
    (hm:lastMarks [op,op'] [b,c] = false:=by with_unfolding_all rfl):PT X (.Compare a [op,op'] [b,c] pos) (tTest (tChain r r' ta tb tc)):=by
  intro pins s σ H Q I h
  refine isTrue_chain (thn (ha pins s σ H _ I h) fun v s1 ⟨x,H1,I1,r1,q1⟩=>test_link (thn (hb pins s1 σ H1 _ I1 q1) fun u s2 ⟨y,H2,I2,r2,q2⟩ =>
    thn (ho pins s2 σ H2 x y v u _ I2 r1 r2 q2) fun d s3 ⟨z,H3,I3,r3,k,e,q3⟩=>?_)) hm
  subst e
  cases r3
  refine wpAny_truthy_bool ?_
  cases k with
  | false =>
    obtain ⟨k',e',q'⟩:=q3
    cases e'
    exact ite_ff ⟨H3,I3,q'⟩
  | true =>
    refine ite_tt (test_last (thn (hc pins s3 σ H3 _ I3 q3) fun w' s4 ⟨z',H4,I4,r4,q4⟩=>thn (ho' pins s4 σ H4 y z' u w' _ I4 r2 r4 q4) fun d' s5 ⟨z2,H5,I5,r5,k2,e2,q5⟩=>?_))
    subst e2
    cases r5
    exact wpAny_truthy_bool ⟨H5,I5,q5⟩

theorem line63:(sizeLine:Nat) < 2 ^ 63:=by rw [sizeLine_eq]; decide
theorem vals1 {x:V} {us:List Value} (r:Vals [x] us):∃ u,us = [u] /\ RelV x u:=by
  cases r with
  | cons r1 r2=>cases r2; exact ⟨_,rfl,r1⟩
theorem vals2 {x y:V} {us:List Value} (r:Vals [x,y] us):∃ u w',us = [u,w'] /\ RelV x u /\ RelV y w':=by
  cases r with
  | cons r1 r2 =>
    cases r2 with
    | cons r3 r4=>cases r4; exact ⟨_,_,rfl,r1,r3⟩
theorem call_abs:CallR X (.builtin "abs") (fun xs H Q=>∃ i,xs = [.int i] /\ Q (.int (if i < 0 then -i else i)) H):=by
  intro pins s σ H xs us Q I r h
  obtain ⟨i,rfl,q⟩:=h
  obtain ⟨u,rfl,t,rfl⟩:=vals1 r
  exact call_abs_int fun u tk=>⟨.int (if i < 0 then -i else i),H,I.tok _,⟨_,rfl⟩,q⟩
end
end L2

namespace L2
open PySem PySem.Spec PyProof.Rows

theorem lookIn_ns {h:Heap} {dx:Addr} {mA:Str -> Option Value} (n:h.Ns1 dx mA):∃ od,h.get? dx = some od /\ ∀ name,W.lookIn name od = some (mA name):=by
  obtain ⟨o,es,ep,ho,hd,hk,_,hm⟩:=n
  refine ⟨o,ho,fun name=>?_⟩
  have e:=hm name
  unfold nsFind findBy at e
  rw [<- Array.find?_toList] at e
  unfold W.lookIn
  rw [hd]
  dsimp only
  split
  · rename_i y q
    rw [q] at e
    exact congrArg some e
  · rename_i q
    rw [q] at e
    have a:es.toList.any (·.refKey) = false:=by
      rw [List.any_eq_false]
      intro y hy
      obtain ⟨z,t,hkey⟩:=hk y (Array.mem_toList_iff.mp hy)
      simp [DictEntry.refKey,hkey]
    have a':¬ es.toList.any (·.refKey) = true:=by rw [a]; exact Bool.false_ne_true
    rw [if_neg a']
    exact congrArg some e

section
variable {prog:Program} {w:World} {A:Around} {E:Value -> Shared -> Prop} {s:Shared} {K:W.Frag} {x dx C f:Addr} {mA:Str -> Option Value} {name:Str} {v:Value}

end

theorem RelO.some_of {v:V} {o:Option Value} (r:RelO (some v) o):∃ u,o = some u /\ RelV v u:=by
  cases o with
  | none=>exact (show False from r).elim
  | some u=>exact ⟨u,rfl,r⟩
theorem handed_of {v:V} {u:Value} (r:RelV v u):W.handedIn u = true:=by
  cases v with
  | non=>cases (show u = Value.none from r); rfl
  | bl b=>cases (show u = Value.bool b from r); rfl
  | int i=>obtain ⟨t,e⟩:=(show ∃ t,u = Value.int i t from r); cases e; rfl
  | str x=>obtain ⟨t,e⟩:=(show ∃ t,u = Value.str x t from r); cases e; rfl
  | byt b=>obtain ⟨t,e⟩:=(show ∃ t,u = Value.bytes b t from r); cases e; rfl
  | flt b=>obtain ⟨t,e⟩:=(show ∃ t,u = Value.float b t from r); cases e; rfl
  | ref a=>cases (show u = Value.ref a from r); rfl
  | ty n=>cases (show u = Value.type n from r); rfl

section
variable {P:Program} {w:World} {H H':Hp} {h h':Heap} {a C dx:Addr} {fs fs':List (Str × V)}
end

def NoAttr (K:W.Frag) (C:Addr) (f:Str):Prop:=W.findIn K (.ref C) f = some none
section
variable {X:Cx} {pins:List (Addr × Obj)} {σ:St} {H:Hp} {s:Shared} {a C dx:Addr} {fs:List (Str × V)} {f:Str} {v:V} {A:Around} {E:Value -> Shared -> Prop}

theorem attr_of {prog:Program} {w:World} {env:Env} {e:Expr} {f:Str} {pos:Pos} {s:Shared} {Q:Value -> Shared -> Prop} (hb:attributeBase e f env (eval e env) = eval e env)
    (h:wpAny (model prog w) A (eval e env) (fun o s₁=>wpAny (model prog w) A (getAttr o f true) Q E s₁) E s):wpAny (model prog w) A (eval (.Attribute e f pos) env) Q E s :=
  Attribute_any_ h (by rw [arm_eval_Attribute,hb])
end

section
variable {X:Cx} {o e value:Expr} {f:Str} {pos pos' tpos:Pos} {ta tv:TE}
end

section
variable {X:Cx} {pins:List (Addr × Obj)} {σ:St} {H:Hp} {s:Shared} {A:Around} {E:Value -> Shared -> Prop} {Q:Value -> Shared -> Prop} {c:Value} {b:Bool}
end
end L2

namespace L2
open PySem PySem.Spec PyProof.Rows

structure Room (k:Nat) (A:Around):Prop where
  hd:A.handled = none
  dp:A.depth + 3 * k + 5 < recursionLimit
  un:A.units + 16 * k + 200 < cLine
  gd:A.guards = some []
theorem Room.mono {j k:Nat} {A:Around} (r:Room k A) (h:j <= k):Room j A:=⟨r.hd,by have:=r.dp; omega,by have:=r.un; omega,r.gd⟩
theorem Room.deeper {k:Nat} {A:Around} (r:Room (k + 1) A) (env:Env):Room k (A.deeper env) :=
  ⟨r.hd,by have:=r.dp; show A.depth + 1 + 3 * k + 5 < _; omega,by have:=r.un; show A.units + 3 + 16 * k + 200 < _; omega,r.gd⟩
theorem Room.in1 {k:Nat} {A:Around} (r:Room (k + 1) A):Room k A.in1 :=
  ⟨r.hd,by have:=r.dp; show A.depth + 3 * k + 5 < _; omega,by have:=r.un; show A.units + 1 + 16 * k + 200 < _; omega,r.gd⟩
theorem make_depth {A:Around} {C:Addr} {us:List Value} {kw:List (Str × Value)}:(A.under (.builtin "type.__call__" ⟨.ref C :: us,kw⟩)).depth = A.depth + 1:=by
  first | rfl | simp [Around.under,Code.weight,Code.isCreation,Code.isGuard,Code.isCaller,Code.frames,Code.isFrame,guardIds]
theorem make_units {A:Around} {C:Addr} {us:List Value} {kw:List (Str × Value)}:(A.under (.builtin "type.__call__" ⟨.ref C :: us,kw⟩)).units = A.units + 1:=by
  first | rfl | simp [Around.under,Code.cUnits,Code.frames,Code.isFrame]
theorem Room.make {k:Nat} {A:Around} (r:Room (k + 1) A) (C:Addr) (us:List Value) (kw:List (Str × Value)):Room k (A.under (.builtin "type.__call__" ⟨.ref C :: us,kw⟩)) :=
  ⟨r.hd,by have:=r.dp; rw [make_depth]; omega,by have:=r.un; rw [make_units]; omega,by first | exact r.gd | (have:=r.gd; simp [Around.under,Code.guards,Code.isGuard,guardIds,pushGuards,this])⟩
theorem Room.depth {k:Nat} {A:Around} (r:Room k A):A.depth < recursionLimit:=by have:=r.dp; omega
theorem Room.units {k:Nat} {A:Around} (r:Room k A):A.units + 64 < cLine:=by have:=r.un; omega
def tNil:TA:=fun _ H Q=>Q [] H
def tCons (ta:TE) (tr:TA):TA:=fun σ H Q=>ta σ H fun x H1=>tr σ H1 fun xs H2=>Q (x :: xs) H2
section
variable {X:Cx} {e:Expr} {es:List Expr} {te:TE} {t:TA} {pos:Pos}
theorem pa_nil:PA X [] tNil:=fun _ _ _ _ H Q I h=>Calls.spliced_nil ⟨[],H,I,.nil,h⟩
theorem pa_cons (ha:PE X e te) (hr:PA X es t) (hs:starEach (e :: es) X.env = (false,eval e X.env) :: starEach es X.env:=by rfl):PA X (e :: es) (tCons te t):=by
  intro pos pins s σ H Q I h
  rw [hs]
  show wpAny _ _ (spliced ((false,eval e X.env) :: backTo pos (starEach es X.env))) _ _ s
  refine Calls.spliced_cons (thn (ha pins s σ H _ I h) fun u s1 ⟨x,H1,I1,r1,q1⟩=>?_)
  exact thn (hr pos pins s1 σ H1 _ I1 q1) fun us s2 ⟨xs,H2,I2,r2,q2⟩=>⟨x :: xs,H2,I2,.cons r1 r2,q2⟩

def tTup (t:TA):TE:=fun σ H Q=>t σ H fun xs H1=>xs.length <= sizeLine /\ ∀ p,H1 p = none -> Q (.ref p) (upd H1 p (.tup xs))
def tLst (t:TA):TE:=fun σ H Q=>t σ H fun xs H1=>xs.length <= sizeLine /\ ∀ p,H1 p = none -> Q (.ref p) (upd H1 p (.lst xs))
theorem pe_tup {x1} (h:PA X es t):PE X (.Tuple es x1 pos) (tTup t):=by
  intro pins s σ H Q I hq
  refine wpAny_Tuple_spliced (thn (h pos pins s σ H _ I hq) fun us s1 ⟨xs,H1,I1,r,z,q⟩=>⟨by rw [<- r.length]; exact z,?_⟩)
  have hf:H1 s1.heap.objs.size = none:=I1.hok.fresh (Nat.le_refl _)
  refine ⟨.ref s1.heap.objs.size,upd H1 s1.heap.objs.size (.tup xs),I1.laid (t':=s1.toks) (fun b u e=>Heap.get?_push_of_some _ e) (Nat.le_refl _) ?_,rfl,q _ hf⟩
  exact ⟨z,us,r,IsTupD.new _ _⟩
theorem pe_lst (h:PA X es t):PE X (.List es pos) (tLst t):=by
  intro pins s σ H Q I hq
  refine wpAny_List_spliced (thn (h pos pins s σ H _ I hq) fun us s1 ⟨xs,H1,I1,r,z,q⟩=>⟨by rw [<- r.length]; exact z,?_⟩)
  have hf:H1 s1.heap.objs.size = none:=I1.hok.fresh (Nat.le_refl _)
  refine ⟨.ref s1.heap.objs.size,upd H1 s1.heap.objs.size (.lst xs),I1.laid (t':=s1.toks) (fun b u e=>Heap.get?_push_of_some _ e) (Nat.le_refl _) ?_,rfl,q _ hf⟩
  exact ⟨z,us,0,r,Heap.get?_push_size _ rfl⟩
end

abbrev Sp:=List V -> Hp -> VK -> XK -> Prop
abbrev CXT:=List Env -> Hp -> Shared -> XK -> Value -> Shared -> Prop

structure Env0 (P:Program) (w:World) (K:W.Frag) (mg:Str -> Option Value) (base:Heap) (A:Around) (outer:List Env) (s:Shared) (H:Hp):Prop where
  frames:A.frames = some outer
  mod:Mod K mg base
  bs:∀ b o,base.get? b = some o -> s.heap.get? b = some o /\ H b = none
  bsz:base.objs.size <= s.heap.objs.size
  funs:s.heap.FunFrames base outer
  frf:∀ b ∈ frs outer,H b = none
  hok:HOk P w H s.heap
  bare:AllBare s.gens
def CE (outer:List Env) (P:Program) (w:World) (H:Hp) (s:Shared) (Q:VK) (u:Value) (s':Shared):Prop :=
  ∃ v H',s'.os = s.os /\ AllBare s'.gens /\ Un (frs outer) [] H H' s.heap s'.heap /\ HOk P w H' s'.heap /\ RelV v u /\ Q v H'
def CR (CX:CXT) (outer:List Env) (P:Program) (w:World) (H:Hp) (s:Shared) (Q:VK) (E:XK) (r:Result) (s':Shared):Prop :=
  match r with
  | .ok (.ret u)=>CE outer P w H s Q u s'
  | .ok _=>False
  | .error e=>CX outer H s E e s'
structure FnOk (P:Program) (w:World) (K:W.Frag) (mg:Str -> Option Value) (base:Heap) (CX:CXT) (k:Nat) (f:Addr) (fd:FuncData) (ps:List Str) (sp:Sp):Prop where
  len:∀ vs H Q E,sp vs H Q E -> vs.length = ps.length
  run:∀ (A:Around) (outer:List Env) (s:Shared) (H:Hp) (args:Args) (us:List Value) (vs:List V) (Q:VK) (E:XK),Room k A -> Env0 P w K mg base A outer s H -> BindsTo s fd args (ps.zip us) -> Vals vs us -> sp vs H Q E ->
    codeAny (model P w) A (.call (.ref f) args) (CR CX outer P w H s Q E) s
theorem FnOk.mono {P:Program} {w:World} {K:W.Frag} {mg:Str -> Option Value} {base:Heap} {CX:CXT} {j k:Nat} {f:Addr} {fd:FuncData} {ps:List Str} {sp:Sp} (F:FnOk P w K mg base CX j f fd ps sp) (h:j <= k) :
    FnOk P w K mg base CX k f fd ps sp:=⟨F.len,fun A outer s H args us vs Q E hr=>F.run A outer s H args us vs Q E (hr.mono h)⟩
theorem FnOk.imp {P:Program} {w:World} {K:W.Frag} {mg:Str -> Option Value} {base:Heap} {CX:CXT} {k:Nat} {f:Addr} {fd:FuncData} {ps:List Str} {sp sp':Sp} (F:FnOk P w K mg base CX k f fd ps sp)
    (h:∀ vs H Q E,sp' vs H Q E -> sp vs H Q E):FnOk P w K mg base CX k f fd ps sp' :=
  ⟨fun vs H Q E q=>F.len vs H Q E (h _ _ _ _ q),fun A outer s H args us vs Q E hr he hb hv hs=>F.run A outer s H args us vs Q E hr he hb hv (h _ _ _ _ hs)⟩

theorem Env0.make {P:Program} {w:World} {K:W.Frag} {mg:Str -> Option Value} {base:Heap} {A:Around} {outer:List Env} {s:Shared} {H:Hp} (e:Env0 P w K mg base A outer s H) (C:Addr) (us:List Value) (kw:List (Str × Value)) :
    Env0 P w K mg base (A.under (.builtin "type.__call__" ⟨.ref C :: us,kw⟩)) outer s H:=⟨by first | exact e.frames | (simpa [Around.under,Code.envs,Code.isFrame,pushEnvs] using e.frames),e.mod,e.bs,e.bsz,e.funs,e.frf,e.hok,e.bare⟩
theorem Env0.in1 {P:Program} {w:World} {K:W.Frag} {mg:Str -> Option Value} {base:Heap} {A:Around} {outer:List Env} {s:Shared} {H:Hp} (e:Env0 P w K mg base A outer s H) :
    Env0 P w K mg base A.in1 outer s H:=⟨e.frames,e.mod,e.bs,e.bsz,e.funs,e.frf,e.hok,e.bare⟩

section
variable {X:Cx} {pins:List (Addr × Obj)} {σ:St} {H:Hp} {s s':Shared}
theorem Inv.env0 (I:Inv X pins σ H s):Env0 X.prog X.w X.K X.mg X.base X.A X.stack s H :=
  ⟨I.ok.frames,I.ok.mod,I.bs,Nat.le_trans I.ok.bsz I.sz,I.stack,I.stkFree,I.hok,I.bare⟩
theorem Inv.after {Q:VK} {u:Value} (I:Inv X pins σ H s) (h:CE X.stack X.prog X.w H s Q u s'):EP X pins σ Q u s':=by
  obtain ⟨v,H',os,bare,un,hok,r,q⟩:=h
  obtain ⟨hh,g,d,t,os'⟩:=s'
  obtain rfl:os' = s.os:=os
  exact ⟨v,H',I.call (h':=hh) (g':=g) (d':=d) (t':=t) (ch:=[]) un hok bare (fun b z=>absurd z (by simp)),r,q⟩
end

def tCall (sp:Sp) (dvs:List V) (E:XK) (t:TA):TE:=fun σ H Q=>t σ H fun vs H1=>sp (vs ++ dvs) H1 Q E
def Binds (K:W.Frag) (fd:FuncData) (ps:List Str) (ds:List Value):Prop :=
  ∀ (s:Shared) (us:List Value),K.In s.heap -> (us ++ ds).length = ps.length -> BindsTo s fd ⟨us,[]⟩ (ps.zip (us ++ ds))
theorem Binds.all {K:W.Frag} {fd:FuncData} {ps:List Str} (h:∀ us:List Value,us.length = ps.length -> bindArgs fd ⟨us,[]⟩ = pure (ps.zip us)):Binds K fd ps []:=fun s us _ hl=>by
  rw [List.append_nil] at hl ⊢
  exact .of_eq (h us hl)

def Passes (CX:CXT) (X:Cx) (E:XK):Prop:=∀ (pins:List (Addr × Obj)) (σ:St) (H:Hp) (s:Shared) (e:Value) (s':Shared),Inv X pins σ H s -> CX X.stack H s E e s' -> X.xe e s'

section
variable {X:Cx} {CX:CXT} {k:Nat} {f C:Addr} {fd:FuncData} {ps:List Str} {sp:Sp} {dvs:List V} {ds:List Value} {E:XK} {x m:Str} {p pos apos:Pos} {e o:Expr} {es:List Expr} {ta:TE} {t:TA}

theorem run_fn {pins:List (Addr × Obj)} {σ:St} {H:Hp} {s:Shared} {Q:VK} {us:List Value} {vs:List V} (F:FnOk X.prog X.w X.K X.mg X.base CX k f fd ps sp) (hr:Room k X.A) (hb:Binds X.K fd ps ds) (hd:Vals dvs ds) (hx:Passes CX X E)
    (I:Inv X pins σ H s) (r:Vals vs us) (h:sp (vs ++ dvs) H Q E):wpAny (model X.prog X.w) X.A (call (.ref f) us) (EP X pins σ Q) X.xe s:=by
  have r2:Vals (vs ++ dvs) (us ++ ds):=r.append hd
  have hl:(us ++ ds).length = ps.length:=by rw [<- r2.length]; exact F.len _ _ _ _ h
  refine wpAny_call (codeAny_mono (F.run X.A X.stack s H ⟨us,[]⟩ (us ++ ds) (vs ++ dvs) Q E hr I.env0 (hb s us I.kIn hl) r2 h) fun r s' hq=>?_)
  cases r with
  | error e=>exact hx pins σ H s e s' I hq
  | ok fl =>
    cases fl with
    | ret u=>exact I.after hq
    | next=>exact False.elim hq
    | brk=>exact False.elim hq
    | cont=>exact False.elim hq

theorem pe_call (F:FnOk X.prog X.w X.K X.mg X.base CX k f fd ps sp) (hr:Room k X.A) (hg:Gl X x) (hm:X.mg x = some (.ref f)) (hk:W.keepIn X.K (.ref f) = true) (hb:Binds X.K fd ps ds) (hd:Vals dvs ds) (hx:Passes CX X E)
    (ha:PA X (e :: es) t) (hdb:(x == ("__debug__" : Str)) = false:=by decide) (he:starEach (e :: es) X.env = (false,eval e X.env) :: starEach es X.env:=by rfl) (hpl:(backTo pos (starEach es X.env)).any (·.1) = false:=by rfl) :
    PE X (.Call (.Name x p) (e :: es) [] pos) (tCall sp dvs E t):=by
  intro pins s σ H Q I h
  refine wpAny_Call_Name_kw (ld_glob I hg hm ?_ hdb)
  refine W.callWith_K (h₀:=X.base) I.ok.mod.kin hk (thn (ha pos pins s σ H _ I h) fun us s1 ⟨vs,H1,I1,r,q⟩=>⟨I1.kIn,?_⟩) he hpl
  exact run_fn F hr hb hd hx I1 r q
end

section
variable {X:Cx} {CX:CXT} {k:Nat} {f C:Addr} {fd:FuncData} {ps ks:List Str} {sp:Sp} {E:XK} {x m:Str} {p pos apos kpos:Pos} {e o:Expr} {es:List Expr} {kws:List Keyword} {te ta:TE} {t tk:TA} {nm:Option Str}
variable {g:List Value -> List Value -> List Value} {gV:List V -> List V -> List V}
end

structure FnScope (N P:List Str) (sc:Scope):Prop where
  kind:sc.kind = .function
  co:sc.isCoroutine = false
  gen:sc.isGenerator = false
  nd:N.Nodup
  pre:N.take P.length = P
  par:∀ x ∈ P,sc.names.lookup x = some .local \/ sc.names.lookup x = some .cell
  nofree:∀ y ∈ sc.names,y.2 ≠ .free

theorem bindL_out {kindOf:Str -> Option NameKind} {x:Str}:∀ {binds:List (Str × Value)} {m:Str -> Option Value},(∀ v,(x,v) ∉ binds) -> bindL kindOf binds m x = m x
  | [],_,_=>rfl
  | (n,v) :: r,m,h=>by
    unfold bindL
    rw [bindL_out fun w hw=>h w (List.mem_cons_of_mem _ hw)]
    split
    · have:x ≠ n:=by rintro rfl; exact h v List.mem_cons_self
      simp [this]
    · rfl
theorem bindC_out {kindOf:Str -> Option NameKind} {x:Str}:∀ {binds:List (Str × Value)} {m:Str -> Option Value},(∀ v,(x,v) ∉ binds) -> bindC kindOf binds m x = m x
  | [],_,_=>rfl
  | (n,v) :: r,m,h=>by
    unfold bindC
    rw [bindC_out fun w hw=>h w (List.mem_cons_of_mem _ hw)]
    split
    · rfl
    · have:x ≠ n:=by rintro rfl; exact h v List.mem_cons_self
      simp [this]
theorem bindL_get {kindOf:Str -> Option NameKind} {x:Str} {v:Value}:∀ {P:List Str} {vs:List Value} {i:Nat} {m:Str -> Option Value},P.Nodup -> P[i]? = some x -> vs[i]? = some v -> kindOf x = some .local ->
    bindL kindOf (P.zip vs) m x = some v
  | [],_,_,_,_,h,_,_=>by simp at h
  | _ :: _,[],_,_,_,_,h,_=>by simp at h
  | p :: P,w :: vs,0,m,nd,h1,h2,hk=>by
    simp at h1 h2; subst h1; subst h2
    show bindL kindOf ((p,w) :: P.zip vs) m p = _
    unfold bindL
    rw [bindL_out fun v hv=>(List.nodup_cons.mp nd).1 (List.of_mem_zip hv).1,if_pos hk]
    simp
  | p :: P,w :: vs,i + 1,m,nd,h1,h2,hk=>by
    show bindL kindOf ((p,w) :: P.zip vs) m x = _
    unfold bindL
    exact bindL_get (i:=i) (List.nodup_cons.mp nd).2 (by simpa using h1) (by simpa using h2) hk
theorem bindC_get {kindOf:Str -> Option NameKind} {x:Str} {v:Value}:∀ {P:List Str} {vs:List Value} {i:Nat} {m:Str -> Option Value},P.Nodup -> P[i]? = some x -> vs[i]? = some v -> kindOf x ≠ some .local ->
    bindC kindOf (P.zip vs) m x = some v
  | [],_,_,_,_,h,_,_=>by simp at h
  | _ :: _,[],_,_,_,_,h,_=>by simp at h
  | p :: P,w :: vs,0,m,nd,h1,h2,hk=>by
    simp at h1 h2; subst h1; subst h2
    show bindC kindOf ((p,w) :: P.zip vs) m p = _
    unfold bindC
    rw [bindC_out fun v hv=>(List.nodup_cons.mp nd).1 (List.of_mem_zip hv).1,if_neg hk]
    simp
  | p :: P,w :: vs,i + 1,m,nd,h1,h2,hk=>by
    show bindC kindOf ((p,w) :: P.zip vs) m x = _
    unfold bindC
    exact bindC_get (i:=i) (List.nodup_cons.mp nd).2 (by simpa using h1) (by simpa using h2) hk

def start (N:List Str) (vs:List V):St:=vs.map some ++ List.replicate (N.length - vs.length) none

def cxOf (CX:CXT) (P:Program) (w:World) (K:W.Frag) (mg:Str -> Option Value) (base:Heap) (N:List Str) (qual:Str) (scope:Scope) (f:Addr) (cd:Value) (A:Around) (outer:List Env) (s:Shared) (H:Hp) (E:XK):Cx where
  prog:=P
  w:=w
  K:=K
  mg:=mg
  base:=base
  A:=A.deeper (envOfC qual scope s.heap.objs.size f cd)
  N:=N
  s₀:=s
  H₀:=H
  env:=envOfC qual scope s.heap.objs.size f cd
  outer:=outer
  stack:=envOfC qual scope s.heap.objs.size f cd :: outer
  ex:=[]
  calm:=true
  fn:=fun _=>true
  pn:=[]
  xe:=fun e s'=>wpAny (model P w) (A.deeper (envOfC qual scope s.heap.objs.size f cd)) (leaving (envOfC qual scope s.heap.objs.size f cd) e) (fun _ s''=>CX outer H s E e s'') (fun e' s''=>CX outer H s E e' s'') s'

theorem cell_has {sc:Scope} {n:Nat} {x:Str} (h:sc.names.lookup x = some .cell):∃ c,(cellsFrom n sc.names []).lookup x = some c:=by
  have q:=W.cellsFrom_some sc.names n [] (.inl h)
  exact Option.isSome_iff_exists.mp q

theorem inv_start {CX:CXT} {P:Program} {w:World} {K:W.Frag} {mg:Str -> Option Value} {base:Heap} {N ps:List Str} {qual:Str} {scope:Scope} {f:Addr} {cd:Value} {A:Around} {outer:List Env} {s s1:Shared} {H:Hp} {E:XK} {us:List Value} {vs:List V}
    (S:FnScope N ps scope) (hd:A.handled = none) (e0:Env0 P w K mg base A outer s H) (hl:vs.length = ps.length) (r:Vals vs us)
    (x:InCallC s s.heap.objs.size (bindL (envOfC qual scope s.heap.objs.size f cd).kindOf (ps.zip us) fun _=>none) (cellsFrom (s.heap.objs.size + 1) scope.names []) (bindC (envOfC qual scope s.heap.objs.size f cd).kindOf (ps.zip us) fun _=>none) s1) :
    Inv (cxOf CX P w K mg base N qual scope f cd A outer s H E) [] (start N vs) H s1:=by
  have hpl:ps.length <= N.length:=by have:=congrArg List.length S.pre; rw [List.length_take] at this; omega
  obtain ⟨h1,tk,rfl,hk⟩:=x.done
  have noA:∀ b:Addr,b ∉ (cxOf CX P w K mg base N qual scope f cd A outer s H E).ex:=fun b z=>absurd (show b ∈ ([]:List Addr) from z) (by simp)
  refine ⟨⟨e0.mod,S.kind,rfl,rfl,Nat.le_refl _,fun y z c h1 h2=>?_,fun y hy=>?_,fun y c _ h=>?_,fun _=>hd,Around.frames_deeper e0.frames,.inr ⟨rfl,rfl⟩,fun b z=>absurd z (noA b),e0.bs,e0.bsz,fun b _ _=>noA b,fun b z=>absurd z (noA b),e0.funs,e0.frf⟩,
    rfl,e0.bare,Un.kept hk,⟨_,x.toInCall.ns,fun i y v h1 h2 h3=>?_⟩,fun y c h=>⟨_,x.cell y c h⟩,e0.hok.fresh (Nat.le_refl _),fun y c h=>?_,fun p hp=>absurd (show p ∈ ([]:List (Addr × Obj)) from hp) (by simp),e0.hok.kept hk,?_⟩
  · exact name_of_addr x.apart (PySem.mem_of_lookup h1) (PySem.mem_of_lookup h2)
  · have hy:scope.names.lookup y = some .cell \/ scope.names.lookup y = some .free:=hy
    rcases hy with hy | hy
    · exact cell_has hy
    · exact absurd rfl (S.nofree _ (PySem.mem_of_lookup hy))
  · exact Nat.le_of_lt (x.above y c (PySem.mem_of_lookup h))
  · have hi:i < vs.length:=by
      unfold start at h2
      by_cases hi:i < vs.length
      · exact hi
      · rw [List.getElem?_append_right (by simpa using hi)] at h2
        rw [List.getElem?_replicate] at h2
        split at h2 <;> cases h2
    have ha:vs[i]? = some v:=by
      unfold start at h2
      rw [List.getElem?_append_left (by simpa using hi),List.getElem?_map] at h2
      cases e:vs[i]? with
      | none=>rw [e] at h2; cases h2
      | some a=>rw [e] at h2; cases h2; rfl
    obtain ⟨u,hu,rv⟩:=r.get ha
    have hp:ps[i]? = some y:=by
      rw [<- S.pre,List.getElem?_take_of_lt (by omega)]; exact h1
    have ndP:ps.Nodup:=by rw [<- S.pre]; exact S.nd.sublist (List.take_sublist _ _)
    refine ⟨u,rv,?_⟩
    rcases S.par y (List.mem_of_getElem? hp) with k | k
    · exact .inl ⟨k,bindL_get ndP hp hu k⟩
    · obtain ⟨c,e⟩:=cell_has (n:=s.heap.objs.size + 1) k
      refine .inr ⟨.inl k,c,e,?_⟩
      have q:=x.cell y c e
      rw [bindC_get ndP hp hu (by show scope.names.lookup y ≠ _; rw [k]; decide)] at q
      exact q
  · exact e0.hok.fresh (Nat.le_of_lt (x.above y c (PySem.mem_of_lookup h)))
  · unfold start
    show _ = N.length
    rw [List.length_append,List.length_map,List.length_replicate]
    omega

theorem fn_of {CX:CXT} {P:Program} {w:World} {K:W.Frag} {mg:Str -> Option Value} {base:Heap} {k:Nat} {f:Addr} {name qual:Str} {params:Arguments} {body:List Stmt} {scope:Scope} {dV kV doc pm cdv ct oc:Value} {an od:Option Addr}
    {osl:Array (Option Value)} {N ps:List Str} {sp:Sp} (lk:K.lookup f = some ⟨oc,od,.func (W.fnOf name qual params body scope dV kV doc pm an cdv ct),osl⟩) (hcd:W.codeIn K cdv qual = true) (S:FnScope N ps scope)
    (len:∀ vs H Q E,sp vs H Q E -> vs.length = ps.length)
    (hbody:∀ (A:Around) (outer:List Env) (s:Shared) (H:Hp) (vs:List V) (Q:VK) (E:XK),Room k (A.deeper (envOfC qual scope s.heap.objs.size f cdv)) -> sp vs H Q E ->
      ∃ t,PSs (cxOf CX P w K mg base N qual scope f cdv A outer s H E) body t /\ t { nx:=fun _ H'=>Q .non H',rt:=Q } (start N vs) H) :
    FnOk P w K mg base CX (k + 1) f (W.fnOf name qual params body scope dV kV doc pm an cdv ct) ps sp:=by
  refine ⟨len,fun A outer s H args us vs Q E hr e0 hb r hsp=>?_⟩
  have hl:=len _ _ _ _ hsp
  have KX:K.In s.heap:=e0.mod.kin.keeps fun b o e=>(e0.bs b o e).1
  have lim:s.heap.NoLimit:=e0.mod.nolimit.keeps fun b o e=>(e0.bs b o e).1
  have hkind:∀ y ∈ ps.zip us,scope.names.lookup y.1 = some .local \/ (scope.names.lookup y.1 = some .cell /\ ((cellsFrom (s.heap.objs.size + 1) scope.names []).lookup y.1).isSome = true):=fun ⟨n,v⟩ hy=>by
    rcases S.par n (List.of_mem_zip hy).1 with q | q
    · exact .inl q
    · exact .inr ⟨q,W.cellsFrom_some _ _ _ (.inl q)⟩
  refine codeAny_call_function hr.depth (KX _ _ lk) rfl S.co S.gen rfl (W.codeRec_of KX hcd) (hb _ _ _ _ ?_)
  refine wpAny_newFunctionEnv_cells S.kind hkind fun env he s1 x=>?_
  subst he
  refine ⟨lim.keeps x.toInCall.keep,codeAny_func ?_⟩
  obtain ⟨t,ht,hq⟩:=hbody A outer s H vs Q E (hr.deeper _) hsp
  have I:Inv (cxOf CX P w K mg base N qual scope f cdv A outer s H E) [] (start N vs) H s1:=inv_start S hr.hd e0 hl r x
  refine wpAny_mono (ht [] s1 (start N vs) H _ I hq) (fun fl s' hs=>?_) fun e s' hs=>hs
  have fin:∀ {σ':St} {H':Hp} {v:V} {u:Value},Inv (cxOf CX P w K mg base N qual scope f cdv A outer s H E) [] σ' H' s' -> RelV v u -> Q v H' -> CE outer P w H s Q u s' :=
    fun {σ' H' v u} J rv q=>⟨v,H',J.os,J.bare,J.base,J.hok,rv,q⟩
  cases fl with
  | ret u =>
    obtain ⟨v,σ',H',J,rv,q⟩:=hs
    exact fin J rv q
  | next =>
    obtain ⟨σ',H',J,q⟩:=hs
    exact fin (v:=V.non) (u:=Value.none) J rfl q
  | brk =>
    obtain ⟨_,_,_,q⟩:=hs
    exact False.elim q
  | cont =>
    obtain ⟨_,_,_,q⟩:=hs
    exact False.elim q
end L2

namespace L2
open PySem PySem.Spec PyProof.Rows
section
variable {X:Cx} {x:Str} {p pos:Pos} {e:Expr} {es:List Expr} {t:TA} {id T:String} {r:List V -> Hp -> VK -> Prop}

def tCB (r:List V -> Hp -> VK -> Prop) (t:TA):TE:=fun σ H Q=>t σ H fun vs H1=>r vs H1 Q
theorem pe_callB (hc:CallR X (.builtin id) r) (hg:Gl X x) (hm:X.mg x = none) (hv:bootBuiltins x = some (.builtin id)) (ha:PA X (e :: es) t) (hn:x ≠ "__name__" := by decide) (hdb:(x == ("__debug__" : Str)) = false:=by decide)
    (he:starEach (e :: es) X.env = (false,eval e X.env) :: starEach es X.env:=by rfl) (hpl:(backTo pos (starEach es X.env)).any (·.1) = false:=by rfl):PE X (.Call (.Name x p) (e :: es) [] pos) (tCB r t):=by
  intro pins s σ H Q I h
  refine wpAny_Call_Name_kw (ld_blt I hg hm hv ?_ hn hdb)
  exact PyProof.Rows.callWith_builtin1 (thn (ha pos pins s σ H _ I h) fun us s1 ⟨vs,H1,I1,r1,q1⟩=>hc pins s1 σ H1 vs us Q I1 r1 q1) he hpl
theorem pe_callTy (hc:CallR X (.type T) r) (hg:Gl X x) (hm:X.mg x = none) (hv:bootBuiltins x = some (.type T)) (ha:PA X (e :: es) t) (hn:x ≠ "__name__" := by decide) (hdb:(x == ("__debug__" : Str)) = false:=by decide)
    (he:starEach (e :: es) X.env = (false,eval e X.env) :: starEach es X.env:=by rfl) (hpl:(backTo pos (starEach es X.env)).any (·.1) = false:=by rfl):PE X (.Call (.Name x p) (e :: es) [] pos) (tCB r t):=by
  intro pins s σ H Q I h
  refine wpAny_Call_Name_kw (ld_blt I hg hm hv ?_ hn hdb)
  exact PyProof.Rows.callWith_type1 (thn (ha pos pins s σ H _ I h) fun us s1 ⟨vs,H1,I1,r1,q1⟩=>hc pins s1 σ H1 vs us Q I1 r1 q1) he hpl
end
end L2

namespace HT
open PySem PyProof.Rows

section
open PySem.SeqAt
open PySem.AutoSeq1 (wpAny_loadPart')
open PySem.MeetsSeq PySem.MeetsSeq2 PySem.MeetsSeq3

end

section
variable {prog:Program} {w:World} {A:Around} {E:Value -> Shared -> Prop} {s:Shared}

def sIx (n d:Nat):Option Int -> Nat
  | none=>d
  | some v=>if v < 0 then (v + (n:Int)).toNat else min v.toNat n
theorem sIx_none (n d:Nat):sIx n d none = d:=rfl
theorem sIx_nat (n d k:Nat):sIx n d (some (k:Int)) = min k n:=by
  show (if (k:Int) < 0 then ((k:Int) + (n:Int)).toNat else min (k:Int).toNat n) = min k n
  rw [if_neg (by omega),Int.toNat_natCast]
end
end HT

namespace L2
open PySem PySem.Spec PyProof.Rows

abbrev TO:=St -> Hp -> (Option Int -> Hp -> Prop) -> Prop
def PO (X:Cx) (e:Option Expr) (t:TO):Prop :=
  ∀ (pins:List (Addr × Obj)) (s:Shared) (σ:St) (H:Hp) (Q:Option Int -> Hp -> Prop),Inv X pins σ H s -> t σ H Q ->
    wpAny (model X.prog X.w) X.A (evalPart e X.env) (fun u s'=>∃ o H',Inv X pins σ H' s' /\ IsPart u o /\ Q o H') X.xe s
def tNoPart:TO:=fun _ H Q=>Q none H
def tPart (t:TE):TO:=fun σ H Q=>t σ H fun x H1=>∃ i,x = .int i /\ Q (some i) H1

section
variable {X:Cx} {e:Expr} {te:TE} {lo hi:Option Expr} {tl th:TO} {pos p2:Pos}

theorem po_none:PO X none tNoPart:=by
  intro pins s σ H Q I h
  rw [evalPart_none]
  exact wpAny_pure ⟨none,H,I,.none,h⟩
theorem po_some (h:PE X e te):PO X (some e) (tPart te):=by
  intro pins s σ H Q I hw
  rw [evalPart_some]
  refine thn (h pins s σ H _ I hw) fun u s1 ⟨x,H1,I1,r1,q1⟩=>?_
  obtain ⟨i,rfl,q⟩:=q1
  obtain ⟨t,rfl⟩:=r1
  exact ⟨some i,H1,I1,.int i t,q⟩

def SlR (X:Cx) (r:V -> Option Int -> Option Int -> Hp -> VK -> Prop):Prop :=
  ∀ (pins:List (Addr × Obj)) (s:Shared) (σ:St) (H:Hp) (x:V) (v vl vu:Value) (lo hi:Option Int) (sl:Addr) (Q:VK),Inv X pins σ H s -> RelV x v -> s.heap.IsSliceOf sl vl vu .none -> IsPart vl lo -> IsPart vu hi -> r x lo hi H Q ->
    ∃ T id,typeLookup (.type T) "__getitem__" = pure (some (.builtin id)) /\ s.TypeIs v T /\ wpAny (model X.prog X.w) X.A (getItem v (.ref sl)) (EP X pins σ Q) X.xe s
def tSl (r:V -> Option Int -> Option Int -> Hp -> VK -> Prop) (te:TE) (tl th:TO):TE:=fun σ H Q=>te σ H fun x H1=>tl σ H1 fun l H2=>th σ H2 fun u H3=>r x l u H3 Q
theorem pe_slice {r:V -> Option Int -> Option Int -> Hp -> VK -> Prop} (hr:SlR X r) (he:PE X e te) (hl:PO X lo tl) (hu:PO X hi th):PE X (.Subscript e (.Slice lo hi none p2) pos) (tSl r te tl th):=by
  intro pins s σ H Q I h
  refine Subscript_ (thn (he pins s σ H _ I h) fun v s1 ⟨x,H1,I1,r1,q1⟩=>?_)
  refine wpAny_Slice (thn (hl pins s1 σ H1 _ I1 q1) fun vl s2 ⟨l,H2,I2,pl,q2⟩=>thn (hu pins s2 σ H2 _ I2 q2) fun vu s3 ⟨u,H3,I3,pu,q3⟩=>?_)
  rw [evalPart_none]
  refine wpAny_pure ?_
  have I4:Inv X pins σ H3 { s3 with heap:=s3.heap.push { cls:=.type "slice", data:=.fields #[vl,vu,.none] } }:=I3.kept (t':=s3.toks) fun b ob q=>Heap.get?_push_of_some _ q
  obtain ⟨T,id,hT,ht,hg⟩:=hr pins { s3 with heap:=s3.heap.push { cls:=.type "slice", data:=.fields #[vl,vu,.none] } } σ H3 x v vl vu l u s3.heap.objs.size Q I4 r1 (Heap.IsSliceOf.new ..) pl pu q3
  show wpAny (model X.prog X.w) X.A (subscriptTail e (.Slice lo hi none p2) v (.ref s3.heap.objs.size)) (EP X pins σ Q) X.xe { s3 with heap:=s3.heap.push { cls:=.type "slice", data:=.fields #[vl,vu,.none] } }
  exact tail_any (ops:=[.ref s3.heap.objs.size,v]) ht hT hg (by with_unfolding_all rfl)

def cutV (xs:List V) (lo hi:Option Int):List V:=(xs.drop (HT.sIx xs.length 0 lo)).take (HT.sIx xs.length xs.length hi - HT.sIx xs.length 0 lo)
theorem cutV_length (xs:List V) (lo hi:Option Int):(cutV xs lo hi).length <= xs.length:=by
  unfold cutV
  rw [List.length_take,List.length_drop]
  omega
end
end L2

namespace L2
open PySem PySem.Spec PyProof.Rows

def ixN (n:Nat) (i:Int):Option Nat:=if 0 <= i then (if i < n then some i.toNat else none) else if -(n:Int) <= i then some (i + n).toNat else none
def atI {α:Type} (xs:List α) (i:Int):Option α:=(ixN xs.length i).bind fun j=>xs[j]?
theorem ixN_seq {n:Nat} {i:Int} {j:Nat} (h:ixN n i = some j):seqIndex? i n = some j /\ j < n /\ -(n:Int) <= i /\ i < n:=by
  unfold ixN at h
  by_cases h0 : 0 <= i
  · rw [if_pos h0] at h
    by_cases h1:i < n
    · rw [if_pos h1] at h
      have e:i.toNat = j:=Option.some.inj h
      exact ⟨by rw [seqIndex_of h0 h1,e],by omega,by omega,h1⟩
    · rw [if_neg h1] at h; cases h
  · rw [if_neg h0] at h
    by_cases h1 : -(n:Int) <= i
    · rw [if_pos h1] at h
      have e:(i + n).toNat = j:=Option.some.inj h
      exact ⟨by rw [seqIndex_neg (by omega) h1,e],by omega,h1,by omega⟩
    · rw [if_neg h1] at h; cases h
theorem atI_get {α:Type} {xs:List α} {i:Int} {v : α} (h:atI xs i = some v):∃ j,seqIndex? i xs.length = some j /\ xs[j]? = some v /\ j < xs.length /\ -(xs.length:Int) <= i /\ i < xs.length:=by
  unfold atI at h
  cases e:ixN xs.length i with
  | none=>rw [e] at h; cases h
  | some j =>
    rw [e] at h
    obtain ⟨h1,h2,h3,h4⟩:=ixN_seq e
    exact ⟨j,h1,h,h2,h3,h4⟩
theorem atI_nat {α:Type} {xs:List α} {j:Nat} {v : α} (h:xs[j]? = some v):atI xs (j:Int) = some v:=by
  have hj:j < xs.length:=(List.getElem?_eq_some_iff.mp h).1
  have e:ixN xs.length (j:Int) = some j:=by
    unfold ixN
    rw [if_pos (by omega),if_pos (by omega)]; simp
  unfold atI; rw [e]; exact h
def PlainIx (b:Expr):Prop:=∀ o i,subscripted b false o i = operate [o,i] (getItem o i)
def IxR (X:Cx) (r:R2):Prop :=
  ∀ (value slice:Expr) (pins:List (Addr × Obj)) (s:Shared) (σ:St) (H:Hp) (x y:V) (v u:Value) (Q:VK),Inv X pins σ H s -> RelV x v -> RelV y u -> r x y H Q ->
    subscripted slice false v u = operate [v,u] (getItem v u) -> wpAny (model X.prog X.w) X.A (subscriptTail value slice v u) (EP X pins σ Q) X.xe s
def MtR (X:Cx) (id:String) (r:V -> List V -> Hp -> VK -> Prop):Prop :=
  ∀ (pins:List (Addr × Obj)) (s:Shared) (σ:St) (H:Hp) (x:V) (xs:List V) (v:Value) (us:List Value) (Q:VK),Inv X pins σ H s -> RelV x v -> Vals xs us -> r x xs H Q ->
    wpAny (model X.prog X.w) X.A (call (.builtin id) (v :: us)) (EP X pins σ Q) X.xe s
section
variable {X:Cx} {a b:Expr} {ta tb:TE} {pos:Pos}
theorem IxR.or {r r':R2} (h:IxR X r) (h':IxR X r'):IxR X (fun x y H Q=>r x y H Q \/ r' x y H Q):=by
  intro value slice pins s σ H x y v u Q I rx ry q hs
  rcases q with q | q
  · exact h value slice pins s σ H x y v u Q I rx ry q hs
  · exact h' value slice pins s σ H x y v u Q I rx ry q hs
theorem pe_ix {r:R2} (hr:IxR X r) (ha:PE X a ta) (hb:PE X b tb) (hs:PlainIx b):PE X (.Subscript a b pos) (tOp r ta tb):=by
  intro pins s σ H Q I h
  exact Subscript_ (binT ha hb I h fun v u s2 x y H2 I2 rx ry q=>hr a b pins s2 σ H2 x y v u Q I2 rx ry q (hs _ _))

def rIxL (K:W.Frag):R2:=fun x y H Q=>∃ p xs i v,x = .ref p /\ y = .int i /\ SqL K H p xs /\ atI xs i = some v /\ Q v H
def rIxT (K:W.Frag):R2:=fun x y H Q=>∃ p xs i v,x = .ref p /\ y = .int i /\ SqT K H p xs /\ atI xs i = some v /\ Q v H
def rIxS:R2:=fun x y H Q=>∃ z i c,x = .str z /\ y = .int i /\ z.length <= sizeLine /\ atI z.cps.toList i = some c /\ Q (.str ⟨#[c]⟩) H
theorem ix_list:IxR X (rIxL X.K):=by
  intro value slice pins s σ H x y v u Q I rx ry h hs
  obtain ⟨p,xs,i,z,rfl,rfl,hq,he,q⟩:=h
  cases rx
  obtain ⟨t,rfl⟩:=ry
  obtain ⟨its,r,pl,hz⟩:=I.list hq
  obtain ⟨j,h1,h2,h3,h4,h5⟩:=atI_get he
  obtain ⟨w,ew,rw'⟩:=r.get h2
  have hl:=r.length
  have hn:=line63
  have fin:EP X pins σ Q w s:=⟨z,H,I,rw',q⟩
  by_cases h0 : 0 <= i
  · have hj:i.toNat = j:=by
      rw [seqIndex_of h0 h5] at h1
      exact Option.some.inj h1
    exact item_listR pl.isList h0 (by omega) (by rw [hj]; simpa using ew) fin hs
  · have hj:(i + (its.toArray.size:Int)).toNat = j:=by
      rw [seqIndex_neg (by omega) h4] at h1
      rw [List.size_toArray,<- hl]
      exact Option.some.inj h1
    exact subscriptTail_builtinR (x:=w) pl.isList.typeIs slot_list_getitem.lookup
      (wpAny_getItem_list_neg (Q:=fun r s'=>r = w /\ EP X pins σ Q r s') pl.isList (by omega) (by rw [List.size_toArray] <;> omega) (by omega) (by rw [hj]; simpa using ew) ⟨rfl,fin⟩) hs
theorem ix_tup:IxR X (rIxT X.K):=by
  intro value slice pins s σ H x y v u Q I rx ry h hs
  obtain ⟨p,xs,i,z,rfl,rfl,hq,he,q⟩:=h
  cases rx
  obtain ⟨t,rfl⟩:=ry
  obtain ⟨its,r,pl,hz⟩:=I.tuple hq
  obtain ⟨j,h1,h2,h3,h4,h5⟩:=atI_get he
  obtain ⟨w,ew,rw'⟩:=r.get h2
  have hl:=r.length
  have hn:=line63
  have fin:EP X pins σ Q w s:=⟨z,H,I,rw',q⟩
  exact subscriptTail_builtinR (x:=w) pl.typeIs slot_tuple_getitem.lookup
    (getItem_tuple (j:=j) (Q:=fun r s'=>r = w /\ EP X pins σ Q r s') pl (by omega) (by omega) (by rw [List.size_toArray,<- hl]; exact h1) (by simpa using ew) ⟨rfl,fin⟩) hs
theorem ix_str:IxR X rIxS:=by
  intro value slice pins s σ H x y v u Q I rx ry h hs
  obtain ⟨z,i,c,rfl,rfl,hz,he,q⟩:=h
  obtain ⟨t,rfl⟩:=rx
  obtain ⟨t',rfl⟩:=ry
  obtain ⟨j,h1,h2,h3,h4,h5⟩:=atI_get he
  have hl:z.cps.toList.length = z.length:=by simp [Str.length]
  rw [hl] at h1 h4 h5
  have hn:=line63
  exact tail_any (typeIs_str s z t) slot_str_getitem.lookup (getItem_str (c:=c) (by
    have e1:decide (i < -(2 ^ 63:Int)) = false:=decide_eq_false (by omega)
    have e2:decide (i ≥ 2 ^ 63) = false:=decide_eq_false (by omega)
    rw [e1,e2,Bool.or_false]) (by rw [h1]; simpa using h2) ⟨.str ⟨#[c]⟩,H,I.tok _,⟨_,rfl⟩,q⟩) hs
def rIx (K:W.Frag):R2:=fun x y H Q=>rIxL K x y H Q \/ rIxT K x y H Q \/ rIxS x y H Q
theorem ix_seq:IxR X (rIx X.K):=ix_list.or (ix_tup.or ix_str)

theorem mapSeq_set (its:List Value) (n j:Nat) (u:Value):Obj.mapSeq (·.setIfInBounds j u) { cls:=.type "list", data:=.seq its.toArray n } = { cls:=.type "list", data:=.seq (its.set j u).toArray n }:=by
  simp [Obj.mapSeq]
theorem Inv.lst {pins:List (Addr × Obj)} {σ:St} {H:Hp} {s:Shared} {p:Addr} {xs:List V} (I:Inv X pins σ H s) (h:H p = some (.lst xs)) :
    ∃ (its:List Value) (n:Nat),Vals xs its /\ s.heap.get? p = some { cls:=.type "list", data:=.seq its.toArray n } /\ xs.length <= sizeLine:=by
  obtain ⟨z,its,n,r,e⟩:=I.hok p _ h
  exact ⟨its,n,r,e,z⟩
theorem Inv.lstUpd {pins:List (Addr × Obj)} {σ:St} {H:Hp} {s:Shared} {p:Addr} {xs ys:List V} {its its':List Value} {n n':Nat} {f:Obj -> Obj} (I:Inv X pins σ H s) (h:H p = some (.lst xs))
    (ho:s.heap.get? p = some { cls:=.type "list", data:=.seq its.toArray n }) (hf:f { cls:=.type "list", data:=.seq its.toArray n } = { cls:=.type "list", data:=.seq its'.toArray n' }) (r:Vals ys its') (hz:ys.length <= sizeLine) (t:Nat) :
    Inv X pins σ (upd H p (.lst ys)) { s with heap:=s.heap.update p f,toks:=t }:=by
  have e:(s.heap.update p f).get? p = some { cls:=.type "list", data:=.seq its'.toArray n' }:=by
    rw [Heap.get?_update_self f ho (by rw [hf] <;> rfl),hf]
  refine I.write (x:=p) (e:=p) (by rw [h]; trivial) (.inl rfl) (fun b u hb q=>(Heap.get?_update_other _ _ (Ne.symm hb)).trans q) ⟨_,e⟩ ?_
  exact ⟨hz,its',n',r,e⟩
def rSetL:V -> V -> V -> Hp -> (Hp -> Prop) -> Prop:=fun o i v H Q=>∃ p xs k j,o = .ref p /\ i = .int k /\ H p = some (.lst xs) /\ ixN xs.length k = some j /\ Q (upd H p (.lst (xs.set j v)))
theorem set_list:PSet X rSetL:=by
  intro pins s σ H o i v ov iv u Q I ro ri rv h
  obtain ⟨p,xs,k,j,rfl,rfl,hp,hj,q⟩:=h
  cases ro
  obtain ⟨t,rfl⟩:=ri
  obtain ⟨its,n,r,ho,hz⟩:=I.lst hp
  obtain ⟨h1,h2,h3,h4⟩:=ixN_seq hj
  have hl:=r.length
  have hn:=line63
  have I':Inv X pins σ (upd H p (.lst (xs.set j v))) { s with heap:=s.heap.update p (Obj.mapSeq (·.setIfInBounds j u)) } :=
    I.lstUpd hp ho (mapSeq_set its n j u) (r.set rv j) (by rw [List.length_set]; exact hz) s.toks
  by_cases h0 : 0 <= k
  · have hk:k.toNat = j:=by
      rw [seqIndex_of h0 h4] at h1
      exact Option.some.inj h1
    exact W.ki_setAt ho h0 (by omega) (by rw [List.size_toArray,<- hl]; exact h4) (by rw [hk]; exact ⟨_,I',q⟩)
  · have hk:(k + (its.toArray.size:Int)).toNat = j:=by
      rw [seqIndex_neg (by omega) h3] at h1
      rw [List.size_toArray,<- hl]
      exact Option.some.inj h1
    exact W.ki_setBack ho (by omega) (by rw [List.size_toArray,<- hl]; exact h3) (by omega) (by rw [hk]; exact ⟨_,I',q⟩)

theorem slice_bounds (lo hi:Option Int) (n:Nat):(sliceBounds lo hi none n).1 = ((HT.sIx n 0 lo:Nat):Int) /\ (sliceBounds lo hi none n).2.1 = ((HT.sIx n n hi:Nat):Int) /\ (sliceBounds lo hi none n).2.2 = 1:=by
  refine ⟨?_,?_,rfl⟩
  · cases lo with
    | none=>simp [sliceBounds,HT.sIx]
    | some i =>
      simp only [sliceBounds,HT.sIx,Option.getD_none,show (1:Int) > 0 by decide,if_true]
      by_cases h:i < 0
      · simp only [h,if_true] <;> omega
      · simp only [h,if_false] <;> omega
  · cases hi with
    | none=>simp [sliceBounds,HT.sIx]
    | some i =>
      simp only [sliceBounds,HT.sIx,Option.getD_none,show (1:Int) > 0 by decide,if_true]
      by_cases h:i < 0
      · simp only [h,if_true] <;> omega
      · simp only [h,if_false] <;> omega
theorem slicePick_cut (its:List Value) (lo hi:Option Int):slicePick its.toArray lo hi none = ((its.drop (HT.sIx its.length 0 lo)).take (HT.sIx its.length its.length hi - HT.sIx its.length 0 lo)).toArray:=by
  obtain ⟨h1,h2,h3⟩:=slice_bounds lo hi its.toArray.size
  unfold slicePick
  rw [h1,h2,h3]
  simp only [sliceRange_one,pick_run,List.size_toArray] <;> rfl
def rSlL (K:W.Frag):V -> Option Int -> Option Int -> Hp -> VK -> Prop:=fun x lo hi H Q=>∃ a xs,x = .ref a /\ SqL K H a xs /\ ∀ p,H p = none -> Q (.ref p) (upd H p (.lst (cutV xs lo hi)))
theorem sl_list:SlR X (rSlL X.K):=by
  intro pins s σ H x v vl vu lo hi sl Q I rx hs pl pu h
  obtain ⟨a,xs,rfl,hx,q⟩:=h
  cases rx
  obtain ⟨its,r,ht,hz⟩:=I.list hx
  have hlen:=r.length
  refine ⟨"list", _,slot_list_getitem.lookup,ht.isList.typeIs,?_⟩
  refine wpAny_getItem_list_slice ht.isList hs pl pu .none (by simp) ?_ (by rw [List.size_toArray] <;> omega)
  rw [slicePick_cut,<- hlen]
  refine ⟨.ref s.heap.objs.size,_,I.laid (t':=s.toks) (o:=.lst (cutV xs lo hi)) (fun b ob q=>Heap.get?_push_of_some _ q) (Nat.le_refl _) ?_,rfl,q _ (I.hok.fresh (Nat.le_refl _))⟩
  exact ⟨Nat.le_trans (cutV_length xs lo hi) hz,_,0,(r.drop (HT.sIx xs.length 0 lo)).take (HT.sIx xs.length xs.length hi - HT.sIx xs.length 0 lo),Heap.get?_push_size _ rfl⟩

theorem call_len_seq:CallR X (.builtin "len") (fun xs H Q=>∃ p ys,xs = [.ref p] /\ (SqL X.K H p ys \/ SqT X.K H p ys) /\ Q (.int ys.length) H):=by
  intro pins s σ H xs us Q I r h
  obtain ⟨p,ys,rfl,hq,q⟩:=h
  obtain ⟨u,rfl,rx⟩:=vals1 r
  cases rx
  have hn:=line63
  rcases hq with hq | hq
  · obtain ⟨its,r',pl,hz⟩:=I.list hq
    have hlen:=r'.length
    exact Calls.call_len_list pl.isList (by simp only [List.size_toArray] <;> omega) ⟨.int ys.length,H,I.tok _,⟨s.toks + 1,by rw [List.size_toArray,hlen]⟩,q⟩
  · obtain ⟨its,r',pl,hz⟩:=I.tuple hq
    have hlen:=r'.length
    exact len_tuple pl (by simp only [List.size_toArray] <;> omega) ⟨.int ys.length,H,I.tok _,⟨s.toks + 1,by rw [List.size_toArray,hlen]⟩,q⟩
theorem call_tuple_of:CallR X (.type "tuple") (fun xs H Q=>∃ p ys,xs = [.ref p] /\ ((SqL X.K H p ys /\ ∀ l,H l = none -> Q (.ref l) (upd H l (.tup ys))) \/ (SqT X.K H p ys /\ Q (.ref p) H))):=by
  intro pins s σ H xs us Q I r h
  obtain ⟨p,ys,rfl,h⟩:=h
  obtain ⟨u,rfl,rx⟩:=vals1 r
  cases rx
  rcases h with ⟨hq,q⟩ | ⟨hq,q⟩
  · obtain ⟨its,r',pl,hz⟩:=I.list hq
    have hlen:=r'.length
    refine call_tuple_list pl.isList (fun h' kp=>?_) (by simp only [List.size_toArray] <;> omega)
    have I1:Inv X pins σ H { s with heap:=h' }:=I.kept (t':=s.toks) kp
    have I2:Inv X pins σ (upd H h'.objs.size (.tup ys)) { s with heap:=h'.push { cls:=.type "tuple", data:=.seq its.toArray } } :=
      I1.laid (t':=s.toks) (fun b o e=>Heap.get?_push_of_some _ e) (Nat.le_refl _) (show ObjOk X.prog X.w _ _ _ (.tup ys) from ⟨hz,its,r',IsTupD.new _ _⟩)
    exact ⟨.ref h'.objs.size,_,I2,rfl,q _ (I1.hok.fresh (Nat.le_refl _))⟩
  · obtain ⟨its,r',pl,hz⟩:=I.tuple hq
    exact call_tuple_same pl ⟨.ref p,H,I,rfl,q⟩

def tyV (K:W.Frag) (T:String) (x:V) (H:Hp):Prop:=match x with
  | .str _=>T = "str"
  | .int _=>T = "int"
  | .ref p=>(T = "list" /\ ∃ xs,SqL K H p xs) \/ (T = "tuple" /\ ∃ xs,SqT K H p xs) \/
      (T = "dict" /\ ((∃ kvs,H p = some (.dK kvs)) \/ ∃ kvs,H p = some (.dT kvs))) \/ (T = "set" /\ ∃ S n,H p = some (.set S n))
  | _=>False
theorem tyV_is {pins:List (Addr × Obj)} {σ:St} {H:Hp} {s:Shared} {T:String} {x:V} {v:Value} (I:Inv X pins σ H s) (r:RelV x v) (ty:tyV X.K T x H) :
    s.TypeIs v T /\ ∀ a,v = .ref a -> ∃ ob,s.heap.get? a = some ob /\ ob.dict = none:=by
  cases x with
  | str z =>
    obtain ⟨t,rfl⟩:=r
    cases (show T = "str" from ty)
    exact ⟨typeIs_str s z t,fun _ e=>nomatch e⟩
  | int i =>
    obtain ⟨t,rfl⟩:=r
    cases (show T = "int" from ty)
    exact ⟨typeIs_int s i t,fun _ e=>nomatch e⟩
  | ref p =>
    cases r
    rcases ty with ⟨rfl,xs,hq⟩ | ⟨rfl,xs,hq⟩ | ⟨rfl,hk⟩ | ⟨rfl,S,n,hk⟩
    · obtain ⟨its,_,pl,_⟩:=I.list hq
      refine ⟨pl.isList.typeIs,fun a e=>?_⟩
      cases e
      obtain ⟨o,n,e,c,hd,_⟩:=pl
      exact ⟨o,e,hd⟩
    · obtain ⟨o,e1,e2,e3⟩:=I.tupleD hq
      refine ⟨⟨o,e1,e2⟩,fun a e=>?_⟩
      cases e
      exact ⟨o,e1,e3⟩
    · have z:∃ o,s.heap.get? p = some o /\ o.ExactDict:=by
        rcases hk with ⟨kvs,hk⟩ | ⟨kvs,hk⟩
        · obtain ⟨_,_,_,_,o,_,_,e,ex,_⟩:=I.hok p _ hk
          exact ⟨o,e,ex⟩
        · obtain ⟨_,_,_,_,o,_,_,e,ex,_⟩:=I.hok p _ hk
          exact ⟨o,e,ex⟩
      obtain ⟨o,e,ex⟩:=z
      refine ⟨⟨o,e,ex.1⟩,fun a e2=>?_⟩
      cases e2
      exact ⟨o,e,ex.2.1⟩
    · obtain ⟨o,_,_,_,e,ex,_⟩:=I.hok p _ hk
      refine ⟨⟨o,e,ex.1⟩,fun a e2=>?_⟩
      cases e2
      exact ⟨o,e,ex.2.1⟩
  | _=>exact False.elim ty
def tBM (K:W.Frag) (T:String) (r:V -> List V -> Hp -> VK -> Prop) (to:TE) (t:TA):TE:=fun σ H Q=>to σ H fun x H1=>tyV K T x H1 /\ t σ H1 fun xs H2=>r x xs H2 Q
variable {o e:Expr} {es:List Expr} {to:TE} {t:TA} {name:Str} {apos cpos:Pos} {T id:String} {r:V -> List V -> Hp -> VK -> Prop}
theorem pe_bm (pa:PlainAttrs T) (slot:Slot T name id) (hty:typeOf (.builtin id) = pure (.type "method_descriptor")) (hm:MtR X id r) (ho:PE X o to) (ha:PA X (e :: es) t)
    (hbase:attributeBase o name X.env (eval o X.env) = eval o X.env:=by rfl)
    (hfew:((backTo cpos (starEach (e :: es) X.env)).all (fun x=>!x.1) && (backToKw cpos (keywordEach [] X.env)).all (fun x=>x.1.isSome)
      && decide ((e :: es).length + ([]:List Keyword).length + (if ([]:List Keyword).isEmpty then 0 else 1) < 30)) = true:=by rfl)
    (hline:(apos.endLine == cpos.line) = true:=by rfl) (hs:starEach (e :: es) X.env = (false,eval e X.env) :: starEach es X.env:=by rfl) (hplain:(backTo cpos (starEach es X.env)).any (·.1) = false:=by rfl) :
    PE X (.Call (.Attribute o name apos) (e :: es) [] cpos) (tBM X.K T r to t):=by
  intro pins s σ H Q I h
  refine wpAny_Call_method_late hbase hfew hline rfl (thn (ho pins s σ H _ I h) fun v s1 ⟨x,H1,I1,r1,ty,q1⟩=>?_)
  obtain ⟨h1,h2⟩:=tyV_is I1 r1 ty
  refine ⟨T,id,pa,slot,hty,h1,h2,?_⟩
  have hA:=ha cpos pins s1 σ H1 _ I1 q1
  rw [hs] at hA ⊢
  refine Calls.callWith_builtin (by show (false || (backTo cpos (starEach es X.env)).any (·.1)) = false; rw [hplain] <;> rfl) (Calls.evalArgs_plain ?_)
  exact thn hA fun us s2 ⟨vs,H2,I2,r2,q2⟩=>hm pins s2 σ H2 x vs v us Q I2 r1 r2 q2

end
end L2

namespace L2
open PySem PySem.Spec PyProof.Rows

def MtM (X:Cx) (id:String) (r:V -> List V -> Hp -> VK -> Prop):Prop :=
  ∀ (pins:List (Addr × Obj)) (s:Shared) (σ:St) (H:Hp) (x:V) (xs:List V) (v:Value) (us:List Value) (Q:VK),Inv X pins σ H s -> RelV x v -> Vals xs us -> r x xs H Q ->
    wpAny (model X.prog X.w) X.A (call (.builtin id) (v :: us)) (EP X pins σ Q) X.xe s

theorem Vals.one:∀ {x:V} {us:List Value},Vals [x] us -> ∃ u,us = [u] /\ RelV x u
  | _,_,.cons r .nil=>⟨_,rfl,r⟩
theorem Vals.two:∀ {x y:V} {us:List Value},Vals [x,y] us -> ∃ u v,us = [u,v] /\ RelV x u /\ RelV y v
  | _,_,_,.cons r (.cons q .nil)=>⟨_,_,rfl,r,q⟩
theorem Vals.zero:∀ {us:List Value},Vals [] us -> us = []
  | _,.nil=>rfl
theorem Vals.eraseIdx:∀ {xs:List V} {us:List Value} (i:Nat),Vals xs us -> Vals (xs.eraseIdx i) (us.eraseIdx i)
  | _,_,_,.nil=>.nil
  | _,_,0,.cons _ t=>t
  | _,_,i + 1,.cons r t=>.cons r (Vals.eraseIdx i t)
theorem Vals.reverse {xs:List V} {us:List Value} (h:Vals xs us):Vals xs.reverse us.reverse:=by
  induction h with
  | nil=>exact .nil
  | cons r t ih=>rw [List.reverse_cons,List.reverse_cons]; exact Vals.append ih (.cons r .nil)
section
variable {X:Cx} {pins:List (Addr × Obj)} {σ:St} {H:Hp} {s:Shared} {l b:Addr} {xs ys zs:List V}

theorem Inv.lset {its its':List Value} {n:Nat} {f:Array Value -> Array Value} {t':Nat} (I:Inv X pins σ H s) (hH:H l = some (.lst xs))
    (e:s.heap.get? l = some { cls:=.type "list", data:=.seq its.toArray n }) (hf:f its.toArray = its'.toArray) (hv:Vals ys its') (hz:ys.length <= sizeLine) :
    Inv X pins σ (upd H l (.lst ys)) { s with heap:=s.heap.update l (Obj.mapSeq f),toks:=t' }:=by
  have q:=PySem.IsL.update e f
  rw [hf] at q
  refine I.write (x:=l) (e:=l) (by rw [hH]; exact trivial) (.inl rfl) (fun b' u hb hu=>(Heap.get?_update_other s.heap (Obj.mapSeq f) (Ne.symm hb)).trans hu) ⟨_,q⟩ ?_
  exact ⟨hz,its',_,hv,q⟩
theorem Inv.lstM (I:Inv X pins σ H s) (hH:H l = some (.lst xs)):xs.length <= sizeLine /\ ∃ (its:List Value) (n:Nat),Vals xs its /\ xs.length = its.length /\ s.heap.get? l = some { cls:=.type "list", data:=.seq its.toArray n }:=by
  obtain ⟨z,its,n,r,e⟩:=I.hok l _ hH
  exact ⟨z,its,n,r,r.length,e⟩

end

section
variable {X:Cx}

def rAppend:V -> List V -> Hp -> VK -> Prop:=fun x vs H Q=>∃ l xs y,x = .ref l /\ vs = [y] /\ H l = some (.lst xs) /\ xs.length < sizeLine /\ Q .non (upd H l (.lst (xs ++ [y])))
theorem mt_append:MtM X "list.append" rAppend:=by
  intro pins s σ H x vs v us Q I rx rv h
  obtain ⟨l,xs,y,rfl,rfl,hH,hz,q⟩:=h
  cases rx
  obtain ⟨u,rfl,ru⟩:=rv.one
  obtain ⟨z,its,n,r,hl,e⟩:=I.lstM hH
  refine call_meets F.slot_list_append ⟨_,e,rfl⟩ F.entry_list_append (F.args_list_append_2 _ _) (PySem.list_append l its.toArray n u (by rw [List.size_toArray]; omega)) ⟨e,?_⟩
  refine ⟨.non,_,I.lset (its':=its ++ [u]) hH e (by simp) (r.append (.cons ru .nil)) ?_,rfl,q⟩
  rw [List.length_append,List.length_singleton]
  omega

end

section
variable {prog:Program} {w:World} {A:Around} {E:Value -> Shared -> Prop} {s:Shared}
end

section
variable {X:Cx}
end
end L2

namespace L2
open PySem PySem.Spec PyProof.Rows

section
variable {κ:Type} [DecidableEq κ]
def valV (kvs:List (κ × V)) (k : κ):Option V:=(kvs.find? fun kv=>decide (kv.1 = k)).map (·.2)
def putK (kvs:List (κ × V)) (k : κ) (v:V):List (κ × V) :=
  if (kvs.any fun kv=>decide (kv.1 = k)) = true then kvs.map (fun kv=>if kv.1 = k then (kv.1,v) else kv) else kvs ++ [(k,v)]
def dropK (kvs:List (κ × V)) (k : κ):List (κ × V):=kvs.filter fun kv=>decide (kv.1 ≠ k)

theorem valV_pos {p : κ × V} {r:List (κ × V)} {k : κ} (e:p.1 = k):valV (p :: r) k = some p.2:=by simp [valV,List.find?_cons,e]
theorem valV_neg {p : κ × V} {r:List (κ × V)} {k : κ} (e:¬ p.1 = k):valV (p :: r) k = valV r k:=by simp [valV,List.find?_cons,e]
theorem valV_any (k : κ):∀ kvs:List (κ × V),(kvs.any fun kv=>decide (kv.1 = k)) = (valV kvs k).isSome
  | []=>rfl
  | p :: r=>by
    rw [List.any_cons]
    by_cases e:p.1 = k
    · simp only [valV_pos e,decide_eq_true e,Bool.true_or,Option.isSome_some]
    · rw [valV_neg e,decide_eq_false e,Bool.false_or]; exact valV_any k r
theorem length_putK (kvs:List (κ × V)) (k : κ) (v:V):(putK kvs k v).length <= kvs.length + 1:=by
  unfold putK
  split
  · rw [List.length_map]; omega
  · rw [List.length_append,List.length_cons,List.length_nil]; omega
theorem RelO.isSome_eq {o:Option V} {u:Option Value} (r:RelO o u):o.isSome = u.isSome:=by
  cases o with
  | none=>cases u with
    | none=>rfl
    | some _=>exact (show False from r).elim
  | some _=>cases u with
    | none=>exact (show False from r).elim
    | some _=>rfl
theorem RelO.getD {o:Option V} {u:Option Value} {d:V} {d':Value} (r:RelO o u) (rd:RelV d d'):RelV (o.getD d) (u.getD d'):=by
  cases o with
  | none=>cases u with
    | none=>exact rd
    | some _=>exact (show False from r).elim
  | some _=>cases u with
    | none=>exact (show False from r).elim
    | some _=>exact r

theorem KV.val {kvs:List (κ × V)} {vs:List (κ × Value)} (r:KV kvs vs) (k : κ):RelO (valV kvs k) (valueAt vs k):=by
  unfold KV at r
  induction r with
  | nil=>exact True.intro
  | @cons p q ps qs h t ih =>
    obtain ⟨h1,h2⟩:=h
    by_cases e:p.1 = k
    · have e':q.1 = k:=h1.symm.trans e
      have b:valueAt (q :: qs) k = some q.2:=by simp [valueAt,List.find?_cons,e']
      rw [valV_pos e,b]; exact h2
    · have e':¬ q.1 = k:=fun z=>e (h1.trans z)
      have b:valueAt (q :: qs) k = valueAt qs k:=by simp [valueAt,List.find?_cons,e']
      rw [valV_neg e,b]; exact ih
theorem KV.any {kvs:List (κ × V)} {vs:List (κ × Value)} (r:KV kvs vs) (k : κ):(kvs.any fun kv=>decide (kv.1 = k)) = vs.any fun kv=>decide (kv.1 = k):=by
  unfold KV at r
  induction r with
  | nil=>rfl
  | cons h t ih=>rw [List.any_cons,List.any_cons,ih,h.1]
theorem KV.repl {kvs:List (κ × V)} {vs:List (κ × Value)} (r:KV kvs vs) (k : κ) {y:V} {u:Value} (ry:RelV y u) :
    KV (kvs.map fun kv=>if kv.1 = k then (kv.1,y) else kv) (vs.map fun kv=>if kv.1 = k then (kv.1,u) else kv):=by
  unfold KV at r ⊢
  induction r with
  | nil=>exact .nil
  | @cons p q ps qs h t ih =>
    rw [List.map_cons,List.map_cons]
    refine .cons ?_ ih
    obtain ⟨h1,h2⟩:=h
    by_cases e:p.1 = k
    · rw [if_pos e,if_pos (h1.symm.trans e)]; exact ⟨h1,ry⟩
    · rw [if_neg e,if_neg (fun z=>e (h1.trans z))]; exact ⟨h1,h2⟩
theorem KV.put {kvs:List (κ × V)} {vs:List (κ × Value)} (r:KV kvs vs) (k : κ) {y:V} {u:Value} (ry:RelV y u):KV (putK kvs k y) (stored vs k u):=by
  unfold putK stored
  rw [r.any k]
  by_cases e:(vs.any fun kv=>decide (kv.1 = k)) = true
  · rw [if_pos e,if_pos e]; exact r.repl k ry
  · rw [if_neg e,if_neg e]; exact Paired.snoc r ⟨rfl,ry⟩
theorem KV.drop {kvs:List (κ × V)} {vs:List (κ × Value)} (r:KV kvs vs) (k : κ):KV (dropK kvs k) (without vs k):=by
  unfold KV at r ⊢
  unfold dropK without
  induction r with
  | nil=>exact .nil
  | @cons p q ps qs h t ih =>
    obtain ⟨h1,h2⟩:=h
    rw [List.filter_cons,List.filter_cons]
    by_cases e:p.1 = k
    · have a:¬ decide (p.1 ≠ k) = true:=by simp [e]
      have b:¬ decide (q.1 ≠ k) = true:=by simp [h1.symm.trans e]
      rw [if_neg a,if_neg b]; exact ih
    · have e':¬ q.1 = k:=fun z=>e (h1.trans z)
      have a:decide (p.1 ≠ k) = true:=by simp [e]
      have b:decide (q.1 ≠ k) = true:=by simp [e']
      rw [if_pos a,if_pos b]; exact .cons ⟨h1,h2⟩ ih
theorem KV.keys {kvs:List (κ × V)} {vs:List (κ × Value)} (r:KV kvs vs):kvs.map (·.1) = vs.map (·.1):=by
  unfold KV at r
  induction r with
  | nil=>rfl
  | cons h t ih=>rw [List.map_cons,List.map_cons,ih,h.1]
theorem KV.length {kvs:List (κ × V)} {vs:List (κ × Value)} (r:KV kvs vs):kvs.length = vs.length:=Paired.length r
end

theorem kV_is {P:Program} {w:World} {k:Key} {u:Value} (r:RelV (kV k) u):(mixKind P w).is k u = true:=by
  cases k with
  | inl i=>obtain ⟨t,e⟩:=(show ∃ t,u = Value.int i t from r); subst e; exact mixKind_int P w i t
  | inr x=>obtain ⟨t,e⟩:=(show ∃ t,u = Value.str x t from r); subst e; exact mixKind_str P w x t
theorem items_are {P:Program} {w:World}:∀ {ks:List Key} {us:List Value},Vals (ks.map kV) us -> ItemsAre (mixKind P w) ks us
  | [],_,r=>by rw [List.map_nil] at r; cases r; exact .nil
  | k :: ks,_,r=>by
    rw [List.map_cons] at r
    cases r with
    | cons h t=>exact .cons (kV_is h) (items_are t)

abbrev KT (H:Hp):List (List Key × V) -> List (List Key × Addr × Value) -> Prop:=Paired fun p q=>p.1 = q.1 /\ H q.2.1 = some (.tup (p.1.map kV)) /\ RelV p.2 q.2.2
theorem KT.val {H:Hp} {kvs:List (List Key × V)} {xs:List (List Key × Addr × Value)} (r:KT H kvs xs) (k:List Key):RelO (valV kvs k) ((atKey xs k).map (·.2)):=by
  induction r with
  | nil=>exact True.intro
  | @cons p q ps qs h t ih =>
    obtain ⟨h1,_,h2⟩:=h
    by_cases e:p.1 = k
    · have e':q.1 = k:=h1.symm.trans e
      have b:atKey (q :: qs) k = some q.2:=by simp [atKey,List.find?_cons,e']
      rw [valV_pos e,b]; exact h2
    · have e':¬ q.1 = k:=fun z=>e (h1.trans z)
      have b:atKey (q :: qs) k = atKey qs k:=by simp [atKey,List.find?_cons,e']
      rw [valV_neg e,b]; exact ih
theorem KT.repl {H:Hp} {kvs:List (List Key × V)} {xs:List (List Key × Addr × Value)} (r:KT H kvs xs) (k:List Key) {y:V} {u:Value} (ry:RelV y u) :
    KT H (kvs.map fun kv=>if kv.1 = k then (kv.1,y) else kv) (xs.map (putAt k u)):=by
  induction r with
  | nil=>exact .nil
  | @cons p q ps qs h t ih =>
    rw [List.map_cons,List.map_cons]
    refine .cons ?_ ih
    obtain ⟨h1,h2,h3⟩:=h
    unfold putAt
    by_cases e:p.1 = k
    · rw [if_pos e,if_pos (h1.symm.trans e)]; exact ⟨h1,h2,ry⟩
    · rw [if_neg e,if_neg (fun z=>e (h1.trans z))]; exact ⟨h1,h2,h3⟩
theorem KT.put {H:Hp} {kvs:List (List Key × V)} {xs:List (List Key × Addr × Value)} (r:KT H kvs xs) (k:List Key) {b:Addr} {y:V} {u:Value} (hb:H b = some (.tup (k.map kV))) (ry:RelV y u) :
    KT H (putK kvs k y) (storedH xs k b u):=by
  have e:(kvs.any fun kv=>decide (kv.1 = k)) = (atKey xs k).isSome:=by
    rw [valV_any,(r.val k).isSome_eq,Option.isSome_map]
  unfold putK storedH
  rw [e]
  by_cases q:(atKey xs k).isSome = true
  · rw [if_pos q,if_pos q]; exact r.repl k ry
  · rw [if_neg q,if_neg q]; exact Paired.snoc r ⟨rfl,hb,ry⟩
theorem KT.keeps {H H':Hp} {kvs:List (List Key × V)} {xs:List (List Key × Addr × Value)} (r:KT H kvs xs) (ht:∀ b ys,H b = some (.tup ys) -> H' b = some (.tup ys)):KT H' kvs xs :=
  Paired.mapP r fun _ _ z=>⟨z.1,ht _ _ z.2.1,z.2.2⟩

section
variable {P:Program} {w:World} {H:Hp} {h:Heap} {a:Addr}
theorem rd_of {u:HO} (ok:HOk P w H h) (e:Rd H a u):ObjOk P w H h a u:=e.ok ok
theorem dk_rd {kvs:List (Key × V)} (ok:HOk P w H h) (e:Rd H a (.dK kvs)):kvs.length <= sizeLine /\ (a == sysModules) = false /\ ∃ vs,KV kvs vs /\ h.DictOf (mixKind P w) a vs :=
  show ObjOk P w H h a (.dK kvs) from rd_of ok e
theorem dk_of {kvs:List (Key × V)} (ok:HOk P w H h) (e:H a = some (.dK kvs)):kvs.length <= sizeLine /\ (a == sysModules) = false /\ ∃ vs,KV kvs vs /\ h.DictOf (mixKind P w) a vs:=dk_rd ok (.inl e)
theorem key_of {ks:List Key} (ok:HOk P w H h) (e:H a = some (.tup (ks.map kV))):(tupleKind (mixKind P w)).is h ks a:=by
  obtain ⟨_,its,r,o,h1,h2,⟨n,h3⟩,_⟩:=(show ObjOk P w H h a (.tup (ks.map kV)) from ok a _ e)
  exact ⟨o,its.toArray,n,h1,h2,h3,by simpa using items_are r⟩
theorem dt_rd {kvs:List (List Key × V)} (ok:HOk P w H h) (e:Rd H a (.dT kvs)):kvs.length <= sizeLine /\ (a == sysModules) = false /\
    ∃ xs,KT H kvs xs /\ h.DictOfH (tupleKind (mixKind P w)) a xs:=by
  obtain ⟨z,y,xs,r,o,es,ep,h1,h2,h3,h4,h5⟩:=(show ObjOk P w H h a (.dT kvs) from rd_of ok e)
  refine ⟨z,y,xs,r,o,es,ep,h1,h2,h3,h4,fun x hx=>?_,h5⟩
  have all:∀ {l:List (List Key × V)} {m:List (List Key × Addr × Value)},KT H l m -> ∀ x ∈ m,(tupleKind (mixKind P w)).is h x.1 x.2.1:=by
    intro l m q
    induction q with
    | nil=>intro x hx; exact nomatch hx
    | @cons p q ps qs hq t ih =>
      intro x hx
      rcases List.mem_cons.mp hx with e | hx
      · subst e
        exact key_of ok (by rw [<- hq.1]; exact hq.2.1)
      · exact ih x hx
  exact all r x hx
theorem dt_of {kvs:List (List Key × V)} (ok:HOk P w H h) (e:H a = some (.dT kvs)):kvs.length <= sizeLine /\ (a == sysModules) = false /\
    ∃ xs,KT H kvs xs /\ h.DictOfH (tupleKind (mixKind P w)) a xs:=dt_rd ok (.inl e)
end

def DGet (H:Hp) (a:Addr) (y:V) (r:Option V):Prop :=
  (∃ kvs k,Rd H a (.dK kvs) /\ y = kV k /\ r = valV kvs k) \/ ∃ kvs k b,Rd H a (.dT kvs) /\ y = .ref b /\ H b = some (.tup (k.map kV)) /\ r = valV kvs k
def DPut (H:Hp) (a:Addr) (y v:V) (H':Hp):Prop :=
  (∃ kvs k,H a = some (.dK kvs) /\ y = kV k /\ kvs.length < sizeLine /\ H' = upd H a (.dK (putK kvs k v))) \/
  ∃ kvs k b,H a = some (.dT kvs) /\ y = .ref b /\ H b = some (.tup (k.map kV)) /\ kvs.length < sizeLine /\ H' = upd H a (.dT (putK kvs k v))
theorem DGet.k {H:Hp} {a:Addr} {kvs:List (Key × V)} {k:Key} (e:H a = some (.dK kvs)):DGet H a (kV k) (valV kvs k):=.inl ⟨kvs,k,.inl e,rfl,rfl⟩
theorem DGet.t {H:Hp} {a b:Addr} {kvs:List (List Key × V)} {k:List Key} (e:H a = some (.dT kvs)) (eb:H b = some (.tup (k.map kV))):DGet H a (.ref b) (valV kvs k):=.inr ⟨kvs,k,b,.inl e,rfl,eb,rfl⟩
theorem DPut.k {H:Hp} {a:Addr} {kvs:List (Key × V)} {k:Key} {v:V} (e:H a = some (.dK kvs)) (hl:kvs.length < sizeLine):DPut H a (kV k) v (upd H a (.dK (putK kvs k v))):=.inl ⟨kvs,k,e,rfl,hl,rfl⟩
theorem DPut.t {H:Hp} {a b:Addr} {kvs:List (List Key × V)} {k:List Key} {v:V} (e:H a = some (.dT kvs)) (eb:H b = some (.tup (k.map kV))) (hl:kvs.length < sizeLine) :
    DPut H a (.ref b) v (upd H a (.dT (putK kvs k v))):=.inr ⟨kvs,k,b,e,rfl,eb,hl,rfl⟩

section
variable {X:Cx} {pins:List (Addr × Obj)} {σ:St} {H:Hp} {s:Shared} {a:Addr} {y v:V} {u r:Value} {o:Option V} {A:Around} {E:Value -> Shared -> Prop}

theorem Inv.big (I:Inv X pins σ H s):sysModules < s.heap.objs.size:=by
  have h:mainGlobals < s.heap.objs.size:=(I.mod.glob.keeps I.bk).lt
  exact Nat.lt_trans (by decide) h

theorem d_getItem {Q:Value -> Shared -> Prop} (hu:A.units + 1 < cLine) (I:Inv X pins σ H s) (g:DGet H a y (some v)) (ry:RelV y u) (h:∀ w' s',Inv X pins σ H s' -> RelV v w' -> Q w' s') :
    wpAny (model X.prog X.w) A (getItem (.ref a) u) Q E s:=by
  rcases g with ⟨kvs,k,e,ey,l⟩ | ⟨kvs,k,b,e,ey,eb,l⟩
  · subst ey
    obtain ⟨z,hd,vs,rel,dd⟩:=dk_rd I.hok e
    obtain ⟨w',hw,rw'⟩:=RelO.some_of (v:=v) (o:=valueAt vs k) (by rw [l]; exact rel.val k)
    exact wpAny_getItem_of (kV_is ry) dd.mapOf hw (h w' _ (I.tok _) rw')
  · subst ey
    cases (show u = Value.ref b from ry)
    obtain ⟨z,hd,xs,rel,dd⟩:=dt_rd I.hok e
    obtain ⟨w',hw,rw'⟩:=RelO.some_of (v:=v) (o:=(atKey xs k).map (·.2)) (by rw [l]; exact rel.val k)
    obtain ⟨p,hp,hp2⟩:=Option.map_eq_some_iff.mp hw
    refine wpAny_getItem_heap (tupleKind_room_in1 hu) (key_of I.hok eb) dd hp ?_
    rw [hp2]
    exact h w' _ (I.tok _) rw'
theorem d_write {h':Heap} {t':Nat} {ob:HO} (I:Inv X pins σ H s) (mu:Mut (H a)) (hs:Heap.SameBut a s.heap h') (he:∃ q,h'.get? a = some q) (new:ObjOk X.prog X.w (upd H a ob) h' a ob) :
    Inv X pins σ (upd H a ob) { s with heap:=h',toks:=t' } :=
  I.write (x:=a) (e:=a) mu (.inl rfl) (fun b q hb z=>(hs.2 b hb).trans z) he new
theorem dk_new {P:Program} {w:World} {H':Hp} {h':Heap} {kvs:List (Key × V)} {vs:List (Key × Value)} (z:kvs.length <= sizeLine) (hd:(a == sysModules) = false) (rel:KV kvs vs) (dd:h'.DictOf (mixKind P w) a vs) :
    ObjOk P w H' h' a (.dK kvs):=⟨z,hd,vs,rel,dd⟩
theorem d_setItem {H':Hp} {Q:Unit -> Shared -> Prop} (hu:A.units + 1 < cLine) (I:Inv X pins σ H s) (g:DPut H a y v H') (ry:RelV y u) (rv:RelV v r) (h:∀ s',Inv X pins σ H' s' -> Q () s') :
    wpAny (model X.prog X.w) A (setItem (.ref a) u r) Q E s:=by
  rcases g with ⟨kvs,k,e,ey,l,eH⟩ | ⟨kvs,k,b,e,ey,eb,l,eH⟩
  · subst ey eH
    obtain ⟨z,hd,vs,rel,dd⟩:=dk_of I.hok e
    have hz:vs.length <= sizeLine:=by rw [<- rel.length]; exact z
    have hl:(putK kvs k v).length <= sizeLine:=by have:=length_putK kvs k v; omega
    refine wpAny_setItem_pairs (hsz:=hz) (kV_is ry) dd fun h' dd' hs=>h _ ?_
    have he:∃ q,h'.get? a = some q:=let ⟨q,_,_,hq,_⟩:=dd'; ⟨q,hq⟩
    exact d_write I (by rw [e]; exact True.intro) hs he (dk_new hl hd (rel.put k rv) dd')
  · subst ey eH
    cases (show u = Value.ref b from ry)
    obtain ⟨z,hd,xs,rel,dd⟩:=dt_of I.hok e
    have hz:xs.length <= sizeLine:=by rw [<- Paired.length rel]; exact z
    have hl:(putK kvs k v).length <= sizeLine:=by have:=length_putK kvs k v; omega
    refine wpAny_setItem_heap (hsz:=hz) (tupleKind_room_in1 hu) (key_of I.hok eb) dd fun h' dd' hs=>h _ ?_
    obtain ⟨q,es,ep,hq,h2,h3,h4,_,h5⟩:=dd'
    refine d_write I (by rw [e]; exact True.intro) hs ⟨q,hq⟩ ⟨hl,hd,_,(rel.put k eb rv).keeps fun c ys ec=>?_,q,es,ep,hq,h2,h3,h4,h5⟩
    rw [upd_ne (ne_of ec e (fun z=>nomatch z))]
    exact ec
end

section
variable {X:Cx} {pins:List (Addr × Obj)} {σ:St} {H:Hp} {s:Shared} {a:Addr} {kvs:List (Key × V)} {k:Key} {u:Value} {A:Around} {E:Value -> Shared -> Prop}
end

def NoSl (i:Expr):Prop:=∀ ov iv,subscripted i false ov iv = operate [ov,iv] (getItem ov iv)
theorem subD_of {prog:Program} {w:World} {A:Around} {E:Value -> Shared -> Prop} {s:Shared} {env:Env} {value slice:Expr} {pos:Pos} {T id:String} {Q:Value -> Shared -> Prop}
    (hl:typeLookup (.type T) "__getitem__" = pure (some (.builtin id))) (hs:NoSl slice)
    (h:wpAny (model prog w) A (eval value env) (fun o s₁=>wpAny (model prog w) A (eval slice env) (fun i s₂=>s₂.TypeIs o T /\ wpAny (model prog w) A (getItem o i) Q E s₂) E s₁) E s) :
    wpAny (model prog w) A (eval (.Subscript value slice pos) env) Q E s:=by
  refine Subscript_ (wpAny_mono h (fun o s₁ h₁=>wpAny_mono h₁ (fun i s₂ h₂=>?_) fun _ _ x=>x) fun _ _ x=>x)
  obtain ⟨hT,h₂⟩:=h₂
  unfold subscriptTail
  refine wpAny_bind ?_
  rw [getitemInPython_of_ne hT.not_modules]
  refine wpAny_bind (wpAny_specialOf hT hl ?_)
  have fin:wpAny (model prog w) A (subscripted slice false o i) (fun r s₃=>wpAny (model prog w) A (letTemporaryGo value o r >>= fun _=>pure r) Q E s₃) E s₂:=by
    rw [hs o i]
    exact wpAny_operating (wpAny_mono h₂ (fun r s₃ h₃=>wpAny_bind (wpAny_letTemporaryGo (wpAny_pure h₃))) fun _ _ x=>x)
  first
    | exact wpAny_pure (wpAny_bind fin)
    | exact wpAny_bind (wpAny_pure (wpAny_bind fin))
    | exact wpAny_bind fin

theorem dict_typeIs {X:Cx} {pins:List (Addr × Obj)} {σ:St} {H:Hp} {s:Shared} {a:Addr} {y:V} {o:Option V} (I:Inv X pins σ H s) (g:DGet H a y o):s.TypeIs (.ref a) "dict" := by
  rcases g with ⟨kvs,k,e,_,_⟩ | ⟨kvs,k,b,e,_,_,_⟩
  · obtain ⟨_,_,vs,_,dd⟩:=dk_rd I.hok e
    exact dd.typeIs
  · obtain ⟨_,_,xs,_,dd⟩:=dt_rd I.hok e
    exact dd.typeIs
def tDGet (td ty:TE):TE:=fun σ H Q=>td σ H fun x H1=>ty σ H1 fun y H2=>∃ a v,x = .ref a /\ DGet H2 a y (some v) /\ Q v H2
def sDPut (td ty tv:TE):TS:=fun D σ H=>tv σ H fun v H1=>td σ H1 fun x H2=>ty σ H2 fun y H3=>∃ a H4,x = .ref a /\ DPut H3 a y v H4 /\ D.nx σ H4
section
variable {X:Cx} {o i e value:Expr} {pos pos' tpos:Pos} {td ty tv:TE}
theorem pe_dget (hu:X.A.units + 1 < cLine) (ho:PE X o td) (hi:PE X i ty) (hs:NoSl i):PE X (.Subscript o i pos) (tDGet td ty):=by
  intro pins s σ H Q I h
  refine subD_of PySem.F.slot_dict_getitem.lookup hs (thn (ho pins s σ H _ I h) fun u s1 ⟨x,H1,I1,rx,q1⟩=>thn (hi pins s1 σ H1 _ I1 q1) fun iv s2 ⟨y,H2,I2,ry,a,v,ex,g,q2⟩=>?_)
  subst ex
  obtain rfl:u = Value.ref a:=rx
  exact ⟨dict_typeIs I2 g,d_getItem hu I2 g ry fun w' s3 I3 rw'=>⟨v,H2,I3,rw',q2⟩⟩
theorem ps_dput (hu:X.A.units + 1 < cLine) (ho:PE X o td) (hi:PE X i ty) (hv:PE X value tv) (hs:swapsWith value (some (.Subscript o i pos')) pos.line X.env = pure false) :
    PS X (.Assign [.Subscript o i pos'] value pos) (sDPut td ty tv):=by
  intro pins s σ H D I h
  refine wpAny_Assign_Subscript (thn (hv pins s σ H _ I h) fun r s1 ⟨v,H1,I1,rv,q1⟩=>thn (ho pins s1 σ H1 _ I1 q1) fun u s2 ⟨x,H2,I2,rx,q2⟩=>thn (hi pins s2 σ H2 _ I2 q2) fun iv s3 ⟨y,H3,I3,ry,a,H4,ex,g,q3⟩=>?_) hs
  subst ex
  obtain rfl:u = Value.ref a:=rx
  exact d_setItem hu I3 g ry rv fun s4 I4=>⟨σ,H4,I4,q3⟩
end

theorem dk_empty {P:Program} {w:World} {H:Hp} (h:Heap) (hb:sysModules < h.objs.size):ObjOk P w H (h.push { cls:=.type "dict", data:=.dict #[] }) h.objs.size (.dK []) :=
  ⟨Nat.zero_le _,beq_eq_false_iff_ne.mpr (Ne.symm (Nat.ne_of_lt hb)),[],.nil,Heap.DictOf.new h⟩
section
variable {X:Cx} {pos:Pos}
end

def tPairs:List (TE × TE) -> St -> Hp -> (List (V × V) -> Hp -> Prop) -> Prop
  | [],_,H,Q=>Q [] H
  | (tk,tv) :: r,σ,H,Q=>tk σ H fun x H1=>tv σ H1 fun y H2=>tPairs r σ H2 fun ps H3=>Q ((x,y) :: ps) H3
abbrev VV:List (V × V) -> List (Value × Value) -> Prop:=Paired fun p q=>RelV p.1 q.1 /\ RelV p.2 q.2
def PPs (X:Cx) (pos:Pos) (keys:List (Option Expr)) (values:List Expr) (trs:List (TE × TE)):Prop :=
  ∀ (pins:List (Addr × Obj)) (s:Shared) (σ:St) (H:Hp) (Q:List (V × V) -> Hp -> Prop),Inv X pins σ H s -> tPairs trs σ H Q ->
    wpAny (model X.prog X.w) X.A (evalPairs (pairTrees keys values X.env pos)) (fun vs s'=>∃ ps H',Inv X pins σ H' s' /\ VV ps vs /\ Q ps H') X.xe s
theorem pps_nil {X:Cx} {pos:Pos}:PPs X pos [] [] []:=fun pins s σ H Q I h=>pairTrees_nil_walk ⟨[],H,I,.nil,h⟩
theorem pps_cons {X:Cx} {pos:Pos} {k v:Expr} {ks:List (Option Expr)} {vs:List Expr} {tk tv:TE} {trs:List (TE × TE)} (hk:PE X k tk) (hv:PE X v tv) (hr:PPs X pos ks vs trs) :
    PPs X pos (some k :: ks) (v :: vs) ((tk,tv) :: trs):=fun pins s σ H Q I h =>
  pairTrees_cons_walk (thn (hk pins s σ H _ I h) fun u s1 ⟨x,H1,I1,rx,q1⟩=>thn (hv pins s1 σ H1 _ I1 q1) fun w2 s2 ⟨y,H2,I2,ry,q2⟩ =>
    thn (hr pins s2 σ H2 _ I2 q2) fun ws s3 ⟨ps,H3,I3,rel,q3⟩=>⟨(x,y) :: ps,H3,I3,.cons ⟨rx,ry⟩ rel,q3⟩)

def mergeK (kvs more:List (Key × V)):List (Key × V):=more.foldl (fun acc kv=>putK acc kv.1 kv.2) kvs
theorem KV.merge:∀ {more:List (Key × V)} {rs:List (Key × Value)} {kvs:List (Key × V)} {vs:List (Key × Value)},KV more rs -> KV kvs vs -> KV (mergeK kvs more) (merged vs rs):=by
  intro more rs kvs vs r
  unfold KV at r
  induction r generalizing kvs vs with
  | nil=>intro q; exact q
  | @cons p q ps qs h t ih =>
    intro r0
    have e:KV (putK kvs p.1 p.2) (stored vs q.1 q.2):=by
      have:=r0.put p.1 h.2
      rw [<- h.1]; exact this
    exact ih e
theorem length_mergeK:∀ (more kvs:List (Key × V)),(mergeK kvs more).length <= kvs.length + more.length
  | [],kvs=>by show kvs.length <= kvs.length + 0; omega
  | p :: r,kvs=>by
    have h1:=length_mergeK r (putK kvs p.1 p.2)
    have h2:=length_putK kvs p.1 p.2
    show (mergeK (putK kvs p.1 p.2) r).length <= _
    rw [List.length_cons]; omega
theorem carries_of {P:Program} {w:World}:∀ {kvs:List (Key × V)} {ws:List (Value × Value)},VV (kvs.map fun kv=>(kV kv.1,kv.2)) ws -> ∃ rs,Carries (mixKind P w) ws rs /\ KV kvs rs
  | [],_,r=>by rw [List.map_nil] at r; cases r; exact ⟨[],True.intro,.nil⟩
  | p :: kvs,_,r=>by
    rw [List.map_cons] at r
    cases r with
    | @cons a b as bs h t =>
      obtain ⟨rs,c,q⟩:=carries_of (P:=P) (w:=w) t
      obtain ⟨b1,b2⟩:=b
      exact ⟨(p.1,b2) :: rs,⟨kV_is h.1,rfl,c⟩,.cons ⟨rfl,h.2⟩ q⟩
def tDisp (trs:List (TE × TE)):TE:=fun σ H Q=>∀ p,H p = none -> tPairs trs σ (upd H p (.dK [])) fun ps H2=>H2 p = some (.dK []) /\ ∃ kvs:List (Key × V),ps = kvs.map (fun kv=>(kV kv.1,kv.2)) /\ kvs.length <= 15 /\ Q (.ref p) (upd H2 p (.dK (mergeK [] kvs)))
theorem pe_disp {X:Cx} {pos:Pos} {keys:List (Option Expr)} {values:List Expr} {trs:List (TE × TE)} (h:PPs X pos keys values trs) (hall:keys.all (·.isSome) = true) (hl:keys.length = values.length) (h0:keys ≠ [])
    (h15:keys.length <= 15):PE X (.Dict keys values pos) (tDisp trs):=by
  intro pins s σ H Q I q
  have hn:=I.hok.fresh (Nat.le_refl s.heap.objs.size)
  have I1:=I.laid (a:=s.heap.objs.size) (o:=.dK []) (h':=s.heap.push { cls:=.type "dict", data:=.dict #[] }) (t':=s.toks) (fun _ _ q=>Heap.get?_push_of_some _ q) (Nat.le_refl _) (dk_empty s.heap I.big)
  refine wpAny_Dict_walk (knd:=mixKind X.prog X.w) hall hl h0 h15 (thn (h pins _ σ _ _ I1 (q _ hn)) fun ws s2 ⟨ps,H2,I2,rel,e,kvs,ep,lk,q2⟩=>?_)
  subst ep
  obtain ⟨rs,c,rk⟩:=carries_of (P:=X.prog) (w:=X.w) rel
  obtain ⟨z,hd,vs0,r0,dd⟩:=dk_of I2.hok e
  cases r0
  refine ⟨rs,c,dd,fun h' dd' hs=>⟨.ref s.heap.objs.size,_,?_,rfl,q2⟩⟩
  have hz:(mergeK [] kvs).length <= sizeLine:=by
    have h1:=length_mergeK kvs []
    rw [List.length_nil] at h1
    rw [sizeLine_eq]; omega
  have he:∃ q,h'.get? s.heap.objs.size = some q:=let ⟨q,_,_,hq,_⟩:=dd'; ⟨q,hq⟩
  exact d_write I2 (by rw [e]; exact True.intro) hs he (dk_new hz hd (rk.merge .nil) dd')

structure M1 (X:Cx) (o:Expr) (m:Str) (apos:Pos) (e:Expr) (cpos:Pos):Prop where
  base:attributeBase o m X.env (eval o X.env) = eval o X.env
  few:((backTo cpos (starEach [e] X.env)).all (fun x=>!x.1) && (backToKw cpos (keywordEach [] X.env)).all (fun x=>x.1.isSome)
    && decide (([e]:List Expr).length + ([]:List Keyword).length + (if ([]:List Keyword).isEmpty then 0 else 1) < 30)) = true
  line:(apos.endLine == cpos.line) = true
  trees:backTo cpos (starEach [e] X.env) = [(false,eval e X.env)]
section
variable {X:Cx} {pins:List (Addr × Obj)} {σ:St} {H:Hp} {s:Shared} {a:Addr} {y d:V} {u r:Value} {o:Option V} {A:Around} {E:Value -> Shared -> Prop}
end

section
variable {X:Cx} {o e f:Expr} {apos cpos:Pos} {td ty tx:TE}
end

section
variable {X:Cx} {pins:List (Addr × Obj)} {σ:St} {H:Hp} {s:Shared} {a:Addr} {kvs:List (Key × V)} {A:Around} {E:Value -> Shared -> Prop}
end

section
variable {X:Cx} {pins:List (Addr × Obj)} {σ:St} {H:Hp} {s:Shared} {a:Addr} {y:V} {u:Value} {A:Around} {E:Value -> Shared -> Prop}
end
end L2

namespace Att
open PySem PySem.W PySem.Calls PyProof.Rows

theorem ints_of_wellAll {P:Params} {h:Heap}:∀ (ns:List Int) (vs:List Value),WellAll P h vs (ns.map WData.int) -> IntsAre vs ns:=by
  intro ns
  induction ns with
  | nil =>
    intro vs w
    rw [List.map_nil] at w
    cases w
    exact .nil
  | cons n ns ih =>
    intro vs w
    rw [List.map_cons] at w
    cases w with
    | cons a b =>
      cases a
      exact .cons _ _ (ih _ b)

theorem script_of {l:OpenLaw} {n:Nat} (hn:l.most = some n) {P:Params} {h:Heap} {args:List WData} {vals:List Value}
    (hpre:l.row.toRowW.claim.pre args = true) (hwl:WellAll P h vals args) :
    ∃ a vs ns,vals = [Value.ref a] /\ args = [WData.list (ns.map WData.int)] /\ h.get? a = some { cls:=.type "list", data:=.seq vs.toArray } /\ IntsAre vs ns /\ ns.length <= n:=by
  have hsh:WShape.hasAll [] args [.list .int] = true:=(pre_splitW hpre).1
  have hc:l.pre.holds [] { args:=args } = true:=(pre_splitW hpre).2
  obtain ⟨d,r,rfl,h1,h2⟩:=hasAllW_cons hsh
  obtain rfl:=hasAllW_nil h2
  obtain ⟨xs,rfl,h3⟩:=hasW_list h1
  obtain ⟨ns,rfl⟩:=items_int h3
  have hlen:ns.length <= n:=by
    unfold OpenLaw.pre at hc
    have h4:(WTm.not (.lt (.lit (.int (n:Int))) (.len (.arg 0)))).holds [] { args:=[.list (ns.map .int)] } = true:=by
      have h4:=(holds_andW hc).1
      rw [hn] at h4
      exact h4
    have h5:=condW_of h4 (w_not (w_lt w_lit (w_len_list (w_arg rfl))))
    rw [List.length_map] at h5
    refine Nat.le_of_not_lt fun q=>?_
    have q':(n:Int) < ((ns.length:Nat):Int):=by omega
    first
      | (rw [decide_eq_true q'] at h5; exact absurd h5 (by decide))
      | (simp at h5; omega)
  cases hwl with
  | cons w1 w2 =>
    cases w2
    cases w1 with
    | list ho hall=>exact ⟨_,_,ns,rfl,rfl,ho,ints_of_wellAll ns _ hall,hlen⟩

theorem post_true (l:OpenLaw) (args:List WData):l.row.toRowW.claim.post args (.bool true) args = true :=
  postW_of (r:=l.row.toRowW) (X:=(true == true))
    (show WShape.has [] (.bool true) .bool = true by first | rfl | decide | simp [WShape.has,WShape.arms,WShape.armsAll])
    (show (WTm.eq .res (.lit (.bool true))).value [] { args:=args,res:=some (.bool true),after:=args } = some (.bool (true == true)) from w_eq_bool (w_res rfl) w_lit) rfl

theorem attach_call {l:OpenLaw} {n:Nat} {q:Program} {loose:List Str} {XP:(Str -> Option Value) -> Heap -> Prop} {YP:World -> Heap -> Prop} {d:DefRec}
    (hn:l.most = some n) (hdf:d.params.defaults = [])
    (call:∀ (w:World) (s₀ s₁:Shared) (mg mb:Str -> Option Value) (fa:Addr) (o:Obj) (pm cd doc:Value) (a:Addr) (vs:List Value) (ns:List Int),
      Ground q loose [] XP w s₀ mg mb s₁.heap -> YP w s₁.heap ->
      s₁.heap.get? fa = some o -> o.data = .func (docDef d.name d.params d.body d.scope pm cd doc) -> s₁.heap.CodeRec cd d.name -> mg d.name = some (.ref fa) ->
      s₁.heap.get? a = some { cls:=.type "list", data:=.seq vs.toArray } -> IntsAre vs ns -> ns.length <= n -> s₁.gens = #[] ->
      codeAny (model l.prog w) callerA (.call (.ref fa) ⟨[.ref a],[]⟩) (fun r s'=>r = .ok (.ret (.bool true)) /\ OldK s₁.heap s'.heap /\ s'.os = s₁.os /\ AllBare s'.gens) s₁) :
    WalkO q loose XP YP l.row.toRowW d [] (fun f vs=>PySem.call f vs):=by
  intro w s₀ s₁ mg mb G Y fa o pm cd doc dV kV ho hd hcd hD hmg hg args vals as hpre hlay hrd hwl hlo
  obtain rfl:dV = .none:=Dflts.none hD hdf
  obtain rfl:kV = .none:=Dflts.noKw hD
  obtain ⟨a,vs,ns,rfl,rfl,hobj,hints,hlen⟩:=script_of hn hpre hwl
  refine enter_call (codeAny_mono (call w s₀ s₁ mg mb fa o pm cd doc a vs ns G Y ho (fd_plain hd) hcd hmg hobj hints hlen hg) fun r s' hq=>?_)
  obtain ⟨rfl,h2,h3,h4⟩:=hq
  exact ⟨.inl ⟨.bool true,.bool true,[],rfl,fun _=>rfl,.bool true,post_true l _,fun _=>⟨List.Pairwise.nil,fun _ hm=>(nomatch hm)⟩⟩,h2,h3,h4⟩

section
variable {prog:Program} {w:World} {A:Around} {E:Value -> Shared -> Prop} {s:Shared} {K:Frag}

end
end Att

namespace L2
open PySem PySem.Spec PyProof.Rows

theorem vals_ints:∀ {vs:List Value} {ns:List Int},IntsAre vs ns -> Vals (ns.map V.int) vs
  | _,_,.nil=>.nil
  | _,_,.cons n t h=>.cons ⟨t,rfl⟩ (vals_ints h)

def Only (H:Hp):Prop:=∀ b,H b = none \/ ∃ o xs,H b = some (.frz o (.lst xs))

theorem law_call {P:Program} {w:World} {K:W.Frag} {mg mb:Str -> Option Value} {CX:CXT} {k:Nat} {fa a:Addr} {fd:FuncData} {x:Str} {sp:Sp} {s₁:Shared} {vs:List Value} {ns:List Int}
    (KX:K.In s₁.heap) (hns:s₁.heap.Ns mainGlobals mg) (hb:s₁.heap.Ns builtinsNs mb) (hbb:∀ x:Str,x ≠ "__name__" -> mb x = bootBuiltins x) (hlim:s₁.heap.NoLimit) (hg:s₁.gens = #[])
    (ha:s₁.heap.get? a = some { cls:=.type "list", data:=.seq vs.toArray }) (hi:IntsAre vs ns) (hl:ns.length <= sizeLine) (hr:Room k callerA)
    (F:∀ base:Heap,K.In base -> base.Ns mainGlobals mg -> FnOk P w K mg base CX k fa fd [x] sp) (hbind:∀ (s:Shared) (u:Value),BindsTo s fd ⟨[u],[]⟩ [(x,u)])
    (hsp:∀ H:Hp,Only H -> SqL K H a (ns.map V.int) -> sp [.ref a] H (fun v _=>v = .bl true) fun _ _ _=>False)
    (hCX:∀ H e s',CX [] H s₁ (fun _ _ _=>False) e s' -> False) :
    codeAny (model P w) callerA (.call (.ref fa) ⟨[.ref a],[]⟩) (fun r s'=>r = .ok (.ret (.bool true)) /\ OldK s₁.heap s'.heap /\ s'.os = s₁.os /\ AllBare s'.gens) s₁:=by
  have rv:=vals_ints hi
  have lenV:=hi.length
  have core:∀ H:Hp,Only H -> SqL K H a (ns.map V.int) -> HOk P w H s₁.heap -> (∀ b,H b ≠ none -> b = a) -> (H a ≠ none -> K.lookup a = none) ->
      codeAny (model P w) callerA (.call (.ref fa) ⟨[.ref a],[]⟩) (fun r s'=>r = .ok (.ret (.bool true)) /\ OldK s₁.heap s'.heap /\ s'.os = s₁.os /\ AllBare s'.gens) s₁:=by
    intro H hO hS hok hA hK
    have base_of:∀ {b:Addr} {o:Obj},s₁.heap.get? b = some o -> H b = none -> (hidT s₁.heap H).get? b = some o:=fun e n=>hidT_get e n
    have noA:∀ {b:Addr} {o:Obj} {es:Array DictEntry} {ep:Nat},s₁.heap.get? b = some o -> o.data = .dict es ep -> H b = none:=fun {b o es ep} e d=>by
      cases q:H b with
      | none=>rfl
      | some u =>
        have e':b = a:=hA b (by rw [q]; simp)
        subst e'
        rw [ha] at e; cases e
        have d':Data.seq vs.toArray _ = Data.dict es ep:=d
        cases d'
    have nsK:∀ {b:Addr} {m:Str -> Option Value},s₁.heap.Ns b m -> (hidT s₁.heap H).Ns b m:=fun {b m} ⟨o,es,ep,e,d,r⟩=>⟨o,es,ep,base_of e (noA e d),d,r⟩
    have hKb:K.In (hidT s₁.heap H):=fun b o e=>base_of (KX b o e) (by
      cases q:H b with
      | none=>rfl
      | some u =>
        have e':b = a:=hA b (by rw [q]; simp)
        subst e'
        rw [hK (by rw [q]; simp)] at e; cases e)
    have hM:Mod K mg (hidT s₁.heap H):=⟨hKb,nsK hns,⟨mb,nsK hb,hbb⟩,let ⟨mc,h1,h2⟩:=hlim; ⟨mc,nsK h1,h2⟩⟩
    have e0:Env0 P w K mg (hidT s₁.heap H) callerA [] s₁ H:=⟨rfl,hM,fun b o e=>of_hidT e,Nat.le_of_eq (hidT_size _ _),trivial,fun b hb=>absurd (show b ∈ ([]:List Addr) from hb) (by simp),hok,.of_eq hg⟩
    refine codeAny_mono ((F _ hKb (nsK hns)).run callerA [] s₁ H ⟨[.ref a],[]⟩ [.ref a] [.ref a] _ _ hr e0 (hbind s₁ (.ref a)) (.cons rfl .nil) (hsp H hO hS)) fun r s' h=>?_
    cases r with
    | error e=>exact (hCX H e s' h).elim
    | ok fl =>
      cases fl with
      | next=>exact False.elim h
      | brk=>exact False.elim h
      | cont=>exact False.elim h
      | ret u =>
        obtain ⟨v,H',os,bare,un,hok',r',q⟩:=h
        have q':v = .bl true:=q
        subst q'
        obtain rfl:u = Value.bool true:=r'
        refine ⟨rfl,OldK.of_keep fun b o e=>?_,os,bare⟩
        cases q:H b with
        | none=>exact un.keep b o e q (by intro z; exact absurd (show b ∈ ([]:List Addr) from z) (by simp)) (by simp)
        | some u =>
          rcases hO b with z | ⟨ob,xs,z⟩
          · rw [q] at z; cases z
          · have z2:=un.frzs b ob _ z
            obtain ⟨e1,_⟩:=hok b _ z
            obtain ⟨e2,_⟩:=hok' b _ z2
            rw [e] at e1; cases e1
            exact e2
  cases hk:K.lookup a with
  | some o =>
    have e:=KX a o hk
    rw [ha] at e
    cases e
    refine core (fun _=>none) (fun _=>.inl rfl) (.inr ⟨_,vs.toArray,_,hk,rfl,rfl,rfl,by rw [List.size_toArray,lenV]; exact hl,by simpa using rv⟩) (fun b u z=>by have z':(none:Option HO) = some u:=z; cases z') (fun b z=>absurd rfl z) fun z=>absurd rfl z
  | none =>
    refine core (fun b=>if b = a then some (.frz { cls:=.type "list", data:=.seq vs.toArray } (.lst (ns.map V.int))) else none) (fun b=>?_) (.inl (.inr ⟨{ cls:=.type "list", data:=.seq vs.toArray },if_pos rfl⟩)) (fun b u z=>?_) (fun b z=>?_) fun _=>hk
    · by_cases hb:b = a
      · exact .inr ⟨_,_,if_pos hb⟩
      · exact .inl (if_neg hb)
    · by_cases hb:b = a
      · have z':=(if_pos hb).symm.trans z
        cases z'
        subst hb
        exact ⟨ha,by rw [List.length_map]; exact hl,vs,_,rv,ha⟩
      · have z':=(if_neg hb).symm.trans z
        cases z'
    · by_cases hb:b = a
      · exact hb
      · exact absurd (if_neg hb) z
end L2

namespace L2
open PySem PySem.Spec PyProof.Rows

theorem walk_of {l:W.OpenLaw} {n k:Nat} {q:Program} {loose:List Str} {XP:(Str -> Option Value) -> Heap -> Prop} {YP:World -> Heap -> Prop} {d:DefRec} {K:Params -> W.Frag} {CX:World -> CXT} {sp:World -> Sp} {x:Str}
    (hn:l.most = some n) (hn2:n <= sizeLine) (hdf:d.params.defaults = []) (hr:Room k callerA)
    (hY:∀ (w:World) (h:Heap),YP w h -> (K w.params).In h)
    (F:∀ (w:World) (mg:Str -> Option Value) (fa:Addr) (h:Heap),(K w.params).In h -> h.Ns mainGlobals mg -> mg d.name = some (.ref fa) ->
      ∃ fd:FuncData,(∀ (s:Shared) (u:Value),BindsTo s fd ⟨[u],[]⟩ [(x,u)]) /\
        ∀ base:Heap,(K w.params).In base -> base.Ns mainGlobals mg -> FnOk l.prog w (K w.params) mg base (CX w) k fa fd [x] (sp w))
    (hsp:∀ (w:World) (H:Hp) (a:Addr) (ns:List Int),ns.length <= n -> Only H -> SqL (K w.params) H a (ns.map V.int) -> sp w [.ref a] H (fun v _=>v = .bl true) fun _ _ _=>False)
    (hCX:∀ (w:World) (H:Hp) (s:Shared) (e:Value) (s':Shared),CX w [] H s (fun _ _ _=>False) e s' -> False) :
    W.WalkO q loose XP YP l.row.toRowW d [] (fun f vs=>PySem.call f vs):=by
  refine Att.attach_call hn hdf fun w s₀ s₁ mg mb fa o pm cd doc a vs ns G Y ho hd hcd hmg hobj hints hlen hg=>?_
  have KX:=hY w _ Y
  obtain ⟨fd,hb,hF⟩:=F w mg fa _ KX G.T.g hmg
  exact law_call KX G.T.g G.T.b G.T.builtins G.T.nolimit hg hobj hints (Nat.le_trans hlen hn2) hr hF hb (fun H hO hS=>hsp w H a ns hlen hO hS) fun H e s'=>hCX w H s₁ e s'
end L2

namespace L2
open PySem PySem.Spec PyProof.Rows


abbrev CX0:CXT:=fun _ _ _ _ _ _=>False
abbrev E0:XK:=fun _ _ _=>False
theorem pass0 {X:Cx}:Passes CX0 X E0:=fun _ _ _ _ _ _ _ h=>h.elim

structure Fun (K:W.Frag) (x qual:Str) (st:Stmt) (f:Addr) (fd:FuncData):Prop where
  ex:∃ (oc:Value) (od:Option Addr) (kV doc pm:Value) (an:Option Addr) (cdv ct:Value) (osl:Array (Option Value)),
    fd = W.fnOf x qual (defArgs st) (defBody st) (defScope st) .none kV doc pm an cdv ct /\ K.lookup f = some ⟨oc,od,.func fd,osl⟩ /\ W.codeIn K cdv qual = true
  kp:W.keepIn K (.ref f) = true
section
variable {P:Program} {w:World} {K:W.Frag} {mg:Str -> Option Value} {base:Heap}
theorem Fun.ok {x qual:Str} {st:Stmt} {f:Addr} {fd:FuncData} {N ps:List Str} {k:Nat} {sp:Sp} (F:Fun K x qual st f fd) (S:FnScope N ps (defScope st)) (len:∀ vs H Q E,sp vs H Q E -> vs.length = ps.length)
    (hbody:∀ (cdv:Value) (A:Around) (outer:List Env) (s:Shared) (H:Hp) (vs:List V) (Q:VK) (E:XK),Room k (A.deeper (envOfC qual (defScope st) s.heap.objs.size f cdv)) -> sp vs H Q E ->
      ∃ t,PSs (cxOf CX0 P w K mg base N qual (defScope st) f cdv A outer s H E).nox (defBody st) t /\ t { nx:=fun _ H'=>Q .non H',rt:=Q } (start N vs) H):FnOk P w K mg base CX0 (k + 1) f fd ps sp:=by
  obtain ⟨oc,od,kV,doc,pm,an,cdv,ct,osl,rfl,lk,hcd⟩:=F.ex
  refine fn_of lk hcd S len fun A outer s H vs Q E hr hsp=>?_
  obtain ⟨t,h,q⟩:=hbody cdv A outer s H vs Q E hr hsp
  exact ⟨t,h.nox,q⟩
theorem Fun.binds {x qual:Str} {st:Stmt} {f:Addr} {fd:FuncData} {ps:List Str} (F:Fun K x qual st f fd)
    (h:∀ (kV doc pm:Value) (an:Option Addr) (cdv ct:Value) (us:List Value),us.length = ps.length -> bindArgs (W.fnOf x qual (defArgs st) (defBody st) (defScope st) .none kV doc pm an cdv ct) ⟨us,[]⟩ = pure (ps.zip us)):Binds K fd ps []:=by
  obtain ⟨oc,od,kV,doc,pm,an,cdv,ct,osl,rfl,lk,hcd⟩:=F.ex
  exact .all (h kV doc pm an cdv ct)
theorem fun_mk {x qual:Str} {st:Stmt} {f:Addr} {oc:Value} {od an:Option Addr} {osl:Array (Option Value)} {kV doc pm cdv ct:Value} (l:K.lookup f = some ⟨oc,od,.func (W.fnOf x qual (defArgs st) (defBody st) (defScope st) .none kV doc pm an cdv ct),osl⟩)
    (c:W.codeIn K cdv qual = true) (k:W.keepIn K (.ref f) = true):Fun K x qual st f (W.fnOf x qual (defArgs st) (defBody st) (defScope st) .none kV doc pm an cdv ct):=⟨⟨oc,od,kV,doc,pm,an,cdv,ct,osl,rfl,l,c⟩,k⟩
end
theorem hu_of {A:Around} {k:Nat} (hr:Room k A):A.units + 1 < cLine:=Nat.lt_of_le_of_lt (Nat.add_le_add_left (by decide : 1 <= 64) _) hr.units
theorem small1000 {n:Nat} (h:n <= 1000):n < sizeLine:=Nat.lt_of_le_of_lt h (by decide)

section
variable {X:Cx}
theorem pv (i:Nat) {x:Str} {pos:Pos} (hN:X.N[i]? = some x:=by rfl) (hv:Vis X.env.scope x:=by first | exact Or.inl rfl | exact Or.inr (Or.inl rfl) | exact Or.inr (Or.inr rfl)) (hd:(x == ("__debug__" : Str)) = false:=by decide)
    (hcd:(x == ("__classdict__" : Str)) = false:=by decide):PE X (.Name x pos) (tVar i):=pe_var hN hv hd hcd
end

def Same (H H':Hp):Prop:=∀ b o,H b = some o -> H' b = some o
theorem Same.refl (H:Hp):Same H H:=fun _ _ h=>h
theorem Same.trans {H H1 H2:Hp} (a:Same H H1) (b:Same H1 H2):Same H H2:=fun c o h=>b c o (a c o h)
theorem Same.free {H H':Hp} (e:Same H H') {l:Addr} (h:H' l = Option.none):H l = Option.none:=by
  cases q:H l with
  | none=>rfl
  | some o =>
    rw [e l o q] at h
    cases h
theorem Same.seq {K:W.Frag} {H H':Hp} {a:Addr} {xs:List V} (e:Same H H') (h:SqL K H a xs):SqL K H' a xs:=by
  rcases h with (h | ⟨o,h⟩) | h
  · exact .inl (.inl (e _ _ h))
  · exact .inl (.inr ⟨o,e _ _ h⟩)
  · exact .inr h

end L2

namespace L2
open PySem PySem.Spec PyProof.Rows
section
variable {X:Cx}
end
section
variable {κ:Type} [DecidableEq κ]
end
end L2


namespace L2.VL
open PySem PySem.Spec PyProof.Rows
def RO (F:Hp) (o:HO):Prop:=∃ (c:Addr) (ns:List Int) (a l t:Int),o = .dK [(Sum.inr "cells", .ref c),(Sum.inr "at", .int a),(Sum.inr "left", .int l),(Sum.inr "turn", .int t)] /\ F c = some (.lst (ns.map V.int)) /\ ns.length <= 63 /\ 0 <= a /\ 0 <= l /\ 0 <= t
theorem RO.mono {F F':Hp} {o:HO} (s:Same F F') (h:RO F o):RO F' o:=by
  obtain ⟨c,ns,a,l,t,e,q,r⟩:=h
  exact ⟨c,ns,a,l,t,e,s _ _ q,r⟩
end L2.VL

namespace L2.VL
open PySem PySem.Spec PyProof.Rows

mutual
inductive Rep (K:W.Frag) (F:Hp):V -> PyData -> Prop
  | non:Rep K F .non .none
  | bl (b:Bool):Rep K F (.bl b) (.bool b)
  | int (i:Int):Rep K F (.int i) (.int i)
  | str (x:Str):Rep K F (.str x) (.str x)
  | tup {a:Addr} {vs:List V} {ds:List PyData}:SqT K F a vs -> Reps K F vs ds -> Rep K F (.ref a) (.tuple ds)
  | lst {a:Addr} {vs:List V} {ds:List PyData}:F a = some (.lst vs) -> Reps K F vs ds -> Rep K F (.ref a) (.list ds)
inductive Reps (K:W.Frag) (F:Hp):List V -> List PyData -> Prop
  | nil:Reps K F [] []
  | cons {v:V} {d:PyData} {vs:List V} {ds:List PyData}:Rep K F v d -> Reps K F vs ds -> Reps K F (v :: vs) (d :: ds)
end

theorem sameT {K:W.Frag} {H H':Hp} {a:Addr} {xs:List V} (e:Same H H') (h:SqT K H a xs):SqT K H' a xs:=by
  rcases h with (h | ⟨o,h⟩) | h
  · exact .inl (.inl (e _ _ h))
  · exact .inl (.inr ⟨o,e _ _ h⟩)
  · exact .inr h
theorem sameL {K:W.Frag} {H H':Hp} {a:Addr} {xs:List V} (e:Same H H') (h:SqL K H a xs):SqL K H' a xs:=by
  rcases h with (h | ⟨o,h⟩) | h
  · exact .inl (.inl (e _ _ h))
  · exact .inl (.inr ⟨o,e _ _ h⟩)
  · exact .inr h
mutual
theorem Rep.mono {K:W.Frag} {F F':Hp} (s:Same F F'):∀ {v:V} {d:PyData},Rep K F v d -> Rep K F' v d
  | _,_,.non=>.non
  | _,_,.bl b=>.bl b
  | _,_,.int i=>.int i
  | _,_,.str x=>.str x
  | _,_,.tup h r=>.tup (sameT s h) (Reps.mono s r)
  | _,_,.lst h r=>.lst (s _ _ h) (Reps.mono s r)
theorem Reps.mono {K:W.Frag} {F F':Hp} (s:Same F F'):∀ {vs:List V} {ds:List PyData},Reps K F vs ds -> Reps K F' vs ds
  | _,_,.nil=>.nil
  | _,_,.cons h r=>.cons (Rep.mono s h) (Reps.mono s r)
end
theorem Reps.length {K:W.Frag} {F:Hp}:∀ {vs:List V} {ds:List PyData},Reps K F vs ds -> vs.length = ds.length
  | _,_,.nil=>rfl
  | _,_,.cons _ r=>by simp [Reps.length r]
theorem Reps.get {K:W.Frag} {F:Hp}:∀ {vs:List V} {ds:List PyData} {i:Nat} {d:PyData},Reps K F vs ds -> ds[i]? = some d -> ∃ v,vs[i]? = some v /\ Rep K F v d
  | _,_,_,_,.nil,e=>by simp at e
  | _,_,0,_,.cons h _,e=>by simp at e; subst e; exact ⟨_,rfl,h⟩
  | _,_,i + 1,d,.cons _ r,e=>by
    obtain ⟨v,h1,h2⟩:=Reps.get (i:=i) (d:=d) r (by simpa using e)
    exact ⟨v,by simpa using h1,h2⟩
theorem Reps.append {K:W.Frag} {F:Hp}:∀ {vs us:List V} {ds es:List PyData},Reps K F vs ds -> Reps K F us es -> Reps K F (vs ++ us) (ds ++ es)
  | _,_,_,_,.nil,s=>s
  | _,_,_,_,.cons h r,s=>.cons h (Reps.append r s)
theorem Reps.snoc {K:W.Frag} {F:Hp} {vs:List V} {ds:List PyData} {v:V} {d:PyData} (r:Reps K F vs ds) (h:Rep K F v d):Reps K F (vs ++ [v]) (ds ++ [d]):=r.append (.cons h .nil)
theorem Reps.take {K:W.Frag} {F:Hp}:∀ {vs:List V} {ds:List PyData} (n:Nat),Reps K F vs ds -> Reps K F (vs.take n) (ds.take n)
  | _,_,0,_=>.nil
  | _,_,_ + 1,.nil=>.nil
  | _,_,n + 1,.cons h r=>.cons h (Reps.take n r)
theorem Reps.drop {K:W.Frag} {F:Hp}:∀ {vs:List V} {ds:List PyData} (n:Nat),Reps K F vs ds -> Reps K F (vs.drop n) (ds.drop n)
  | _,_,0,r=>r
  | _,_,_ + 1,.nil=>.nil
  | _,_,n + 1,.cons _ r=>Reps.drop n r
theorem Reps.nil_iff {K:W.Frag} {F:Hp} {vs:List V} (h:Reps K F vs []):vs = []:=by cases h; rfl

mutual
theorem Rep.reads {X:Cx} {pins:List (Addr × Obj)} {σ:St} {H F:Hp} {s:Shared} (I:Inv X pins σ H s) (sub:Same F H):∀ {v:V} {d:PyData},Rep X.K F v d -> ∀ u,RelV v u -> ∃ as,Reads s.heap u d as
  | _,_,.non,u,r=>by cases (show u = Value.none from r); exact ⟨_,.none⟩
  | _,_,.bl b,u,r=>by cases (show u = Value.bool b from r); exact ⟨_,.bool b⟩
  | _,_,.int i,u,r=>by obtain ⟨t,q⟩:=(show ∃ t,u = Value.int i t from r); cases q; exact ⟨_,.int i t⟩
  | _,_,.str x,u,r=>by obtain ⟨t,q⟩:=(show ∃ t,u = Value.str x t from r); cases q; exact ⟨_,.str x t⟩
  | _,_,.tup (a:=a) h q,u,r=>by
    cases (show u = Value.ref a from r)
    obtain ⟨its,rv,⟨o,h1,h2,n,h3⟩,hz⟩:=I.tuple (sameT sub h)
    obtain ⟨as,ra⟩:=Reps.reads I sub q its rv
    exact ⟨_,.tuple h1 h2 h3 (by simpa using ra)⟩
  | _,_,.lst (a:=a) h q,u,r=>by
    cases (show u = Value.ref a from r)
    obtain ⟨its,rv,p,hz⟩:=I.list (.inl (.inl (sub _ _ h)))
    obtain ⟨o,h1,h2,n,h3⟩:=p.isList
    obtain ⟨as,ra⟩:=Reps.reads I sub q its rv
    exact ⟨_,.list h1 h2 h3 (by simpa using ra)⟩
theorem Reps.reads {X:Cx} {pins:List (Addr × Obj)} {σ:St} {H F:Hp} {s:Shared} (I:Inv X pins σ H s) (sub:Same F H):∀ {vs:List V} {ds:List PyData},Reps X.K F vs ds -> ∀ us,Vals vs us -> ∃ as,ReadsAll s.heap us ds as
  | _,_,.nil,us,r=>by cases r; exact ⟨_,.nil⟩
  | _,_,.cons h q,us,r=>by
    cases r with
    | cons r1 r2 =>
      obtain ⟨as,a1⟩:=Rep.reads I sub h _ r1
      obtain ⟨bs,a2⟩:=Reps.reads I sub q _ r2
      exact ⟨_,.cons a1 a2⟩
end

structure ReelOk (F H:Hp) (r:Addr):Prop where
  ex:∃ o,H r = some o /\ RO F o
def RAt (rl:Option Addr) (F H:Hp):Prop:=∀ r,rl = some r -> F r = none /\ ReelOk F H r
theorem RAt.live {rl:Option Addr} {F H:Hp} (h:RAt rl F H) {r:Addr} (e:rl = some r):∃ o,H r = some o:=by
  obtain ⟨_,⟨o,q,_⟩⟩:=h r e
  exact ⟨_,q⟩

structure Grow (rl:Option Addr) (F H F' H':Hp):Prop where
  same:∀ b o,H b = some o -> rl ≠ some b -> H' b = some o
  fs:Same F F'
  sub:Same F' H'
  old:∀ b o,H b = some o -> F' b = F b
  reel:RAt rl F' H'
theorem Grow.refl {rl:Option Addr} {F H:Hp} (s:Same F H) (r:RAt rl F H):Grow rl F H F H:=⟨fun _ _ e _=>e,.refl F,s,fun _ _ _=>rfl,r⟩
theorem Grow.live {rl:Option Addr} {F H F' H':Hp} (g:Grow rl F H F' H') {b:Addr} {o:HO} (e:H b = some o):∃ o',H' b = some o':=by
  by_cases h:rl = some b
  · exact g.reel.live h
  · exact ⟨o,g.same b o e h⟩
theorem Grow.trans {rl:Option Addr} {F H F1 H1 F2 H2:Hp} (a:Grow rl F H F1 H1) (b:Grow rl F1 H1 F2 H2):Grow rl F H F2 H2 :=
  ⟨fun c o e n=>b.same c o (a.same c o e n) n,a.fs.trans b.fs,b.sub,fun c o e=>by obtain ⟨o',e'⟩:=a.live e; rw [b.old c o' e',a.old c o e],b.reel⟩
theorem Grow.freeB {rl:Option Addr} {F H F' H':Hp} (g:Grow rl F H F' H') {b:Addr} (e:H' b = none):H b = none:=by
  cases q:H b with
  | none=>rfl
  | some o=>obtain ⟨o',e'⟩:=g.live q; rw [e] at e'; cases e'
theorem Grow.laid {rl:Option Addr} {F H:Hp} {a:Addr} {o:HO} (s:Same F H) (r:RAt rl F H) (n:H a = none):Grow rl F H F (upd H a o):=by
  have ne:∀ b u,H b = some u -> b ≠ a:=fun b u e=>ne_of_none e n
  refine ⟨fun b u e _=>by rw [upd_ne (ne b u e)]; exact e,.refl F,fun b u e=>by rw [upd_ne (ne b u (s b u e))]; exact s b u e,fun _ _ _=>rfl,fun q e=>?_⟩
  obtain ⟨z,⟨u,h1,h2⟩⟩:=r q e
  exact ⟨z,⟨u,by rw [upd_ne (ne _ _ h1)]; exact h1,h2⟩⟩
theorem Grow.data {rl:Option Addr} {F H:Hp} {a:Addr} {o:HO} (s:Same F H) (r:RAt rl F H) (n:H a = none):Grow rl F H (upd F a o) (upd H a o):=by
  have ne:∀ b u,H b = some u -> b ≠ a:=fun b u e=>ne_of_none e n
  have neF:∀ b u,F b = some u -> b ≠ a:=fun b u e=>ne b u (s b u e)
  refine ⟨fun b u e _=>by rw [upd_ne (ne b u e)]; exact e,fun b u e=>by rw [upd_ne (neF b u e)]; exact e,fun b u e=>?_,fun b u e=>by rw [upd_ne (ne b u e)],fun q e=>?_⟩
  · by_cases hb:b = a
    · subst hb; rw [upd_same] at e ⊢; exact e
    · rw [upd_ne hb] at e ⊢; exact s b u e
  · obtain ⟨z,⟨u,h1,h2⟩⟩:=r q e
    exact ⟨by rw [upd_ne (ne _ _ h1)]; exact z,⟨u,by rw [upd_ne (ne _ _ h1)]; exact h1,RO.mono (fun b u e=>by rw [upd_ne (neF b u e)]; exact e) h2⟩⟩
theorem Grow.freeze {rl:Option Addr} {F H F1 H1:Hp} {a:Addr} {o:HO} (g:Grow rl F H F1 H1) (n:H a = none) (e:H1 a = some o) (f:F1 a = none) (hr:rl ≠ some a):Grow rl F H (upd F1 a o) H1:=by
  have neF:∀ b u,F1 b = some u -> b ≠ a:=fun b u q z=>by subst z; rw [f] at q; cases q
  refine ⟨g.same,fun b u q=>by rw [upd_ne (neF b u (g.fs b u q))]; exact g.fs b u q,fun b u q=>?_,fun b u q=>by rw [upd_ne (ne_of_none q n)]; exact g.old b u q,fun q z=>?_⟩
  · by_cases hb:b = a
    · subst hb; rw [upd_same] at q; rw [e]; exact q
    · rw [upd_ne hb] at q; exact g.sub b u q
  · obtain ⟨z1,⟨u,h1,h2⟩⟩:=g.reel q z
    exact ⟨by rw [upd_ne (fun y=>hr (by rw [<- y]; exact z))]; exact z1,⟨u,h1,RO.mono (fun b u e=>by rw [upd_ne (neF b u e)]; exact e) h2⟩⟩

inductive W where
  | d (x:PyData)
  
  | ml (xs:List PyData)
  
  | pk (xs:List PyData)
  | reel
  
  | vv (v:V)
  
  | md (kvs:List (List Key × PyData))
  
  | mk (kvs:List (Key × PyData))
  
  | nt (ds:List PyData)
  
  | lk
  
  | sc (ns:List Int)
  
  | fd (kvs:List (Key × PyData))
  
  | fw (kvs:List (Key × PyData))
  
  | ft (kvs:List (List Key × PyData))
  
  | xc (x:Str) (fs:List (Str × PyData))
  
  | dp (kvs:List (Key × PyData)) (x:PyData)
def W.dat:W -> Option PyData
  | .d x=>some x
  | .ml xs=>some (.list xs)
  | .pk xs=>some (.list xs)
  | .nt ds=>some (.tuple ds)
  | _=>none
def W.peek:W -> W
  | .ml xs=>.pk xs
  | .md _=>.lk
  | .mk _=>.lk
  | w=>w
def W.own:W -> Bool
  | .ml _=>true
  | .md _=>true
  | .mk _=>true
  | _=>false
abbrev KD (K:W.Frag) (F:Hp):List (List Key × V) -> List (List Key × PyData) -> Prop:=Paired fun p q=>p.1 = q.1 /\ Rep K F p.2 q.2
abbrev KDk (K:W.Frag) (F:Hp):List (Key × V) -> List (Key × PyData) -> Prop:=Paired fun p q=>p.1 = q.1 /\ Rep K F p.2 q.2
abbrev KDs (K:W.Frag) (F:Hp):List (Str × V) -> List (Str × PyData) -> Prop:=Paired fun p q=>p.1 = q.1 /\ Rep K F p.2 q.2
def ExcAt (e C dx:Addr):Heap -> Prop:=fun h=>∃ oe vs,h.get? e = some oe /\ oe.cls = .ref C /\ oe.dict = some dx /\ oe.data = .fields vs
def OwnD (K:W.Frag) (rl:Option Addr) (F H:Hp) (v:V) (kvs:List (List Key × PyData)):Prop:=∃ a us,v = .ref a /\ F a = none /\ rl ≠ some a /\ H a = some (.dT us) /\ KD K F us kvs
def OwnK (K:W.Frag) (rl:Option Addr) (F H:Hp) (v:V) (kvs:List (Key × PyData)):Prop:=∃ a us,v = .ref a /\ F a = none /\ rl ≠ some a /\ H a = some (.dK us) /\ KDk K F us kvs
def OwnL (K:W.Frag) (rl:Option Addr) (F H:Hp) (v:V) (xs:List PyData):Prop:=∃ a vs,v = .ref a /\ F a = none /\ rl ≠ some a /\ H a = some (.lst vs) /\ Reps K F vs xs
def RelW (K:W.Frag) (rl:Option Addr) (F H:Hp) (v:V):W -> Prop
  | .d x=>Rep K F v x
  | .ml xs=>OwnL K rl F H v xs
  | .pk xs=>OwnL K rl F H v xs
  | .reel=>∃ r,rl = some r /\ v = .ref r
  | .vv u=>v = u
  | .md kvs=>OwnD K rl F H v kvs
  | .mk kvs=>OwnK K rl F H v kvs
  | .nt ds=>∃ a vs,v = .ref a /\ F a = some (.tup vs) /\ Reps K F vs ds
  | .lk=>True
  | .sc ns=>∃ a,v = .ref a /\ SqL K F a (ns.map V.int)
  | .fd kvs=>∃ a us,v = .ref a /\ F a = some (.dK us) /\ KDk K F us kvs
  | .fw kvs=>∃ a us o,v = .ref a /\ F a = some (.frz o (.dK us)) /\ KDk K F us kvs
  | .ft kvs=>∃ a us o,v = .ref a /\ F a = some (.frz o (.dT us)) /\ KD K F us kvs
  | .xc x fs=>∃ e dx us C,v = .ref e /\ W.nsIn K mainGlobals x = some (some (.ref C)) /\ F e = some (.ext (ExcAt e C dx)) /\ F dx = some (.xd us) /\ KDs K F us fs
  | .dp kvs x=>∃ a b us u o,v = .ref a /\ F a = some (.tup [.ref b,u]) /\ F b = some (.frz o (.dK us)) /\ KDk K F us kvs /\ Rep K F u x
theorem OwnD.grow {K:W.Frag} {rl:Option Addr} {F H F' H':Hp} {v:V} {kvs:List (List Key × PyData)} (g:Grow rl F H F' H') (r:OwnD K rl F H v kvs):OwnD K rl F' H' v kvs:=by
  obtain ⟨a,us,rfl,h1,h2,h3,h4⟩:=r
  exact ⟨a,us,rfl,by rw [g.old a _ h3]; exact h1,h2,g.same a _ h3 h2,Paired.mapP h4 fun _ _ z=>⟨z.1,z.2.mono g.fs⟩⟩
theorem OwnK.grow {K:W.Frag} {rl:Option Addr} {F H F' H':Hp} {v:V} {kvs:List (Key × PyData)} (g:Grow rl F H F' H') (r:OwnK K rl F H v kvs):OwnK K rl F' H' v kvs:=by
  obtain ⟨a,us,rfl,h1,h2,h3,h4⟩:=r
  exact ⟨a,us,rfl,by rw [g.old a _ h3]; exact h1,h2,g.same a _ h3 h2,Paired.mapP h4 fun _ _ z=>⟨z.1,z.2.mono g.fs⟩⟩
theorem OwnL.grow {K:W.Frag} {rl:Option Addr} {F H F' H':Hp} {v:V} {xs:List PyData} (g:Grow rl F H F' H') (r:OwnL K rl F H v xs):OwnL K rl F' H' v xs:=by
  obtain ⟨a,vs,rfl,h1,h2,h3,h4⟩:=r
  exact ⟨a,vs,rfl,by rw [g.old a _ h3]; exact h1,h2,g.same a _ h3 h2,h4.mono g.fs⟩
theorem RelW.grow {K:W.Frag} {rl:Option Addr} {F H F' H':Hp} {v:V} {w:W} (g:Grow rl F H F' H') (r:RelW K rl F H v w):RelW K rl F' H' v w:=by
  cases w with
  | d x=>exact Rep.mono g.fs r
  | ml xs=>exact OwnL.grow g r
  | pk xs=>exact OwnL.grow g r
  | reel=>exact r
  | vv u=>exact r
  | md kvs=>exact OwnD.grow g r
  | mk kvs=>exact OwnK.grow g r
  | nt ds=>obtain ⟨a,vs,e,h,q⟩:=r; exact ⟨a,vs,e,g.fs _ _ h,q.mono g.fs⟩
  | lk=>trivial
  | sc ns=>obtain ⟨a,e,h⟩:=r; exact ⟨a,e,sameL g.fs h⟩
  | fd kvs=>obtain ⟨a,us,e,h,q⟩:=r; exact ⟨a,us,e,g.fs _ _ h,Paired.mapP q fun _ _ z=>⟨z.1,z.2.mono g.fs⟩⟩
  | fw kvs=>obtain ⟨a,us,o,e,h,q⟩:=r; exact ⟨a,us,o,e,g.fs _ _ h,Paired.mapP q fun _ _ z=>⟨z.1,z.2.mono g.fs⟩⟩
  | ft kvs=>obtain ⟨a,us,o,e,h,q⟩:=r; exact ⟨a,us,o,e,g.fs _ _ h,Paired.mapP q fun _ _ z=>⟨z.1,z.2.mono g.fs⟩⟩
  | xc _ _=>obtain ⟨a,dx,us,C,e,n,h1,h2,q⟩:=r; exact ⟨a,dx,us,C,e,n,g.fs _ _ h1,g.fs _ _ h2,Paired.mapP q fun _ _ z=>⟨z.1,z.2.mono g.fs⟩⟩
  | dp _ _=>obtain ⟨a,b,us,u,o,e,h1,h2,q,z⟩:=r; exact ⟨a,b,us,u,o,e,g.fs _ _ h1,g.fs _ _ h2,Paired.mapP q fun _ _ z=>⟨z.1,z.2.mono g.fs⟩,z.mono g.fs⟩
theorem RelW.peek {K:W.Frag} {rl:Option Addr} {F H:Hp} {v:V} {w:W} (r:RelW K rl F H v w):RelW K rl F H v w.peek:=by cases w <;> first | exact r | trivial
theorem OwnL.rep {K:W.Frag} {rl:Option Addr} {F H:Hp} {v:V} {xs:List PyData} (s:Same F H) (r:OwnL K rl F H v xs):Rep K H v (.list xs):=by
  obtain ⟨a,vs,rfl,h1,h2,h3,h4⟩:=r
  exact .lst h3 (h4.mono s)
theorem RelW.dat {K:W.Frag} {rl:Option Addr} {F H:Hp} {v:V} {w:W} {x:PyData} (s:Same F H) (r:RelW K rl F H v w) (e:w.dat = some x):Rep K H v x:=by
  cases w with
  | d y=>cases e; exact Rep.mono s r
  | ml xs=>cases e; exact OwnL.rep s r
  | pk xs=>cases e; exact OwnL.rep s r
  | reel=>cases e
  | vv u=>cases e
  | md kvs=>cases e
  | mk kvs=>cases e
  | nt ds=>cases e; obtain ⟨a,vs,rfl,h,q⟩:=r; exact .tup (.inl (.inl (s _ _ h))) (q.mono s)
  | lk=>cases e
  | sc _=>cases e
  | fd _=>cases e
  | fw _=>cases e
  | ft _=>cases e
  | xc _ _=>cases e
  | dp _ _=>cases e
theorem RelW.items {K:W.Frag} {rl:Option Addr} {F H:Hp} {v:V} {w:W} {xs:List PyData} (s:Same F H) (r:RelW K rl F H v w) (e:w.dat = some (.list xs)):∃ a vs,v = .ref a /\ SqL K H a vs /\ Reps K F vs xs:=by
  have own:OwnL K rl F H v xs -> ∃ a vs,v = .ref a /\ SqL K H a vs /\ Reps K F vs xs:=fun ⟨a,vs,e1,_,_,e2,e3⟩=>⟨a,vs,e1,.inl (.inl e2),e3⟩
  cases w with
  | d y =>
    cases e
    cases (show Rep K F v (.list xs) from r) with
    | lst h q=>exact ⟨_,_,rfl,.inl (.inl (s _ _ h)),q⟩
  | ml ys=>cases e; exact own r
  | pk ys=>cases e; exact own r
  | reel=>cases e
  | vv u=>cases e
  | md kvs=>cases e
  | mk kvs=>cases e
  | nt ds=>cases e
  | lk=>cases e
  | sc _=>cases e
  | fd _=>cases e
  | fw _=>cases e
  | ft _=>cases e
  | xc _ _=>cases e
  | dp _ _=>cases e
theorem RelW.itemsT {K:W.Frag} {rl:Option Addr} {F H:Hp} {v:V} {w:W} {xs:List PyData} (s:Same F H) (r:RelW K rl F H v w) (e:w.dat = some (.tuple xs)):∃ a vs,v = .ref a /\ SqT K H a vs /\ Reps K F vs xs:=by
  cases w with
  | d y =>
    cases e
    cases (show Rep K F v (.tuple xs) from r) with
    | tup h q=>exact ⟨_,_,rfl,sameT s h,q⟩
  | ml ys=>cases e
  | pk ys=>cases e
  | reel=>cases e
  | vv u=>cases e
  | md kvs=>cases e
  | mk kvs=>cases e
  | nt ds=>cases e; obtain ⟨a,vs,rfl,h,q⟩:=r; exact ⟨a,vs,rfl,.inl (.inl (s _ _ h)),q⟩
  | lk=>cases e
  | sc _=>cases e
  | fd _=>cases e
  | fw _=>cases e
  | ft _=>cases e
  | xc _ _=>cases e
  | dp _ _=>cases e
def NewIn (H:Hp) (v:V):W -> Prop
  | .ml _=>∀ a,v = .ref a -> H a = none
  | .md _=>∀ a,v = .ref a -> H a = none
  | .mk _=>∀ a,v = .ref a -> H a = none
  | _=>True
theorem RelW.live {K:W.Frag} {rl:Option Addr} {F H:Hp} {v:V} {w:W} (r:RelW K rl F H v w) (h:w.own = true):∃ a o,v = .ref a /\ H a = some o:=by
  cases w with
  | ml xs=>obtain ⟨a,vs,e,_,_,hh,_⟩:=r; exact ⟨a,_,e,hh⟩
  | md xs=>obtain ⟨a,vs,e,_,_,hh,_⟩:=r; exact ⟨a,_,e,hh⟩
  | mk xs=>obtain ⟨a,vs,e,_,_,hh,_⟩:=r; exact ⟨a,_,e,hh⟩
  | _=>cases h
theorem NewIn.none {H:Hp} {v:V} {w:W} (n:NewIn H v w) (h:w.own = true) {a:Addr} (e:v = .ref a):H a = none:=by
  cases w with
  | ml xs=>exact n a e
  | md xs=>exact n a e
  | mk xs=>exact n a e
  | _=>cases h

abbrev En:=List (Option W)
structure VR (K:W.Frag) (rl:Option Addr) (F₀ H₀ F H:Hp) (σ:St) (ρ:En):Prop where
  g:Grow rl F₀ H₀ F H
  sl:∀ (i:Nat) w,ρ[i]? = some (some w) -> ∃ v,σ[i]? = some (some v) /\ RelW K rl F H v w /\ NewIn H₀ v w
  ap:∀ (i j:Nat) (x y:W) v,i ≠ j -> ρ[i]? = some (some x) -> ρ[j]? = some (some y) -> x.own = true -> y.own = true -> σ[i]? = some (some v) -> σ[j]? = some (some v) -> False
  np:∀ (i:Nat) xs,ρ[i]? ≠ some (some (W.pk xs))
  len : ρ.length = σ.length
section
variable {K:W.Frag} {rl:Option Addr} {F₀ H₀ F H F' H':Hp} {σ:St} {ρ:En}
theorem VR.sub (r:VR K rl F₀ H₀ F H σ ρ):Same F H:=r.g.sub
theorem VR.reel (r:VR K rl F₀ H₀ F H σ ρ):RAt rl F H:=r.g.reel
theorem VR.grow (r:VR K rl F₀ H₀ F H σ ρ) (g:Grow rl F H F' H'):VR K rl F₀ H₀ F' H' σ ρ :=
  ⟨r.g.trans g,fun i w e=>let ⟨v,e1,e2,e3⟩:=r.sl i w e; ⟨v,e1,e2.grow g,e3⟩,r.ap,r.np,r.len⟩
theorem VR.set (r:VR K rl F₀ H₀ F H σ ρ) {H1 F1:Hp} (g:Grow rl F H F1 H1) {v:V} {w:W} (rw':RelW K rl F1 H1 v w) (hn:NewIn H v w) (hp:∀ xs,w ≠ .pk xs) (i:Nat):VR K rl F₀ H₀ F1 H1 (σ.set i (some v)) (ρ.set i (some w)):=by
  have r1:=r.grow g
  refine ⟨r1.g,fun j w' e=>?_,fun j k xs ys u hjk e1 e2 w1 w2 s1 s2=>?_,fun j xs z=>?_,by simp [r.len]⟩
  · by_cases hj:i = j
    · subst hj
      have hi:i < ρ.length:=by
        rw [List.getElem?_set] at e
        by_cases hi:i < ρ.length
        · exact hi
        · simp [hi] at e
      rw [List.getElem?_set_self hi] at e
      cases e
      refine ⟨v,by rw [List.getElem?_set_self (by rw [<- r.len]; exact hi)],rw',?_⟩
      cases w with
      | ml xs=>exact fun a ea=>r.g.freeB (hn a ea)
      | d x=>trivial
      | pk xs=>trivial
      | reel=>trivial
      | vv u=>trivial
      | md xs=>exact fun a ea=>r.g.freeB (hn a ea)
      | mk xs=>exact fun a ea=>r.g.freeB (hn a ea)
      | nt ds=>trivial
      | lk=>trivial
      | sc _=>trivial
      | fd _=>trivial
      | fw _=>trivial
      | ft _=>trivial
      | xc _ _=>trivial
      | dp _ _=>trivial
    · rw [List.getElem?_set_ne hj] at e
      obtain ⟨u,h1,h2,h3⟩:=r1.sl j w' e
      exact ⟨u,by rw [List.getElem?_set_ne hj]; exact h1,h2,h3⟩
  · have key:∀ (k:Nat) (x y:W),ρ[k]? = some (some y) -> some (some w) = some (some x) -> x.own = true -> y.own = true -> σ[k]? = some (some v) -> False:=fun k x y d2 e1 o1 o2 s2=>by
      cases e1
      obtain ⟨u',h1,h2,h3⟩:=r.sl k _ d2
      rw [s2] at h1
      cases h1
      obtain ⟨a,o,ea,hh⟩:=h2.live o2
      rw [hn.none o1 ea] at hh
      cases hh
    by_cases hj:i = j
    · subst hj
      have hk:i ≠ k:=hjk
      have hi:i < ρ.length:=by
        rw [List.getElem?_set] at e1
        by_cases hi:i < ρ.length
        · exact hi
        · simp [hi] at e1
      rw [List.getElem?_set_self hi] at e1
      rw [List.getElem?_set_ne hk] at e2 s2
      rw [List.getElem?_set_self (by rw [<- r.len]; exact hi)] at s1
      cases s1
      exact key k xs ys e2 e1 w1 w2 s2
    · by_cases hk:i = k
      · subst hk
        have hi:i < ρ.length:=by
          rw [List.getElem?_set] at e2
          by_cases hi:i < ρ.length
          · exact hi
          · simp [hi] at e2
        rw [List.getElem?_set_self hi] at e2
        rw [List.getElem?_set_ne hj] at e1 s1
        rw [List.getElem?_set_self (by rw [<- r.len]; exact hi)] at s2
        cases s2
        exact key j ys xs e1 e2 w2 w1 s1
      · rw [List.getElem?_set_ne hj] at e1 s1
        rw [List.getElem?_set_ne hk] at e2 s2
        exact r.ap j k xs ys u hjk e1 e2 w1 w2 s1 s2
  · rw [List.getElem?_set] at z
    split at z
    · split at z
      · exact hp xs (Option.some.inj (Option.some.inj z))
      · cases z
    · exact r.np j xs z
theorem VR.freeze (r:VR K rl F₀ H₀ F H σ ρ) {i:Nat} {xs:List PyData} (e : ρ[i]? = some (some (.ml xs))):∃ F1,VR K rl F₀ H₀ F1 H σ (ρ.set i (some (.d (.list xs)))):=by
  obtain ⟨v,h1,h2,h3⟩:=r.sl i _ e
  obtain ⟨a,vs,rfl,f,hr,hh,q⟩:=(show OwnL K rl F H v xs from h2)
  have hi:i < ρ.length:=(List.getElem?_eq_some_iff.mp e).1
  have neF:∀ b u,F b = some u -> b ≠ a:=fun b u q z=>by subst z; rw [f] at q; cases q
  have fsm:Same F (upd F a (.lst vs)):=fun b u z=>by rw [upd_ne (neF b u z)]; exact z
  refine ⟨upd F a (.lst vs),r.g.freeze (h3 a rfl) hh f hr,fun j w e1=>?_,fun j k ys zs u hjk e1 e2 w1 w2 s1 s2=>?_,fun j ys z=>?_,by simp [r.len]⟩
  · by_cases hj:i = j
    · subst hj
      rw [List.getElem?_set_self hi] at e1
      cases e1
      exact ⟨.ref a,h1,.lst upd_same (q.mono fsm),trivial⟩
    · rw [List.getElem?_set_ne hj] at e1
      obtain ⟨u,g1,g2,g3⟩:=r.sl j w e1
      refine ⟨u,g1,?_,g3⟩
      have own:∀ ys,(∀ zs,w = .ml zs -> ys = zs) -> OwnL K rl F H u ys -> (∃ b,u = .ref b /\ b ≠ a) -> OwnL K rl (upd F a (.lst vs)) H u ys:=fun ys _ ⟨b,us,eb,f1,f2,f3,f4⟩ ⟨b',eb',ne⟩=>by
        rw [eb] at eb'
        cases eb'
        exact ⟨b,us,eb,by rw [upd_ne ne]; exact f1,f2,f3,f4.mono fsm⟩
      cases w with
      | d x=>exact Rep.mono fsm g2
      | reel=>exact g2
      | vv u=>exact g2
      | ml ys =>
        obtain ⟨b,us,eb,f1,f2,f3,f4⟩:=(show OwnL K rl F H u ys from g2)
        have ne:b ≠ a:=fun z=>r.ap i j _ _ (.ref a) hj e e1 rfl rfl h1 (by rw [g1,eb,z])
        exact ⟨b,us,eb,by rw [upd_ne ne]; exact f1,f2,f3,f4.mono fsm⟩
      | pk ys=>exact absurd e1 (r.np j ys)
      | md ys =>
        obtain ⟨b,us,eb,f1,f2,f3,f4⟩:=(show OwnD K rl F H u ys from g2)
        have ne:b ≠ a:=fun z=>r.ap i j _ _ (.ref a) hj e e1 rfl rfl h1 (by rw [g1,eb,z])
        exact ⟨b,us,eb,by rw [upd_ne ne]; exact f1,f2,f3,Paired.mapP f4 fun _ _ z=>⟨z.1,z.2.mono fsm⟩⟩
      | mk ys =>
        obtain ⟨b,us,eb,f1,f2,f3,f4⟩:=(show OwnK K rl F H u ys from g2)
        have ne:b ≠ a:=fun z=>r.ap i j _ _ (.ref a) hj e e1 rfl rfl h1 (by rw [g1,eb,z])
        exact ⟨b,us,eb,by rw [upd_ne ne]; exact f1,f2,f3,Paired.mapP f4 fun _ _ z=>⟨z.1,z.2.mono fsm⟩⟩
      | nt ds=>obtain ⟨b,us,eb,f1,f2⟩:=g2; exact ⟨b,us,eb,fsm _ _ f1,f2.mono fsm⟩
      | lk=>trivial
      | sc ns=>obtain ⟨b,eb,f1⟩:=g2; exact ⟨b,eb,sameL fsm f1⟩
      | fd kvs=>obtain ⟨b,us,eb,f1,f2⟩:=g2; exact ⟨b,us,eb,fsm _ _ f1,Paired.mapP f2 fun _ _ z=>⟨z.1,z.2.mono fsm⟩⟩
      | fw kvs=>obtain ⟨b,us,o,eb,f1,f2⟩:=g2; exact ⟨b,us,o,eb,fsm _ _ f1,Paired.mapP f2 fun _ _ z=>⟨z.1,z.2.mono fsm⟩⟩
      | ft kvs=>obtain ⟨b,us,o,eb,f1,f2⟩:=g2; exact ⟨b,us,o,eb,fsm _ _ f1,Paired.mapP f2 fun _ _ z=>⟨z.1,z.2.mono fsm⟩⟩
      | xc _ _=>obtain ⟨b,dx,us,C,eb,n,f1,f3,f2⟩:=g2; exact ⟨b,dx,us,C,eb,n,fsm _ _ f1,fsm _ _ f3,Paired.mapP f2 fun _ _ z=>⟨z.1,z.2.mono fsm⟩⟩
      | dp _ _=>obtain ⟨c,b,us,u,o,eb,f1,f3,f2,z⟩:=g2; exact ⟨c,b,us,u,o,eb,fsm _ _ f1,fsm _ _ f3,Paired.mapP f2 fun _ _ z=>⟨z.1,z.2.mono fsm⟩,z.mono fsm⟩
  · have nd:∀ (j:Nat) (y:W),(ρ.set i (some (W.d (.list xs))))[j]? = some (some y) -> y.own = true -> ρ[j]? = some (some y):=fun j y z o=>by
      by_cases hj:i = j
      · subst hj
        rw [List.getElem?_set_self hi] at z
        cases z
        cases o
      · rw [List.getElem?_set_ne hj] at z
        exact z
    exact r.ap j k ys zs u hjk (nd j ys e1 w1) (nd k zs e2 w2) w1 w2 s1 s2
  · rw [List.getElem?_set] at z
    split at z
    · first | cases z | (split at z <;> cases z)
    · exact r.np j ys z
end
end L2.VL

namespace L2.VL
open PySem PySem.Spec PyProof.Rows

abbrev TV:=En -> (W -> Prop) -> Prop
abbrev TB:=En -> (Bool -> Prop) -> Prop
abbrev TVs:=En -> (List W -> Prop) -> Prop
abbrev RelWs (K:W.Frag) (rl:Option Addr) (F H:Hp):List V -> List W -> Prop:=Paired (RelW K rl F H)

def PV (X:Cx) (rl:Option Addr) (e:Expr) (f:TV):Prop:=∃ t,PE X e t /\ ∀ {F₀ H₀ F H:Hp} {σ:St} {ρ:En},VR X.K rl F₀ H₀ F H σ ρ -> ∀ (Qd:W -> Prop) (Q:VK),f ρ Qd ->
  (∀ v w F' H',Grow rl F H F' H' -> RelW X.K rl F' H' v w -> NewIn H v w -> Qd w -> Q v H') -> t σ H Q
def PB (X:Cx) (rl:Option Addr) (e:Expr) (f:TB):Prop:=∃ t,PT X e t /\ ∀ {F₀ H₀ F H:Hp} {σ:St} {ρ:En},VR X.K rl F₀ H₀ F H σ ρ -> ∀ (Qd:Bool -> Prop) (Q:Bool -> Hp -> Prop),f ρ Qd ->
  (∀ b F' H',Grow rl F H F' H' -> Qd b -> Q b H') -> t σ H Q
def PVs (X:Cx) (rl:Option Addr) (es:List Expr) (f:TVs):Prop:=∃ t,PA X es t /\ ∀ {F₀ H₀ F H:Hp} {σ:St} {ρ:En},VR X.K rl F₀ H₀ F H σ ρ -> ∀ (Qd:List W -> Prop) (Q:List V -> Hp -> Prop),f ρ Qd ->
  (∀ vs ws F' H',Grow rl F H F' H' -> RelWs X.K rl F' H' vs ws -> Qd ws -> Q vs H') -> t σ H Q

def W.fz:W -> W
  | .ml xs=>.d (.list xs)
  | .nt ds=>.d (.tuple ds)
  | w=>w
theorem RelW.fz {K:W.Frag} {rl:Option Addr} {F H F1 H1:Hp} {v:V} {w:W} (g:Grow rl F H F1 H1) (r:RelW K rl F1 H1 v w) (n:NewIn H v w):∃ F2,Grow rl F H F2 H1 /\ Same F1 F2 /\ RelW K rl F2 H1 v w.fz:=by
  cases w with
  | d x=>exact ⟨F1,g,.refl _,r⟩
  | pk xs=>exact ⟨F1,g,.refl _,r⟩
  | reel=>exact ⟨F1,g,.refl _,r⟩
  | vv u=>exact ⟨F1,g,.refl _,r⟩
  | md u=>exact ⟨F1,g,.refl _,r⟩
  | mk u=>exact ⟨F1,g,.refl _,r⟩
  | lk=>exact ⟨F1,g,.refl _,r⟩
  | sc _=>exact ⟨F1,g,.refl _,r⟩
  | fd _=>exact ⟨F1,g,.refl _,r⟩
  | fw _=>exact ⟨F1,g,.refl _,r⟩
  | ft _=>exact ⟨F1,g,.refl _,r⟩
  | xc _ _=>exact ⟨F1,g,.refl _,r⟩
  | dp _ _=>exact ⟨F1,g,.refl _,r⟩
  | nt ds=>obtain ⟨a,vs,rfl,h,q⟩:=r; exact ⟨F1,g,.refl _,.tup (.inl (.inl h)) q⟩
  | ml xs =>
    obtain ⟨a,vs,rfl,f,hr,hh,q⟩:=(show OwnL K rl F1 H1 v xs from r)
    have neF:∀ b u,F1 b = some u -> b ≠ a:=fun b u q z=>by subst z; rw [f] at q; cases q
    have fsm:Same F1 (upd F1 a (.lst vs)):=fun b u z=>by rw [upd_ne (neF b u z)]; exact z
    exact ⟨upd F1 a (.lst vs),g.freeze (n a rfl) hh f hr,fsm,.lst upd_same (q.mono fsm)⟩

section
variable {X:Cx} {rl:Option Addr} {a b e:Expr} {es:List Expr} {fa fb fc:TV} {fs:TVs} {pos p:Pos}

def vC (x:PyData):TV:=fun _ Q=>Q (.d x)
theorem pv_const {v:V} {x:PyData} (h:PE X e (tC v)) (r:∀ F,Rep X.K F v x):PV X rl e (vC x) :=
  ⟨_,h,fun R Qd Q q k=>k v (.d x) _ _ (Grow.refl R.sub R.reel) (r _) trivial q⟩
theorem pv_int {i:Int} {j pos}:PV X rl (.Constant (.int i) j pos) (vC (.int i)):=pv_const pe_int fun _=>.int i
theorem pv_bl {i:Bool} {j pos}:PV X rl (.Constant (.bool i) j pos) (vC (.bool i)):=pv_const pe_bl fun _=>.bl i
theorem pv_non {j pos}:PV X rl (.Constant .none j pos) (vC .none):=pv_const pe_non fun _=>.non
theorem pv_str {x:Str} {j pos}:PV X rl (.Constant (.str x) j pos) (vC (.str x)):=pv_const pe_str fun _=>.str x
theorem pv_ty {x:Str} {n:String} {pos:Pos} (hm:X.mg x = none) (hv:bootBuiltins x = some (.type n)) (hg:Gl X x:=by rfl) (hn:x ≠ "__name__" := by decide) (hd:(x == ("__debug__" : Str)) = false:=by decide) :
    PV X rl (.Name x pos) (fun _ Q=>Q (.vv (.ty n))) :=
  ⟨_,pe_bltn (v:=.ty n) hg hm hv rfl hn hd,fun R Qd Q q k=>k (.ty n) (.vv (.ty n)) _ _ (Grow.refl R.sub R.reel) rfl trivial q⟩
def vVar (i:Nat):TV:=fun ρ Q=>∃ w,ρ[i]? = some (some w) /\ Q w.peek
theorem vn (i:Nat) {x:Str} {pos:Pos} (hN:X.N[i]? = some x:=by rfl) (hv:Vis X.env.scope x:=by first | exact Or.inl rfl | exact Or.inr (Or.inl rfl) | exact Or.inr (Or.inr rfl)) (hd:(x == ("__debug__" : Str)) = false:=by decide)
    (hcd:(x == ("__classdict__" : Str)) = false:=by decide):PV X rl (.Name x pos) (vVar i) :=
  ⟨_,pe_var hN hv hd hcd,fun R Qd Q ⟨w,e,q⟩ k=>by
    obtain ⟨v,e1,r,_⟩:=R.sl i w e
    refine ⟨v,e1,k v w.peek _ _ (Grow.refl R.sub R.reel) r.peek ?_ q⟩
    cases w <;> trivial⟩

def vNil:TVs:=fun _ Q=>Q []
def vCons (f:TV) (fs:TVs):TVs:=fun ρ Q=>f ρ fun w=>fs ρ fun ws=>Q (w.fz :: ws)
theorem pvs_nil:PVs X rl [] vNil:=⟨_,pa_nil,fun R Qd Q q k=>k [] [] _ _ (Grow.refl R.sub R.reel) .nil q⟩
theorem pvs_cons (h1:PV X rl e fa) (h2:PVs X rl es fs) (hs:starEach (e :: es) X.env = (false,eval e X.env) :: starEach es X.env:=by rfl):PVs X rl (e :: es) (vCons fa fs):=by
  obtain ⟨t,p1,k1⟩:=h1
  obtain ⟨ts,p2,k2⟩:=h2
  refine ⟨_,pa_cons p1 p2 hs,fun R Qd Q q k=>?_⟩
  refine k1 R _ _ q fun v w F1 H1 g1 r1 n1 q1=>?_
  obtain ⟨F2,g2,s2,r2⟩:=RelW.fz g1 r1 n1
  refine k2 (R.grow g2) _ _ q1 fun vs ws F3 H3 g3 r3 q3=>?_
  exact k (v :: vs) (w.fz :: ws) F3 H3 (g2.trans g3) (.cons (r2.grow g3) r3) q3

def VOp (X:Cx) (rl:Option Addr) (r:R2) (g:W -> W -> (W -> Prop) -> Prop):Prop:=∀ {F H:Hp} {x y:V} {wx wy:W} (Qd:W -> Prop) (Q:VK),Same F H -> RAt rl F H -> RelW X.K rl F H x wx -> RelW X.K rl F H y wy -> g wx wy Qd ->
  (∀ v w F' H',Grow rl F H F' H' -> RelW X.K rl F' H' v w -> NewIn H v w -> Qd w -> Q v H') -> r x y H Q
def vOp (g:W -> W -> (W -> Prop) -> Prop) (fa fb:TV):TV:=fun ρ Q=>fa ρ fun x=>fb ρ fun y=>g x y Q
theorem vop_of {r:R2} {g:W -> W -> (W -> Prop) -> Prop} (vo:VOp X rl r g) (ha:PV X rl a fa) (hb:PV X rl b fb) {e:Expr} (hp:∀ ta tb,PE X a ta -> PE X b tb -> PE X e (tOp r ta tb)):PV X rl e (vOp g fa fb):=by
  obtain ⟨ta,p1,k1⟩:=ha
  obtain ⟨tb,p2,k2⟩:=hb
  refine ⟨_,hp ta tb p1 p2,fun R Qd Q q k=>?_⟩
  refine k1 R _ _ q fun v w F1 H1 g1 r1 n1 q1=>?_
  refine k2 (R.grow g1) _ _ q1 fun v2 w2 F2 H2 g2 r2 n2 q2=>?_
  exact vo Qd Q g2.sub g2.reel (r1.grow g2) r2 q2 fun v3 w3 F3 H3 g3 r3 n3 q3=>k v3 w3 F3 H3 ((g1.trans g2).trans g3) r3 (by
    cases w3 with
    | ml xs=>exact fun a ea=>g1.freeB (g2.freeB (n3 a ea))
    | md xs=>exact fun a ea=>g1.freeB (g2.freeB (n3 a ea))
    | mk xs=>exact fun a ea=>g1.freeB (g2.freeB (n3 a ea))
    | nt _=>trivial
    | lk=>trivial
    | sc _=>trivial
    | fd _=>trivial
    | fw _=>trivial
    | ft _=>trivial
    | xc _ _=>trivial
    | dp _ _=>trivial
    | d _=>trivial
    | pk _=>trivial
    | reel=>trivial
    | vv _=>trivial) q3
theorem pv_op {op:Operator} {r:R2} {g:W -> W -> (W -> Prop) -> Prop} (ho:OpR X (binaryOp op) r) (vo:VOp X rl r g) (ha:PV X rl a fa) (hb:PV X rl b fb):PV X rl (.BinOp a op b pos) (vOp g fa fb) :=
  vop_of vo ha hb fun _ _ p1 p2=>pe_op ho p1 p2
def gI (C:Int -> Int -> Prop) (g:Int -> Int -> PyData):W -> W -> (W -> Prop) -> Prop:=fun x y Q=>∃ i j,x = .d (.int i) /\ y = .d (.int j) /\ C i j /\ Q (.d (g i j))
theorem rep_int {K:W.Frag} {F:Hp} {v:V} {i:Int} (h:Rep K F v (.int i)):v = .int i:=by cases h; rfl
theorem vop_int {C:Int -> Int -> Prop} {g:Int -> Int -> V} {gd:Int -> Int -> PyData} (h:∀ K F i j,Rep K F (g i j) (gd i j)):VOp X rl (rI C g) (gI C gd):=fun {F H x y wx wy} Qd Q s ra r1 r2 q k=>by
  obtain ⟨i,j,rfl,rfl,c,q⟩:=q
  exact ⟨i,j,rep_int r1,rep_int r2,c,k _ (.d _) _ _ (Grow.refl s ra) (h _ _ i j) trivial q⟩
def gI0 (g:Int -> Int -> PyData):W -> W -> (W -> Prop) -> Prop:=fun x y Q=>∃ i j,x = .d (.int i) /\ y = .d (.int j) /\ Q (.d (g i j))
theorem vop_int0 {g:Int -> Int -> V} {gd:Int -> Int -> PyData} (h:∀ K F i j,Rep K F (g i j) (gd i j)):VOp X rl (rI0 g) (gI0 gd):=fun {F H x y wx wy} Qd Q s ra r1 r2 q k=>by
  obtain ⟨i,j,rfl,rfl,q⟩:=q
  exact ⟨i,j,rep_int r1,rep_int r2,k _ (.d _) _ _ (Grow.refl s ra) (h _ _ i j) trivial q⟩
theorem v_add (ha:PV X rl a fa) (hb:PV X rl b fb):PV X rl (.BinOp a .Add b pos) (vOp (gI0 fun i j=>.int (i + j)) fa fb):=pv_op op_add (vop_int0 fun _ _ _ _=>.int _) ha hb
theorem v_sub (ha:PV X rl a fa) (hb:PV X rl b fb):PV X rl (.BinOp a .Sub b pos) (vOp (gI0 fun i j=>.int (i - j)) fa fb):=pv_op op_sub (vop_int0 fun _ _ _ _=>.int _) ha hb
def Big (i:Int):Prop:=i.natAbs < 2 ^ 60000
theorem Big.bits {i:Int} (h:Big i):Builtin.Int.intBits i <= 60000:=intBits_le_iff.mpr h
def CMulB (i j:Int):Prop:=i.natAbs < 2 ^ 64 \/ j.natAbs < 2 ^ 64 \/ (Big i /\ Big j)
theorem CMulB.lt {i j:Int} (h:i.natAbs < 2 ^ 64):CMulB i j:=.inl h
theorem CMulB.rt {i j:Int} (h:j.natAbs < 2 ^ 64):CMulB i j:=.inr (.inl h)
theorem CMulB.ok {i j:Int} (h:CMulB i j):IntMulOk i j:=by
  rcases h with h | h | h
  · exact .of_left (intBits_le_iff.mpr h)
  · exact .of_right (intBits_le_iff.mpr h)
  · exact IntMulOk.of_le h.1.bits h.2.bits (by decide)
theorem op_mulB:OpR X (binaryOp .Mult) (rI CMulB fun i j=>.int (i * j)):=opI fun _ _ _ _ _ _ _ hc q=>mul_int q hc.ok
theorem v_mul (ha:PV X rl a fa) (hb:PV X rl b fb):PV X rl (.BinOp a .Mult b pos) (vOp (gI CMulB fun i j=>.int (i * j)) fa fb):=pv_op op_mulB (vop_int fun _ _ _ _=>.int _) ha hb
def CDivB (_ j:Int):Prop:=j ≠ 0 /\ j.natAbs < 2 ^ 9000
theorem op_fdivB:OpR X (binaryOp .FloorDiv) (rI CDivB fun i j=>.int (i.fdiv j)):=opI fun _ j _ _ _ _ _ hc q=>floordiv_int hc.1 q (.inl (PyProof.noPylong_of_log2 ((Nat.log2_lt (by have:=hc.1; omega)).mpr hc.2)))
theorem v_div (ha:PV X rl a fa) (hb:PV X rl b fb):PV X rl (.BinOp a .FloorDiv b pos) (vOp (gI CDivB fun i j=>.int (i.fdiv j)) fa fb):=pv_op op_fdivB (vop_int fun _ _ _ _=>.int _) ha hb
theorem v_mod (ha:PV X rl a fa) (hb:PV X rl b fb):PV X rl (.BinOp a .Mod b pos) (vOp (gI (fun _ j=>j ≠ 0) fun i j=>.int (i.fmod j)) fa fb):=pv_op op_modN (vop_int fun _ _ _ _=>.int _) ha hb
theorem v_pow (ha:PV X rl a fa) (hb:PV X rl b fb):PV X rl (.BinOp a .Pow b pos) (vOp (gI CPow fun i j=>.int (i ^ j.toNat)) fa fb):=pv_op op_pow (vop_int fun _ _ _ _=>.int _) ha hb
def vNeg (fa:TV):TV:=fun ρ Q=>fa ρ fun x=>∃ i,x = .d (.int i) /\ Q (.d (.int (-i)))
theorem v_neg (ha:PV X rl a fa):PV X rl (.UnaryOp .USub a pos) (vNeg fa):=by
  obtain ⟨ta,p1,k1⟩:=ha
  refine ⟨_,pe_un un_neg p1,fun R Qd Q q k=>k1 R _ _ q fun v w F1 H1 g1 r1 n1 ⟨i,ew,q1⟩=>?_⟩
  subst ew
  exact ⟨i,rep_int r1,k _ (.d _) F1 H1 g1 (.int _) trivial q1⟩

theorem v_cmp {op:CmpOp} {r:R2} {g:W -> W -> (W -> Prop) -> Prop} (ho:OpR X (compareOp op) r) (vo:VOp X rl r g) (hm:behindInMarks op b = false) (ha:PV X rl a fa) (hb:PV X rl b fb):PV X rl (.Compare a [op] [b] pos) (vOp g fa fb) :=
  vop_of vo ha hb fun _ _ p1 p2=>pe_cmpR ho p1 p2 hm
def vTest (f:TV):TB:=fun ρ Q=>f ρ fun w=>∃ k,w = .d (.bool k) /\ Q k
theorem rep_bl {K:W.Frag} {F:Hp} {v:V} {i:Bool} (h:Rep K F v (.bool i)):v = .bl i:=by cases h; rfl
theorem vb_cmp {op:CmpOp} {r:R2} {g:W -> W -> (W -> Prop) -> Prop} (ho:OpR X (compareOp op) r) (vo:VOp X rl r g) (hm:behindInMarks op b = false) (ha:PV X rl a fa) (hb:PV X rl b fb):PB X rl (.Compare a [op] [b] pos) (vTest (vOp g fa fb)):=by
  obtain ⟨ta,p1,k1⟩:=ha
  obtain ⟨tb,p2,k2⟩:=hb
  refine ⟨_,pt_cmpR ho p1 p2 hm,fun R Qd Q q k=>?_⟩
  refine k1 R _ _ q fun v w F1 H1 g1 r1 n1 q1=>?_
  refine k2 (R.grow g1) _ _ q1 fun v2 w2 F2 H2 g2 r2 n2 q2=>?_
  refine vo _ _ g2.sub g2.reel (r1.grow g2) r2 q2 fun v3 w3 F3 H3 g3 r3 n3 ⟨kb,ew,q3⟩=>?_
  subst ew
  exact ⟨kb,rep_bl r3,k kb F3 H3 ((g1.trans g2).trans g3) q3⟩
theorem vb_val (ha:PV X rl e fa) (he:∀ whole,isTrue e X.env whole = (do let v <- whole; standAt e.pos; holding [v] (truthy v)):=by intro _; rfl):PB X rl e (vTest fa):=by
  obtain ⟨ta,p1,k1⟩:=ha
  refine ⟨_,pt_val p1 he,fun R Qd Q q k=>k1 R _ _ q fun v w F1 H1 g1 r1 n1 ⟨kb,ew,q1⟩=>?_⟩
  subst ew
  exact ⟨kb,rep_bl r1,k kb F1 H1 g1 q1⟩
abbrev gCmp (p:Int -> Int -> Bool):=gI0 fun i j=>.bool (p i j)
theorem vo_lt:VOp X rl (rI0 fun i j=>.bl (decide (i < j))) (gCmp fun i j=>decide (i < j)):=vop_int0 fun _ _ _ _=>.bl _
theorem vo_le:VOp X rl (rI0 fun i j=>.bl (decide (i <= j))) (gCmp fun i j=>decide (i <= j)):=vop_int0 fun _ _ _ _=>.bl _
theorem vo_gt:VOp X rl (rI0 fun i j=>.bl (decide (j < i))) (gCmp fun i j=>decide (j < i)):=vop_int0 fun _ _ _ _=>.bl _
theorem vo_ge:VOp X rl (rI0 fun i j=>.bl (decide (j <= i))) (gCmp fun i j=>decide (j <= i)):=vop_int0 fun _ _ _ _=>.bl _
def rEqD (K:W.Frag) (neg:Bool):R2:=fun x y H Q=>∃ dx dy,Rep K H x dx /\ Rep K H y dy /\ SeqAt.shaped dx = true /\ SeqAt.shaped dy = true /\ Q (.bl (if neg then !PyData.eqv dx dy else PyData.eqv dx dy)) H
theorem op_eqD (hu:X.A.units + 64 < cLine):OpR X (compareOp .Eq) (rEqD X.K false):=by
  intro pins s σ H x y v u Q I rx ry ⟨dx,dy,h1,h2,s1,s2,q⟩
  obtain ⟨as,a1⟩:=Rep.reads I (.refl H) h1 v rx
  obtain ⟨bs,a2⟩:=Rep.reads I (.refl H) h2 u ry
  exact SeqAt.compareEq_shaped a1 a2 s1 s2 hu ⟨.bl _,H,I,rfl,q⟩
theorem op_neD (hu:X.A.units + 64 < cLine):OpR X (compareOp .NotEq) (rEqD X.K true):=by
  intro pins s σ H x y v u Q I rx ry ⟨dx,dy,h1,h2,s1,s2,q⟩
  obtain ⟨as,a1⟩:=Rep.reads I (.refl H) h1 v rx
  obtain ⟨bs,a2⟩:=Rep.reads I (.refl H) h2 u ry
  exact SeqAt.compareNe_shaped a1 a2 s1 s2 hu ⟨.bl _,H,I,rfl,q⟩
def gEqD (neg:Bool):W -> W -> (W -> Prop) -> Prop:=fun x y Q=>∃ dx dy,x.dat = some dx /\ y.dat = some dy /\ SeqAt.shaped dx = true /\ SeqAt.shaped dy = true /\ Q (.d (.bool (if neg then !PyData.eqv dx dy else PyData.eqv dx dy)))
theorem vo_eqD {neg:Bool}:VOp X rl (rEqD X.K neg) (gEqD neg):=fun {F H x y wx wy} Qd Q s ra r1 r2 q k=>by
  obtain ⟨dx,dy,e1,e2,s1,s2,q⟩:=q
  exact ⟨dx,dy,r1.dat s e1,r2.dat s e2,s1,s2,k _ (.d _) _ _ (Grow.refl s ra) (.bl _) trivial q⟩
def vAnd (f g:TB):TB:=fun ρ Q=>f ρ fun b=>if b = true then g ρ Q else Q false
def vOr (f g:TB):TB:=fun ρ Q=>f ρ fun b=>if b = true then Q true else g ρ Q
def vNot (f:TB):TB:=fun ρ Q=>f ρ fun b=>Q (!b)
def PBW (X:Cx) (rl:Option Addr) (e:Expr) (f:TB):Prop:=∃ t,PW X e t /\ ∀ {F₀ H₀ F H:Hp} {σ:St} {ρ:En},VR X.K rl F₀ H₀ F H σ ρ -> ∀ (Qd:Bool -> Prop) (Q:Bool -> Hp -> Prop),f ρ Qd ->
  (∀ b F' H',Grow rl F H F' H' -> Qd b -> Q b H') -> t σ H Q
variable {f g:TB} {rest:List Expr}
theorem PBW.pb (h:PBW X rl e f):PB X rl e f:=let ⟨t,p,k⟩:=h; ⟨t,p.pt,k⟩
theorem vb_and1 (ha:PB X rl a f):PBW X rl (.BoolOp .And [a] pos) f:=let ⟨t,p,k⟩:=ha; ⟨t,pw_and1 p,k⟩
theorem vb_or1 (ha:PB X rl a f):PBW X rl (.BoolOp .Or [a] pos) f:=let ⟨t,p,k⟩:=ha; ⟨t,pw_or1 p,k⟩
theorem vb_and (ha:PB X rl a f) (hb:PBW X rl (.BoolOp .And (b :: rest) pos) g):PBW X rl (.BoolOp .And (a :: b :: rest) pos) (vAnd f g):=by
  obtain ⟨t,p,k⟩:=ha
  obtain ⟨t2,p2,k2⟩:=hb
  refine ⟨_,pw_and p p2,fun R Qd Q q h=>k R _ _ q fun c F1 H1 g1 q1=>?_⟩
  cases c with
  | true=>exact k2 (R.grow g1) _ _ q1 fun c F2 H2 g2 q2=>h c F2 H2 (g1.trans g2) q2
  | false=>exact h false F1 H1 g1 q1
theorem vb_or (ha:PB X rl a f) (hb:PBW X rl (.BoolOp .Or (b :: rest) pos) g):PBW X rl (.BoolOp .Or (a :: b :: rest) pos) (vOr f g):=by
  obtain ⟨t,p,k⟩:=ha
  obtain ⟨t2,p2,k2⟩:=hb
  refine ⟨_,pw_or p p2,fun R Qd Q q h=>k R _ _ q fun c F1 H1 g1 q1=>?_⟩
  cases c with
  | true=>exact h true F1 H1 g1 q1
  | false=>exact k2 (R.grow g1) _ _ q1 fun c F2 H2 g2 q2=>h c F2 H2 (g1.trans g2) q2
theorem vb_not (ha:PB X rl a f):PB X rl (.UnaryOp .Not a pos) (vNot f):=by
  obtain ⟨t,p,k⟩:=ha
  exact ⟨_,pt_not p,fun R Qd Q q h=>k R _ _ q fun c F1 H1 g1 q1=>h (!c) F1 H1 g1 q1⟩
def vAndV (fa fb:TV):TV:=fun ρ Q=>fa ρ fun w=>∃ c,w = .d (.bool c) /\ if c = true then fb ρ Q else Q (.d (.bool false))
def vOrV (fa fb:TV):TV:=fun ρ Q=>fa ρ fun w=>∃ c,w = .d (.bool c) /\ if c = true then Q (.d (.bool true)) else fb ρ Q
def vNotV (fa:TV):TV:=fun ρ Q=>fa ρ fun w=>∃ c,w = .d (.bool c) /\ Q (.d (.bool (!c)))
theorem NewIn.back {rl:Option Addr} {F H F' H':Hp} {v:V} {w:W} (g:Grow rl F H F' H') (n:NewIn H' v w):NewIn H v w:=by
  cases w with
  | ml xs=>exact fun a ea=>g.freeB (n a ea)
  | md xs=>exact fun a ea=>g.freeB (n a ea)
  | mk xs=>exact fun a ea=>g.freeB (n a ea)
  | nt _=>trivial
  | lk=>trivial
  | sc _=>trivial
  | fd _=>trivial
  | fw _=>trivial
  | ft _=>trivial
  | xc _ _=>trivial
  | dp _ _=>trivial
  | d _=>trivial
  | pk _=>trivial
  | reel=>trivial
  | vv _=>trivial
theorem v_one {op} (ha:PV X rl a fa):PV X rl (.BoolOp op [a] pos) fa:=let ⟨t,p,k⟩:=ha; ⟨t,pe_one p,k⟩
theorem v_and (ha:PV X rl a fa) (hb:PV X rl (.BoolOp .And (b :: rest) pos) fb):PV X rl (.BoolOp .And (a :: b :: rest) pos) (vAndV fa fb):=by
  obtain ⟨t,p,k⟩:=ha
  obtain ⟨t2,p2,k2⟩:=hb
  refine ⟨_,pe_and p p2,fun R Qd Q q h=>k R _ _ q fun v w F1 H1 g1 r1 n1 ⟨c,ew,q1⟩=>?_⟩
  subst ew
  refine ⟨c,rep_bl r1,?_⟩
  cases c with
  | true=>exact k2 (R.grow g1) _ _ q1 fun v w F2 H2 g2 r2 n2 q2=>h v w F2 H2 (g1.trans g2) r2 (n2.back g1) q2
  | false=>exact h _ (.d _) F1 H1 g1 (.bl false) trivial q1
theorem v_or (ha:PV X rl a fa) (hb:PV X rl (.BoolOp .Or (b :: rest) pos) fb):PV X rl (.BoolOp .Or (a :: b :: rest) pos) (vOrV fa fb):=by
  obtain ⟨t,p,k⟩:=ha
  obtain ⟨t2,p2,k2⟩:=hb
  refine ⟨_,pe_or p p2,fun R Qd Q q h=>k R _ _ q fun v w F1 H1 g1 r1 n1 ⟨c,ew,q1⟩=>?_⟩
  subst ew
  refine ⟨c,rep_bl r1,?_⟩
  cases c with
  | false=>exact k2 (R.grow g1) _ _ q1 fun v w F2 H2 g2 r2 n2 q2=>h v w F2 H2 (g1.trans g2) r2 (n2.back g1) q2
  | true=>exact h _ (.d _) F1 H1 g1 (.bl true) trivial q1
theorem v_not (ha:PV X rl a fa):PV X rl (.UnaryOp .Not a pos) (vNotV fa):=by
  obtain ⟨t,p,k⟩:=ha
  refine ⟨_,pe_not p,fun R Qd Q q h=>k R _ _ q fun v w F1 H1 g1 r1 n1 ⟨c,ew,q1⟩=>?_⟩
  subst ew
  exact ⟨c,rep_bl r1,h _ (.d _) F1 H1 g1 (.bl _) trivial q1⟩
def vIf (t:TB) (fa fb:TV):TV:=fun ρ Q=>t ρ fun c=>if c = true then fa ρ Q else fb ρ Q
theorem v_ifExp {c:Expr} (hc:PB X rl c f) (ha:PV X rl a fa) (hb:PV X rl b fb):PV X rl (.IfExp c a b pos) (vIf f fa fb):=by
  obtain ⟨t,p,k⟩:=hc
  obtain ⟨t1,p1,k1⟩:=ha
  obtain ⟨t2,p2,k2⟩:=hb
  refine ⟨_,pe_ifExp p p1 p2,fun R Qd Q q h=>k R _ _ q fun c F1 H1 g1 q1=>?_⟩
  cases c with
  | true=>exact k1 (R.grow g1) _ _ q1 fun v w F2 H2 g2 r2 n2 q2=>h v w F2 H2 (g1.trans g2) r2 (n2.back g1) q2
  | false=>exact k2 (R.grow g1) _ _ q1 fun v w F2 H2 g2 r2 n2 q2=>h v w F2 H2 (g1.trans g2) r2 (n2.back g1) q2

def dats:List W -> Option (List PyData)
  | []=>some []
  | .d x :: r=>(dats r).map (x :: ·)
  | _ :: _=>none
theorem dats_rel {K:W.Frag} {F H:Hp}:∀ {vs:List V} {ws:List W} {ds:List PyData},RelWs K rl F H vs ws -> dats ws = some ds -> Reps K F vs ds
  | _,_,_,.nil,e=>by cases e; exact .nil
  | _,.d x :: ws,ds,.cons r rs,e=>by
    have e:(dats ws).map (x :: ·) = some ds:=e
    cases q:dats ws with
    | none=>rw [q] at e; cases e
    | some es=>rw [q] at e; cases e; exact .cons r (dats_rel rs q)
  | _,.ml x :: ws,ds,.cons r rs,e=>by cases (show none = some ds from e)
  | _,.pk x :: ws,ds,.cons r rs,e=>by cases (show none = some ds from e)
  | _,.reel :: ws,ds,.cons r rs,e=>by cases (show none = some ds from e)
  | _,.vv u :: ws,ds,.cons r rs,e=>by cases (show none = some ds from e)
  | _,.md u :: ws,ds,.cons r rs,e=>by cases (show none = some ds from e)
  | _,.nt u :: ws,ds,.cons r rs,e=>by cases (show none = some ds from e)
  | _,.lk :: ws,ds,.cons r rs,e=>by cases (show none = some ds from e)
  | _,.sc _ :: ws,ds,.cons r rs,e=>by cases (show none = some ds from e)
  | _,.fd _ :: ws,ds,.cons r rs,e=>by cases (show none = some ds from e)
  | _,.xc _ _ :: ws,ds,.cons r rs,e=>by cases (show none = some ds from e)
  | _,.mk _ :: ws,ds,.cons r rs,e=>by cases (show none = some ds from e)
  | _,.fw _ :: ws,ds,.cons r rs,e=>by cases (show none = some ds from e)
  | _,.ft _ :: ws,ds,.cons r rs,e=>by cases (show none = some ds from e)
  | _,.dp _ _ :: ws,ds,.cons r rs,e=>by cases (show none = some ds from e)
def vTup (fs:TVs):TV:=fun ρ Q=>fs ρ fun ws=>∃ ds,dats ws = some ds /\ ds.length <= sizeLine /\ Q (.d (.tuple ds))
def vLst (fs:TVs):TV:=fun ρ Q=>fs ρ fun ws=>∃ ds,dats ws = some ds /\ ds.length <= sizeLine /\ Q (.ml ds)
theorem v_tup {x1} (h:PVs X rl es fs):PV X rl (.Tuple es x1 pos) (vTup fs):=by
  obtain ⟨t,p,k⟩:=h
  refine ⟨_,pe_tup p,fun R Qd Q q h=>k R _ _ q fun vs ws F1 H1 g1 r1 ⟨ds,e1,z,q1⟩=>?_⟩
  have rs:=dats_rel r1 e1
  refine ⟨by rw [rs.length]; exact z,fun p hp=>?_⟩
  have g2:=g1.trans (Grow.data (a:=p) (o:=.tup vs) g1.sub g1.reel hp)
  exact h _ (.d (.tuple ds)) _ _ g2 (.tup (.inl (.inl upd_same)) (rs.mono (Grow.data (o:=.tup vs) g1.sub g1.reel hp).fs)) trivial q1
theorem own_laid {K:W.Frag} {F H:Hp} {p:Addr} {vs:List V} {ds:List PyData} (s:Same F H) (ra:RAt rl F H) (hp:H p = none) (rs:Reps K F vs ds):OwnL K rl F (upd H p (.lst vs)) (.ref p) ds:=by
  refine ⟨p,vs,rfl,s.free hp,fun e=>?_,upd_same,rs⟩
  obtain ⟨o,q⟩:=ra.live e
  rw [hp] at q
  cases q
theorem v_lst (h:PVs X rl es fs):PV X rl (.List es pos) (vLst fs):=by
  obtain ⟨t,p,k⟩:=h
  refine ⟨_,pe_lst p,fun R Qd Q q h=>k R _ _ q fun vs ws F1 H1 g1 r1 ⟨ds,e1,z,q1⟩=>?_⟩
  have rs:=dats_rel r1 e1
  refine ⟨by rw [rs.length]; exact z,fun p hp=>?_⟩
  exact h _ (.ml ds) _ _ (g1.trans (Grow.laid (a:=p) (o:=.lst vs) g1.sub g1.reel hp)) (own_laid g1.sub g1.reel hp rs) (fun a ea=>by cases ea; exact g1.freeB hp) q1

def itemAt:PyData -> Int -> Option PyData
  | .list xs,i=>atI xs i
  | .tuple xs,i=>atI xs i
  | _,_=>none
theorem Reps.atI {K:W.Frag} {F:Hp} {vs:List V} {ds:List PyData} {i:Int} {d:PyData} (r:Reps K F vs ds) (e:L2.atI ds i = some d):∃ v,L2.atI vs i = some v /\ Rep K F v d:=by
  unfold L2.atI at e ⊢
  rw [r.length]
  cases q:ixN ds.length i with
  | none=>rw [q] at e; cases e
  | some j =>
    rw [q] at e
    exact r.get e
def gIx:W -> W -> (W -> Prop) -> Prop:=fun x y Q=>∃ dx i z,x.dat = some dx /\ y = .d (.int i) /\ itemAt dx i = some z /\ Q (.d z)
theorem vo_ix:VOp X rl (rIx X.K) gIx:=fun {F H x y wx wy} Qd Q s ra r1 r2 q k=>by
  obtain ⟨dx,i,z,e1,rfl,e3,q⟩:=q
  have ey:=rep_int r2
  subst ey
  cases dx with
  | list xs =>
    obtain ⟨a,vs,rfl,sq,rs⟩:=r1.items s e1
    obtain ⟨v,e4,rz⟩:=Reps.atI rs e3
    exact .inl ⟨a,vs,i,v,rfl,rfl,sq,e4,k _ (.d _) _ _ (Grow.refl s ra) rz trivial q⟩
  | tuple xs =>
    obtain ⟨a,vs,rfl,sq,rs⟩:=r1.itemsT s e1
    obtain ⟨v,e4,rz⟩:=Reps.atI rs e3
    exact .inr (.inl ⟨a,vs,i,v,rfl,rfl,sq,e4,k _ (.d _) _ _ (Grow.refl s ra) rz trivial q⟩)
  | none=>cases e3
  | bool b=>cases e3
  | int b=>cases e3
  | str b=>cases e3
  | dict b=>cases e3
theorem v_ix (ha:PV X rl a fa) (hb:PV X rl b fb) (hs:PlainIx b:=by exact fun _ _=>rfl):PV X rl (.Subscript a b pos) (vOp gIx fa fb):=vop_of vo_ix ha hb fun _ _ p1 p2=>pe_ix ix_seq p1 p2 hs

def VCall (X:Cx) (rl:Option Addr) (r:List V -> Hp -> VK -> Prop) (g:List W -> (W -> Prop) -> Prop):Prop:=∀ {F H:Hp} {vs:List V} {ws:List W} (Qd:W -> Prop) (Q:VK),Same F H -> RAt rl F H -> RelWs X.K rl F H vs ws -> g ws Qd ->
  (∀ v w F' H',Grow rl F H F' H' -> RelW X.K rl F' H' v w -> NewIn H v w -> Qd w -> Q v H') -> r vs H Q
def vCall (g:List W -> (W -> Prop) -> Prop) (fs:TVs):TV:=fun ρ Q=>fs ρ fun ws=>g ws Q
theorem vcall_of {r:List V -> Hp -> VK -> Prop} {g:List W -> (W -> Prop) -> Prop} {t:TA -> TE} (vc:VCall X rl r g) (ha:PVs X rl es fs) {e:Expr} (hp:∀ ta,PA X es ta -> PE X e (tCB r ta)):PV X rl e (vCall g fs):=by
  obtain ⟨ta,p1,k1⟩:=ha
  refine ⟨_,hp ta p1,fun R Qd Q q k=>k1 R _ _ q fun vs ws F1 H1 g1 r1 q1=>?_⟩
  exact vc Qd Q g1.sub g1.reel r1 q1 fun v w F2 H2 g2 r2 n2 q2=>k v w F2 H2 (g1.trans g2) r2 (n2.back g1) q2
theorem v_callB {id:String} {x:Str} {r:List V -> Hp -> VK -> Prop} {g:List W -> (W -> Prop) -> Prop} (hc:CallR X (.builtin id) r) (vc:VCall X rl r g) (hm:X.mg x = none) (hv:bootBuiltins x = some (.builtin id)) (ha:PVs X rl (e :: es) fs) (hg:Gl X x:=by rfl) (hn:x ≠ "__name__" := by decide) (hdb:(x == ("__debug__" : Str)) = false:=by decide)
    (he:starEach (e :: es) X.env = (false,eval e X.env) :: starEach es X.env:=by rfl) (hpl:(backTo pos (starEach es X.env)).any (·.1) = false:=by rfl):PV X rl (.Call (.Name x p) (e :: es) [] pos) (vCall g fs) :=
  vcall_of (t:=fun _=>tC .non) vc ha fun _ p1=>pe_callB hc hg hm hv p1 hn hdb he hpl
theorem v_callTy {T:String} {x:Str} {r:List V -> Hp -> VK -> Prop} {g:List W -> (W -> Prop) -> Prop} (hc:CallR X (.type T) r) (vc:VCall X rl r g) (hm:X.mg x = none) (hv:bootBuiltins x = some (.type T)) (ha:PVs X rl (e :: es) fs) (hg:Gl X x:=by rfl) (hn:x ≠ "__name__" := by decide) (hdb:(x == ("__debug__" : Str)) = false:=by decide)
    (he:starEach (e :: es) X.env = (false,eval e X.env) :: starEach es X.env:=by rfl) (hpl:(backTo pos (starEach es X.env)).any (·.1) = false:=by rfl):PV X rl (.Call (.Name x p) (e :: es) [] pos) (vCall g fs) :=
  vcall_of (t:=fun _=>tC .non) vc ha fun _ p1=>pe_callTy hc hg hm hv p1 hn hdb he hpl
theorem rel1 {K:W.Frag} {F H:Hp} {vs:List V} {w:W} (r:RelWs K rl F H vs [w]):∃ v,vs = [v] /\ RelW K rl F H v w:=by
  cases r with
  | cons r1 r2=>cases r2; exact ⟨_,rfl,r1⟩
theorem rel2 {K:W.Frag} {F H:Hp} {vs:List V} {w w':W} (r:RelWs K rl F H vs [w,w']):∃ v u,vs = [v,u] /\ RelW K rl F H v w /\ RelW K rl F H u w':=by
  cases r with
  | cons r1 r2 =>
    cases r2 with
    | cons r3 r4=>cases r4; exact ⟨_,_,rfl,r1,r3⟩
def gAbs:List W -> (W -> Prop) -> Prop:=fun ws Q=>∃ i,ws = [.d (.int i)] /\ Q (.d (.int (if i < 0 then -i else i)))
theorem vc_abs:VCall X rl (fun xs H Q=>∃ i,xs = [.int i] /\ Q (.int (if i < 0 then -i else i)) H) gAbs:=fun {F H vs ws} Qd Q s ra r ⟨i,ew,q⟩ k=>by
  subst ew
  obtain ⟨v,rfl,r1⟩:=rel1 r
  have e:=rep_int r1
  subst e
  exact ⟨i,rfl,k _ (.d _) _ _ (Grow.refl s ra) (.int _) trivial q⟩
def lenD:PyData -> Option Nat
  | .list xs=>some xs.length
  | .tuple xs=>some xs.length
  | _=>none
def gLen:List W -> (W -> Prop) -> Prop:=fun ws Q=>∃ w d n,ws = [w] /\ w.dat = some d /\ lenD d = some n /\ Q (.d (.int n))
theorem vc_len:VCall X rl (fun xs H Q=>∃ p ys,xs = [.ref p] /\ (SqL X.K H p ys \/ SqT X.K H p ys) /\ Q (.int ys.length) H) gLen:=fun {F H vs ws} Qd Q s ra r ⟨w,d,n,ew,e1,e2,q⟩ k=>by
  subst ew
  obtain ⟨v,rfl,r1⟩:=rel1 r
  cases d with
  | list xs =>
    obtain ⟨a,vs,rfl,sq,rs⟩:=r1.items s e1
    cases e2
    exact ⟨a,vs,rfl,.inl sq,k _ (.d _) _ _ (Grow.refl s ra) (by rw [rs.length]; exact .int _) trivial q⟩
  | tuple xs =>
    obtain ⟨a,vs,rfl,sq,rs⟩:=r1.itemsT s e1
    cases e2
    exact ⟨a,vs,rfl,.inr sq,k _ (.d _) _ _ (Grow.refl s ra) (by rw [rs.length]; exact .int _) trivial q⟩
  | none=>cases e2
  | bool b=>cases e2
  | int b=>cases e2
  | str b=>cases e2
  | dict b=>cases e2
end
end L2.VL

namespace L2.VL
open PySem PySem.Spec PyProof.Rows

structure VEnds where
  nx:En -> Prop
  rt:W -> Prop
  bk:En -> Prop:=fun _=>False
  ct:En -> Prop:=fun _=>False
structure EndsOk (K:W.Frag) (rl:Option Addr) (F₀ H₀ Fs:Hp) (Dv:VEnds) (D:Ends):Prop where
  nx:∀ F H σ ρ,Same Fs F -> VR K rl F₀ H₀ F H σ ρ -> Dv.nx ρ -> D.nx σ H
  rt:∀ v w F H,Grow rl F₀ H₀ F H -> RelW K rl F H v w -> NewIn H₀ v w -> Dv.rt w -> D.rt v H
  bk:∀ F H σ ρ,Same Fs F -> VR K rl F₀ H₀ F H σ ρ -> Dv.bk ρ -> D.bk σ H
  ct:∀ F H σ ρ,Same Fs F -> VR K rl F₀ H₀ F H σ ρ -> Dv.ct ρ -> D.ct σ H
theorem EndsOk.on {K:W.Frag} {rl:Option Addr} {F₀ H₀ Fs F:Hp} {Dv:VEnds} {D:Ends} (ok:EndsOk K rl F₀ H₀ Fs Dv D) (s:Same Fs F):EndsOk K rl F₀ H₀ F Dv D :=
  ⟨fun F1 H σ ρ s1=>ok.nx F1 H σ ρ (s.trans s1),ok.rt,fun F1 H σ ρ s1=>ok.bk F1 H σ ρ (s.trans s1),fun F1 H σ ρ s1=>ok.ct F1 H σ ρ (s.trans s1)⟩
abbrev TSv:=VEnds -> En -> Prop
def PSV (X:Cx) (rl:Option Addr) (st:Stmt) (t:TSv):Prop:=∃ T,PS X st T /\ ∀ {F₀ H₀ F H:Hp} {σ:St} {ρ:En},VR X.K rl F₀ H₀ F H σ ρ -> ∀ Dv D,EndsOk X.K rl F₀ H₀ F Dv D -> t Dv ρ -> T D σ H
def PSsV (X:Cx) (rl:Option Addr) (st:List Stmt) (t:TSv):Prop:=∃ T,PSs X st T /\ ∀ {F₀ H₀ F H:Hp} {σ:St} {ρ:En},VR X.K rl F₀ H₀ F H σ ρ -> ∀ Dv D,EndsOk X.K rl F₀ H₀ F Dv D -> t Dv ρ -> T D σ H

section
variable {X:Cx} {rl:Option Addr} {st:Stmt} {rest body:List Stmt} {t u:TSv} {a b c e:Expr} {es:List Expr} {fa fb:TV} {fs:TVs} {f:TB} {pos p:Pos}
def vNext:TSv:=fun D ρ=>D.nx ρ
def vSeq (t u:TSv):TSv:=fun D ρ=>t { D with nx:=u D } ρ
theorem vs_nil:PSsV X rl [] vNext:=⟨_,pss_nil,fun R Dv D ok q=>ok.nx _ _ _ _ (.refl _) R q⟩
theorem vs_one (h:PSV X rl st t):PSsV X rl [st] t:=let ⟨T,p,k⟩:=h; ⟨T,pss_one p,k⟩
theorem vs_cons (h:PSV X rl st t) (h2:PSsV X rl rest u):PSsV X rl (st :: rest) (vSeq t u):=by
  obtain ⟨T,p,k⟩:=h
  obtain ⟨T2,p2,k2⟩:=h2
  exact ⟨_,pss_cons p p2,fun R Dv D ok q=>k R { Dv with nx:=u Dv } { D with nx:=T2 D } ⟨fun F H σ ρ s' R' q'=>k2 R' Dv D (ok.on s') q',ok.rt,ok.bk,ok.ct⟩ q⟩
def vRet (fa:TV):TSv:=fun D ρ=>fa ρ D.rt
theorem vs_ret (h:PV X rl e fa):PSV X rl (.Return (some e) pos) (vRet fa):=by
  obtain ⟨t,p,k⟩:=h
  exact ⟨_,ps_ret p,fun R Dv D ok q=>k R _ _ q fun v w F1 H1 g1 r1 n1 q1=>ok.rt v w F1 H1 (R.g.trans g1) r1 (n1.back R.g) q1⟩
def vIfS (f:TB) (t u:TSv):TSv:=fun D ρ=>f ρ fun b=>if b = true then t D ρ else u D ρ
theorem vs_if {A B:List Stmt} (hc:PB X rl c f) (ha:PSsV X rl A t) (hb:PSsV X rl B u):PSV X rl (.If c A B pos) (vIfS f t u):=by
  obtain ⟨t0,p0,k0⟩:=hc
  obtain ⟨t1,p1,k1⟩:=ha
  obtain ⟨t2,p2,k2⟩:=hb
  refine ⟨_,ps_if p0 p1 p2,fun R Dv D ok q=>k0 R _ _ q fun b F1 H1 g1 q1=>?_⟩
  cases b with
  | true=>exact k1 (R.grow g1) Dv D (ok.on g1.fs) q1
  | false=>exact k2 (R.grow g1) Dv D (ok.on g1.fs) q1
def W.isPk:W -> Bool
  | .pk _=>true
  | _=>false
def vSet (i:Nat) (fa:TV):TSv:=fun D ρ=>fa ρ fun w=>w.isPk = false /\ D.nx (ρ.set i (some w))
theorem vs_set (i:Nat) {x:Str} {pos':Pos} (hN:X.N.Nodup) (he:PV X rl e fa) (hi:X.N[i]? = some x:=by rfl) (hx:Loc X.env.scope x:=by first | exact Or.inl rfl | exact Or.inr rfl)
    (hs:swapsWith e (some (.Name x pos')) pos.line X.env = pure false:=by rfl) (hf:X.fn x = true \/ X.env.scope.names.lookup x = some .local:=by first | exact .inl rfl | exact .inr rfl) :
    PSV X rl (.Assign [.Name x pos'] e pos) (vSet i fa):=by
  obtain ⟨t,p,k⟩:=he
  refine ⟨_,ps_set hN hi hx p hs hf,fun R Dv D ok q=>k R _ _ q fun v w F1 H1 g1 r1 n1 ⟨hp,q1⟩=>?_⟩
  exact ok.nx _ _ _ _ g1.fs (R.set g1 r1 n1 (fun xs z=>by subst z; cases hp) i) q1

def NoMl (ρ:En):Prop:=∀ (i:Nat) (w:W),ρ[i]? = some (some w) -> w.own = false
theorem NoMl.set {ρ:En} (h:NoMl ρ) (i:Nat) (x:PyData):NoMl (ρ.set i (some (.d x))):=fun j w z=>by
  rw [List.getElem?_set] at z
  split at z
  · split at z
    · cases z; rfl
    · cases z
  · exact h j w z
abbrev TGv:=PyData -> En -> (En -> Prop) -> Prop
abbrev TGvs:=List PyData -> En -> (En -> Prop) -> Prop
def PGV (X:Cx) (rl:Option Addr) (tg:Expr) (g:TGv):Prop:=∃ G,PG X tg G /\ ∀ {F₀ H₀ F H:Hp} {σ:St} {ρ:En},VR X.K rl F₀ H₀ F H σ ρ -> ∀ (v:V) (x:PyData) (Qd:En -> Prop) (Q:St -> Hp -> Prop),Rep X.K F v x -> g x ρ Qd ->
  (∀ F' H' σ' ρ',Grow rl F H F' H' -> (NoMl ρ -> NoMl ρ') -> VR X.K rl F₀ H₀ F' H' σ' ρ' -> Qd ρ' -> Q σ' H') -> G v σ H Q
def PGVs (X:Cx) (rl:Option Addr) (tgs:List Expr) (g:TGvs):Prop:=∃ G,PGs X tgs G /\ ∀ {F₀ H₀ F H:Hp} {σ:St} {ρ:En},VR X.K rl F₀ H₀ F H σ ρ -> ∀ (vs:List V) (xs:List PyData) (Qd:En -> Prop) (Q:St -> Hp -> Prop),Reps X.K F vs xs -> g xs ρ Qd ->
  (∀ F' H' σ' ρ',Grow rl F H F' H' -> (NoMl ρ -> NoMl ρ') -> VR X.K rl F₀ H₀ F' H' σ' ρ' -> Qd ρ' -> Q σ' H') -> G vs σ H Q
def hName (i:Nat):TGv:=fun x ρ Q=>Q (ρ.set i (some (.d x)))
theorem vg_name (i:Nat) {x:Str} (hN:X.N.Nodup) (hi:X.N[i]? = some x:=by rfl) (hx:Loc X.env.scope x:=by first | exact Or.inl rfl | exact Or.inr rfl) (hf:X.fn x = true \/ X.env.scope.names.lookup x = some .local:=by first | exact .inl rfl | exact .inr rfl):PGV X rl (.Name x pos) (hName i) :=
  ⟨_,pg_name hN hi hx hf,fun R v x Qd Q r q k=>k _ _ _ _ (Grow.refl R.sub R.reel) (fun n=>n.set i x) (R.set (w:=.d x) (Grow.refl R.sub R.reel) r trivial (fun _ z=>by cases z) i) q⟩
def hNil:TGvs:=fun xs ρ Q=>xs = [] /\ Q ρ
def hCons (g:TGv) (gs:TGvs):TGvs:=fun xs ρ Q=>∃ y r,xs = y :: r /\ g y ρ fun ρ'=>gs r ρ' Q
theorem vgs_nil:PGVs X rl [] hNil:=⟨_,pgs_nil,fun R vs xs Qd Q r ⟨e,q⟩ k=>by subst e; exact ⟨r.nil_iff,k _ _ _ _ (Grow.refl R.sub R.reel) (fun n=>n) R q⟩⟩
theorem vgs_cons {g:TGv} {gs:TGvs} (h1:PGV X rl e g) (h2:PGVs X rl es gs) (hs:(assignEach (e :: es) X.env).map (·.2) = assign e X.env :: (assignEach es X.env).map (·.2):=by rfl):PGVs X rl (e :: es) (hCons g gs):=by
  obtain ⟨G,p,k⟩:=h1
  obtain ⟨G2,p2,k2⟩:=h2
  refine ⟨_,pgs_cons p p2 hs,fun R vs xs Qd Q r ⟨y,ys,ex,q⟩ h=>?_⟩
  subst ex
  cases r with
  | cons r1 r2 =>
    refine ⟨_,_,rfl,k R _ y _ _ r1 q fun F1 H1 σ1 ρ1 s1 n1 R1 q1=>?_⟩
    exact k2 R1 _ ys _ _ (r2.mono s1.fs) q1 fun F2 H2 σ2 ρ2 s2 n2 R2 q2=>h F2 H2 σ2 ρ2 (s1.trans s2) (fun n=>n2 (n1 n)) R2 q2
def hTup (n:Nat) (gs:TGvs):TGv:=fun x ρ Q=>∃ xs,x = .tuple xs /\ xs.length = n /\ gs xs ρ Q
theorem vg_tup {kk:Nat} {gs:TGvs} {n:Nat} (hc:X.calm = true) (h:PGVs X rl es gs) (hn:(assignEach es X.env).length = n:=by rfl) (hst:(assignEach es X.env).findIdx? (·.1) = none:=by rfl):PGV X rl (.Tuple es kk pos) (hTup n gs):=by
  obtain ⟨G,p,k⟩:=h
  refine ⟨_,pg_tup hc p hn hst,fun R v x Qd Q r ⟨xs,ex,hl,q⟩ h=>?_⟩
  subst ex
  cases r with
  | tup sq rs=>exact ⟨_,_,rfl,sameT R.sub sq,by rw [rs.length]; exact hl,k R _ xs _ _ rs q h⟩
def vAsg (fa:TV) (g:TGv):TSv:=fun D ρ=>fa ρ fun w=>∃ x,w = .d x /\ g x ρ D.nx
theorem vs_asg {tg:Expr} {g:TGv} (he:PV X rl e fa) (hg:PGV X rl tg g) (hs:swapsWithSole [tg] e pos.line X.env = pure false:=by rfl) (hw:swappedStores [tg] e X.env = pure none:=by rfl)
    (h1:(assignEach [tg] X.env).map (·.2) = [assign tg X.env]:=by rfl):PSV X rl (.Assign [tg] e pos) (vAsg fa g):=by
  obtain ⟨t,p,k⟩:=he
  obtain ⟨G,p2,k2⟩:=hg
  refine ⟨_,ps_asg p p2 hs hw h1,fun R Dv D ok q=>k R _ _ q fun v w F1 H1 g1 r1 n1 ⟨x,ew,q1⟩=>?_⟩
  subst ew
  exact k2 (R.grow g1) v x _ _ r1 q1 fun F2 H2 σ2 ρ2 s2 n2 R2 q2=>ok.nx _ _ _ _ (g1.fs.trans s2.fs) R2 q2
def vPar (i j:Nat) (fs:TVs):TSv:=fun D ρ=>fs ρ fun ws=>∃ x y,dats ws = some [x,y] /\ D.nx ((ρ.set i (some (.d x))).set j (some (.d y)))
theorem vs_par (i j:Nat) {x y:Str} {px py pt:Pos} {kt k2 pt2} (hc:X.calm = true) (hN:X.N.Nodup) (ha:PVs X rl [a,b] fs)
    (hw:swappedStores [.Tuple [.Name x px,.Name y py] kt pt] (.Tuple [a,b] k2 pt2) X.env = pure (some [x,y]):=by rfl) (hi:X.N[i]? = some x:=by rfl) (hj:X.N[j]? = some y:=by rfl) (hij:i ≠ j:=by decide)
    (hx:X.env.scope.names.lookup x = some .local:=by rfl) (hy:X.env.scope.names.lookup y = some .local:=by rfl)
    (hs:swapsWithSole [.Tuple [.Name x px,.Name y py] kt pt] (.Tuple [a,b] k2 pt2) pos.line X.env = pure false:=by rfl) :
    PSV X rl (.Assign [.Tuple [.Name x px,.Name y py] kt pt] (.Tuple [a,b] k2 pt2) pos) (vPar i j fs):=by
  obtain ⟨t,p,k⟩:=ha
  refine ⟨_,ps_par hc hN hi hj hij hx hy p hw hs,fun R Dv D ok q=>k R _ _ q fun vs ws F1 H1 g1 r1 ⟨x,y,e1,q1⟩=>?_⟩
  have rs:=dats_rel r1 e1
  cases rs with
  | cons rx rs =>
    cases rs with
    | cons ry rs =>
      cases rs
      have R1:=(R.grow g1).set (w:=.d x) (Grow.refl g1.sub g1.reel) rx trivial (fun _ z=>by cases z) i
      exact ⟨_,_,rfl,ok.nx _ _ _ _ g1.fs (R1.set (w:=.d y) (Grow.refl g1.sub g1.reel) ry trivial (fun _ z=>by cases z) j) q1⟩

structure VIt (K:W.Frag) (rl:Option Addr) (F:Hp) (J:It) (xs:List PyData):Prop where
  go:∀ i H x,xs[i]? = some x -> Same F H -> J.go i H
  stop:∀ i H,xs.length <= i -> Same F H -> J.stop i H
  yld:∀ i H v H' x F2,xs[i]? = some x -> Same F F2 -> Same F2 H -> RAt rl F2 H -> J.yld i H v H' -> ∃ F3,Grow rl F2 H F3 H' /\ Rep K F3 v x
theorem VIt.of {K:W.Frag} {rl:Option Addr} {F:Hp} {J:It} {xs:List PyData} (go:∀ i H x,xs[i]? = some x -> Same F H -> J.go i H) (stop:∀ i H,xs.length <= i -> Same F H -> J.stop i H)
    (yld:∀ i H v H' x,xs[i]? = some x -> Same F H -> J.yld i H v H' -> H' = H /\ Rep K F v x):VIt K rl F J xs :=
  ⟨go,stop,fun i H v H' x F2 e s s2 ra y=>by
    obtain ⟨e1,r⟩:=yld i H v H' x e (s.trans s2) y
    subst e1
    exact ⟨F2,Grow.refl s2 ra,r.mono s⟩⟩
def PIV (X:Cx) (rl:Option Addr) (tg iter:Expr) (fi:En -> (List PyData -> Prop) -> Prop):Prop:=∃ wi,PI X tg iter wi /\ ∀ {F₀ H₀ F H:Hp} {σ:St} {ρ:En},VR X.K rl F₀ H₀ F H σ ρ -> ∀ (Qd:List PyData -> Prop) (R:It -> Hp -> Prop),fi ρ Qd ->
  (∀ J xs F' H',Grow rl F H F' H' -> VIt X.K rl F' J xs -> Qd xs -> R J H') -> wi σ H R
end
end L2.VL

namespace L2.VL
open PySem PySem.Spec PyProof.Rows

section
variable {X:Cx} {rl:Option Addr} {st:Stmt} {rest body:List Stmt} {t u:TSv} {a b c e:Expr} {es:List Expr} {fa fb:TV} {fs:TVs} {f:TB} {pos p:Pos} {tg:Expr}
def vFrz (i:Nat) (t:TSv):TSv:=fun D ρ=>∃ xs,ρ[i]? = some (some (.ml xs)) /\ t D (ρ.set i (some (.d (.list xs))))
theorem frz_same {K:W.Frag} {F₀ H₀ F H:Hp} {σ:St} {ρ:En} (r:VR K rl F₀ H₀ F H σ ρ) {i:Nat} {xs:List PyData} (e : ρ[i]? = some (some (.ml xs))):∃ F1,Same F F1 /\ VR K rl F₀ H₀ F1 H σ (ρ.set i (some (.d (.list xs)))):=by
  obtain ⟨v,h1,h2,h3⟩:=r.sl i _ e
  obtain ⟨a,vs,ev,f,hr,hh,q⟩:=(show OwnL K rl F H v xs from h2)
  obtain ⟨F1,R1⟩:=r.freeze e
  obtain ⟨v',k1,k2,k3⟩:=R1.sl i _ (List.getElem?_set_self (List.getElem?_eq_some_iff.mp e).1)
  have neF:∀ b u,F b = some u -> b ≠ a:=fun b u q z=>by subst z; rw [f] at q; cases q
  have fsm:Same F (upd F a (.lst vs)):=fun b u z=>by rw [upd_ne (neF b u z)]; exact z
  have hi:i < ρ.length:=(List.getElem?_eq_some_iff.mp e).1
  refine ⟨upd F a (.lst vs),fsm,r.g.freeze (h3 a ev) hh f hr,fun j w e1=>?_,R1.ap,R1.np,R1.len⟩
  by_cases hj:i = j
  · subst hj
    rw [List.getElem?_set_self hi] at e1
    cases e1
    exact ⟨v,h1,by rw [ev]; exact .lst upd_same (q.mono fsm),trivial⟩
  · rw [List.getElem?_set_ne hj] at e1
    obtain ⟨u,g1,g2,g3⟩:=r.sl j w e1
    refine ⟨u,g1,?_,g3⟩
    cases w with
    | d x=>exact Rep.mono fsm g2
    | reel=>exact g2
    | vv u=>exact g2
    | ml ys =>
      obtain ⟨b,us,eb,f1,f2,f3,f4⟩:=(show OwnL K rl F H u ys from g2)
      have ne:b ≠ a:=fun z=>r.ap i j _ _ v hj e e1 rfl rfl h1 (by rw [g1,eb,z,ev])
      exact ⟨b,us,eb,by rw [upd_ne ne]; exact f1,f2,f3,f4.mono fsm⟩
    | pk ys=>exact absurd e1 (r.np j ys)
    | md ys =>
      obtain ⟨b,us,eb,f1,f2,f3,f4⟩:=(show OwnD K rl F H u ys from g2)
      have ne:b ≠ a:=fun z=>r.ap i j _ _ v hj e e1 rfl rfl h1 (by rw [g1,eb,z,ev])
      exact ⟨b,us,eb,by rw [upd_ne ne]; exact f1,f2,f3,Paired.mapP f4 fun _ _ z=>⟨z.1,z.2.mono fsm⟩⟩
    | mk ys =>
      obtain ⟨b,us,eb,f1,f2,f3,f4⟩:=(show OwnK K rl F H u ys from g2)
      have ne:b ≠ a:=fun z=>r.ap i j _ _ v hj e e1 rfl rfl h1 (by rw [g1,eb,z,ev])
      exact ⟨b,us,eb,by rw [upd_ne ne]; exact f1,f2,f3,Paired.mapP f4 fun _ _ z=>⟨z.1,z.2.mono fsm⟩⟩
    | nt ds=>obtain ⟨b,us,eb,f1,f2⟩:=g2; exact ⟨b,us,eb,fsm _ _ f1,f2.mono fsm⟩
    | lk=>trivial
    | sc ns=>obtain ⟨b,eb,f1⟩:=g2; exact ⟨b,eb,sameL fsm f1⟩
    | fd kvs=>obtain ⟨b,us,eb,f1,f2⟩:=g2; exact ⟨b,us,eb,fsm _ _ f1,Paired.mapP f2 fun _ _ z=>⟨z.1,z.2.mono fsm⟩⟩
    | fw kvs=>obtain ⟨b,us,o,eb,f1,f2⟩:=g2; exact ⟨b,us,o,eb,fsm _ _ f1,Paired.mapP f2 fun _ _ z=>⟨z.1,z.2.mono fsm⟩⟩
    | ft kvs=>obtain ⟨b,us,o,eb,f1,f2⟩:=g2; exact ⟨b,us,o,eb,fsm _ _ f1,Paired.mapP f2 fun _ _ z=>⟨z.1,z.2.mono fsm⟩⟩
    | xc _ _=>obtain ⟨b,dx,us,C,eb,n,f1,f3,f2⟩:=g2; exact ⟨b,dx,us,C,eb,n,fsm _ _ f1,fsm _ _ f3,Paired.mapP f2 fun _ _ z=>⟨z.1,z.2.mono fsm⟩⟩
    | dp _ _=>obtain ⟨c,b,us,u,o,eb,f1,f3,f2,z⟩:=g2; exact ⟨c,b,us,u,o,eb,fsm _ _ f1,fsm _ _ f3,Paired.mapP f2 fun _ _ z=>⟨z.1,z.2.mono fsm⟩,z.mono fsm⟩
theorem vs_frz (i:Nat) (h:PSV X rl st t):PSV X rl st (vFrz i t):=by
  obtain ⟨T,p,k⟩:=h
  refine ⟨T,p,fun R Dv D ok ⟨xs,e,q⟩=>?_⟩
  obtain ⟨F1,s1,R1⟩:=frz_same R e
  exact k R1 Dv D (ok.on s1) q

def iT (fa:TV):En -> (List PyData -> Prop) -> Prop:=fun ρ Q=>fa ρ fun w=>∃ xs,w.fz = .d (.tuple xs) /\ Q xs
theorem vi_tup {l:Expr} (hl:PV X rl l fa):PIV X rl tg l (iT fa):=by
  obtain ⟨t,p,k⟩:=hl
  refine ⟨_,pi_tup p,fun R Qd Q q h=>k R _ _ q fun v w F1 H1 g1 r1 n1 ⟨xs,ew,q1⟩=>?_⟩
  obtain ⟨F2,g2,s2,r2⟩:=RelW.fz g1 r1 n1
  rw [ew] at r2
  cases (show Rep X.K F2 v (.tuple xs) from r2) with
  | @tup a vs _ sq rs =>
    have sqH:∀ H,Same F2 H -> SqT X.K H a vs:=fun H s=>sameT s sq
    refine ⟨a,rfl,⟨vs,sqH H1 g2.sub⟩,h _ xs F2 H1 g2 (.of (fun i H x e s=>?_) (fun i H hl s=>⟨vs,sqH H s,by rw [rs.length]; exact hl⟩) (fun i H v H' x e s y=>?_)) q1⟩
    · obtain ⟨v,ev,_⟩:=rs.get e
      exact ⟨vs,v,sqH H s,ev⟩
    · obtain ⟨e',hy⟩:=y
      obtain ⟨v',ev,rv⟩:=rs.get e
      have:=hy vs (sqH H s)
      rw [ev] at this
      cases this
      exact ⟨e',rv⟩
def rangeD (lo:Int) (n:Nat):List PyData:=(List.range n).map fun (i:Nat)=>.int (lo + i)
theorem rangeD_get {lo:Int} {n i:Nat} {x:PyData} (h:(rangeD lo n)[i]? = some x):i < n /\ x = .int (lo + i):=by
  unfold rangeD at h
  rw [List.getElem?_map] at h
  by_cases hi:i < n
  · rw [List.getElem?_eq_getElem (by simpa using hi)] at h
    simp at h
    exact ⟨hi,h.symm⟩
  · rw [List.getElem?_eq_none (by simpa using hi)] at h
    cases h
theorem rangeD_length {lo:Int} {n:Nat}:(rangeD lo n).length = n:=by simp [rangeD]
theorem vit_range {K:W.Frag} {F:Hp} (lo:Int) (n:Nat):VIt K rl F (Itr lo n) (rangeD lo n) :=
  .of (fun i H x e s=>(rangeD_get e).1) (fun i H hl s=>by rw [rangeD_length] at hl; exact hl) (fun i H v H' x e s y=>by
    obtain ⟨e1,e2⟩:=y
    subst e2
    rw [(rangeD_get e).2]
    exact ⟨e1,.int _⟩)
def iR1 (fs:TVs):En -> (List PyData -> Prop) -> Prop:=fun ρ Q=>fs ρ fun ws=>∃ j:Int,ws = [.d (.int j)] /\ (-(2 ^ 62) <= j /\ j < 2 ^ 62) /\ Q (rangeD 0 j.toNat)
theorem vi_range1 (hm:X.mg "range" = none) (ha:PVs X rl [a] fs) (hg:Gl X "range" := by rfl) (hs:starEach [a] X.env = [(false,eval a X.env)]:=by rfl):PIV X rl tg (.Call (.Name "range" p) [a] [] pos) (iR1 fs):=by
  obtain ⟨t,p1,k⟩:=ha
  refine ⟨_,pi_range1 hg hm p1 hs,fun R Qd Q q h=>k R _ _ q fun vs ws F1 H1 g1 r1 ⟨j,ew,b,q1⟩=>?_⟩
  subst ew
  obtain ⟨v,rfl,rv⟩:=rel1 r1
  have e:=rep_int rv
  subst e
  exact ⟨j,rfl,b.1,b.2,h _ _ F1 H1 g1 (vit_range 0 _) q1⟩
theorem VR.own {K:W.Frag} {F₀ H₀ F H:Hp} {σ:St} {ρ:En} (r:VR K rl F₀ H₀ F H σ ρ) {i:Nat} {xs ys:List PyData} {a:Addr} {us:List V} (e : ρ[i]? = some (some (.ml xs))) (es : σ[i]? = some (some (.ref a))) (rs:Reps K F us ys) :
    VR K rl F₀ H₀ F (upd H a (.lst us)) σ (ρ.set i (some (.ml ys))):=by
  obtain ⟨v,h1,h2,h3⟩:=r.sl i _ e
  rw [es] at h1
  cases h1
  obtain ⟨a',vs,ev,f,hr,hh,q⟩:=(show OwnL K rl F H (.ref a) xs from h2)
  cases ev
  have n0:H₀ a = none:=h3 a rfl
  have hi:i < ρ.length:=(List.getElem?_eq_some_iff.mp e).1
  have neF:∀ b u,F b = some u -> b ≠ a:=fun b u q z=>by subst z; rw [f] at q; cases q
  have g:Grow rl F₀ H₀ F (upd H a (.lst us)):=by
    refine ⟨fun b o q1 n=>by rw [upd_ne (ne_of_none q1 n0)]; exact r.g.same b o q1 n,r.g.fs,fun b o q1=>by rw [upd_ne (neF b o q1)]; exact r.sub b o q1,r.g.old,fun y z=>?_⟩
    obtain ⟨z1,⟨u,h1,h2⟩⟩:=r.reel y z
    exact ⟨z1,⟨u,by rw [upd_ne (fun q=>hr (by rw [<- q]; exact z))]; exact h1,h2⟩⟩
  refine ⟨g,fun j w e1=>?_,fun j k ys' zs u hjk e1 e2 w1 w2 s1 s2=>?_,fun j ys' z=>?_,by simp [r.len]⟩
  · by_cases hj:i = j
    · subst hj
      rw [List.getElem?_set_self hi] at e1
      cases e1
      exact ⟨_,es,⟨a,us,rfl,f,hr,upd_same,rs⟩,h3⟩
    · rw [List.getElem?_set_ne hj] at e1
      obtain ⟨u,g1,g2,g3⟩:=r.sl j w e1
      refine ⟨u,g1,?_,g3⟩
      cases w with
      | d x=>exact g2
      | reel=>exact g2
      | vv u=>exact g2
      | ml zs =>
        obtain ⟨b,us',eb,f1,f2,f3,f4⟩:=(show OwnL K rl F H u zs from g2)
        have ne:b ≠ a:=fun z=>r.ap i j _ _ (.ref a) hj e e1 rfl rfl es (by rw [g1,eb,z])
        exact ⟨b,us',eb,f1,f2,by rw [upd_ne ne]; exact f3,f4⟩
      | pk zs=>exact absurd e1 (r.np j zs)
      | md zs =>
        obtain ⟨b,us',eb,f1,f2,f3,f4⟩:=(show OwnD K rl F H u zs from g2)
        have ne:b ≠ a:=fun z=>r.ap i j _ _ (.ref a) hj e e1 rfl rfl es (by rw [g1,eb,z])
        exact ⟨b,us',eb,f1,f2,by rw [upd_ne ne]; exact f3,f4⟩
      | mk zs =>
        obtain ⟨b,us',eb,f1,f2,f3,f4⟩:=(show OwnK K rl F H u zs from g2)
        have ne:b ≠ a:=fun z=>r.ap i j _ _ (.ref a) hj e e1 rfl rfl es (by rw [g1,eb,z])
        exact ⟨b,us',eb,f1,f2,by rw [upd_ne ne]; exact f3,f4⟩
      | nt ds=>exact g2
      | lk=>trivial
      | sc _=>exact g2
      | fd _=>exact g2
      | fw _=>exact g2
      | ft _=>exact g2
      | xc _ _=>exact g2
      | dp _ _=>exact g2
  · have nd:∀ (j:Nat) (z:W),(ρ.set i (some (W.ml ys)))[j]? = some (some z) -> z.own = true -> ∃ z',ρ[j]? = some (some z') /\ z'.own = true:=fun j zs z o=>by
      by_cases hj:i = j
      · subst hj
        exact ⟨_,e,rfl⟩
      · rw [List.getElem?_set_ne hj] at z
        exact ⟨zs,z,o⟩
    obtain ⟨_,d1,o1⟩:=nd j _ e1 w1
    obtain ⟨_,d2,o2⟩:=nd k _ e2 w2
    exact r.ap j k _ _ u hjk d1 d2 o1 o2 s1 s2
  · rw [List.getElem?_set] at z
    split at z
    · first | cases z | (split at z <;> cases z)
    · exact r.np j ys' z
def VMut (K:W.Frag) (rl:Option Addr) (r:V -> List V -> Hp -> VK -> Prop) (g:List PyData -> List W -> (List PyData -> Prop) -> Prop):Prop :=
  ∀ {F H:Hp} {a:Addr} {vs args:List V} {xs:List PyData} {ws:List W} (Qn:List PyData -> Prop) (Q:VK),Same F H -> H a = some (.lst vs) -> Reps K F vs xs -> RelWs K rl F H args ws -> g xs ws Qn ->
    (∀ us ys,Reps K F us ys -> Qn ys -> Q .non (upd H a (.lst us))) -> r (.ref a) args H Q
def vMut (i:Nat) (g:List PyData -> List W -> (List PyData -> Prop) -> Prop) (fs:TVs):TSv:=fun D ρ=>∃ xs,ρ[i]? = some (some (.ml xs)) /\ fs ρ fun ws=>g xs ws fun ys=>D.nx (ρ.set i (some (.ml ys)))
theorem vs_mut (i:Nat) {x:Str} {nm:Str} {id:String} {r:V -> List V -> Hp -> VK -> Prop} {g:List PyData -> List W -> (List PyData -> Prop) -> Prop} {px apos cpos:Pos} (slot:Slot "list" nm id) (hty:typeOf (.builtin id) = pure (.type "method_descriptor")) (hm:MtR X id r) (vm:VMut X.K rl r g) (ha:PVs X rl (e :: es) fs)
    (hN:X.N[i]? = some x:=by rfl) (hv:Vis X.env.scope x:=by first | exact Or.inl rfl | exact Or.inr (Or.inl rfl) | exact Or.inr (Or.inr rfl))
    (hd:(x == ("__debug__" : Str)) = false:=by decide) (hcd:(x == ("__classdict__" : Str)) = false:=by decide)
    (hbase:attributeBase (.Name x px) nm X.env (eval (.Name x px) X.env) = eval (.Name x px) X.env:=by rfl)
    (hfew:((backTo cpos (starEach (e :: es) X.env)).all (fun x=>!x.1) && (backToKw cpos (keywordEach [] X.env)).all (fun x=>x.1.isSome)
      && decide ((e :: es).length + ([]:List Keyword).length + (if ([]:List Keyword).isEmpty then 0 else 1) < 30)) = true:=by rfl)
    (hline:(apos.endLine == cpos.line) = true:=by rfl) (hs:starEach (e :: es) X.env = (false,eval e X.env) :: starEach es X.env:=by rfl) (hplain:(backTo cpos (starEach es X.env)).any (·.1) = false:=by rfl)
    (hsw:swapsWith (.Call (.Attribute (.Name x px) nm apos) (e :: es) [] cpos) none pos.line X.env = pure false:=by rfl) :
    PSV X rl (.Expr (.Call (.Attribute (.Name x px) nm apos) (e :: es) [] cpos) pos) (vMut i g fs):=by
  obtain ⟨t,p1,k⟩:=ha
  refine ⟨_,ps_expr (pe_bm PySem.F.plainAttrs_list slot hty hm (pe_var hN hv hd hcd) p1 hbase hfew hline hs hplain) hsw,fun {F₀ H₀ F H σ ρ} R Dv D ok ⟨xs,e1,q⟩=>?_⟩
  obtain ⟨v,h1,h2,h3⟩:=R.sl i _ e1
  obtain ⟨a,vs,rfl,f,hr,hh,rs⟩:=(show OwnL X.K rl F H v xs from h2)
  refine ⟨.ref a,h1,.inl ⟨rfl,vs,.inl (.inl hh)⟩,k R _ _ q fun args ws F1 H1 g1 r1 q1=>?_⟩
  refine vm _ _ g1.sub (g1.same a _ hh hr) (rs.mono g1.fs) r1 q1 fun us ys r2 q2=>?_
  exact ok.nx _ _ _ _ g1.fs ((R.grow g1).own e1 h1 r2) q2
def gApp:List PyData -> List W -> (List PyData -> Prop) -> Prop:=fun xs ws Q=>∃ x,dats ws = some [x] /\ xs.length < sizeLine /\ Q (xs ++ [x])
theorem vm_app {K:W.Frag}:VMut K rl rAppend gApp:=fun {F H a vs args xs ws} Qn Q s ha rs ra ⟨x,e,z,q⟩ k=>by
  have r2:=dats_rel ra e
  cases r2 with
  | cons rx r3 =>
    cases r3
    exact ⟨a,vs,_,rfl,rfl,ha,by rw [rs.length]; exact z,k _ _ (rs.snoc rx) q⟩
theorem vs_app (i:Nat) {x:Str} {px apos cpos:Pos} (ha:PVs X rl [e] fs) (hN:X.N[i]? = some x:=by rfl) (hv:Vis X.env.scope x:=by first | exact Or.inl rfl | exact Or.inr (Or.inl rfl) | exact Or.inr (Or.inr rfl))
    (hd:(x == ("__debug__" : Str)) = false:=by decide) (hcd:(x == ("__classdict__" : Str)) = false:=by decide)
    (hbase:attributeBase (.Name x px) "append" X.env (eval (.Name x px) X.env) = eval (.Name x px) X.env:=by rfl)
    (hfew:((backTo cpos (starEach [e] X.env)).all (fun x=>!x.1) && (backToKw cpos (keywordEach [] X.env)).all (fun x=>x.1.isSome)
      && decide (([e]).length + ([]:List Keyword).length + (if ([]:List Keyword).isEmpty then 0 else 1) < 30)) = true:=by rfl)
    (hline:(apos.endLine == cpos.line) = true:=by rfl) (hs:starEach [e] X.env = (false,eval e X.env) :: starEach [] X.env:=by rfl) (hplain:(backTo cpos (starEach [] X.env)).any (·.1) = false:=by rfl)
    (hsw:swapsWith (.Call (.Attribute (.Name x px) "append" apos) [e] [] cpos) none pos.line X.env = pure false:=by rfl) :
    PSV X rl (.Expr (.Call (.Attribute (.Name x px) "append" apos) [e] [] cpos) pos) (vMut i gApp fs) :=
  vs_mut i PySem.F.slot_list_append PySem.F.type_list_append mt_append vm_app ha hN hv hd hcd hbase hfew hline hs hplain hsw

def argOk:W -> Bool
  | .ml _=>false
  | .md _=>false
  | .mk _=>false
  | .pk _=>false
  | _=>true
def vsp (K:W.Frag) (rl:Option Addr) (P:List W -> (PyData -> Prop) -> Prop):Sp:=fun vs H Q _=>∃ F ws,Same F H /\ RAt rl F H /\ RelWs K rl F H vs ws /\ ws.all argOk = true /\ P ws fun d=>∀ v F' H',Grow rl F H F' H' -> Rep K F' v d -> Q v H'
def startV (N:List Str) (ws:List W):En:=ws.map some ++ List.replicate (N.length - ws.length) none
theorem relWs_get {K:W.Frag} {F H:Hp}:∀ {vs:List V} {ws:List W} {i:Nat} {w:W},RelWs K rl F H vs ws -> ws[i]? = some w -> ∃ v,vs[i]? = some v /\ RelW K rl F H v w
  | _,_,_,_,.nil,e=>by simp at e
  | _,_,0,_,.cons h _,e=>by simp at e; subst e; exact ⟨_,rfl,h⟩
  | _,_,i + 1,w,.cons _ r,e=>by
    obtain ⟨v,h1,h2⟩:=relWs_get (i:=i) (w:=w) r (by simpa using e)
    exact ⟨v,by simpa using h1,h2⟩
theorem start_get {N:List Str} {ws:List W} {i:Nat} {w:W} (h:(startV N ws)[i]? = some (some w)):ws[i]? = some w:=by
  unfold startV at h
  by_cases hi:i < ws.length
  · rw [List.getElem?_append_left (by simpa using hi),List.getElem?_map] at h
    cases q:ws[i]? with
    | none=>rw [q] at h; cases h
    | some x=>rw [q] at h; cases h; rfl
  · rw [List.getElem?_append_right (by simpa using hi),List.getElem?_replicate] at h
    split at h <;> cases h
theorem vr_start {K:W.Frag} {F H:Hp} {N:List Str} {vs:List V} {ws:List W} (s:Same F H) (ra:RAt rl F H) (r:RelWs K rl F H vs ws) (ok:ws.all argOk = true):VR K rl F H F H (start N vs) (startV N ws):=by
  have hl:vs.length = ws.length:=Paired.length r
  have no:∀ (i:Nat) w,(startV N ws)[i]? = some (some w) -> argOk w = true:=fun i w e=>(List.all_eq_true.mp ok) w (List.mem_of_getElem? (start_get e))
  refine ⟨Grow.refl s ra,fun i w e=>?_,fun i j xs ys v _ e1 _ o _ _ _=>(by have:=no i _ e1; cases xs <;> first | exact Bool.noConfusion o | exact Bool.noConfusion this),fun i xs e=>(by have:=no i _ e; cases this),?_⟩
  · obtain ⟨v,h1,h2⟩:=relWs_get r (start_get e)
    refine ⟨v,?_,h2,?_⟩
    · unfold start
      rw [List.getElem?_append_left (by simpa using (List.getElem?_eq_some_iff.mp h1).1),List.getElem?_map,h1]
      rfl
    · have:=no i w e
      cases w with
      | ml xs=>cases this
      | md xs=>cases this
      | mk xs=>cases this
      | nt _=>trivial
      | lk=>trivial
      | sc _=>trivial
      | fd _=>trivial
      | fw _=>trivial
      | ft _=>trivial
      | xc _ _=>trivial
      | dp _ _=>trivial
      | d _=>trivial
      | pk _=>trivial
      | reel=>trivial
      | vv _=>trivial
  · unfold startV start
    simp [hl]
def vEnds (Q:PyData -> Prop):VEnds:=⟨fun _=>Q .none,fun w=>∃ d,w.fz = .d d /\ Q d,fun _=>False,fun _=>False⟩
theorem vfn {P:Program} {w:World} {K:W.Frag} {mg:Str -> Option Value} {base:Heap} {x qual:Str} {st:Stmt} {fa:Addr} {fd:FuncData} {N ps:List Str} {k:Nat} {Pd:List W -> (PyData -> Prop) -> Prop} {t:TSv}
    (Fn:Fun K x qual st fa fd) (S:FnScope N ps (defScope st)) (len:∀ ws Q,Pd ws Q -> ws.length = ps.length)
    (hbody:∀ (cdv:Value) (A:Around) (outer:List Env) (s:Shared) (H:Hp) (E:XK),Room k (A.deeper (envOfC qual (defScope st) s.heap.objs.size fa cdv)) ->
      PSsV (cxOf CX0 P w K mg base N qual (defScope st) fa cdv A outer s H E).nox rl (defBody st) t)
    (hread:∀ ws Q,Pd ws Q -> t (vEnds Q) (startV N ws)):FnOk P w K mg base CX0 (k + 1) fa fd ps (vsp K rl Pd):=by
  refine Fn.ok S (fun vs H Q E ⟨F,ws,_,_,r,_,q⟩=>(Paired.length r).trans (len ws _ q)) fun cdv A outer s H vs Q E hr h=>?_
  obtain ⟨F,ws,sm,ra,r,ok,q⟩:=h
  obtain ⟨T,p,kk⟩:=hbody cdv A outer s H E hr
  refine ⟨T,p,kk (vr_start sm ra r ok) (vEnds _) _ ⟨?_,?_,fun _ _ _ _ _ _ z=>False.elim z,fun _ _ _ _ _ _ z=>False.elim z⟩ (hread ws _ q)⟩
  · intro F1 H1 σ1 ρ1 _ R1 q1
    exact q1 .non F1 H1 R1.g .non
  · rintro v w1 F1 H1 g1 r1 n1 ⟨d,ed,q1⟩
    obtain ⟨F2,g2,s2,r2⟩:=RelW.fz g1 r1 n1
    rw [ed] at r2
    exact q1 v F2 H1 g2 r2
structure Dfn (P:Program) (w:World) (K:W.Frag) (mg:Str -> Option Value) (base:Heap) (rl:Option Addr) (x:Str) (ps:List Str) (k:Nat) (Pd:List W -> (PyData -> Prop) -> Prop):Prop where
  mono:∀ ws Q Q',(∀ d,Q d -> Q' d) -> Pd ws Q -> Pd ws Q'
  ex:∃ f fd,mg x = some (.ref f) /\ W.keepIn K (.ref f) = true /\ Binds K fd ps [] /\ FnOk P w K mg base CX0 k f fd ps (vsp K rl Pd)
def vUse (Pd:List W -> (PyData -> Prop) -> Prop) (fs:TVs):TV:=fun ρ Q=>fs ρ fun ws=>ws.all argOk = true /\ Pd ws fun d=>Q (.d d)
theorem v_call {x:Str} {ps:List Str} {k:Nat} {Pd:List W -> (PyData -> Prop) -> Prop} (D:Dfn X.prog X.w X.K X.mg X.base rl x ps k Pd) (hr:Room k X.A) (ha:PVs X rl (e :: es) fs) (hg:Gl X x:=by rfl)
    (hdb:(x == ("__debug__" : Str)) = false:=by decide) (he:starEach (e :: es) X.env = (false,eval e X.env) :: starEach es X.env:=by rfl) (hpl:(backTo pos (starEach es X.env)).any (·.1) = false:=by rfl) :
    PV X rl (.Call (.Name x p) (e :: es) [] pos) (vUse Pd fs):=by
  obtain ⟨f,fd,hm,hk,hb,F⟩:=D.ex
  obtain ⟨t,p1,kk⟩:=ha
  refine ⟨_,pe_call F hr hg hm hk hb .nil pass0 p1 hdb he hpl,fun R Qd Q q h=>kk R _ _ q fun vs ws F1 H1 g1 r1 ⟨ok,q1⟩=>?_⟩
  refine ⟨F1,ws,g1.sub,g1.reel,by rw [List.append_nil]; exact r1,ok,?_⟩
  exact D.mono ws _ _ (fun d qd v F2 H2 g2 r2=>h v (.d d) F2 H2 (g1.trans g2) r2 trivial qd) q1
end
end L2.VL

namespace L2
open PySem PySem.Spec PyProof.Rows

def compCx (X:Cx) (N':List Str) (scope:Scope) (cl:List (Str × Addr)) (fp:List Addr) (pn:List (Addr × Obj)) (s:Shared) (H:Hp):Cx :=
  { X with N:=N',s₀:=s,H₀:=H,env:={ compEnvC scope cl s.heap.objs.size X.env with cells:=cellsFrom (s.heap.objs.size + 1) scope.names cl },outer:=X.stack,ex:=fp,fn:=fun x=>scope.names.lookup x == some .cell,pn:=pn,xe:=fun _ _=>False }
structure CompA where
  cl:List (Str × Addr)
  fp:List Addr
  pn:List (Addr × Obj)
  s:Shared
  H:Hp
abbrev blk (X:Cx) (N':List Str) (scope:Scope) (y:CompA):Cx:=compCx X N' scope y.cl y.fp y.pn y.s y.H
section
variable {X:Cx} {elt tg iter:Expr} {ifs:List Expr} {scope:Scope} {pos:Pos} {wi:TI} {g:CompA -> TG} {tt:CompA -> TT} {te:CompA -> TE}
end
end L2

namespace L2.VL
open PySem PySem.Spec PyProof.Rows

def W.cap:W -> Option W
  | .d x=>some (.d x)
  | .reel=>some .reel
  | .vv u=>some (.vv u)
  | .sc ns=>some (.sc ns)
  | .fd kvs=>some (.fd kvs)
  | .fw kvs=>some (.fw kvs)
  | .ft kvs=>some (.ft kvs)
  | .xc x fs=>some (.xc x fs)
  | .dp kvs x=>some (.dp kvs x)
  | _=>none
def frEn (fr:List (Option Nat)) (ρ:En):En:=fr.map fun o=>o.bind fun j=>((ρ[j]?).join).bind W.cap
theorem VR.other {K:W.Frag} {rl:Option Addr} {F₀ H₀ F H:Hp} {σ:St} {ρ:En} (R:VR K rl F₀ H₀ F H σ ρ) (n:NoMl ρ) {D:Addr} {o:HO} (h0:H₀ D = none) (f:F D = none) (hr:rl ≠ some D):VR K rl F₀ H₀ F (upd H D o) σ ρ:=by
  have neF:∀ b u,F b = some u -> b ≠ D:=fun b u q z=>by subst z; rw [f] at q; cases q
  have g:Grow rl F₀ H₀ F (upd H D o):=by
    refine ⟨fun b o q1 n=>by rw [upd_ne (ne_of_none q1 h0)]; exact R.g.same b o q1 n,R.g.fs,fun b o q1=>by rw [upd_ne (neF b o q1)]; exact R.sub b o q1,R.g.old,fun y z=>?_⟩
    obtain ⟨z1,⟨u,h1,h2⟩⟩:=R.reel y z
    exact ⟨z1,⟨u,by rw [upd_ne (fun q=>hr (by rw [<- q]; exact z))]; exact h1,h2⟩⟩
  refine ⟨g,fun i w e=>?_,R.ap,R.np,R.len⟩
  obtain ⟨v,h1,h2,h3⟩:=R.sl i w e
  refine ⟨v,h1,?_,h3⟩
  cases w with
  | d x=>exact h2
  | reel=>exact h2
  | vv u=>exact h2
  | ml xs=>cases n i _ e
  | md xs=>cases n i _ e
  | mk xs=>cases n i _ e
  | nt ds=>exact h2
  | lk=>trivial
  | sc _=>exact h2
  | fd _=>exact h2
  | fw _=>exact h2
  | ft _=>exact h2
  | xc _ _=>exact h2
  | dp _ _=>exact h2
  | pk xs=>exact absurd e (R.np i xs)

section
variable {X:Cx} {rl:Option Addr} {elt tg iter:Expr} {ifs:List Expr} {scope:Scope} {pos:Pos} {fi:En -> (List PyData -> Prop) -> Prop} {g:TGv} {ft:TB} {fe:TV}
end
end L2.VL

namespace L2.VL
open PySem PySem.Spec PyProof.Rows

mutual
def Nice:PyData -> Prop
  | .none=>True
  | .bool _=>True
  | .int i=>i.natAbs < 2 ^ 1900
  | .str x=>PyData.strOk x = true
  | .list xs=>NiceAll xs
  | .tuple xs=>NiceAll xs
  | .dict _=>False
def NiceAll:List PyData -> Prop
  | []=>True
  | x :: xs=>Nice x /\ NiceAll xs
end
theorem log2_lt_of {n k:Nat} (h:n < 2 ^ k) (hk : 0 < k):n.log2 < k:=by
  by_cases h0:n = 0
  · subst h0; simpa using hk
  · exact (Nat.log2_lt h0).mpr h
mutual
theorem Nice.facts:∀ d:PyData,Nice d -> d.showable = true /\ d.canLay0 = true /\ d.hasDict = false /\ d.leavesShort 1921 = true
  | .none,_=>⟨rfl,rfl,rfl,rfl⟩
  | .bool _,_=>⟨rfl,rfl,rfl,rfl⟩
  | .int i,h=>by
    have hl:i.natAbs.log2 < 1920:=log2_lt_of (Nat.lt_of_lt_of_le (show i.natAbs < 2 ^ 1900 from h) (Nat.pow_le_pow_right (by decide) (by decide))) (by decide)
    refine ⟨by simp [PyData.showable,hl],rfl,rfl,?_⟩
    simp only [PyData.leavesShort,decide_eq_true_eq]
    exact int_text_len_1921 hl
  | .str x,h=>by
    refine ⟨rfl,(show PyData.canLay0 (.str x) = true by simp only [PyData.canLay0]; exact h),rfl,?_⟩
    have h:x.cps.all (· < 0x110000) = true:=h
    simp only [PyData.leavesShort]
    rw [List.all_eq_true]
    intro c hc
    have:=(Array.all_eq_true_iff_forall_mem.mp h) c (by simpa using hc)
    simp at this ⊢
    omega
  | .list xs,h=>by
    obtain ⟨a,b,c,d⟩:=NiceAll.facts xs h
    exact ⟨by simpa [PyData.showable] using a,by simpa [PyData.canLay0] using b,by simpa [PyData.hasDict] using c,by simpa [PyData.leavesShort] using d⟩
  | .tuple xs,h=>by
    obtain ⟨a,b,c,d⟩:=NiceAll.facts xs h
    exact ⟨by simpa [PyData.showable] using a,by simpa [PyData.canLay0] using b,by simpa [PyData.hasDict] using c,by simpa [PyData.leavesShort] using d⟩
  | .dict _,h=>False.elim h
theorem NiceAll.facts:∀ xs:List PyData,NiceAll xs -> PyData.showableAll xs = true /\ PyData.canLayAll0 xs = true /\ PyData.hasDictAll xs = false /\ PyData.leavesShortAll 1921 xs = true
  | [],_=>⟨rfl,rfl,rfl,rfl⟩
  | x :: xs,h=>by
    obtain ⟨a,b,c,d⟩:=Nice.facts x h.1
    obtain ⟨a',b',c',d'⟩:=NiceAll.facts xs h.2
    exact ⟨by simp [PyData.showableAll,a,a'],by simp [PyData.canLayAll0,b,b'],by simp [PyData.hasDictAll,c,c'],by simp [PyData.leavesShortAll,d,d']⟩
end
def Shw (d:PyData):Prop:=Nice d /\ d.depth <= 60 /\ d.bulk <= 8000
theorem Shw.shaped {d:PyData} (h:Shw d):SeqAt.shaped d = true:=by
  obtain ⟨_,b,_⟩:=Nice.facts d h.1
  have:=h.2.1
  simp [SeqAt.shaped,b]
  omega
theorem Shw.len {d:PyData} (h:Shw d):d.shown.length <= sizeLine:=by
  have q:=PyData.shown_le_bulk 1921 (by decide) d (Nice.facts d h.1).2.2.2
  have:=h.2.2
  have e:sizeLine = 16777216:=by decide
  omega

section
variable {X:Cx} {rl:Option Addr} {a b e:Expr} {es:List Expr} {fa fb fc:TV} {fs:TVs} {pos p:Pos}
def rRepr (K:W.Frag):List V -> Hp -> VK -> Prop:=fun xs H Q=>∃ x d,xs = [x] /\ Rep K H x d /\ Shw d /\ Q (.str d.shown) H
theorem call_repr (hgd:X.A.guards = some []) (hu:X.A.units + 64 < cLine):CallR X (.builtin "repr") (rRepr X.K):=by
  intro pins s σ H xs us Q I r ⟨x,d,ex,rx,sh,q⟩
  subst ex
  obtain ⟨u,rfl,ru⟩:=vals1 r
  have fin:∀ tk h' , (∀ b o,s.heap.get? b = some o -> h'.get? b = some o) -> ∀ t,EP X pins σ Q (.str d.shown t) { s with heap:=h',toks:=tk }:=fun tk h' k t=>⟨.str d.shown,H,I.kept k,⟨t,rfl⟩,q⟩
  obtain ⟨as,rd⟩:=Rep.reads I (.refl H) rx u ru
  have hs:=(Nice.facts d sh.1)
  cases rx with
  | non=>cases (show u = Value.none from ru); exact P.repr_of_none (fin _ _ (fun _ _ e=>e) _)
  | bl b=>cases (show u = Value.bool b from ru); exact P.repr_of_bool (fin _ _ (fun _ _ e=>e) _)
  | int i =>
    obtain ⟨t,e⟩:=(show ∃ t,u = Value.int i t from ru)
    cases e
    exact P.repr_of_int (by simpa [PyData.showable] using hs.1) (fin _ _ (fun _ _ e=>e) _)
  | str x =>
    obtain ⟨t,e⟩:=(show ∃ t,u = Value.str x t from ru)
    cases e
    exact P.repr_of_str (fin _ _ (fun _ _ e=>e) _) sh.len
  | tup sq rs =>
    cases (show u = Value.ref _ from ru)
    exact repr_of_reads' rd hs.1 (PyData.noDict_hsm hs.2.2.1) hgd (by have:=sh.2.1; omega) (fun _ _ e=>e) (fun h' t tk hk=>fin tk h' hk t) sh.len
  | lst sq rs =>
    cases (show u = Value.ref _ from ru)
    exact repr_of_reads' rd hs.1 (PyData.noDict_hsm hs.2.2.1) hgd (by have:=sh.2.1; omega) (fun _ _ e=>e) (fun h' t tk hk=>fin tk h' hk t) sh.len
def gRepr:List W -> (W -> Prop) -> Prop:=fun ws Q=>∃ w d,ws = [w] /\ w.dat = some d /\ Shw d /\ Q (.d (.str d.shown))
theorem vc_repr:VCall X rl (rRepr X.K) gRepr:=fun {F H vs ws} Qd Q s ra r ⟨w,d,ew,e1,sh,q⟩ k=>by
  subst ew
  obtain ⟨v,rfl,r1⟩:=rel1 r
  exact ⟨v,d,rfl,r1.dat s e1,sh,k _ (.d _) _ _ (Grow.refl s ra) (.str _) trivial q⟩
theorem v_repr (hr:Room 0 X.A) (hm:X.mg "repr" = none) (ha:PVs X rl [e] fs) (hg:Gl X "repr" := by rfl) (he:starEach [e] X.env = (false,eval e X.env) :: starEach [] X.env:=by rfl) (hpl:(backTo pos (starEach [] X.env)).any (·.1) = false:=by rfl) :
    PV X rl (.Call (.Name "repr" p) [e] [] pos) (vCall gRepr fs):=v_callB (call_repr hr.gd hr.units) vc_repr hm (by first | rfl | exact boot_repr) ha hg (by decide) (by decide) he hpl

def tyD:PyData -> String
  | .none => "NoneType"
  | .bool _ => "bool"
  | .int _ => "int"
  | .str _ => "str"
  | .list _ => "list"
  | .tuple _ => "tuple"
  | .dict _ => "dict"
def isiD (d:PyData) (T:String):Bool:=tyD d == T || (tyD d == "bool" && T == "int")
def tyOk (T:String):Bool:=["int", "bool", "str", "list", "tuple"].contains T
theorem kit_ok {K:W.Frag} {d:PyData} {T:String} (hd:∀ kvs,d ≠ .dict kvs) (h:tyOk T = true):W.kitOne K (.type (tyD d)) (.type T) = some (isiD d T):=by
  have h:T = "int" \/ T = "bool" \/ T = "str" \/ T = "list" \/ T = "tuple" := by simpa [tyOk] using h
  cases d with
  | dict kvs=>exact absurd rfl (hd kvs)
  | none=>rcases h with rfl | rfl | rfl | rfl | rfl <;> rfl
  | bool b=>rcases h with rfl | rfl | rfl | rfl | rfl <;> rfl
  | int b=>rcases h with rfl | rfl | rfl | rfl | rfl <;> rfl
  | str b=>rcases h with rfl | rfl | rfl | rfl | rfl <;> rfl
  | list b=>rcases h with rfl | rfl | rfl | rfl | rfl <;> rfl
  | tuple b=>rcases h with rfl | rfl | rfl | rfl | rfl <;> rfl
def rIsi (K:W.Frag):List V -> Hp -> VK -> Prop:=fun xs H Q=>∃ x d T,xs = [x,.ty T] /\ Rep K H x d /\ tyOk T = true /\ Q (.bl (isiD d T)) H
theorem call_isi:CallR X (.builtin "isinstance") (rIsi X.K):=by
  intro pins s σ H xs us Q I r ⟨x,d,T,ex,rx,ok,q⟩
  subst ex
  obtain ⟨u,u2,rfl,ru,ru2⟩:=vals2 r
  cases (show u2 = Value.type T from ru2)
  have fin:∀ tk,EP X pins σ Q (.bool (isiD d T)) { s with toks:=tk }:=fun tk=>⟨.bl _,H,I.tok tk,rfl,q⟩
  obtain ⟨as,rd⟩:=Rep.reads I (.refl H) rx u ru
  cases rd with
  | none=>exact W.kia_one W.kitx_none I.kIn True.intro (kit_ok (d:=PyData.none) (fun _ z=>by cases z) ok) (fun z=>nomatch z) fin
  | bool b=>exact W.kia_one W.kitx_bool I.kIn True.intro (kit_ok (d:=PyData.bool b) (fun _ z=>by cases z) ok) (fun z=>nomatch z) fin
  | int i t=>exact W.kia_one W.kitx_int I.kIn True.intro (kit_ok (d:=PyData.int i) (fun _ z=>by cases z) ok) (fun z=>nomatch z) fin
  | str y t=>exact W.kia_one W.kitx_str I.kIn True.intro (kit_ok (d:=PyData.str y) (fun _ z=>by cases z) ok) (fun z=>nomatch z) fin
  | list h1 h2 h3 h4=>exact W.kia_one W.kitx_list I.kIn ⟨_,h1,h2⟩ (kit_ok (d:=PyData.list _) (fun _ z=>by cases z) ok) (fun z=>nomatch z) fin
  | tuple h1 h2 h3 h4=>exact W.kia_one W.kitx_tuple I.kIn ⟨_,h1,h2⟩ (kit_ok (d:=PyData.tuple _) (fun _ z=>by cases z) ok) (fun z=>nomatch z) fin
  | dict h1 h2 h3 h4 h5=>cases rx
def gIsi:List W -> (W -> Prop) -> Prop:=fun ws Q=>∃ w d T,ws = [w,.vv (.ty T)] /\ w.dat = some d /\ tyOk T = true /\ Q (.d (.bool (isiD d T)))
theorem vc_isi:VCall X rl (rIsi X.K) gIsi:=fun {F H vs ws} Qd Q s ra r ⟨w,d,T,ew,e1,ok,q⟩ k=>by
  subst ew
  obtain ⟨v,u,rfl,r1,r2⟩:=rel2 r
  cases (show u = V.ty T from r2)
  exact ⟨v,d,T,rfl,r1.dat s e1,ok,k _ (.d _) _ _ (Grow.refl s ra) (.bl _) trivial q⟩
theorem v_isi (hm:X.mg "isinstance" = none) (ha:PVs X rl [a,b] fs) (hg:Gl X "isinstance" := by rfl) (he:starEach [a,b] X.env = (false,eval a X.env) :: starEach [b] X.env:=by rfl) (hpl:(backTo pos (starEach [b] X.env)).any (·.1) = false:=by rfl) :
    PV X rl (.Call (.Name "isinstance" p) [a,b] [] pos) (vCall gIsi fs):=v_callB call_isi vc_isi hm (by first | rfl | exact boot_isinstance) ha hg (by decide) (by decide) he hpl
theorem v_len (hm:X.mg "len" = none) (ha:PVs X rl [a] fs) (hg:Gl X "len" := by rfl) (he:starEach [a] X.env = (false,eval a X.env) :: starEach [] X.env:=by rfl) (hpl:(backTo pos (starEach [] X.env)).any (·.1) = false:=by rfl) :
    PV X rl (.Call (.Name "len" p) [a] [] pos) (vCall gLen fs):=v_callB call_len_seq vc_len hm boot_len ha hg (by decide) (by decide) he hpl
theorem v_abs (hm:X.mg "abs" = none) (ha:PVs X rl [a] fs) (hg:Gl X "abs" := by rfl) (he:starEach [a] X.env = (false,eval a X.env) :: starEach [] X.env:=by rfl) (hpl:(backTo pos (starEach [] X.env)).any (·.1) = false:=by rfl) :
    PV X rl (.Call (.Name "abs" p) [a] [] pos) (vCall gAbs fs):=v_callB call_abs vc_abs hm (by first | rfl | exact boot_abs) ha hg (by decide) (by decide) he hpl
end
end L2.VL

namespace L2.VL
open PySem PySem.Spec PyProof.Rows

structure FnIn (K:W.Frag) (mg:Str -> Option Value) (x:Str) (st:Stmt) (ps:List Str):Prop where
  ex:∃ f fd,mg x = some (.ref f) /\ Fun K x x st f fd /\ Binds K fd ps []
structure Bz (mg:Str -> Option Value):Prop where
  int_:mg "int" = none
  bool_:mg "bool" = none
  str_:mg "str" = none
  list_:mg "list" = none
  tuple_:mg "tuple" = none
  dict_:mg "dict" = none
  isinstance_:mg "isinstance" = none
  len_:mg "len" = none
  abs_:mg "abs" = none
  repr_:mg "repr" = none
  range_:mg "range" = none
  all_:mg "all" = none
  any_:mg "any" = none
  sum_:mg "sum" = none
  min_:mg "min" = none
  max_:mg "max" = none
  sorted_:mg "sorted" = none
  zip_:mg "zip" = none
  enumerate_:mg "enumerate" = none
  reversed_:mg "reversed" = none
  divmod_:mg "divmod" = none
  set_:mg "set" = none
section
variable {P:Program} {w:World} {K:W.Frag} {mg:Str -> Option Value} {base:Heap} {rl:Option Addr} {x:Str} {st:Stmt} {N ps:List Str} {k:Nat} {Pd:List W -> (PyData -> Prop) -> Prop} {t:TSv}
theorem Dfn.of (Fn:FnIn K mg x st ps) (S:FnScope N ps (defScope st)) (mono:∀ ws Q Q',(∀ d,Q d -> Q' d) -> Pd ws Q -> Pd ws Q') (len:∀ ws Q,Pd ws Q -> ws.length = ps.length)
    (hbody:∀ {f:Addr} (cdv:Value) (A:Around) (outer:List Env) (s:Shared) (H:Hp) (E:XK),Room k (A.deeper (envOfC x (defScope st) s.heap.objs.size f cdv)) ->
      PSsV (cxOf CX0 P w K mg base N x (defScope st) f cdv A outer s H E).nox rl (defBody st) t)
    (hread:∀ ws Q,Pd ws Q -> t (vEnds Q) (startV N ws)):Dfn P w K mg base rl x ps (k + 1) Pd:=by
  obtain ⟨f,fd,hm,F,hb⟩:=Fn.ex
  exact ⟨mono,f,fd,hm,F.kp,hb,vfn F S len hbody hread⟩
end
section
variable {X:Cx} {rl:Option Addr} {e:Expr} {es:List Expr} {fa fb fc:TV} {fs:TVs} {pos p:Pos}
end
def fn1 (pre:PyData -> Prop) (f:PyData -> PyData):List W -> (PyData -> Prop) -> Prop:=fun ws Q=>∃ a,ws = [.d a] /\ pre a /\ Q (f a)
def fn2 (pre:PyData -> PyData -> Prop) (f:PyData -> PyData -> PyData):List W -> (PyData -> Prop) -> Prop:=fun ws Q=>∃ a b,ws = [.d a,.d b] /\ pre a b /\ Q (f a b)
theorem fn1.mono {pre:PyData -> Prop} {f:PyData -> PyData}:∀ ws (Q Q':PyData -> Prop),(∀ d,Q d -> Q' d) -> fn1 pre f ws Q -> fn1 pre f ws Q':=fun _ _ _ h ⟨a,e,p,q⟩=>⟨a,e,p,h _ q⟩
theorem fn2.mono {pre:PyData -> PyData -> Prop} {f:PyData -> PyData -> PyData}:∀ ws (Q Q':PyData -> Prop),(∀ d,Q d -> Q' d) -> fn2 pre f ws Q -> fn2 pre f ws Q':=fun _ _ _ h ⟨a,b,e,p,q⟩=>⟨a,b,e,p,h _ q⟩
theorem fn1.len {pre:PyData -> Prop} {f:PyData -> PyData}:∀ ws (Q:PyData -> Prop),fn1 pre f ws Q -> ws.length = 1:=fun _ _ ⟨a,e,_⟩=>by subst e; rfl
theorem fn2.len {pre:PyData -> PyData -> Prop} {f:PyData -> PyData -> PyData}:∀ ws (Q:PyData -> Prop),fn2 pre f ws Q -> ws.length = 2:=fun _ _ ⟨a,b,e,_⟩=>by subst e; rfl
def rf0 (post:PyData -> Prop):List W -> (PyData -> Prop) -> Prop:=fun ws Q=>ws = [.reel] /\ ∀ d,post d -> Q d
theorem rf0.mono {post:PyData -> Prop}:∀ ws (Q Q':PyData -> Prop),(∀ d,Q d -> Q' d) -> rf0 post ws Q -> rf0 post ws Q':=fun _ _ _ h ⟨e,q⟩=>⟨e,fun d hd=>h d (q d hd)⟩
theorem rf0.len {post:PyData -> Prop}:∀ ws (Q:PyData -> Prop),rf0 post ws Q -> ws.length = 1:=fun _ _ ⟨e,_⟩=>by subst e; rfl
def pickP:List W -> (PyData -> Prop) -> Prop:=fun ws Q=>∃ m:Int,ws = [.reel,.d (.int m)] /\ 0 < m /\ m < 2 ^ 60 /\ ∀ k:Int,0 <= k -> k < m -> Q (.int k)
theorem pickP.mono:∀ ws (Q Q':PyData -> Prop),(∀ d,Q d -> Q' d) -> pickP ws Q -> pickP ws Q':=fun _ _ _ h ⟨m,e,p,z,q⟩=>⟨m,e,p,z,fun k a b=>h _ (q k a b)⟩
theorem pickP.len:∀ ws (Q:PyData -> Prop),pickP ws Q -> ws.length = 2:=fun _ _ ⟨m,e,_⟩=>by subst e; rfl
theorem fz_d (x:PyData):(W.d x).fz = .d x:=rfl
theorem fz_ml (x:List PyData):(W.ml x).fz = .d (.list x):=rfl
theorem fz_pk (x:List PyData):(W.pk x).fz = .pk x:=rfl
theorem fz_reel:W.reel.fz = .reel:=rfl
theorem fz_vv (x:V):(W.vv x).fz = .vv x:=rfl
theorem pk_d (x:PyData):L2.VL.W.peek (.d x) = .d x:=rfl
theorem pk_ml (x:List PyData):L2.VL.W.peek (.ml x) = .pk x:=rfl
theorem pk_reel:L2.VL.W.peek .reel = .reel:=rfl
theorem pk_vv (x:V):L2.VL.W.peek (.vv x) = .vv x:=rfl
theorem dat_d (x:PyData):(W.d x).dat = some x:=rfl
theorem dat_ml (x:List PyData):(W.ml x).dat = some (.list x):=rfl
theorem dat_pk (x:List PyData):(W.pk x).dat = some (.list x):=rfl
theorem isPk_d (x:PyData):(W.d x).isPk = false:=rfl
theorem isPk_ml (x:List PyData):(W.ml x).isPk = false:=rfl
theorem isPk_reel:W.reel.isPk = false:=rfl
theorem dats_nil:dats [] = some []:=rfl
theorem dats_d (x:PyData) (r:List W):dats (.d x :: r) = (dats r).map (x :: ·):=rfl
theorem arg_d (x:PyData):argOk (.d x) = true:=rfl
theorem arg_reel:argOk .reel = true:=rfl
theorem item_l (xs:List PyData) (i:Int):L2.VL.itemAt (.list xs) i = L2.atI xs i:=rfl
theorem item_t (xs:List PyData) (i:Int):L2.VL.itemAt (.tuple xs) i = L2.atI xs i:=rfl
theorem len_l (xs:List PyData):lenD (.list xs) = some xs.length:=rfl
theorem len_t (xs:List PyData):lenD (.tuple xs) = some xs.length:=rfl
theorem at0 {α:Type} (x : α) (r:List α):L2.atI (x :: r) 0 = some x:=by simp [L2.atI,L2.ixN]
theorem at1 {α:Type} (x y : α) (r:List α):L2.atI (x :: y :: r) 1 = some y:=by
  have:(1:Int) < ((x :: y :: r).length:Int):=by simp; omega
  simp only [L2.atI,L2.ixN]
  rw [if_pos (by decide),if_pos this]
  rfl
end L2.VL

namespace L2.VL
open PySem PySem.Spec PyProof.Rows
theorem fmod_abs_lt {x y:Int} (h:y ≠ 0):(x.fmod y).natAbs < y.natAbs:=by
  rcases Int.lt_or_gt_of_ne h with hy | hy
  · have h1:=Int.fmod_add_mul_fdiv x y
    have e:x.fmod y = -((-x).fmod (-y)):=by
      have:=Int.neg_fmod_neg x y
      omega
    have p : 0 < -y:=by omega
    have b1:=Int.fmod_nonneg_of_pos (-x) p
    have b2:=Int.fmod_lt_of_pos (-x) p
    omega
  · have b1:=Int.fmod_nonneg_of_pos x hy
    have b2:=Int.fmod_lt_of_pos x hy
    omega
theorem gcd_fmod (x y:Int):Int.gcd y (x.fmod y) = Int.gcd x y:=by
  have e:x.fmod y = x + y * (-(x.fdiv y)):=by
    have:=Int.fmod_add_mul_fdiv x y
    rw [Int.mul_neg]
    omega
  rw [e,Int.gcd_add_mul_left_right]
  exact Int.gcd_comm y x
theorem eqv_ii (a b:Int):PyData.eqv (.int a) (.int b) = (a == b):=by simp [PyData.eqv]
theorem shaped_i (a:Int):SeqAt.shaped (.int a) = true:=rfl
theorem shaped_b (a:Bool):SeqAt.shaped (.bool a) = true:=rfl
def gcdP:List W -> (PyData -> Prop) -> Prop:=fun ws Q=>∃ i j:Int,ws = [.d (.int i),.d (.int j)] /\ Q (.int (Int.gcd i j))
theorem gcdP.mono:∀ ws (Q Q':PyData -> Prop),(∀ d,Q d -> Q' d) -> gcdP ws Q -> gcdP ws Q':=fun _ _ _ h ⟨i,j,e,q⟩=>⟨i,j,e,h _ q⟩
theorem gcdP.len:∀ ws (Q:PyData -> Prop),gcdP ws Q -> ws.length = 2:=fun _ _ ⟨_,_,e,_⟩=>by subst e; rfl
theorem small_fmod {x y:Int} (h:y ≠ 0) (b:y.natAbs < 2 ^ 64):(x.fmod y).natAbs < 2 ^ 64:=Nat.lt_trans (fmod_abs_lt h) b
theorem CDivB.of {i j:Int} (h:j ≠ 0) (b:j.natAbs < 2 ^ 64):CDivB i j:=⟨h,Nat.lt_of_lt_of_le b (Nat.pow_le_pow_right (by decide) (by decide))⟩
theorem canLay_ints:∀ ns:List Int,PyData.canLayAll0 (ns.map PyData.int) = true
  | []=>rfl
  | n :: ns=>by simp [PyData.canLayAll0,PyData.canLay0,canLay_ints ns]
theorem depth_ints:∀ ns:List Int,PyData.depthAll (ns.map PyData.int) = 0
  | []=>rfl
  | n :: ns=>by simp [PyData.depthAll,PyData.depth,depth_ints ns]
theorem shaped_ints (ns:List Int):SeqAt.shaped (.list (ns.map .int)) = true:=by simp [SeqAt.shaped,PyData.canLay0,PyData.depth,canLay_ints,depth_ints]
theorem gcd_abs (a b:Int):Int.gcd (if a < 0 then -a else a) (if b < 0 then -b else b) = Int.gcd a b:=by
  split <;> split <;> simp [Int.gcd]
theorem gcd_pos {a b:Int} (h:b ≠ 0) : 0 < (Int.gcd a b:Int):=by
  have:=Int.gcd_pos_of_ne_zero_right a h
  omega
theorem gcd_le {a b:Int} (h:b ≠ 0):(Int.gcd a b) <= b.natAbs:=Nat.le_of_dvd (by omega) (Int.gcd_dvd_natAbs_right a b)
theorem Shw.pair {a b:PyData} (h:Shw (.tuple [a,b])):a.canLay0 = true /\ b.canLay0 = true /\ a.depth <= 59 /\ b.depth <= 59:=by
  obtain ⟨_,c,_⟩:=Nice.facts _ h.1
  have d:=h.2.1
  simp [PyData.canLay0,PyData.canLayAll0] at c
  simp [PyData.depth,PyData.depthAll] at d
  exact ⟨c.1,c.2,by omega,by omega⟩
def madeP:List W -> (PyData -> Prop) -> Prop:=fun ws Q=>∃ a b:Int,ws = [.d (.int a),.d (.int b)] /\ b ≠ 0 /\ b.natAbs < 2 ^ 8000 /\
  ∀ c,c = (if 0 < b then (Int.gcd a b:Int) else -(Int.gcd a b:Int)) -> Q (.tuple [.int (a.fdiv c),.int (b.fdiv c)])
theorem madeP.mono:∀ ws (Q Q':PyData -> Prop),(∀ d,Q d -> Q' d) -> madeP ws Q -> madeP ws Q':=fun _ _ _ h ⟨a,b,e,p,z,q⟩=>⟨a,b,e,p,z,fun c hc=>h _ (q c hc)⟩
theorem madeP.len:∀ ws (Q:PyData -> Prop),madeP ws Q -> ws.length = 2:=fun _ _ ⟨_,_,e,_⟩=>by subst e; rfl
end L2.VL

namespace L2.VL
open PySem PySem.Spec PyProof.Rows
theorem strOk_ofString (s:String):PyData.strOk (Str.ofString s) = true:=by
  unfold PyData.strOk
  rw [Str.ofString_eq_toList]
  simp only [Array.all_eq_true_iff_forall_mem]
  intro c hc
  have hc:c ∈ s.toList.map Char.toNat:=List.mem_toArray.mp hc
  obtain ⟨d,_,rfl⟩:=List.mem_map.mp hc
  have:=d.valid
  have h:d.val.toNat < 0x110000:=by
    rcases this with h | h
    · have:d.val.toNat < 0xd800:=h
      omega
    · exact h.2
  exact decide_eq_true h
structure Lf (d:PyData):Prop where
  nice:Nice d
  dep:d.depth <= 2
  wt:d.bulk <= 2000
theorem Lf.int {i:Int} (h:i.natAbs < 2 ^ 1000):Lf (.int i) :=
  ⟨Nat.lt_trans h (Nat.pow_lt_pow_right (by decide) (by decide)),by simp [PyData.depth],by simp [PyData.bulk]⟩
theorem Lf.shw {d:PyData} (h:Lf d):Shw d:=⟨h.nice,by have:=h.dep; omega,by have:=h.wt; omega⟩
theorem Shw.t1 {a:PyData} (ha:Lf a):Shw (.tuple [a]):=by
  refine ⟨⟨ha.nice,trivial⟩,?_,?_⟩
  · have:=ha.dep; simp [PyData.depth,PyData.depthAll]; omega
  · have:=ha.wt; simp [PyData.bulk,PyData.bulkAll]; omega
theorem Shw.t2 {a b:PyData} (ha:Lf a) (hb:Lf b):Shw (.tuple [a,b]):=by
  refine ⟨⟨ha.nice,hb.nice,trivial⟩,?_,?_⟩
  · have:=ha.dep; have:=hb.dep; simp [PyData.depth,PyData.depthAll]; omega
  · have:=ha.wt; have:=hb.wt; simp [PyData.bulk,PyData.bulkAll]; omega
theorem Shw.l2 {a b:PyData} (ha:Lf a) (hb:Lf b):Shw (.list [a,b]):=by
  refine ⟨⟨ha.nice,hb.nice,trivial⟩,?_,?_⟩
  · have:=ha.dep; have:=hb.dep; simp [PyData.depth,PyData.depthAll]; omega
  · have:=ha.wt; have:=hb.wt; simp [PyData.bulk,PyData.bulkAll]; omega
theorem Shw.t3 {a b c:PyData} (ha:Lf a) (hb:Lf b) (hc:Lf c):Shw (.tuple [a,b,c]):=by
  refine ⟨⟨ha.nice,hb.nice,hc.nice,trivial⟩,?_,?_⟩
  · have:=ha.dep; have:=hb.dep; have:=hc.dep; simp [PyData.depth,PyData.depthAll]; omega
  · have:=ha.wt; have:=hb.wt; have:=hc.wt; simp [PyData.bulk,PyData.bulkAll]; omega
theorem Lf.pair {a b:Int} (ha:a.natAbs < 2 ^ 900) (hb:b.natAbs < 2 ^ 900):Lf (.tuple [.int a,.int b]):=by
  refine ⟨⟨Nat.lt_trans ha (Nat.pow_lt_pow_right (by decide) (by decide)),Nat.lt_trans hb (Nat.pow_lt_pow_right (by decide) (by decide)),trivial⟩,by simp [PyData.depth,PyData.depthAll],by simp [PyData.bulk,PyData.bulkAll]⟩
theorem at_in {α:Type} {xs:List α} {k:Int} (h0 : 0 <= k) (h1:k < (xs.length:Int)):∃ z,L2.atI xs k = some z /\ z ∈ xs:=by
  obtain ⟨n,rfl⟩:=Int.eq_ofNat_of_zero_le h0
  have hn:n < xs.length:=by omega
  exact ⟨xs[n],atI_nat (List.getElem?_eq_getElem hn),List.getElem_mem hn⟩

theorem Lf.i {i:Int} (h:i.natAbs < 2 ^ 250):Lf (.int i):=.int (Nat.lt_of_lt_of_le h (Nat.pow_le_pow_right (by decide) (by decide)))
theorem Lf.p {a b:Int} (ha:a.natAbs < 2 ^ 250) (hb:b.natAbs < 2 ^ 250):Lf (.tuple [.int a,.int b]):=.pair (Nat.lt_of_lt_of_le ha (Nat.pow_le_pow_right (by decide) (by decide))) (Nat.lt_of_lt_of_le hb (Nat.pow_le_pow_right (by decide) (by decide)))
theorem rep_str {K:W.Frag} {F:Hp} {v:V} {i:Str} (h:Rep K F v (.str i)):v = .str i:=by cases h; rfl
def gEqS (neg:Bool):W -> W -> (W -> Prop) -> Prop:=fun x y Q=>∃ a b:Str,x = .d (.str a) /\ y = .d (.str b) /\ Q (.d (.bool (if neg then !decide (a = b) else decide (a = b))))
theorem vo_neS {X:Cx} {rl:Option Addr}:VOp X rl rNe (gEqS true):=fun {F H x y wx wy} Qd Q s ra r1 r2 q k=>by
  obtain ⟨a,b,rfl,rfl,q⟩:=q
  have e1:=rep_str r1
  have e2:=rep_str r2
  subst e1 e2
  have e:decide (V.str a = V.str b) = decide (a = b):=by
    by_cases h:a = b
    · subst h; simp
    · rw [decide_eq_false h,decide_eq_false fun z=>h (by injection z)]
  exact ⟨rfl,by rw [e]; exact k _ (.d _) _ _ (Grow.refl s ra) (.bl _) trivial q⟩
def vspL (K:W.Frag) (rl:Option Addr) (P:List W -> (List PyData -> Prop) -> Prop):Sp:=fun vs H Q _=>∃ F ws,Same F H /\ RAt rl F H /\ RelWs K rl F H vs ws /\ ws.all argOk = true /\ P ws fun xs=>∀ v F' H',Grow rl F H F' H' -> OwnL K rl F' H' v xs -> NewIn H v (.ml xs) -> Q v H'
def lEnds (Q:List PyData -> Prop):VEnds:=⟨fun _=>False,fun w=>∃ xs,w = .ml xs /\ Q xs,fun _=>False,fun _=>False⟩
structure DfnL (P:Program) (w:World) (K:W.Frag) (mg:Str -> Option Value) (base:Heap) (rl:Option Addr) (x:Str) (ps:List Str) (k:Nat) (Pd:List W -> (List PyData -> Prop) -> Prop):Prop where
  mono:∀ ws Q Q',(∀ d,Q d -> Q' d) -> Pd ws Q -> Pd ws Q'
  ex:∃ f fd,mg x = some (.ref f) /\ W.keepIn K (.ref f) = true /\ Binds K fd ps [] /\ FnOk P w K mg base CX0 k f fd ps (vspL K rl Pd)
section
variable {P:Program} {w:World} {K:W.Frag} {mg:Str -> Option Value} {base:Heap} {rl:Option Addr} {x:Str} {st:Stmt} {N ps:List Str} {k:Nat} {Pd:List W -> (List PyData -> Prop) -> Prop} {t:TSv}
theorem DfnL.of (Fn:FnIn K mg x st ps) (S:FnScope N ps (defScope st)) (mono:∀ ws Q Q',(∀ d,Q d -> Q' d) -> Pd ws Q -> Pd ws Q') (len:∀ ws Q,Pd ws Q -> ws.length = ps.length)
    (hbody:∀ {f:Addr} (cdv:Value) (A:Around) (outer:List Env) (s:Shared) (H:Hp) (E:XK),Room k (A.deeper (envOfC x (defScope st) s.heap.objs.size f cdv)) ->
      PSsV (cxOf CX0 P w K mg base N x (defScope st) f cdv A outer s H E).nox rl (defBody st) t)
    (hread:∀ ws Q,Pd ws Q -> t (lEnds Q) (startV N ws)):DfnL P w K mg base rl x ps (k + 1) Pd:=by
  obtain ⟨f,fd,hm,F,hb⟩:=Fn.ex
  refine ⟨mono,f,fd,hm,F.kp,hb,?_⟩
  refine F.ok S (fun vs H Q E ⟨F,ws,_,_,r,_,q⟩=>(Paired.length r).trans (len ws _ q)) fun cdv A outer s H vs Q E hr h=>?_
  obtain ⟨F,ws,sm,ra,r,ok,q⟩:=h
  obtain ⟨T,p,kk⟩:=hbody cdv A outer s H E hr
  refine ⟨T,p,kk (vr_start sm ra r ok) (lEnds _) _ ⟨fun _ _ _ _ _ _ z=>False.elim z,?_,fun _ _ _ _ _ _ z=>False.elim z,fun _ _ _ _ _ _ z=>False.elim z⟩ (hread ws _ q)⟩
  rintro v w1 F1 H1 g1 r1 n1 ⟨xs,rfl,q1⟩
  exact q1 v F1 H1 g1 r1 n1
end
section
variable {X:Cx} {rl:Option Addr} {e:Expr} {es:List Expr} {fs:TVs} {pos p:Pos}
theorem pss_any (X:Cx) (rest:List Stmt):PSs X rest (fun D σ H=>∀ pins s,Inv X pins σ H s -> wpAny (model X.prog X.w) X.A (execs rest X.env) (SP X pins D) X.xe s):=fun pins s σ H D I h=>h pins s I
end
theorem cutV_all {ns:List Int} (h:ns.length <= 63):cutV (ns.map V.int) none (some 63) = ns.map V.int:=by
  unfold cutV
  rw [HT.sIx_none]
  have e:HT.sIx (ns.map V.int).length (ns.map V.int).length (some 63) = (ns.map V.int).length:=by
    have:=HT.sIx_nat (ns.map V.int).length (ns.map V.int).length 63
    rw [show ((63:Nat):Int) = 63 from rfl] at this
    rw [this,List.length_map]
    omega
  rw [e]
  simp
  exact List.take_of_length_le (by simp)
end L2.VL

namespace L2.VL
open PySem PySem.Spec PyProof.Rows
section
variable {X:Cx} {rl:Option Addr} {a b c e:Expr} {es:List Expr} {fa fb fc:TV} {fs:TVs} {pos p:Pos}
def seqD:PyData -> Option (List PyData)
  | .list xs=>some xs
  | .tuple xs=>some xs
  | _=>none
theorem seq_l (xs:List PyData):seqD (.list xs) = some xs:=rfl
theorem seq_t (xs:List PyData):seqD (.tuple xs) = some xs:=rfl
theorem seqD.of {o:Option PyData} {d:PyData} {xs:List PyData} (h:o = some d) (e:seqD d = some xs):o = some (.list xs) \/ o = some (.tuple xs):=by
  cases d <;> cases e
  · exact .inl h
  · exact .inr h
def gTupO:List W -> (W -> Prop) -> Prop:=fun ws Q=>∃ w d xs,ws = [w] /\ w.dat = some d /\ seqD d = some xs /\ Q (.d (.tuple xs))
theorem vc_tup:VCall X rl (fun xs H Q=>∃ p ys,xs = [.ref p] /\ ((SqL X.K H p ys /\ ∀ l,H l = none -> Q (.ref l) (upd H l (.tup ys))) \/ (SqT X.K H p ys /\ Q (.ref p) H))) gTupO:=fun {F H vs ws} Qd Q s ra r ⟨w,d,xs,ew,ed1,ed2,q⟩ k=>by
  have ed:=seqD.of ed1 ed2
  subst ew
  obtain ⟨v,rfl,r1⟩:=rel1 r
  rcases ed with ed | ed
  · obtain ⟨a,us,rfl,sq,rs⟩:=r1.items s ed
    refine ⟨a,us,rfl,.inl ⟨sq,fun l hl=>?_⟩⟩
    have g:=Grow.data (a:=l) (o:=.tup us) s ra hl
    exact k _ (.d (.tuple xs)) _ _ g (.tup (.inl (.inl upd_same)) (rs.mono g.fs)) trivial q
  · cases w with
    | d y =>
      cases ed
      cases (show Rep X.K F v (.tuple xs) from r1) with
      | tup sq rs=>exact ⟨_,_,rfl,.inr ⟨sameT s sq,k _ (.d (.tuple xs)) _ _ (Grow.refl s ra) (.tup sq rs) trivial q⟩⟩
    | ml ys=>cases ed
    | pk ys=>cases ed
    | reel=>cases ed
    | vv u=>cases ed
    | md u=>cases ed
    | mk u=>cases ed
    | lk=>cases ed
    | sc _=>cases ed
    | fd _=>cases ed
    | fw _=>cases ed
    | ft _=>cases ed
    | xc _ _=>cases ed
    | dp _ _=>cases ed
    | nt ds =>
      cases ed
      obtain ⟨b,us,rfl,h,q'⟩:=r1
      exact ⟨_,_,rfl,.inr ⟨.inl (.inl (s _ _ h)),k _ (.d (.tuple xs)) _ _ (Grow.refl s ra) (.tup (.inl (.inl h)) q') trivial q⟩⟩
theorem v_tuple (hm:X.mg "tuple" = none) (ha:PVs X rl [a] fs) (hg:Gl X "tuple" := by rfl) (he:starEach [a] X.env = (false,eval a X.env) :: starEach [] X.env:=by rfl) (hpl:(backTo pos (starEach [] X.env)).any (·.1) = false:=by rfl) :
    PV X rl (.Call (.Name "tuple" p) [a] [] pos) (vCall gTupO fs):=v_callTy call_tuple_of vc_tup hm (by rfl) ha hg (by decide) (by decide) he hpl
end
end L2.VL
namespace L2.VL
open PySem PySem.Spec PyProof.Rows
section
variable {X:Cx} {rl:Option Addr}
end
end L2.VL

namespace L2.VL
open PySem PySem.Spec PyProof.Rows
section
variable {X:Cx} {rl:Option Addr} {a b c e:Expr} {es:List Expr} {fa fb fc:TV} {fs:TVs} {pos p p2:Pos}
def cutD (xs:List PyData) (lo hi:Option Int):List PyData:=(xs.drop (HT.sIx xs.length 0 lo)).take (HT.sIx xs.length xs.length hi - HT.sIx xs.length 0 lo)
theorem Reps.cut {K:W.Frag} {F:Hp} {vs:List V} {ds:List PyData} (r:Reps K F vs ds) (lo hi:Option Int):Reps K F (cutV vs lo hi) (cutD ds lo hi):=by
  unfold cutV cutD
  rw [r.length]
  exact (r.drop _).take _
abbrev TOv:=En -> (Option Int -> Prop) -> Prop
def vSlL (fa:TV) (fl fh:TOv):TV:=fun ρ Q=>fa ρ fun w=>fl ρ fun l=>fh ρ fun h=>∃ xs,w.dat = some (.list xs) /\ Q (.ml (cutD xs l h))
theorem RelW.lst {K:W.Frag} {F H:Hp} {v:V} {w:W} {xs:List PyData} (s:Same F H) (r:RelW K rl F H v w) (e:w.dat = some (.list xs)):∃ a vs,v = .ref a /\ H a = some (.lst vs) /\ Reps K F vs xs:=by
  have own:OwnL K rl F H v xs -> ∃ a vs,v = .ref a /\ H a = some (.lst vs) /\ Reps K F vs xs:=fun ⟨a,vs,e1,_,_,e2,e3⟩=>⟨a,vs,e1,e2,e3⟩
  cases w with
  | d y =>
    cases e
    cases (show Rep K F v (.list xs) from r) with
    | lst h q=>exact ⟨_,_,rfl,s _ _ h,q⟩
  | ml ys=>cases e; exact own r
  | pk ys=>cases e; exact own r
  | reel=>cases e
  | vv u=>cases e
  | md u=>cases e
  | mk u=>cases e
  | nt u=>cases e
  | lk=>cases e
  | sc _=>cases e
  | fd _=>cases e
  | fw _=>cases e
  | ft _=>cases e
  | xc _ _=>cases e
  | dp _ _=>cases e
def vChain (p p':Int -> Int -> Bool) (fa fb fc:TV):TV:=fun ρ Q=>fa ρ fun x=>fb ρ fun y=>∃ i j,x = .d (.int i) /\ y = .d (.int j) /\
  if p i j = true then fc ρ fun z=>∃ k,z = .d (.int k) /\ Q (.d (.bool (p' j k))) else Q (.d (.bool false))
theorem vb_chain {op op':CmpOp} {p p':Int -> Int -> Bool} (ho:OpR X (compareOp op) (rI0 fun i j=>.bl (p i j))) (ho':OpR X (compareOp op') (rI0 fun i j=>.bl (p' i j))) (ha:PV X rl a fa) (hb:PV X rl b fb) (hc:PV X rl c fc)
    (hm:lastMarks [op,op'] [b,c] = false:=by with_unfolding_all rfl):PB X rl (.Compare a [op,op'] [b,c] pos) (vTest (vChain p p' fa fb fc)):=by
  obtain ⟨t,p1,k1⟩:=ha
  obtain ⟨t2,p2,k2⟩:=hb
  obtain ⟨t3,p3,k3⟩:=hc
  refine ⟨_,pt_chain ho ho' p1 p2 p3 hm,fun R Qd Q q h=>k1 R _ _ q fun v w F1 H1 g1 r1 n1 q1=>k2 (R.grow g1) _ _ q1 fun v2 w2 F2 H2 g2 r2 n2 q2=>?_⟩
  obtain ⟨i,j,rfl,rfl,q2⟩:=q2
  have e1:=rep_int r1
  have e2:=rep_int r2
  subst e1 e2
  refine ⟨i,j,rfl,rfl,p i j,rfl,?_⟩
  cases hp:p i j with
  | false =>
    rw [hp] at q2
    rw [if_neg (by decide)] at q2 ⊢
    obtain ⟨k,ek,q2⟩:=q2
    cases ek
    exact ⟨false,rfl,h false F2 H2 (g1.trans g2) q2⟩
  | true =>
    rw [hp] at q2
    rw [if_pos rfl] at q2 ⊢
    refine k3 ((R.grow g1).grow g2) _ _ q2 fun v3 w3 F3 H3 g3 r3 n3 ⟨k,ek,q3⟩=>?_
    subst ek
    have e3:=rep_int r3
    subst e3
    obtain ⟨kk,ekk,q3⟩:=q3
    cases ekk
    exact ⟨j,k,rfl,rfl,p' j k,rfl,h _ F3 H3 ((g1.trans g2).trans g3) q3⟩
structure GlD (K:W.Frag) (mg:Str -> Option Value) (x:Str) (d:PyData):Prop where
  ex:∃ v u,mg x = some u /\ RelV v u /\ ∀ F,Rep K F v d
structure GlK (K:W.Frag) (x:Str) (d:PyData):Prop where
  ex:∃ v u,W.nsIn K mainGlobals x = some (some u) /\ RelV v u /\ ∀ F,Rep K F v d
theorem GlK.of {K:W.Frag} {x:Str} {d:PyData} {h:Heap} {mg:Str -> Option Value} (k:GlK K x d) (Y:K.In h) (G:h.Ns mainGlobals mg):GlD K mg x d:=by
  obtain ⟨v,u,h1,h2,h3⟩:=k.ex
  exact ⟨v,u,W.mg_of Y G h1,h2,h3⟩
end
end L2.VL

namespace L2
open PySem PySem.Spec PyProof.Rows
section
variable {X:Cx} {a b:Expr} {ta:TA} {p q pos pos2:Pos}
end
end L2
namespace L2.VL
open PySem PySem.Spec PyProof.Rows
section
variable {X:Cx} {rl:Option Addr} {a b c e:Expr} {es:List Expr} {fa fb fc:TV} {fs:TVs} {pos pos2 p q:Pos}
theorem Reps.erase {K:W.Frag} {F:Hp}:∀ {vs:List V} {ds:List PyData} (n:Nat),Reps K F vs ds -> Reps K F (vs.eraseIdx n) (ds.eraseIdx n)
  | _,_,_,.nil=>by simp; exact .nil
  | _,_,0,.cons h r=>r
  | _,_,n + 1,.cons h r=>.cons h (Reps.erase n r)
end
end L2.VL

namespace L2.VL
open PySem PySem.Spec PyProof.Rows
end L2.VL
namespace L2.VL
open PySem PySem.Spec PyProof.Rows
end L2.VL
namespace L2.VL
open PySem PySem.Spec PyProof.Rows
end L2.VL
namespace L2.VL
open PySem PySem.Spec PyProof.Rows
structure Sm (dp bk:Nat) (d:PyData):Prop where
  nice:Nice d
  dep:d.depth <= dp
  blk:d.bulk <= bk
theorem niceAll_of:∀ {xs:List PyData},(∀ d ∈ xs,Nice d) -> NiceAll xs
  | [],_=>trivial
  | x :: xs,h=>⟨h x List.mem_cons_self,niceAll_of fun d hd=>h d (List.mem_cons_of_mem _ hd)⟩
theorem depthAll_le {k:Nat}:∀ {xs:List PyData},(∀ d ∈ xs,d.depth <= k) -> PyData.depthAll xs <= k + 1
  | [],_=>by simp [PyData.depthAll]
  | x :: xs,h=>by
    have h1:=h x List.mem_cons_self
    have h2:=depthAll_le (k:=k) (xs:=xs) fun d hd=>h d (List.mem_cons_of_mem _ hd)
    simp only [PyData.depthAll]
    omega
theorem bulkAll_le {k:Nat}:∀ {xs:List PyData},(∀ d ∈ xs,d.bulk <= k) -> PyData.bulkAll xs <= (k + 1) * xs.length
  | [],_=>by simp [PyData.bulkAll]
  | x :: xs,h=>by
    have h1:=h x List.mem_cons_self
    have h2:=bulkAll_le (k:=k) (xs:=xs) fun d hd=>h d (List.mem_cons_of_mem _ hd)
    simp only [PyData.bulkAll,List.length_cons,Nat.mul_succ]
    omega
theorem Sm.seq {dp bk n:Nat} {xs:List PyData} (h:∀ d ∈ xs,Sm dp bk d) (hl:xs.length <= n):Sm (dp + 2) ((bk + 1) * n) (.tuple xs) /\ Sm (dp + 2) ((bk + 1) * n) (.list xs):=by
  have a:=niceAll_of fun d hd=>(h d hd).nice
  have b:=depthAll_le fun d hd=>(h d hd).dep
  have c:PyData.bulkAll xs <= (bk + 1) * n:=Nat.le_trans (bulkAll_le fun d hd=>(h d hd).blk) (Nat.mul_le_mul_left _ hl)
  refine ⟨⟨a,?_,c⟩,⟨a,?_,c⟩⟩ <;> simp only [PyData.depth] <;> omega
theorem Sm.shw {dp bk:Nat} {d:PyData} (h:Sm dp bk d) (h1:dp <= 60) (h2:bk <= 8000):Shw d:=⟨h.nice,by have:=h.dep; omega,by have:=h.blk; omega⟩
theorem Sm.int {i:Int} (h:i.natAbs < 2 ^ 1000):Sm 0 0 (.int i):=⟨(Lf.int h).nice,by simp [PyData.depth],by simp [PyData.bulk]⟩
theorem Sm.bool {b:Bool}:Sm 0 0 (.bool b):=⟨trivial,by simp [PyData.depth],by simp [PyData.bulk]⟩
theorem Sm.none:Sm 0 0 .none:=⟨trivial,by simp [PyData.depth],by simp [PyData.bulk]⟩
theorem Sm.mono {dp bk dp' bk':Nat} {d:PyData} (h:Sm dp bk d) (h1:dp <= dp') (h2:bk <= bk'):Sm dp' bk' d:=⟨h.nice,Nat.le_trans h.dep h1,Nat.le_trans h.blk h2⟩
theorem Sm.pair {a b:Int} (ha:a.natAbs < 2 ^ 1000) (hb:b.natAbs < 2 ^ 1000):Sm 2 2 (.tuple [.int a,.int b]) :=
  (Sm.seq (dp:=0) (bk:=0) (n:=2) (xs:=[.int a,.int b]) (fun d hd=>by
    rcases List.mem_cons.mp hd with rfl | hd
    · exact Sm.int ha
    · rcases List.mem_cons.mp hd with rfl | hd
      · exact Sm.int hb
      · cases hd) (Nat.le_refl _)).1
theorem Shw.refl {d:PyData} (h:Shw d):PyData.eqv d d = true:=SeqAt.eqv_refl d (Nice.facts d h.1).2.1
end L2.VL

namespace L2
open PySem PySem.Spec PyProof.Rows
def Itv (K:W.Frag) (a:Addr) (n:Nat):It :=
  ⟨fun i H=>i < n /\ ∃ xs,SqL K H a xs /\ xs.length = n,fun i H x H'=>H' = H /\ ∀ xs,SqL K H a xs -> xs[n - 1 - i]? = some x,fun i H=>n <= i⟩
theorem turn_rev {P:Program} {w:World} {K:W.Frag} {tg:Expr} (a it:Addr) (n:Nat):Turn P w K tg (Itv K a n) [it] it (fun i h=>h.IsRevIter it a ((n:Int) - 1 - (min i n:Nat))) where
  mem:=by simp
  obj:=fun i h st b hb=>by
    have e:b = it:=by simpa using hb
    subst e
    obtain ⟨o,e,c,d⟩:=st
    exact ⟨o,e,fun v z=>by rw [d] at z; cases z⟩
  keep:=fun i h h' st k=>st.at fun o e=>k it (by simp) o e
  item:=by
    intro X hP hw hK hc i pins s σ H E I hf st hg
    subst hP hw hK
    obtain ⟨hi,xs,hq,hl⟩:=hg
    obtain ⟨its,rv,p,hz⟩:=I.list hq
    have hx:xs[n - 1 - i]? = some xs[n - 1 - i]:=List.getElem?_eq_getElem (by omega)
    obtain ⟨u,hu,ru⟩:=rv.get hx
    obtain ⟨f0,f1,f2,f3,f4,f5⟩:=hf it (by simp)
    have e1:(n:Int) - 1 - (min i n:Nat) = ((n - 1 - i:Nat):Int):=by omega
    rw [e1] at st
    refine wpAny_pyNext_rev_item st p.isList (x:=u) (by simpa using hu) fun h' st' sb=>?_
    have I1:Inv X pins σ H { s with heap:=h' }:=I.turned (t':=s.toks) (fun b o hb e=>(sb.2 b hb).trans e) f0 f1 f3 f4 f5
    have e2:((n - 1 - i:Nat):Int) - 1 = (n:Int) - 1 - (min (i + 1) n:Nat):=by omega
    rw [e2] at st'
    obtain ⟨o,e,c,d⟩:=id st'
    exact ⟨u,rfl,go_of (s:={ s with heap:=h' }) e c d (by decide) ⟨_,H,I1,ru,⟨rfl,fun ys hy=>by rw [I.list_inj hy hq]; exact hx⟩,st',fun b hb=>(hf b hb).1⟩⟩
  done:=by
    intro X hP hw hK hc i pins s σ H E I hf st hg
    subst hP hw hK
    have hg:n <= i:=hg
    obtain ⟨f0,f1,f2,f3,f4,f5⟩:=hf it (by simp)
    have e1:(n:Int) - 1 - (min i n:Nat) = -1:=by omega
    rw [e1] at st
    exact wpAny_pyNext_rev_end (I.ok.hd hc) st fun h' eb=>⟨rfl,I.turned (t':=s.toks) (fun b o hb e=>eb b o hb e) f0 f1 f3 f4 f5⟩
  self:=fun _ _ _ _ _ st h=>wpAny_pyIter_revIter st h
section
variable {X:Cx} {tg e:Expr} {ta te:TE} {p p2 pos:Pos}
def iRev (K:W.Frag) (t:TA):TI:=fun σ H R=>t σ H fun vs H1=>∃ a xs,vs = [.ref a] /\ SqL K H1 a xs /\ R (Itv K a xs.length) H1
theorem pi_rev {a:Expr} {ta:TA} (hg:Gl X "reversed") (hm:X.mg "reversed" = none) (ha:PA X [a] ta) (hs:starEach [a] X.env = [(false,eval a X.env)]:=by rfl):PI X tg (.Call (.Name "reversed" p) [a] [] pos) (iRev X.K ta):=by
  intro pins s σ H R I h
  refine Call_ (ld_blt I hg hm (by rfl) (PyProof.Rows.callWith_type1 (thn (ha pos pins s σ H _ I h) fun us s1 ⟨vs,H1,I1,r1,q1⟩=>?_) hs rfl) (by decide) (by decide))
  obtain ⟨a,xs,e,hq,q⟩:=q1
  subst e
  cases r1 with
  | cons r rr =>
    cases rr
    cases r
    obtain ⟨its,rv,p,hz⟩:=I1.list hq
    have hl:=rv.length
    refine call_reversed_list p.isList ?_
    refine wpAny_pyIter_revIter (it:=s1.heap.objs.size) (l:=a) (i:=(xs.length:Int) - 1) ⟨_,Heap.get?_push_size _ rfl,rfl,by simp [hl,revObj]⟩ ?_
    refine ⟨s1.heap.objs.size,[s1.heap.objs.size],_,_,H1,rfl,I1.kept (t':=s1.toks) fun b o e=>Heap.get?_push_of_some _ e,turn_rev a _ xs.length,?_,fun b hb=>?_,q⟩
    · exact ⟨_,Heap.get?_push_size _ rfl,rfl,by simp [hl,revObj]⟩
    · have e:b = s1.heap.objs.size:=by simpa using hb
      subst e
      exact I1.fpOk (Nat.le_refl _) (I1.hok.fresh (Nat.le_refl _))
end
end L2
namespace L2.VL
open PySem PySem.Spec PyProof.Rows
section
variable {X:Cx} {rl:Option Addr} {a b c e tg:Expr} {es:List Expr} {fa fb fc:TV} {fs:TVs} {pos pos2 p p2 q:Pos}
theorem Reps.rev {K:W.Frag} {F:Hp}:∀ {vs:List V} {ds:List PyData},Reps K F vs ds -> Reps K F vs.reverse ds.reverse
  | _,_,.nil=>.nil
  | _,_,.cons h r=>by rw [List.reverse_cons,List.reverse_cons]; exact (Reps.rev r).snoc h
def iRv (fs:TVs):En -> (List PyData -> Prop) -> Prop:=fun ρ Q=>fs ρ fun ws=>∃ xs,ws = [.d (.list xs)] /\ Q xs.reverse
theorem vi_reversedL (hm:X.mg "reversed" = none) (ha:PVs X rl [a] fs) (hg:Gl X "reversed" := by rfl) (hs:starEach [a] X.env = [(false,eval a X.env)]:=by rfl):PIV X rl tg (.Call (.Name "reversed" p) [a] [] pos) (iRv fs):=by
  obtain ⟨t,p1,k⟩:=ha
  refine ⟨_,pi_rev hg hm p1 hs,fun R Qd Q q h=>k R _ _ q fun vs ws F1 H1 g1 r1 ⟨xs,ew,q1⟩=>?_⟩
  subst ew
  obtain ⟨v,rfl,rv⟩:=rel1 r1
  cases (show Rep X.K F1 v (.list xs) from rv) with
  | @lst a vs _ sq rs =>
    have sqH:∀ H,Same F1 H -> SqL X.K H a vs:=fun H s=>.inl (.inl (s _ _ sq))
    have hl:=rs.length
    refine ⟨a,vs,rfl,sqH H1 g1.sub,h _ xs.reverse F1 H1 g1 (.of (fun i H x e s=>⟨?_,vs,sqH H s,rfl⟩) (fun i H hl' s=>?_) (fun i H v H' x e s y=>?_)) q1⟩
    · have:=(List.getElem?_eq_some_iff.mp e).1
      rw [List.length_reverse] at this
      omega
    · show vs.length <= i
      rw [List.length_reverse] at hl'
      omega
    · obtain ⟨e',hy⟩:=y
      obtain ⟨v',ev,rv'⟩:=rs.rev.get e
      have h1:=hy vs (sqH H s)
      have hi:i < vs.length:=by
        have:=(List.getElem?_eq_some_iff.mp ev).1
        simpa using this
      rw [List.getElem?_reverse hi,h1] at ev
      cases ev
      exact ⟨e',rv'⟩
end
end L2.VL

namespace L2
open PySem PySem.Spec PyProof.Rows
section
variable {X:Cx}
end
end L2
namespace L2.VL
open PySem PySem.Spec PyProof.Rows
section
variable {X:Cx} {rl:Option Addr} {a b c e:Expr} {es:List Expr} {fa fb fc:TV} {fs:TVs} {pos p p2:Pos}
end
end L2.VL

namespace L2.TM
open PySem PySem.Spec PyProof.Rows
section
variable {prog:Program} {w:World} {A:Around} {E:Value -> Shared -> Prop} {s:Shared} {k:Int} {t:Tok} {l:Addr} {its:Array Value}
end
end L2.TM
namespace L2
open PySem PySem.Spec PyProof.Rows
section
variable {X:Cx}
end
end L2
namespace L2.VL
open PySem PySem.Spec PyProof.Rows
section
variable {X:Cx} {rl:Option Addr} {a b c e:Expr} {es:List Expr} {fa fb fc:TV} {fs:TVs} {pos p p2:Pos}
end
end L2.VL

namespace L2
open PySem PySem.Spec PyProof.Rows
section
variable {X:Cx}
section
variable {prog:Program} {w:World} {A:Around} {E:Value -> Shared -> Prop} {s:Shared}
end
end
end L2
namespace L2.VL
open PySem PySem.Spec PyProof.Rows
section
variable {X:Cx} {rl:Option Addr} {a b c e:Expr} {es:List Expr} {fa fb fc:TV} {fs:TVs} {pos p p2:Pos}
end
end L2.VL

namespace L2.TO
open PySem PySem.Spec PyProof.Rows
section
variable {prog:Program} {w:World} {A:Around} {E:Value -> Shared -> Prop} {s:Shared}
end
end L2.TO
namespace L2
open PySem PySem.Spec PyProof.Rows
section
variable {X:Cx} {a b e:Expr} {ta:TA} {te:TE} {p p2 q pos pos2:Pos}
end
end L2
namespace L2.VL
open PySem PySem.Spec PyProof.Rows
section
variable {X:Cx} {rl:Option Addr} {a b c e:Expr} {es:List Expr} {fa fb fc:TV} {fs:TVs} {pos pos2 p q p2:Pos}
end
end L2.VL

namespace L2.TW
open PySem PySem.Spec PyProof.Rows
section
variable {prog:Program} {w:World} {A:Around} {E:Value -> Shared -> Prop} {s:Shared}
end
end L2.TW
namespace L2
open PySem PySem.Spec PyProof.Rows
section
variable {X:Cx}
end
end L2
namespace L2.VL
open PySem PySem.Spec PyProof.Rows
section
variable {X:Cx} {rl:Option Addr} {a b c e:Expr} {es:List Expr} {fa fb fc:TV} {fs:TVs} {pos p p2:Pos}
end
end L2.VL

namespace L2
open PySem PySem.Spec PyProof.Rows
abbrev tabD (D:List (Str × Int)):List (PyData × PyData):=(D.map fun q=>(q.1,PyData.int q.2)).map fun q=>(PyData.str q.1,q.2)
structure GlT (P:Program) (w:World) (K:W.Frag) (mg:Str -> Option Value) (x:Str) (D:List (Str × Int)):Prop where
  ex:∃ p,mg x = some (.ref p) /\ ∀ h,K.In h -> StrTab P w h p (tabD D)
section
variable {X:Cx} {e:Expr} {ty:TE} {px apos cpos:Pos}
end
end L2
namespace L2.VL
open PySem PySem.Spec PyProof.Rows
section
variable {X:Cx} {rl:Option Addr} {a b c e:Expr} {es:List Expr} {fa fb fc:TV} {fs:TVs} {pos p p2 px apos cpos:Pos}
end
end L2.VL

set_option exponentiation.threshold 10000
namespace L2.VL
open PySem PySem.Spec PyProof.Rows
def gcdN:List W -> (PyData -> Prop) -> Prop:=fun ws Q=>∃ i j:Int,ws = [.d (.int i),.d (.int j)] /\ 0 <= i /\ 0 <= j /\ Q (.int (Int.gcd i j))
theorem gcdN.mono:∀ ws (Q Q':PyData -> Prop),(∀ d,Q d -> Q' d) -> gcdN ws Q -> gcdN ws Q':=fun _ _ _ h ⟨i,j,e,a,b,q⟩=>⟨i,j,e,a,b,h _ q⟩
theorem gcdN.len:∀ ws (Q:PyData -> Prop),gcdN ws Q -> ws.length = 2:=fun _ _ ⟨_,_,e,_⟩=>by subst e; rfl
def lowD (a b:Int):PyData:=.tuple [.int (a.fdiv (Int.gcd a b)),.int (b.fdiv (Int.gcd a b))]
def lowP:List W -> (PyData -> Prop) -> Prop:=fun ws Q=>∃ a b:Int,ws = [.d (.int a),.d (.int b)] /\ 0 < b /\ b.natAbs < 2 ^ 8000 /\ Q (lowD a b)
theorem lowP.mono:∀ ws (Q Q':PyData -> Prop),(∀ d,Q d -> Q' d) -> lowP ws Q -> lowP ws Q':=fun _ _ _ h ⟨i,j,e,a,b,q⟩=>⟨i,j,e,a,b,h _ q⟩
theorem lowP.len:∀ ws (Q:PyData -> Prop),lowP ws Q -> ws.length = 2:=fun _ _ ⟨_,_,e,_⟩=>by subst e; rfl
theorem gcd_div {a b:Int} (hb : 0 < b) (z:b.natAbs < 2 ^ 8000) (i:Int):CDivB i (Int.gcd a b:Int):=by
  have h1:=gcd_pos (a:=a) (b:=b) (by omega)
  have h2:=gcd_le (a:=a) (b:=b) (by omega)
  exact ⟨by omega,Nat.lt_of_le_of_lt (by omega) (Nat.lt_of_lt_of_le z (Nat.pow_le_pow_right (by decide) (by decide)))⟩
def iP (n:Nat) (pre:List Int -> Prop) (f:List Int -> PyData):List W -> (PyData -> Prop) -> Prop:=fun ws Q=>∃ xs:List Int,ws = xs.map (fun i=>.d (.int i)) /\ xs.length = n /\ pre xs /\ Q (f xs)
theorem iP.mono {n:Nat} {pre:List Int -> Prop} {f:List Int -> PyData}:∀ ws (Q Q':PyData -> Prop),(∀ d,Q d -> Q' d) -> iP n pre f ws Q -> iP n pre f ws Q':=fun _ _ _ h ⟨i,e,a,b,q⟩=>⟨i,e,a,b,h _ q⟩
def i2P (pre:Int -> Int -> Prop) (f:Int -> Int -> PyData):List W -> (PyData -> Prop) -> Prop:=fun ws Q=>∃ i j:Int,ws = [.d (.int i),.d (.int j)] /\ pre i j /\ Q (f i j)
theorem i2P.mono {pre:Int -> Int -> Prop} {f:Int -> Int -> PyData}:∀ ws (Q Q':PyData -> Prop),(∀ d,Q d -> Q' d) -> i2P pre f ws Q -> i2P pre f ws Q':=fun _ _ _ h ⟨i,j,e,a,q⟩=>⟨i,j,e,a,h _ q⟩
theorem i2P.len {pre:Int -> Int -> Prop} {f:Int -> Int -> PyData}:∀ ws (Q:PyData -> Prop),i2P pre f ws Q -> ws.length = 2:=fun _ _ ⟨_,_,e,_⟩=>by subst e; rfl
structure IsEx (b:Int) (p:List Int):Prop where
  len:p.length = b.toNat
  zero:p.head? = some 0
  nd:p.Nodup
  rng:∀ x ∈ p,0 <= x /\ x < b
def exD (p:List Int):PyData:=.tuple (p.map .int)
def exP:List W -> (PyData -> Prop) -> Prop:=fun ws Q=>∃ b:Int,ws = [.reel,.d (.int b)] /\ 2 <= b /\ b <= 16 /\ ∀ p,IsEx b p -> Q (exD p)
theorem exP.mono:∀ ws (Q Q':PyData -> Prop),(∀ d,Q d -> Q' d) -> exP ws Q -> exP ws Q':=fun _ _ _ h ⟨b,e,x,y,q⟩=>⟨b,e,x,y,fun p hp=>h _ (q p hp)⟩
theorem exP.len:∀ ws (Q:PyData -> Prop),exP ws Q -> ws.length = 2:=fun _ _ ⟨_,e,_⟩=>by subst e; rfl
def intR (lo:Int) (n:Nat):List Int:=(List.range n).map fun (i:Nat)=>lo + i
theorem intR_mem {lo x:Int} {n:Nat}:x ∈ intR lo n ↔ lo <= x /\ x < lo + n:=by
  unfold intR
  simp only [List.mem_map,List.mem_range]
  constructor
  · rintro ⟨k,hk,rfl⟩; omega
  · rintro ⟨h1,h2⟩
    exact ⟨(x - lo).toNat,by omega,by omega⟩
theorem intR_length (lo:Int) (n:Nat):(intR lo n).length = n:=by simp [intR]
end L2.VL
namespace L2.VL
open PySem PySem.Spec PyProof.Rows
def rowD (rows:List (Int × List Int)):PyData:=.tuple (rows.map fun r=>.tuple [.int r.1,exD r.2])
structure IsRow (rows:List (Int × List Int)):Prop where
  lo : 1 <= rows.length
  hi:rows.length <= 4
  ok:∀ r ∈ rows,2 <= r.1 /\ r.1 <= 16 /\ IsEx r.1 r.2
  co:rows.Pairwise fun x y=>Int.gcd x.1 y.1 = 1
def rowP:List W -> (PyData -> Prop) -> Prop:=fun ws Q=>∃ m:Int,ws = [.reel,.d (.int m)] /\ 1 <= m /\ m <= 4 /\ ∀ rows,IsRow rows -> rows.length <= m.toNat -> Q (rowD rows)
theorem rowP.mono:∀ ws (Q Q':PyData -> Prop),(∀ d,Q d -> Q' d) -> rowP ws Q -> rowP ws Q':=fun _ _ _ h ⟨b,e,x,y,q⟩=>⟨b,e,x,y,fun p hp hl=>h _ (q p hp hl)⟩
theorem rowP.len:∀ ws (Q:PyData -> Prop),rowP ws Q -> ws.length = 2:=fun _ _ ⟨_,e,_⟩=>by subst e; rfl
def GoodB (bs:List Int):Prop:=bs.length = 4 /\ (∀ b ∈ bs,2 <= b /\ b <= 16) /\ bs.Pairwise fun x y=>Int.gcd x y = 1
instance (bs:List Int):Decidable (GoodB bs):=by unfold GoodB; infer_instance
end L2.VL
namespace L2.VL
open PySem PySem.Spec PyProof.Rows
def needP:List W -> (PyData -> Prop) -> Prop:=fun ws Q=>∃ b n:Int,ws = [.d (.int b),.d (.int n)] /\ 2 <= b /\ b <= 16 /\ n < 2 ^ 40 /\ ∀ e:Nat,n <= b ^ e -> (∀ k < e,b ^ k < n) -> Q (.int e)
theorem needP.mono:∀ ws (Q Q':PyData -> Prop),(∀ d,Q d -> Q' d) -> needP ws Q -> needP ws Q':=fun _ _ _ h ⟨b,n,e,x,y,z,q⟩=>⟨b,n,e,x,y,z,fun p a b=>h _ (q p a b)⟩
theorem needP.len:∀ ws (Q:PyData -> Prop),needP ws Q -> ws.length = 2:=fun _ _ ⟨_,_,e,_⟩=>by subst e; rfl
def pr (a b:Int):PyData:=.tuple [.int a,.int b]
def belowP:List W -> (PyData -> Prop) -> Prop:=fun ws Q=>∃ a b c d:Int,ws = [.d (pr a b),.d (pr c d)] /\ CMulB a d /\ CMulB c b /\ Q (.bool (decide (a * d < c * b)))
theorem belowP.mono:∀ ws (Q Q':PyData -> Prop),(∀ d,Q d -> Q' d) -> belowP ws Q -> belowP ws Q':=fun _ _ _ h ⟨b,n,c,d,e,x,y,q⟩=>⟨b,n,c,d,e,x,y,h _ q⟩
theorem belowP.len:∀ ws (Q:PyData -> Prop),belowP ws Q -> ws.length = 2:=fun _ _ ⟨_,_,_,_,e,_⟩=>by subst e; rfl
def lessP (f:Bool -> PyData -> PyData -> PyData):List W -> (PyData -> Prop) -> Prop:=fun ws Q=>∃ a b c d:Int,ws = [.d (pr a b),.d (pr c d)] /\ CMulB a d /\ CMulB c b /\ Q (f (decide (a * d < c * b)) (pr a b) (pr c d))
theorem lessP.mono {f:Bool -> PyData -> PyData -> PyData}:∀ ws (Q Q':PyData -> Prop),(∀ d,Q d -> Q' d) -> lessP f ws Q -> lessP f ws Q':=fun _ _ _ h ⟨b,n,c,d,e,x,y,q⟩=>⟨b,n,c,d,e,x,y,h _ q⟩
theorem lessP.len {f:Bool -> PyData -> PyData -> PyData}:∀ ws (Q:PyData -> Prop),lessP f ws Q -> ws.length = 2:=fun _ _ ⟨_,_,_,_,e,_⟩=>by subst e; rfl
end L2.VL
namespace L2.VL
open PySem PySem.Spec PyProof.Rows
def needed (b n:Int):Nat:=((List.range 31).filter fun k=>decide (b ^ k < n)).length
theorem pow_le_pow {b:Int} (h : 1 <= b) {i j:Nat} (hij:i <= j):b ^ i <= b ^ j:=by
  induction hij with
  | refl=>exact Int.le_refl _
  | step _ ih =>
    rw [Int.pow_succ]
    have : 0 <= b ^ i:=Int.le_of_lt (Int.pow_pos (by omega))
    exact Int.le_trans ih (by
      rename_i m _
      have hm : 0 < b ^ m:=Int.pow_pos (by omega)
      have:=Int.mul_le_mul_of_nonneg_left h (Int.le_of_lt hm)
      omega)
theorem pow_mono {a b:Int} (h0 : 0 <= a) (h:a <= b):∀ k:Nat,a ^ k <= b ^ k
  | 0=>by simp
  | k + 1=>by
    rw [Int.pow_succ,Int.pow_succ]
    exact Int.mul_le_mul (pow_mono h0 h k) h h0 (Int.pow_nonneg (by omega))
def stepB (n:Int) (p:Int) (r:Int × List Int):Int:=p * max 1 ((r.1 - 1) * needed r.1 n)
def boundD (p n:Int):PyData:=lowD (min n p) n
end L2.VL
namespace L2.VL
open PySem PySem.Spec PyProof.Rows
def rbP:List W -> (PyData -> Prop) -> Prop:=fun ws Q=>∃ rows n,ws = [.d (rowD rows),.d (.int n)] /\ IsRow rows /\ 1 <= n /\ n <= 2 ^ 31 /\ Q (boundD (rows.foldl (stepB n) 1 + rows.length) n)
theorem rbP.mono:∀ ws (Q Q':PyData -> Prop),(∀ d,Q d -> Q' d) -> rbP ws Q -> rbP ws Q':=fun _ _ _ h ⟨b,n,e,x,y,z,q⟩=>⟨b,n,e,x,y,z,h _ q⟩
theorem rbP.len:∀ ws (Q:PyData -> Prop),rbP ws Q -> ws.length = 2:=fun _ _ ⟨_,_,e,_⟩=>by subst e; rfl
end L2.VL
namespace L2.VL
open PySem PySem.Spec PyProof.Rows
end L2.VL
namespace L2.VL
open PySem PySem.Spec PyProof.Rows
end L2.VL
namespace L2.VL
open PySem PySem.Spec PyProof.Rows
end L2.VL
namespace L2.VL
open PySem PySem.Spec PyProof.Rows
theorem GlK.pair {K:W.Frag} {x:Str} {a b:Int} {p:Addr} {sl:Array (Option Value)} {t u:Tok} {n:Nat} (h1:W.nsIn K mainGlobals x = some (some (.ref p)))
    (h2:K.lookup p = some ⟨.type "tuple", none,.seq #[.int a t,.int b u] n,sl⟩):GlK K x (pr a b):=by
  refine ⟨.ref p,.ref p,h1,rfl,fun F=>.tup (vs:=[.int a,.int b]) (.inr ⟨_,_,n,h2,rfl,rfl,(by show 2 <= sizeLine; decide),.cons ⟨t,rfl⟩ (.cons ⟨u,rfl⟩ .nil),rfl⟩) (.cons (.int a) (.cons (.int b) .nil))⟩
end L2.VL

set_option exponentiation.threshold 10000
namespace L2.VL
open PySem PySem.Spec PyProof.Rows
def digs (b n:Nat):List Nat:=if h : 2 <= b /\ 0 < n then (n % b) :: digs b (n / b) else []
termination_by n
decreasing_by exact Nat.div_lt_self h.2 h.1
theorem digs_zero (b:Nat):digs b 0 = []:=by unfold digs; simp
theorem digs_pos {b n:Nat} (hb : 2 <= b) (hn : 0 < n):digs b n = (n % b) :: digs b (n / b):=by
  rw [digs]
  simp [hb,hn]
theorem digs_lt {b:Nat} (hb : 2 <= b):∀ n:Nat,∀ a ∈ digs b n,a < b:=by
  intro n
  induction n using Nat.strongRecOn with
  | ind n ih =>
    intro a ha
    by_cases hn : 0 < n
    · rw [digs_pos hb hn] at ha
      rcases List.mem_cons.mp ha with rfl | ha
      · exact Nat.mod_lt _ (by omega)
      · exact ih (n / b) (Nat.div_lt_self hn hb) a ha
    · have:n = 0:=by omega
      subst this
      rw [digs_zero] at ha
      cases ha
theorem digs_pow {b:Nat} (hb : 2 <= b):∀ n:Nat,0 < n -> b ^ (digs b n).length <= b * n:=by
  intro n
  induction n using Nat.strongRecOn with
  | ind n ih =>
    intro hn
    rw [digs_pos hb hn,List.length_cons,Nat.pow_succ]
    by_cases h : 0 < n / b
    · have:=ih (n / b) (Nat.div_lt_self hn hb) h
      have h2:b * (n / b) <= n:=Nat.mul_div_le n b
      calc b ^ (digs b (n / b)).length * b <= (b * (n / b)) * b:=Nat.mul_le_mul_right b this
        _ <= n * b:=Nat.mul_le_mul_right b h2
        _ = b * n:=Nat.mul_comm _ _
    · have:n / b = 0:=Nat.eq_zero_of_not_pos h
      rw [this,digs_zero]
      simp
      exact Nat.le_mul_of_pos_right b hn
def powL (b:Int) (n:Nat):Int:=b ^ (digs b.toNat n).length
def stepT (b:Int) (p:List Int) (t:Int) (a:Nat):Int:=t * b + p.getD a 0
def topOf (b:Int) (p:List Int) (n:Nat):Int:=(digs b.toNat n).foldl (stepT b p) 0
def turnD (b:Int) (p:List Int) (n:Nat):PyData:=lowD (topOf b p n) (powL b n)
theorem getD_bd {b:Int} {p:List Int} (ex:IsEx b p) {a:Nat} (h:a < b.toNat):p[a]? = some (p.getD a 0) /\ 0 <= p.getD a 0 /\ p.getD a 0 < b:=by
  have hl:a < p.length:=by rw [ex.len]; exact h
  have e:p.getD a 0 = p[a]:=by simp [List.getD,hl]
  have:=ex.rng p[a] (List.getElem_mem hl)
  rw [e]
  exact ⟨List.getElem?_eq_getElem hl,this⟩
def figP:List W -> (PyData -> Prop) -> Prop:=fun ws Q=>∃ b n:Int,ws = [.d (.int b),.d (.int n)] /\ 2 <= b /\ b <= 16 /\ 0 <= n /\ n < 2 ^ 100 /\ Q (.list ((digs b.toNat n.toNat).map fun (k:Nat)=>.int k))
theorem figP.mono:∀ ws (Q Q':PyData -> Prop),(∀ d,Q d -> Q' d) -> figP ws Q -> figP ws Q':=fun _ _ _ h ⟨b,n,e,x,y,z,u,q⟩=>⟨b,n,e,x,y,z,u,h _ q⟩
theorem figP.len:∀ ws (Q:PyData -> Prop),figP ws Q -> ws.length = 2:=fun _ _ ⟨_,_,e,_⟩=>by subst e; rfl
def numP:List W -> (PyData -> Prop) -> Prop:=fun ws Q=>∃ (b:Int) (xs:List Int),ws = [.d (.int b),.d (.list (xs.map .int))] /\ 0 <= b /\ b <= 16 /\ Q (.int (xs.reverse.foldl (fun t a=>t * b + a) 0))
theorem numP.mono:∀ ws (Q Q':PyData -> Prop),(∀ d,Q d -> Q' d) -> numP ws Q -> numP ws Q':=fun _ _ _ h ⟨b,n,e,x,y,q⟩=>⟨b,n,e,x,y,h _ q⟩
theorem numP.len:∀ ws (Q:PyData -> Prop),numP ws Q -> ws.length = 2:=fun _ _ ⟨_,_,e,_⟩=>by subst e; rfl
def turnP (f:Int -> List Int -> Nat -> PyData):List W -> (PyData -> Prop) -> Prop:=fun ws Q=>∃ (b:Int) (p:List Int) (n:Int),ws = [.d (.int b),.d (exD p),.d (.int n)] /\ 2 <= b /\ b <= 16 /\ IsEx b p /\ 0 <= n /\ n < 2 ^ 100 /\ Q (f b p n.toNat)
theorem turnP.mono {f:Int -> List Int -> Nat -> PyData}:∀ ws (Q Q':PyData -> Prop),(∀ d,Q d -> Q' d) -> turnP f ws Q -> turnP f ws Q':=fun _ _ _ h ⟨b,p,n,e,x,y,z,u,v,q⟩=>⟨b,p,n,e,x,y,z,u,v,h _ q⟩
theorem turnP.len {f:Int -> List Int -> Nat -> PyData}:∀ ws (Q:PyData -> Prop),turnP f ws Q -> ws.length = 3:=fun _ _ ⟨_,_,_,e,_⟩=>by subst e; rfl
end L2.VL
namespace L2.VL
open PySem PySem.Spec PyProof.Rows
def pointD (rows:List (Int × List Int)) (n:Nat):PyData:=.tuple (rows.map fun r=>turnD r.1 r.2 n)
def ptsD (rows:List (Int × List Int)) (n m:Nat):PyData:=.tuple ((List.range m).map fun i=>pointD rows (n + i))
def ptsP:List W -> (PyData -> Prop) -> Prop:=fun ws Q=>∃ rows n m,ws = [.d (rowD rows),.d (.int n),.d (.int m)] /\ IsRow rows /\ 0 <= n /\ n < 2 ^ 60 /\ 0 <= m /\ m <= 1000 /\ Q (ptsD rows n.toNat m.toNat)
theorem ptsP.mono:∀ ws (Q Q':PyData -> Prop),(∀ d,Q d -> Q' d) -> ptsP ws Q -> ptsP ws Q':=fun _ _ _ h ⟨b,p,n,e,x,y,z,u,v,q⟩=>⟨b,p,n,e,x,y,z,u,v,h _ q⟩
theorem ptsP.len:∀ ws (Q:PyData -> Prop),ptsP ws Q -> ws.length = 3:=fun _ _ ⟨_,_,_,e,_⟩=>by subst e; rfl
def unI:PyData -> Int
  | .int i=>i
  | _=>0
end L2.VL
namespace L2.VL
open PySem PySem.Spec PyProof.Rows
end L2.VL

namespace L2.VL
open PySem PySem.Spec PyProof.Rows
def NTup (K:W.Frag) (F:Hp) (v:V) (ds:List PyData):Prop:=∃ a vs,v = .ref a /\ F a = some (.tup vs) /\ Reps K F vs ds
def vspT (K:W.Frag) (rl:Option Addr) (P:List W -> (List PyData -> Prop) -> Prop):Sp:=fun vs H Q _=>∃ F ws,Same F H /\ RAt rl F H /\ RelWs K rl F H vs ws /\ ws.all argOk = true /\ P ws fun xs=>∀ v F' H',Grow rl F H F' H' -> NTup K F' v xs -> Q v H'
def tEnds (Q:List PyData -> Prop):VEnds:=⟨fun _=>False,fun w=>∃ xs,w = .nt xs /\ Q xs,fun _=>False,fun _=>False⟩
structure DfnT (P:Program) (w:World) (K:W.Frag) (mg:Str -> Option Value) (base:Heap) (rl:Option Addr) (x:Str) (ps:List Str) (k:Nat) (Pd:List W -> (List PyData -> Prop) -> Prop):Prop where
  mono:∀ ws Q Q',(∀ d,Q d -> Q' d) -> Pd ws Q -> Pd ws Q'
  ex:∃ f fd,mg x = some (.ref f) /\ W.keepIn K (.ref f) = true /\ Binds K fd ps [] /\ FnOk P w K mg base CX0 k f fd ps (vspT K rl Pd)
section
variable {P:Program} {w:World} {K:W.Frag} {mg:Str -> Option Value} {base:Heap} {rl:Option Addr} {x:Str} {st:Stmt} {N ps:List Str} {k:Nat} {Pd:List W -> (List PyData -> Prop) -> Prop} {t:TSv}
theorem DfnT.of (Fn:FnIn K mg x st ps) (S:FnScope N ps (defScope st)) (mono:∀ ws Q Q',(∀ d,Q d -> Q' d) -> Pd ws Q -> Pd ws Q') (len:∀ ws Q,Pd ws Q -> ws.length = ps.length)
    (hbody:∀ {f:Addr} (cdv:Value) (A:Around) (outer:List Env) (s:Shared) (H:Hp) (E:XK),Room k (A.deeper (envOfC x (defScope st) s.heap.objs.size f cdv)) ->
      PSsV (cxOf CX0 P w K mg base N x (defScope st) f cdv A outer s H E).nox rl (defBody st) t)
    (hread:∀ ws Q,Pd ws Q -> t (tEnds Q) (startV N ws)):DfnT P w K mg base rl x ps (k + 1) Pd:=by
  obtain ⟨f,fd,hm,F,hb⟩:=Fn.ex
  refine ⟨mono,f,fd,hm,F.kp,hb,?_⟩
  refine F.ok S (fun vs H Q E ⟨F,ws,_,_,r,_,q⟩=>(Paired.length r).trans (len ws _ q)) fun cdv A outer s H vs Q E hr h=>?_
  obtain ⟨F,ws,sm,ra,r,ok,q⟩:=h
  obtain ⟨T,p,kk⟩:=hbody cdv A outer s H E hr
  refine ⟨T,p,kk (vr_start sm ra r ok) (tEnds _) _ ⟨fun _ _ _ _ _ _ z=>False.elim z,?_,fun _ _ _ _ _ _ z=>False.elim z,fun _ _ _ _ _ _ z=>False.elim z⟩ (hread ws _ q)⟩
  rintro v w1 F1 H1 g1 r1 n1 ⟨xs,rfl,q1⟩
  exact q1 v F1 H1 g1 r1
end
section
variable {X:Cx} {rl:Option Addr} {a b c e:Expr} {es:List Expr} {fa fb fc:TV} {fs:TVs} {pos p p2 px apos cpos:Pos}
theorem KD.any {K:W.Frag} {F:Hp} {us:List (List Key × V)} {kvs:List (List Key × PyData)} (r:KD K F us kvs) (k:List Key):(us.any fun kv=>decide (kv.1 = k)) = kvs.any fun kv=>decide (kv.1 = k):=by
  induction r with
  | nil=>rfl
  | cons h t ih=>rw [List.any_cons,List.any_cons,ih,h.1]
theorem KD.snoc {K:W.Frag} {F:Hp} {us:List (List Key × V)} {kvs:List (List Key × PyData)} (r:KD K F us kvs) (k:List Key) {v:V} {d:PyData} (rv:Rep K F v d):KD K F (us ++ [(k,v)]) (kvs ++ [(k,d)]):=by
  induction r with
  | nil=>exact .cons ⟨rfl,rv⟩ .nil
  | cons h t ih=>exact .cons h ih
end
end L2.VL

namespace L2.IX
open PySem PySem.Spec PyProof.Rows
section
variable {prog:Program} {w:World} {A:Around} {E:Value -> Shared -> Prop} {s:Shared}
end
end L2.IX
namespace L2
open PySem PySem.Spec PyProof.Rows
section
variable {X:Cx}
end
end L2
namespace L2.VL
open PySem PySem.Spec PyProof.Rows
section
variable {X:Cx} {rl:Option Addr} {a b c e:Expr} {es:List Expr} {fa fb fc:TV} {fs:TVs} {pos p p2 px apos cpos:Pos}
def isNonD:PyData -> Bool
  | .none=>true
  | _=>false
end
end L2.VL

namespace L2.ZP
open PySem PySem.Spec PyProof.Rows
section
variable {prog:Program} {w:World} {A:Around} {E:Value -> Shared -> Prop} {s:Shared} {it a:Addr} {k:Nat} {xs:Array Value} {v:Value}
theorem tn_item {Q:Value -> Shared -> Prop} (st:s.heap.IsTupleIter it a k) (tu:s.heap.IsTuple a xs) (e:xs[k]? = some v)
    (q:∀ g,g.IsTupleIter it a (k + 1) -> Heap.SameBut it s.heap g -> Q v { s with heap:=g }):wpAny (model prog w) A (Builtin.SmallTypes.nextOf (.ref it)) Q E s:=by
  have ty:=st.typeIs
  obtain ⟨o,oe,oc,od⟩:=st
  obtain ⟨l,le,_,_,ld⟩:=tu
  unfold Builtin.SmallTypes.nextOf
  have sl:=F.slot_tuple_iterator_next
  refine wpAny_bind (wpAny_callSpecial?_slot (name:=Str.ofString "__next__") ty sl (wpAny_call_entry sl ty F.entry_tuple_iterator_next ?_ (F.args_tuple_iterator_next_1 _)))
  show wpAny _ _ (do let z <- field (.ref it) 0; _) _ _ s
  refine wpAny_bind (wpAny_field oe od (x:=.ref a) rfl ?_)
  show wpAny _ _ (ite ((Value.ref a == Value.none) = true) _ _) _ _ s
  rw [if_neg (show ¬ (Value.ref a == .none) = true by intro z; cases z)]
  show wpAny _ _ (do let z <- field (.ref it) 1; _) _ _ s
  refine wpAny_bind (wpAny_field oe od (x:=.int k 0) rfl ?_)
  show wpAny _ _ (do let z <- seqItems? (.ref a); _) _ _ s
  refine wpAny_bind (wpAny_seqItems le ld ?_)
  simp only [Int.toNat_natCast,e]
  refine wpAny_bind (wpAny_setField oe od (by simp) (wpAny_pure ⟨v,rfl,wpAny_pure (q _ ?_ (Heap.SameBut.update ..))⟩))
  refine ⟨_,Heap.get?_update_self _ oe (Obj.isFreed_of_fields (Obj.data_mapFields od _)),?_,?_⟩
  · exact (Obj.cls_mapFields ..).trans oc
  · rw [Obj.data_mapFields od]; simp [rawInt]
theorem tn_end {Q:Value -> Shared -> Prop} (hd:A.handled = none) (st:s.heap.IsTupleIter it a k) (tu:s.heap.IsTuple a xs) (e:xs[k]? = none)
    (q:∀ g x,Heap.ExtBut it s.heap g -> (∃ o,g.get? x = some o /\ o.cls = .type "StopIteration") -> E (.ref x) { s with heap:=g }):wpAny (model prog w) A (Builtin.SmallTypes.nextOf (.ref it)) Q E s:=by
  have ty:=st.typeIs
  obtain ⟨o,oe,oc,od⟩:=st
  obtain ⟨l,le,_,_,ld⟩:=tu
  unfold Builtin.SmallTypes.nextOf
  have sl:=F.slot_tuple_iterator_next
  refine wpAny_bind (wpAny_callSpecial?_slot (name:=Str.ofString "__next__") ty sl (wpAny_call_entry sl ty F.entry_tuple_iterator_next ?_ (F.args_tuple_iterator_next_1 _)))
  show wpAny _ _ (do let z <- field (.ref it) 0; _) _ _ s
  refine wpAny_bind (wpAny_field oe od (x:=.ref a) rfl ?_)
  show wpAny _ _ (ite ((Value.ref a == Value.none) = true) _ _) _ _ s
  rw [if_neg (show ¬ (Value.ref a == .none) = true by intro z; cases z)]
  show wpAny _ _ (do let z <- field (.ref it) 1; _) _ _ s
  refine wpAny_bind (wpAny_field oe od (x:=.int k 0) rfl ?_)
  show wpAny _ _ (do let z <- seqItems? (.ref a); _) _ _ s
  refine wpAny_bind (wpAny_seqItems le ld ?_)
  simp only [Int.toNat_natCast,e]
  refine wpAny_bind (wpAny_rule (wpAny_bind (wpAny_setField oe od (by simp) ?_)))
  show wpAny _ _ (do let z <- newExc (.type "StopIteration") []; _) _ _ _
  refine wpAny_bind ?_
  simp only [newExc,newTuple]
  refine wpAny_bind (wpAny_newObj_type ?_ (by size_fits))
  refine wpAny_bind (m:=firstArgMember _ _) (wpAny_of_eq (a:=.none) (by first | rfl | (simp only [firstArgMember]; rfl)) (wpAny_newObj_type ?_ (by size_fits)))
  simp only [raiseNew]
  refine wpAny_bind (wpAny_handled ?_)
  first
    | rw [show A.in1.handled = none from hd]
    | rw [hd]
  refine wpAny_bind (wpAny_pure (wpAny_throw ?_))
  exact q _ _ (((Heap.SameBut.update ..).extBut.push _).push _) ⟨_,Heap.get?_push_size _ rfl,rfl⟩
end
def It1 (h:Heap) (it a:Addr) (xs:Array Value) (k:Nat):Prop:=(h.IsListIter it a k /\ h.IsList a xs) \/ (h.IsTupleIter it a k /\ h.IsTuple a xs)
section
variable {prog:Program} {w:World} {A:Around} {E:Value -> Shared -> Prop} {s:Shared} {it a:Addr} {k:Nat} {xs:Array Value} {v:Value}
theorem It1.item {Q:Value -> Shared -> Prop} (st:It1 s.heap it a xs k) (ne:a ≠ it) (e:xs[k]? = some v)
    (q:∀ g,It1 g it a xs (k + 1) -> Heap.SameBut it s.heap g -> Q v { s with heap:=g }):wpAny (model prog w) A (Builtin.SmallTypes.nextOf (.ref it)) Q E s:=by
  rcases st with ⟨h1,h2⟩ | ⟨h1,h2⟩
  · exact wpAny_nextOf_list_item h1 h2 e fun g h3 h4=>q g (.inl ⟨h3,h2.extBut h4.extBut ne⟩) h4
  · exact tn_item h1 h2 e fun g h3 h4=>q g (.inr ⟨h3,h2.extBut h4.extBut ne⟩) h4
theorem It1.fin {Q:Value -> Shared -> Prop} (hd:A.handled = none) (st:It1 s.heap it a xs k) (e:xs[k]? = none)
    (q:∀ g x,Heap.ExtBut it s.heap g -> (∃ o,g.get? x = some o /\ o.cls = .type "StopIteration") -> E (.ref x) { s with heap:=g }):wpAny (model prog w) A (Builtin.SmallTypes.nextOf (.ref it)) Q E s:=by
  rcases st with ⟨h1,h2⟩ | ⟨h1,h2⟩
  · exact wpAny_nextOf_list_end hd h1 h2 e q
  · exact tn_end hd h1 h2 e q
theorem It1.keep {h h':Heap} (st:It1 h it a xs k) (e1:∀ o,h.get? it = some o -> h'.get? it = some o) (e2:∀ o,h.get? a = some o -> h'.get? a = some o):It1 h' it a xs k:=by
  rcases st with ⟨⟨o,h1,r1⟩,⟨p,h2,r2⟩⟩ | ⟨⟨o,h1,r1⟩,⟨p,h2,r2⟩⟩
  · exact .inl ⟨⟨o,e1 _ h1,r1⟩,⟨p,e2 _ h2,r2⟩⟩
  · exact .inr ⟨⟨o,e1 _ h1,r1⟩,⟨p,e2 _ h2,r2⟩⟩
theorem It1.lt {h:Heap} (st:It1 h it a xs k):it < h.objs.size /\ a < h.objs.size:=by
  rcases st with ⟨⟨o,h1,_⟩,⟨p,h2,_⟩⟩ | ⟨⟨o,h1,_⟩,⟨p,h2,_⟩⟩ <;> exact ⟨Heap.lt_size h1,Heap.lt_size h2⟩
end
end L2.ZP
namespace L2.ZP
open PySem PySem.Spec PyProof.Rows
section
variable {prog:Program} {w:World} {A:Around} {E:Value -> Shared -> Prop} {s:Shared} {z ti to i1 i2 a1 a2:Addr} {k1 k2:Nat} {xs ys:Array Value} {x y p q:Value}
theorem SameBut.keep {a b:Addr} {h h':Heap} (sb:Heap.SameBut a h h') (ne:b ≠ a):∀ o,h.get? b = some o -> h'.get? b = some o:=fun o e=>sb.extBut _ _ ne e
end
end L2.ZP
namespace L2.ZP
open PySem PySem.Spec PyProof.Rows
def Sq1 (b:Bool) (h:Heap) (a:Addr) (xs:Array Value):Prop:=bif b then h.IsTuple a xs else h.IsList a xs
def itc (b:Bool):String:=bif b then "tuple_iterator" else "list_iterator"
theorem Sq1.push {b:Bool} {h:Heap} {a:Addr} {xs:Array Value} (q:Sq1 b h a xs) (o:Obj):Sq1 b (h.push o) a xs:=by
  cases b with
  | true=>exact Heap.IsTuple.push q o
  | false=>exact Heap.IsList.push q o
section
variable {prog:Program} {w:World} {A:Around} {E:Value -> Shared -> Prop} {s:Shared} {b b1 b2:Bool} {a a1 a2:Addr} {xs ys:Array Value}
abbrev y1 (h:Heap) (b1:Bool) (a1:Addr):Heap:=h.push { cls:=.type (itc b1),data:=.fields #[.ref a1,.int 0 0] }
abbrev y2 (h:Heap) (b1 b2:Bool) (a1 a2:Addr):Heap:=(y1 h b1 a1).push { cls:=.type (itc b2),data:=.fields #[.ref a2,.int 0 0] }
abbrev y3 (h:Heap) (b1 b2:Bool) (a1 a2:Addr):Heap:=(y2 h b1 b2 a1 a2).push { cls:=.type "tuple", data:=.seq #[.ref h.objs.size,.ref (y1 h b1 a1).objs.size] }
abbrev y4 (h:Heap) (b1 b2:Bool) (a1 a2:Addr):Heap:=(y3 h b1 b2 a1 a2).push { cls:=.type "tuple", data:=.seq #[.none,.none] }
abbrev y5 (h:Heap) (b1 b2:Bool) (a1 a2:Addr):Heap:=(y4 h b1 b2 a1 a2).push { cls:=.type "zip", data:=.fields #[.none,.bool false,.bool false,.ref (y2 h b1 b2 a1 a2).objs.size,.ref (y3 h b1 b2 a1 a2).objs.size] }
end
end L2.ZP
namespace L2
open PySem PySem.Spec PyProof.Rows L2.ZP
def Ir1 (b:Bool) (h:Heap) (it a:Addr) (k:Nat):Prop:=bif b then h.IsTupleIter it a k else h.IsListIter it a k
theorem Ir1.keep {b:Bool} {h h':Heap} {it a:Addr} {k:Nat} (q:Ir1 b h it a k) (e:∀ o,h.get? it = some o -> h'.get? it = some o):Ir1 b h' it a k:=by
  cases b with
  | true=>obtain ⟨o,h1,r⟩:=(show h.IsTupleIter it a k from q); exact ⟨o,e _ h1,r⟩
  | false=>obtain ⟨o,h1,r⟩:=(show h.IsListIter it a k from q); exact ⟨o,e _ h1,r⟩
theorem Ir1.obj {b:Bool} {h:Heap} {it a:Addr} {k:Nat} (q:Ir1 b h it a k):∃ o,h.get? it = some o /\ ∀ v,o.data ≠ .cell v:=by
  cases b with
  | true=>obtain ⟨o,h1,_,d⟩:=(show h.IsTupleIter it a k from q); exact ⟨o,h1,fun v z=>by rw [d] at z; cases z⟩
  | false=>obtain ⟨o,h1,_,d⟩:=(show h.IsListIter it a k from q); exact ⟨o,h1,fun v z=>by rw [d] at z; cases z⟩
theorem Sq1.of {b:Bool} {h h':Heap} {a:Addr} {xs:Array Value} (q:Sq1 b h a xs) (e:∀ o,h.get? a = some o -> h'.get? a = some o):Sq1 b h' a xs:=by
  cases b with
  | true=>obtain ⟨o,h1,r⟩:=(show h.IsTuple a xs from q); exact ⟨o,e _ h1,r⟩
  | false=>obtain ⟨o,h1,r⟩:=(show h.IsList a xs from q); exact ⟨o,e _ h1,r⟩
end L2

namespace L2
open PySem PySem.Spec PyProof.Rows L2.ZP
section
variable {X:Cx} {e1 e2:Expr} {ta:TA} {elts:List Expr} {kt:Nat} {pt p pos:Pos}
end
end L2
namespace L2.VL
open PySem PySem.Spec PyProof.Rows
section
variable {X:Cx} {rl:Option Addr} {a b:Expr} {elts:List Expr} {kt:Nat} {pt p pos:Pos} {fs:TVs}
def zipD (xs ys:List PyData):List PyData:=List.zipWith (fun x y=>.tuple [x,y]) xs ys
def kindB:PyData -> Bool
  | .tuple _=>true
  | _=>false
end
end L2.VL

namespace L2.VL
open PySem PySem.Spec PyProof.Rows
theorem nr {α:Sort u} {a b : α} (h:a = b):a = b:=h
abbrev Mo (α:Type):=(α -> Prop) -> Prop
def ret {α:Type} (a : α):Mo α:=fun Q=>Q a
def bnd {α β:Type} (m:Mo α) (f : α -> Mo β):Mo β:=fun Q=>m fun a=>f a Q
def grd {α:Type} (P:Prop) (m:Mo α):Mo α:=fun Q=>P /\ m Q
def stk {α:Type}:Mo α:=fun _=>False
def anyM {α:Type} (P : α -> Prop):Mo α:=fun Q=>∀ a,P a -> Q a
def optM {α β:Type} (o:Option α) (f : α -> Mo β):Mo β:=match o with
  | some a=>f a
  | none=>stk
section
variable {α β γ:Type}
theorem bnd_ret (a : α) (f : α -> Mo β):bnd (ret a) f = f a:=nr rfl
theorem bnd_bnd (m:Mo α) (f : α -> Mo β) (g : β -> Mo γ):bnd (bnd m f) g = bnd m fun a=>bnd (f a) g:=nr rfl
theorem bnd_grd (P:Prop) (m:Mo α) (f : α -> Mo β):bnd (grd P m) f = grd P (bnd m f):=nr rfl
theorem bnd_stk (f : α -> Mo β):bnd stk f = stk:=nr rfl
theorem bnd_ite (c:Prop) [Decidable c] (a b:Mo α) (f : α -> Mo β):bnd (if c then a else b) f = if c then bnd a f else bnd b f:=by split <;> rfl
theorem bnd_opt (o:Option α) (k : α -> Mo β) (f : β -> Mo γ):bnd (optM o k) f = optM o fun a=>bnd (k a) f:=by cases o <;> rfl
theorem opt_some (a : α) (k : α -> Mo β):optM (some a) k = k a:=nr rfl
theorem opt_none (k : α -> Mo β):optM none k = stk:=nr rfl
theorem grd_t {P:Prop} (h:P) (m:Mo α):grd P m = m:=by funext Q; exact propext ⟨fun z=>z.2,fun z=>⟨h,z⟩⟩
theorem grd_T (m:Mo α):grd True m = m:=grd_t trivial m
theorem ite_ap (c:Prop) [Decidable c] (a b:Mo α) (Q : α -> Prop):(if c then a else b) Q = if c then a Q else b Q:=by split <;> rfl
theorem mo_ext {m n:Mo α} (h:∀ Q,m Q ↔ n Q):m = n:=funext fun Q=>propext (h Q)
end
def asI:W -> Option Int
  | .d (.int i)=>some i
  | _=>none
def asB:W -> Option Bool
  | .d (.bool b)=>some b
  | _=>none
def asS:W -> Option Str
  | .d (.str b)=>some b
  | _=>none
def asD:W -> Option PyData
  | .d x=>some x
  | _=>none
def lstD:PyData -> Option (List PyData)
  | .list xs=>some xs
  | _=>none
def tupD:PyData -> Option (List PyData)
  | .tuple xs=>some xs
  | _=>none
def asL (w:W):Option (List PyData):=w.dat.bind lstD
def asT (w:W):Option (List PyData):=(asD w).bind tupD
def asQ (w:W):Option (List PyData):=w.dat.bind seqD
def toI:W -> Option Int
  | .d (.int i)=>some i
  | .d (.bool b)=>some (if b then 1 else 0)
  | _=>none
def isiT:W -> Option String
  | .vv (.ty T)=>some T
  | _=>none
def blsD:List PyData -> Option (List Bool)
  | []=>some []
  | .bool b :: r=>(blsD r).map (b :: ·)
  | _=>none
def intsD:List PyData -> Option (List Int)
  | []=>some []
  | .int b :: r=>(intsD r).map (b :: ·)
  | _=>none
theorem blsD_map:∀ bs:List Bool,blsD (bs.map .bool) = some bs
  | []=>rfl
  | b :: bs=>by show (blsD (bs.map .bool)).map (b :: ·) = _; rw [blsD_map bs]; rfl
theorem intsD_map:∀ bs:List Int,intsD (bs.map .int) = some bs
  | []=>rfl
  | b :: bs=>by show (intsD (bs.map .int)).map (b :: ·) = _; rw [intsD_map bs]; rfl
theorem asI_d (i:Int):asI (.d (.int i)) = some i:=rfl
theorem asB_d (i:Bool):asB (.d (.bool i)) = some i:=rfl
theorem asS_d (i:Str):asS (.d (.str i)) = some i:=rfl
theorem asD_d (i:PyData):asD (.d i) = some i:=rfl
theorem asT_d (x:PyData):asT (.d x) = tupD x:=rfl
theorem asL_d (x:PyData):asL (.d x) = lstD x:=rfl
theorem asL_ml (x:List PyData):asL (.ml x) = some x:=rfl
theorem asL_pk (x:List PyData):asL (.pk x) = some x:=rfl
theorem asQ_d (x:PyData):asQ (.d x) = seqD x:=rfl
theorem asQ_ml (x:List PyData):asQ (.ml x) = some x:=rfl
theorem asQ_pk (x:List PyData):asQ (.pk x) = some x:=rfl
theorem lstD_l (x:List PyData):lstD (.list x) = some x:=rfl
theorem tupD_t (x:List PyData):tupD (.tuple x) = some x:=rfl
theorem toI_i (i:Int):toI (.d (.int i)) = some i:=rfl
theorem toI_b (i:Bool):toI (.d (.bool i)) = some (if i then 1 else 0):=rfl
theorem isiT_t (T:String):isiT (.vv (.ty T)) = some T:=rfl
theorem asI_of {w:W} {i:Int}:asI w = some i ↔ w = .d (.int i):=by
  constructor
  · intro h; unfold asI at h; split at h <;> simp_all
  · rintro rfl; rfl
theorem asB_of {w:W} {i:Bool}:asB w = some i ↔ w = .d (.bool i):=by
  constructor
  · intro h; unfold asB at h; split at h <;> simp_all
  · rintro rfl; rfl
theorem asS_of {w:W} {i:Str}:asS w = some i ↔ w = .d (.str i):=by
  constructor
  · intro h; unfold asS at h; split at h <;> simp_all
  · rintro rfl; rfl
theorem asD_of {w:W} {i:PyData}:asD w = some i ↔ w = .d i:=by
  constructor
  · intro h; unfold asD at h; split at h <;> simp_all
  · rintro rfl; rfl
theorem isiT_of {w:W} {i:String}:isiT w = some i ↔ w = .vv (.ty i):=by
  constructor
  · intro h; unfold isiT at h; split at h <;> simp_all
  · rintro rfl; rfl
theorem lstD_of {w:PyData} {i:List PyData}:lstD w = some i ↔ w = .list i:=by
  constructor
  · intro h; unfold lstD at h; split at h <;> simp_all
  · rintro rfl; rfl
theorem tupD_of {w:PyData} {i:List PyData}:tupD w = some i ↔ w = .tuple i:=by
  constructor
  · intro h; unfold tupD at h; split at h <;> simp_all
  · rintro rfl; rfl
theorem asL_of {w:W} {i:List PyData}:asL w = some i ↔ w.dat = some (.list i):=by
  unfold asL
  constructor
  · intro h
    cases q:w.dat with
    | none=>rw [q] at h; cases h
    | some x=>rw [q] at h; rw [lstD_of.mp h]
  · intro h; rw [h]; rfl
theorem opt_iff {α β:Type} {o:Option α} {k : α -> Mo β} {Q : β -> Prop}:optM o k Q ↔ ∃ a,o = some a /\ k a Q:=by
  cases o with
  | none=>exact ⟨fun z=>z.elim,fun ⟨_,z,_⟩=>by cases z⟩
  | some a=>exact ⟨fun z=>⟨a,rfl,z⟩,fun ⟨_,e,z⟩=>by cases e; exact z⟩
section
variable {fa fb fc:TV} {fs:TVs} {f g:TB} {ρ:En} {t u:TSv}
theorem m_vC (x:PyData):vC x ρ = ret (.d x):=nr rfl
theorem m_vVar (i:Nat):vVar i ρ = optM ((ρ[i]?).join) fun w=>ret w.peek:=by
  refine mo_ext fun Q=>?_
  rw [opt_iff]
  constructor
  · rintro ⟨w,e,q⟩; exact ⟨w,by rw [e]; rfl,q⟩
  · rintro ⟨w,e,q⟩
    refine ⟨w,?_,q⟩
    cases h : ρ[i]? with
    | none=>rw [h] at e; cases e
    | some o=>rw [h] at e; cases o with
      | none=>cases e
      | some x=>cases e; rfl
theorem m_vNil:vNil ρ = ret []:=nr rfl
theorem m_vCons {f:TV}:vCons f fs ρ = bnd (f ρ) fun w=>bnd (fs ρ) fun ws=>ret (w.fz :: ws):=nr rfl
theorem m_vOp (h:W -> W -> (W -> Prop) -> Prop):vOp h fa fb ρ = bnd (fa ρ) fun x=>bnd (fb ρ) fun y=>h x y:=nr rfl
theorem m_gI (C:Int -> Int -> Prop) (h:Int -> Int -> PyData) (x y:W):gI C h x y = optM (asI x) fun i=>optM (asI y) fun j=>grd (C i j) (ret (.d (h i j))):=by
  refine mo_ext fun Q=>?_
  simp only [opt_iff,asI_of,gI,grd,ret]
  exact ⟨fun ⟨i,j,a,b,c,q⟩=>⟨i,a,j,b,c,q⟩,fun ⟨i,a,j,b,c,q⟩=>⟨i,j,a,b,c,q⟩⟩
theorem m_gI0 (h:Int -> Int -> PyData) (x y:W):gI0 h x y = optM (asI x) fun i=>optM (asI y) fun j=>ret (.d (h i j)):=by
  refine mo_ext fun Q=>?_
  simp only [opt_iff,asI_of,gI0,ret]
  exact ⟨fun ⟨i,j,a,b,q⟩=>⟨i,a,j,b,q⟩,fun ⟨i,a,j,b,q⟩=>⟨i,j,a,b,q⟩⟩
theorem m_vNeg:vNeg fa ρ = bnd (fa ρ) fun x=>optM (asI x) fun i=>ret (.d (.int (-i))):=by
  refine mo_ext fun Q=>?_
  simp only [vNeg,bnd,opt_iff,asI_of,ret]
theorem m_vTest {f:TV}:vTest f ρ = bnd (f ρ) fun w=>optM (asB w) ret:=by
  refine mo_ext fun Q=>?_
  simp only [vTest,bnd,opt_iff,asB_of,ret]
theorem m_gEqD (neg:Bool) (x y:W):gEqD neg x y = optM x.dat fun dx=>optM y.dat fun dy=>grd (SeqAt.shaped dx = true) (grd (SeqAt.shaped dy = true) (ret (.d (.bool (if neg then !PyData.eqv dx dy else PyData.eqv dx dy))))):=by
  refine mo_ext fun Q=>?_
  simp only [opt_iff,gEqD,grd,ret]
  exact ⟨fun ⟨i,j,a,b,c,d,q⟩=>⟨i,a,j,b,c,d,q⟩,fun ⟨i,a,j,b,c,d,q⟩=>⟨i,j,a,b,c,d,q⟩⟩
theorem m_vAnd:vAnd f g ρ = bnd (f ρ) fun b=>if b = true then g ρ else ret false:=by
  refine mo_ext fun Q=>?_
  simp only [vAnd,bnd,ite_ap,ret]
theorem m_vOr:vOr f g ρ = bnd (f ρ) fun b=>if b = true then ret true else g ρ:=by
  refine mo_ext fun Q=>?_
  simp only [vOr,bnd,ite_ap,ret]
theorem m_vNot:vNot f ρ = bnd (f ρ) fun b=>ret (!b):=nr rfl
theorem m_vAndV:vAndV fa fb ρ = bnd (fa ρ) fun w=>optM (asB w) fun b=>if b = true then fb ρ else ret (.d (.bool false)):=by
  refine mo_ext fun Q=>?_
  simp only [vAndV,bnd,opt_iff,asB_of,ite_ap,ret]
theorem m_vOrV:vOrV fa fb ρ = bnd (fa ρ) fun w=>optM (asB w) fun b=>if b = true then ret (.d (.bool true)) else fb ρ:=by
  refine mo_ext fun Q=>?_
  simp only [vOrV,bnd,opt_iff,asB_of,ite_ap,ret]
theorem m_vNotV:vNotV fa ρ = bnd (fa ρ) fun w=>optM (asB w) fun b=>ret (.d (.bool (!b))):=by
  refine mo_ext fun Q=>?_
  simp only [vNotV,bnd,opt_iff,asB_of,ret]
theorem m_vIf {t:TB}:vIf t fa fb ρ = bnd (t ρ) fun c=>if c = true then fa ρ else fb ρ:=by
  refine mo_ext fun Q=>?_
  simp only [vIf,bnd,ite_ap]
theorem m_vTup:vTup fs ρ = bnd (fs ρ) fun ws=>optM (dats ws) fun ds=>grd (ds.length <= sizeLine) (ret (.d (.tuple ds))):=by
  refine mo_ext fun Q=>?_
  simp only [vTup,bnd,opt_iff,grd,ret]
theorem m_vLst:vLst fs ρ = bnd (fs ρ) fun ws=>optM (dats ws) fun ds=>grd (ds.length <= sizeLine) (ret (.ml ds)):=by
  refine mo_ext fun Q=>?_
  simp only [vLst,bnd,opt_iff,grd,ret]
theorem m_gIx (x y:W):gIx x y = optM x.dat fun dx=>optM (asI y) fun i=>optM (itemAt dx i) fun z=>ret (.d z):=by
  refine mo_ext fun Q=>?_
  simp only [gIx,opt_iff,asI_of,ret]
  exact ⟨fun ⟨i,j,z,a,b,c,q⟩=>⟨i,a,j,b,z,c,q⟩,fun ⟨i,a,j,b,z,c,q⟩=>⟨i,j,z,a,b,c,q⟩⟩
theorem m_vCall (h:List W -> (W -> Prop) -> Prop):vCall h fs ρ = bnd (fs ρ) h:=nr rfl
theorem m_gAbs (w:W):gAbs [w] = optM (asI w) fun i=>ret (.d (.int (if i < 0 then -i else i))):=by
  refine mo_ext fun Q=>?_
  simp only [gAbs,opt_iff,asI_of,ret,List.cons.injEq,and_true]
theorem m_gLen (w:W):gLen [w] = optM w.dat fun d=>optM (lenD d) fun n=>ret (.d (.int n)):=by
  refine mo_ext fun Q=>?_
  simp only [gLen,opt_iff,ret,List.cons.injEq,and_true]
  exact ⟨fun ⟨w',d,n,e,a,b,q⟩=>by subst e; exact ⟨d,a,n,b,q⟩,fun ⟨d,a,n,b,q⟩=>⟨w,d,n,rfl,a,b,q⟩⟩
theorem m_gRepr (w:W):gRepr [w] = optM w.dat fun d=>grd (Shw d) (ret (.d (.str d.shown))):=by
  refine mo_ext fun Q=>?_
  simp only [gRepr,opt_iff,ret,grd,List.cons.injEq,and_true]
  exact ⟨fun ⟨w',d,e,a,b,q⟩=>by subst e; exact ⟨d,a,b,q⟩,fun ⟨d,a,b,q⟩=>⟨w,d,rfl,a,b,q⟩⟩
theorem m_gIsi (w v:W):gIsi [w,v] = optM w.dat fun d=>optM (isiT v) fun T=>grd (tyOk T = true) (ret (.d (.bool (isiD d T)))):=by
  refine mo_ext fun Q=>?_
  simp only [gIsi,opt_iff,isiT_of,ret,grd,List.cons.injEq,and_true]
  exact ⟨fun ⟨w',d,T,⟨e,e'⟩,a,b,q⟩=>by subst e; exact ⟨d,a,T,e',b,q⟩,fun ⟨d,a,T,e',b,q⟩=>⟨w,d,T,⟨rfl,e'⟩,a,b,q⟩⟩
theorem m_gTupO (w:W):gTupO [w] = optM (asQ w) fun xs=>ret (.d (.tuple xs)):=by
  refine mo_ext fun Q=>?_
  simp only [gTupO,opt_iff,ret,List.cons.injEq,and_true]
  constructor
  · rintro ⟨w',d,xs,e,a,b,q⟩; subst e; exact ⟨xs,by unfold asQ; rw [a]; exact b,q⟩
  · rintro ⟨xs,e,q⟩
    unfold asQ at e
    cases h:w.dat with
    | none=>rw [h] at e; cases e
    | some d=>rw [h] at e; exact ⟨w,d,xs,rfl,h,e,q⟩
theorem m_vSlL {fl fh:TOv}:vSlL fa fl fh ρ = bnd (fa ρ) fun w=>bnd (fl ρ) fun l=>bnd (fh ρ) fun h=>optM (asL w) fun xs=>ret (.ml (cutD xs l h)):=by
  refine mo_ext fun Q=>?_
  simp only [vSlL,bnd,opt_iff,asL_of,ret]
theorem m_vChain (p p':Int -> Int -> Bool):vChain p p' fa fb fc ρ = bnd (fa ρ) fun x=>bnd (fb ρ) fun y=>optM (asI x) fun i=>optM (asI y) fun j=>if p i j = true then bnd (fc ρ) fun z=>optM (asI z) fun k=>ret (.d (.bool (p' j k))) else ret (.d (.bool false)):=by
  show (bnd (fa ρ) fun x=>bnd (fb ρ) fun y=>fun (Q:W -> Prop)=>∃ i j,x = .d (.int i) /\ y = .d (.int j) /\ if p i j = true then fc ρ fun z=>∃ k,z = .d (.int k) /\ Q (.d (.bool (p' j k))) else Q (.d (.bool false))) = _
  congr 1; funext x; congr 1; funext y
  refine mo_ext fun Q=>?_
  simp only [bnd,opt_iff,asI_of,ret,ite_ap]
  exact ⟨fun ⟨i,j,a,b,q⟩=>⟨i,a,j,b,q⟩,fun ⟨i,a,j,b,q⟩=>⟨i,j,a,b,q⟩⟩
def two (ws:List W):Option (Int × Int):=match ws with
  | [a,b]=>(asI a).bind fun i=>(asI b).map fun j=>(i,j)
  | _=>none
theorem two_d (a b:Int):two [.d (.int a),.d (.int b)] = some (a,b):=rfl
theorem m_iT:iT fa ρ = bnd (fa ρ) fun w=>optM ((asD w.fz).bind tupD) ret:=by
  show (bnd (fa ρ) fun w=>fun (Q:List PyData -> Prop)=>∃ xs,w.fz = .d (.tuple xs) /\ Q xs) = _
  congr 1; funext w
  refine mo_ext fun Q=>?_
  simp only [opt_iff,ret]
  constructor
  · rintro ⟨xs,e,q⟩; exact ⟨xs,by rw [e]; rfl,q⟩
  · rintro ⟨xs,e,q⟩
    cases h:asD w.fz with
    | none=>rw [h] at e; cases e
    | some x=>rw [h] at e; rw [asD_of.mp h,tupD_of.mp e]; exact ⟨xs,rfl,q⟩
theorem m_iR1:iR1 fs ρ = bnd (fs ρ) fun ws=>optM (ws.head?.bind asI) fun j=>grd (ws.length = 1) (grd (-(2 ^ 62) <= j /\ j < 2 ^ 62) (ret (rangeD 0 j.toNat))):=by
  show (bnd (fs ρ) fun ws=>fun (Q:List PyData -> Prop)=>∃ j:Int,ws = [.d (.int j)] /\ (-(2 ^ 62) <= j /\ j < 2 ^ 62) /\ Q (rangeD 0 j.toNat)) = _
  congr 1; funext ws
  refine mo_ext fun Q=>?_
  simp only [opt_iff,grd,ret]
  constructor
  · rintro ⟨j,rfl,a,q⟩; exact ⟨j,rfl,rfl,a,q⟩
  · rintro ⟨j,e,l,a,q⟩
    match ws,l with
    | [w],_=>rw [show w = .d (.int j) from asI_of.mp e]; exact ⟨j,rfl,a,q⟩
def zipO (b1 b2:Bool) (ws:List W):Option (List PyData):=match ws with
  | [.d x,.d y]=>if kindB x = b1 /\ kindB y = b2 then (seqD x).bind fun xs=>(seqD y).map fun ys=>zipD xs ys else none
  | _=>none
theorem m_vUse (Pd:List W -> (PyData -> Prop) -> Prop):vUse Pd fs ρ = bnd (fs ρ) fun ws=>grd (ws.all argOk = true) (bnd (Pd ws) fun d=>ret (.d d)):=nr rfl
theorem m_gEqS (neg:Bool) (x y:W):gEqS neg x y = optM (asS x) fun i=>optM (asS y) fun j=>ret (.d (.bool (if neg then !decide (i = j) else decide (i = j)))):=by
  refine mo_ext fun Q=>?_
  simp only [opt_iff,asS_of,gEqS,ret]
  exact ⟨fun ⟨i,j,a,b,q⟩=>⟨i,a,j,b,q⟩,fun ⟨i,a,j,b,q⟩=>⟨i,j,a,b,q⟩⟩
end
inductive Fl where
  | nx (ρ:En) | rt (w:W) | bk (ρ:En) | ct (ρ:En)
def mS (t:TSv) (ρ:En):Mo Fl:=fun Q=>t ⟨fun ρ=>Q (.nx ρ),fun w=>Q (.rt w),fun ρ=>Q (.bk ρ),fun ρ=>Q (.ct ρ)⟩ ρ
def sq (m:Mo Fl) (k:En -> Mo Fl):Mo Fl:=bnd m fun fl=>match fl with
  | .nx ρ=>k ρ
  | .rt w=>ret (.rt w)
  | .bk ρ=>ret (.bk ρ)
  | .ct ρ=>ret (.ct ρ)
def endQ (Q:PyData -> Prop):Fl -> Prop
  | .nx _=>Q .none
  | .rt w=>∃ d,w.fz = .d d /\ Q d
  | _=>False
section
variable {fa fb fc:TV} {fs:TVs} {f g:TB} {ρ:En} {t u:TSv} {k:En -> Mo Fl}
theorem read_of {Q:PyData -> Prop} (h:mS t ρ (endQ Q)):t (vEnds Q) ρ:=h
theorem end_d (Q:PyData -> Prop) (d:PyData):endQ Q (.rt (.d d)) = Q d:=propext ⟨fun ⟨_,e,q⟩=>by cases e; exact q,fun q=>⟨d,rfl,q⟩⟩
theorem end_ml (Q:PyData -> Prop) (d:List PyData):endQ Q (.rt (.ml d)) = Q (.list d):=propext ⟨fun ⟨_,e,q⟩=>by cases e; exact q,fun q=>⟨_,rfl,q⟩⟩
theorem end_nx (Q:PyData -> Prop) (ρ:En):endQ Q (.nx ρ) = Q .none:=nr rfl
theorem sq_nx:sq (ret (.nx ρ)) k = k ρ:=nr rfl
theorem sq_rt (w:W):sq (ret (.rt w)) k = ret (.rt w):=nr rfl
theorem sq_bk:sq (ret (.bk ρ)) k = ret (.bk ρ):=nr rfl
theorem sq_ct:sq (ret (.ct ρ)) k = ret (.ct ρ):=nr rfl
theorem sq_grd (P:Prop) (m:Mo Fl):sq (grd P m) k = grd P (sq m k):=nr rfl
theorem sq_stk:sq stk k = stk:=nr rfl
theorem sq_ite (c:Prop) [Decidable c] (a b:Mo Fl):sq (if c then a else b) k = if c then sq a k else sq b k:=by split <;> rfl
theorem sq_opt {α:Type} (o:Option α) (h : α -> Mo Fl):sq (optM o h) k = optM o fun a=>sq (h a) k:=by cases o <;> rfl
theorem s_next:mS vNext ρ = ret (.nx ρ):=nr rfl
theorem s_seq:mS (vSeq t u) ρ = sq (mS t ρ) (mS u):=by
  refine mo_ext fun Q=>?_
  show t ⟨fun ρ=>u ⟨_,_,_,_⟩ ρ,_,_,_⟩ ρ ↔ _
  exact Iff.rfl
theorem s_ret:mS (vRet fa) ρ = bnd (fa ρ) fun w=>ret (.rt w):=nr rfl
theorem s_ifS:mS (vIfS f t u) ρ = bnd (f ρ) fun b=>if b = true then mS t ρ else mS u ρ:=by
  refine mo_ext fun Q=>?_
  simp only [mS,vIfS,bnd,ite_ap]
theorem s_set (i:Nat):mS (vSet i fa) ρ = bnd (fa ρ) fun w=>grd (w.isPk = false) (ret (.nx (ρ.set i (some w)))):=nr rfl
theorem s_never:mS (fun _ _=>False) ρ = stk:=nr rfl
theorem m_hName (i:Nat) (x:PyData):hName i x ρ = ret (ρ.set i (some (.d x))):=nr rfl
theorem m_hNil (xs:List PyData):hNil xs ρ = grd (xs = []) (ret ρ):=nr rfl
theorem m_hCons {g:TGv} {gs:TGvs} (xs:List PyData):hCons g gs xs ρ = optM (match xs with | []=>none | y :: r=>some (y,r)) fun p=>bnd (g p.1 ρ) fun ρ'=>gs p.2 ρ':=by
  refine mo_ext fun Q=>?_
  simp only [opt_iff,hCons,bnd]
  constructor
  · rintro ⟨y,r,rfl,q⟩; exact ⟨(y,r),rfl,q⟩
  · rintro ⟨p,e,q⟩
    cases xs with
    | nil=>cases e
    | cons y r=>cases e; exact ⟨y,r,rfl,q⟩
theorem m_hCons_c {g:TGv} {gs:TGvs} (y:PyData) (r:List PyData):hCons g gs (y :: r) ρ = bnd (g y ρ) fun ρ'=>gs r ρ':=by rw [m_hCons]; rfl
theorem m_hNil_n:hNil [] ρ = ret ρ:=by rw [m_hNil,grd_t rfl]
theorem m_hTup (n:Nat) {gs:TGvs} (x:PyData):hTup n gs x ρ = optM (tupD x) fun xs=>grd (xs.length = n) (gs xs ρ):=by
  refine mo_ext fun Q=>?_
  simp only [opt_iff,tupD_of,hTup,grd]
theorem s_asg {g:TGv}:mS (vAsg fa g) ρ = bnd (fa ρ) fun w=>optM (asD w) fun x=>bnd (g x ρ) fun ρ'=>ret (.nx ρ'):=by
  refine mo_ext fun Q=>?_
  simp only [mS,vAsg,bnd,opt_iff,asD_of,ret]
theorem s_par (i j:Nat):mS (vPar i j fs) ρ = bnd (fs ρ) fun ws=>optM (dats ws) fun ds=>optM (match ds with | [x,y]=>some (x,y) | _=>none) fun p=>ret (.nx ((ρ.set i (some (.d p.1))).set j (some (.d p.2)))):=by
  show (bnd (fs ρ) fun ws=>fun (Q:Fl -> Prop)=>∃ x y,dats ws = some [x,y] /\ Q (.nx ((ρ.set i (some (.d x))).set j (some (.d y))))) = _
  congr 1; funext ws
  refine mo_ext fun Q=>?_
  simp only [opt_iff,ret]
  constructor
  · rintro ⟨x,y,e,q⟩; exact ⟨_,e,(x,y),rfl,q⟩
  · rintro ⟨ds,e,p,e2,q⟩
    split at e2
    · cases e2; exact ⟨_,_,e,q⟩
    · cases e2
def slI (ρ:En) (i:Nat):Option Int:=((ρ[i]?).join).bind asI
def asM:W -> Option (List PyData)
  | .ml xs=>some xs
  | _=>none
def slM (ρ:En) (i:Nat):Option (List PyData):=((ρ[i]?).join).bind asM
theorem asM_ml (xs:List PyData):asM (.ml xs) = some xs:=rfl
theorem asM_of {w:W} {xs:List PyData}:asM w = some xs ↔ w = .ml xs:=by
  constructor
  · intro h; unfold asM at h; split at h <;> simp_all
  · rintro rfl; rfl
theorem slM_of {i:Nat} {xs:List PyData}:slM ρ i = some xs ↔ ρ[i]? = some (some (.ml xs)):=by
  unfold slM
  constructor
  · intro h
    cases q : ρ[i]? with
    | none=>rw [q] at h; cases h
    | some o=>rw [q] at h; cases o with
      | none=>cases h
      | some w=>rw [asM_of.mp h]
  · intro h; rw [h]; rfl
theorem s_frz (i:Nat):mS (vFrz i t) ρ = optM (slM ρ i) fun xs=>mS t (ρ.set i (some (.d (.list xs)))):=by
  refine mo_ext fun Q=>?_
  simp only [mS,vFrz,opt_iff,slM_of]
theorem s_mut (i:Nat) (h:List PyData -> List W -> (List PyData -> Prop) -> Prop):mS (vMut i h fs) ρ = optM (slM ρ i) fun xs=>bnd (fs ρ) fun ws=>bnd (h xs ws) fun ys=>ret (.nx (ρ.set i (some (.ml ys)))):=by
  refine mo_ext fun Q=>?_
  simp only [mS,vMut,bnd,opt_iff,slM_of,ret]
theorem m_gApp (xs:List PyData) (w:W):gApp xs [w] = optM (asD w) fun x=>grd (xs.length < sizeLine) (ret (xs ++ [x])):=by
  refine mo_ext fun Q=>?_
  simp only [gApp,opt_iff,asD_of,grd,ret]
  constructor
  · rintro ⟨x,e,a,q⟩
    cases w <;> first | (cases e; exact ⟨_,rfl,a,q⟩) | cases e
  · rintro ⟨x,rfl,a,q⟩; exact ⟨x,rfl,a,q⟩
end
end L2.VL

namespace L2.VL
open PySem PySem.Spec PyProof.Rows
def Le (a b:En):Prop:=a.length = b.length /\ ∀ (i:Nat) w,a[i]? = some (some w) -> b[i]? = some (some w)
theorem Le.refl (a:En):Le a a:=⟨rfl,fun _ _ h=>h⟩
theorem Le.trans {a b c:En} (h:Le a b) (h':Le b c):Le a c:=⟨h.1.trans h'.1,fun i w e=>h'.2 i w (h.2 i w e)⟩
theorem le_nil:Le [] [] = True:=propext ⟨fun _=>trivial,fun _=>Le.refl _⟩
theorem le_cn (x:Option W) (a b:En):Le (none :: a) (x :: b) = Le a b:=by
  refine propext ⟨fun h=>⟨by have:=h.1; simpa using this,fun i w e=>by have:=h.2 (i + 1) w (by simpa using e); simpa using this⟩,fun h=>⟨by simp [h.1],fun i w e=>?_⟩⟩
  cases i with
  | zero=>simp at e
  | succ i=>simpa using h.2 i w (by simpa using e)
theorem le_cs (x:Option W) (a b:En):Le (x :: a) (x :: b) = Le a b:=by
  refine propext ⟨fun h=>⟨by have:=h.1; simpa using this,fun i w e=>by have:=h.2 (i + 1) w (by simpa using e); simpa using this⟩,fun h=>⟨by simp [h.1],fun i w e=>?_⟩⟩
  cases i with
  | zero=>simpa using e
  | succ i=>simpa using h.2 i w (by simpa using e)
theorem VR.le {K:W.Frag} {rl:Option Addr} {F₀ H₀ F H:Hp} {σ:St} {ρ ρ0:En} (R:VR K rl F₀ H₀ F H σ ρ) (h:Le ρ0 ρ):VR K rl F₀ H₀ F H σ ρ0 :=
  ⟨R.g,fun i w e=>R.sl i w (h.2 i w e),fun i j x y v n e1 e2=>R.ap i j x y v n (h.2 i x e1) (h.2 j y e2),fun i xs e=>R.np i xs (h.2 i _ e),h.1.trans R.len⟩
def fo:List Nat -> En -> En
  | [],ρ=>ρ
  | i :: l,ρ=>fo l (ρ.set i none)
theorem le_set (ρ:En) (i:Nat):Le (ρ.set i none) ρ:=by
  refine ⟨by simp,fun j w e=>?_⟩
  rw [List.getElem?_set] at e
  split at e
  · split at e
    · cases e
    · cases e
  · exact e
theorem le_fo:∀ (l:List Nat) (ρ:En),Le (fo l ρ) ρ
  | [],ρ=>Le.refl ρ
  | i :: l,ρ=>(le_fo l (ρ.set i none)).trans (le_set ρ i)
theorem fo_nil (ρ:En):fo [] ρ = ρ:=rfl
theorem fo_cons (i:Nat) (l:List Nat) (ρ:En):fo (i :: l) ρ = fo l (ρ.set i none):=rfl
def vLoopF (fl:List Nat) (g:TGv) (t:TSv):List PyData -> TSv
  | [],D,ρ=>D.nx ρ
  | x :: xs,D,ρ=>g x ρ fun ρ2=>t { D with nx:=fun ρ'=>vLoopF fl g t xs D (fo fl ρ'),ct:=fun ρ'=>vLoopF fl g t xs D (fo fl ρ'),bk:=fun ρ'=>D.nx (fo fl ρ') } ρ2
def vForF (fl:List Nat) (fi:En -> (List PyData -> Prop) -> Prop) (g:TGv) (t:TSv):TSv:=fun D ρ=>fi ρ fun xs=>vLoopF fl g t xs D (fo fl ρ)
section
variable {X:Cx} {rl:Option Addr} {st:Stmt} {rest body:List Stmt} {t u:TSv} {a b c e:Expr} {es:List Expr} {fa fb:TV} {fs:TVs} {f:TB} {pos p:Pos}
theorem vs_forF (fl:List Nat) {tg iter:Expr} {fi:En -> (List PyData -> Prop) -> Prop} {g:TGv} (hp:PassesOwn (model X.prog X.w) X.A X.env X.xe) (hc:X.calm = true) (hi:PIV X rl tg iter fi) (hg:PGV X rl tg g) (hb:PSsV X rl body t)
    (hs:∀ x,foldedSetIterable iter X.env x = pure x:=by intro _; rfl):PSV X rl (.For tg iter body [] pos) (vForF fl fi g t):=by
  obtain ⟨wi,p0,k0⟩:=hi
  obtain ⟨G,p1,k1⟩:=hg
  obtain ⟨T,p2,k2⟩:=hb
  refine ⟨_,ps_for hp hc p0 p1 p2 hs,fun {F₀ H₀ F H σ ρ} R Dv D ok q=>k0 R _ _ q fun J xs F1 H1 g1 vi q1=>?_⟩
  refine ⟨fun i m σ H=>m = xs.length - i /\ i <= xs.length /\ ∃ F ρ,Same F1 F /\ VR X.K rl F₀ H₀ F H σ ρ /\ vLoopF fl g t (xs.drop i) Dv ρ,⟨xs.length,by simp,Nat.zero_le _,F1,fo fl ρ,.refl _,(R.grow g1).le (le_fo fl ρ),by simpa using q1⟩,?_⟩
  rintro i m σ H ⟨rfl,hi,F2,ρ2,s2,R2,j2⟩
  have sH:Same F1 H:=s2.trans R2.sub
  by_cases hlt:i < xs.length
  · have ei:xs[i]? = some xs[i]:=by simp [hlt]
    rw [List.drop_eq_getElem_cons hlt] at j2
    refine .inr ⟨vi.go i H _ ei sH,fun σ' H'=>∃ F ρ,Same F1 F /\ VR X.K rl F₀ H₀ F H' σ' ρ /\ vLoopF fl g t (xs.drop (i + 1)) Dv ρ,fun σ' H' z=>⟨xs.length - (i + 1),by omega,rfl,hlt,z⟩,fun v H' y=>?_⟩
    obtain ⟨Fy,gy,rv⟩:=vi.yld i H v H' _ F2 ei s2 R2.sub R2.reel y
    refine k1 (R2.grow gy) v _ _ _ rv j2 fun F3 H3 σ3 ρ3 s3 n3 R3 q3=>?_
    have s13:Same F1 F3:=s2.trans (gy.fs.trans s3.fs)
    exact k2 R3 { Dv with nx:=fun ρ'=>vLoopF fl g t (xs.drop (i + 1)) Dv (fo fl ρ'),ct:=fun ρ'=>vLoopF fl g t (xs.drop (i + 1)) Dv (fo fl ρ'),bk:=fun ρ'=>Dv.nx (fo fl ρ') } _
      ⟨fun F4 H4 σ4 ρ4 s4 R4 q4=>⟨F4,fo fl ρ4,s13.trans s4,R4.le (le_fo fl ρ4),q4⟩,ok.rt,fun F4 H4 σ4 ρ4 s4 R4 q4=>ok.nx _ _ _ _ (g1.fs.trans (s13.trans s4)) (R4.le (le_fo fl ρ4)) q4,fun F4 H4 σ4 ρ4 s4 R4 q4=>⟨F4,fo fl ρ4,s13.trans s4,R4.le (le_fo fl ρ4),q4⟩⟩ q3
  · have e:i = xs.length:=by omega
    subst e
    rw [List.drop_length] at j2
    exact .inl ⟨vi.stop _ H (Nat.le_refl _) sH,ok.nx _ _ _ _ (g1.fs.trans s2) R2 j2⟩
def vWh (fl:List Nat) (f:TB) (t:TSv) (m:Nat):TSv:=fun D ρ=>f ρ fun b=>if b = true then t { D with nx:=fun ρ'=>∃ k,∃ h:k < m,vWh fl f t k D (fo fl ρ'),ct:=fun ρ'=>∃ k,∃ h:k < m,vWh fl f t k D (fo fl ρ'),bk:=fun ρ'=>D.nx (fo fl ρ') } ρ else D.nx ρ
termination_by m
def vWhileF (fl:List Nat) (f:TB) (t:TSv):TSv:=fun D ρ=>∃ m,vWh fl f t m D (fo fl ρ)
theorem vWh_eq (fl:List Nat) (f:TB) (t:TSv) (m:Nat) (D:VEnds) (ρ:En):vWh fl f t m D ρ = f ρ fun b=>if b = true then t { D with nx:=fun ρ'=>∃ k,∃ h:k < m,vWh fl f t k D (fo fl ρ'),ct:=fun ρ'=>∃ k,∃ h:k < m,vWh fl f t k D (fo fl ρ'),bk:=fun ρ'=>D.nx (fo fl ρ') } ρ else D.nx ρ:=by
  conv=>lhs; unfold vWh
theorem vs_whileF (fl:List Nat) (hp:PassesOwn (model X.prog X.w) X.A X.env X.xe) (hc:PB X rl c f) (hb:PSsV X rl body t):PSV X rl (.While c body [] pos) (vWhileF fl f t):=by
  obtain ⟨t0,p0,k0⟩:=hc
  obtain ⟨t1,p1,k1⟩:=hb
  refine ⟨_,ps_while hp p0 p1,fun {F₀ H₀ F H σ ρ} R Dv D ok q=>?_⟩
  obtain ⟨m,j0⟩:=q
  refine ⟨fun m σ' H'=>∃ F' ρ',Same F F' /\ VR X.K rl F₀ H₀ F' H' σ' ρ' /\ vWh fl f t m Dv ρ',⟨m,F,fo fl ρ,.refl _,R.le (le_fo fl ρ),j0⟩,?_⟩
  rintro m σ2 H2 ⟨F2,ρ2,s2,R2,j⟩
  rw [vWh_eq] at j
  refine k0 R2 _ _ j fun b F1 H1 g1 q1=>?_
  cases b with
  | false=>exact ok.nx _ _ _ _ (s2.trans g1.fs) (R2.grow g1) q1
  | true =>
    refine ⟨fun σ' H'=>∃ F' ρ',Same F F' /\ VR X.K rl F₀ H₀ F' H' σ' ρ' /\ ∃ m',m' < m /\ vWh fl f t m' Dv ρ',fun σ' H' ⟨F',ρ',s',R',m',hm,j⟩=>⟨m',hm,F',ρ',s',R',j⟩,?_⟩
    exact k1 (R2.grow g1) { Dv with nx:=fun ρ'=>∃ k,∃ h:k < m,vWh fl f t k Dv (fo fl ρ'),ct:=fun ρ'=>∃ k,∃ h:k < m,vWh fl f t k Dv (fo fl ρ'),bk:=fun ρ'=>Dv.nx (fo fl ρ') } _
      ⟨fun F3 H3 σ3 ρ3 s3 R3 ⟨m',hm,q3⟩=>⟨F3,fo fl ρ3,(s2.trans g1.fs).trans s3,R3.le (le_fo fl ρ3),m',hm,q3⟩,ok.rt,fun F3 H3 σ3 ρ3 s3 R3 q3=>ok.nx _ _ _ _ ((s2.trans g1.fs).trans s3) (R3.le (le_fo fl ρ3)) q3,fun F3 H3 σ3 ρ3 s3 R3 ⟨m',hm,q3⟩=>⟨F3,fo fl ρ3,(s2.trans g1.fs).trans s3,R3.le (le_fo fl ρ3),m',hm,q3⟩⟩ q1
end
def lpK (fl:List Nat) (k:En -> Mo Fl):Fl -> Mo Fl
  | .nx ρ=>k (fo fl ρ)
  | .ct ρ=>k (fo fl ρ)
  | .bk ρ=>ret (.nx (fo fl ρ))
  | .rt w=>ret (.rt w)
def loopM (fl:List Nat) (b:PyData -> En -> Mo Fl):List PyData -> En -> Mo Fl
  | [],ρ=>ret (.nx ρ)
  | x :: xs,ρ=>bnd (b x ρ) (lpK fl (loopM fl b xs))
theorem loop_eq (fl:List Nat) (g:TGv) (t:TSv):∀ (xs:List PyData) (ρ:En),mS (vLoopF fl g t xs) ρ = loopM fl (fun x ρ=>bnd (g x ρ) (mS t)) xs ρ
  | [],ρ=>rfl
  | x :: xs,ρ=>by
    refine mo_ext fun Q=>?_
    show (g x ρ fun ρ2=>t ⟨fun ρ'=>mS (vLoopF fl g t xs) (fo fl ρ') Q,fun w=>Q (.rt w),fun ρ'=>Q (.nx (fo fl ρ')),fun ρ'=>mS (vLoopF fl g t xs) (fo fl ρ') Q⟩ ρ2) ↔ _
    simp only [loop_eq fl g t xs]
    exact Iff.rfl
def bdy (g:TGv) (t:TSv):PyData -> En -> Mo Fl:=fun x ρ=>bnd (g x ρ) (mS t)
theorem bdy_ap (g:TGv) (t:TSv) (x:PyData) (ρ:En):bdy g t x ρ = bnd (g x ρ) (mS t):=nr rfl
theorem s_for (fl:List Nat) (fi:En -> (List PyData -> Prop) -> Prop) (g:TGv) (t:TSv) (ρ:En):mS (vForF fl fi g t) ρ = bnd (fi ρ) fun xs=>loopM fl (bdy g t) xs (fo fl ρ):=by
  refine mo_ext fun Q=>?_
  show (fi ρ fun xs=>mS (vLoopF fl g t xs) (fo fl ρ) Q) ↔ _
  simp only [loop_eq]
  exact Iff.rfl
def lpQ (fl:List Nat) (J:En -> Prop) (Q:Fl -> Prop):Fl -> Prop
  | .nx ρ=>J (fo fl ρ)
  | .ct ρ=>J (fo fl ρ)
  | .bk ρ=>Q (.nx (fo fl ρ))
  | .rt w=>Q (.rt w)
section
variable {α σ:Type} {fl:List Nat} {b:PyData -> En -> Mo Fl}
theorem loop_inv (J:Nat -> En -> Prop) {Q:Fl -> Prop}:∀ {xs:List PyData} {ρ:En} (n:Nat),J n ρ -> (∀ i x ρ,xs[i]? = some x -> J (n + i) ρ -> ∀ k:Fl -> Prop,(∀ r,lpQ fl (J (n + i + 1)) Q r -> k r) -> b x ρ k) -> (∀ ρ,J (n + xs.length) ρ -> Q (.nx ρ)) -> loopM fl b xs ρ Q
  | [],ρ,n,h0,_,fin=>fin ρ h0
  | x :: xs,ρ,n,h0,step,fin=>by
    refine step 0 x ρ rfl h0 (fun r=>lpK fl (loopM fl b xs) r Q) fun r hr=>?_
    have rc:∀ ρ',J (n + 1) ρ' -> loopM fl b xs ρ' Q:=fun ρ' h'=>loop_inv J (n + 1) h' (fun i y ρ e j k hk=>step (i + 1) y ρ (by simpa using e) (by rw [show n + (i + 1) = n + 1 + i by omega]; exact j) k (by rw [show n + (i + 1) + 1 = n + 1 + i + 1 by omega]; exact hk)) (fun ρ j=>fin ρ (by rw [List.length_cons,show n + (xs.length + 1) = n + 1 + xs.length by omega]; exact j))
    cases r with
    | nx ρ'=>exact rc _ hr
    | ct ρ'=>exact rc _ hr
    | bk ρ'=>exact hr
    | rt w=>exact hr
theorem loop_by {xs:List α} {enc : α -> PyData} {ρ:En} {Q:Fl -> Prop} (J:Nat -> En -> Prop) (h0:J 0 ρ)
    (step:∀ i (h:i < xs.length) ρ,J i ρ -> ∀ k:Fl -> Prop,(∀ r,lpQ fl (J (i + 1)) Q r -> k r) -> b (enc xs[i]) ρ k) (fin:∀ ρ,J xs.length ρ -> Q (.nx ρ)):loopM fl b (xs.map enc) ρ Q:=by
  refine loop_inv J 0 h0 (fun i x ρ e j k hk=>?_) (fun ρ j=>fin ρ (by simpa using j))
  have hi:i < xs.length:=by have:=(List.getElem?_eq_some_iff.mp e).1; simpa using this
  rw [List.getElem?_map,List.getElem?_eq_getElem hi] at e
  cases e
  rw [Nat.zero_add] at j hk
  exact step i hi ρ j k hk
theorem loop_byR {lo:Int} {n:Nat} {ρ:En} {Q:Fl -> Prop} (J:Nat -> En -> Prop) (h0:J 0 ρ)
    (step:∀ i,i < n -> ∀ ρ,J i ρ -> ∀ k:Fl -> Prop,(∀ r,lpQ fl (J (i + 1)) Q r -> k r) -> b (.int (lo + i)) ρ k) (fin:∀ ρ,J n ρ -> Q (.nx ρ)):loopM fl b (rangeD lo n) ρ Q:=by
  refine loop_by (xs:=List.range n) J h0 (fun i h ρ j k hk=>?_) (fun ρ j=>fin ρ (by simpa using j))
  rw [List.getElem_range]
  exact step i (by simpa using h) ρ j k hk
theorem loop_fold {xs:List α} {enc : α -> PyData} (st : σ -> En) (f : σ -> α -> σ) (s : σ) (I : σ -> Prop) (h0:I s) (step:∀ x ∈ xs,∀ s,I s -> I (f s x) /\ ∃ ρ',b (enc x) (st s) = ret (.nx ρ') /\ fo fl ρ' = st (f s x)):loopM fl b (xs.map enc) (st s) = ret (.nx (st (xs.foldl f s))):=by
  induction xs generalizing s with
  | nil=>rfl
  | cons x xs ih =>
    obtain ⟨h1,ρ',e1,e2⟩:=step x List.mem_cons_self s h0
    show bnd (b (enc x) (st s)) (lpK fl (loopM fl b (xs.map enc))) = _
    rw [e1,bnd_ret]
    show loopM fl b (xs.map enc) (fo fl ρ') = _
    rw [e2]
    exact ih (f s x) h1 fun y hy=>step y (List.mem_cons_of_mem _ hy)
end
def whileM (fl:List Nat) (f:TB) (t:TSv) (ρ:En):Mo Fl:=fun Q=>∃ m,mS (vWh fl f t m) ρ Q
theorem s_while (fl:List Nat) (f:TB) (t:TSv) (ρ:En):mS (vWhileF fl f t) ρ = whileM fl f t (fo fl ρ):=nr rfl
theorem wh_eq (fl:List Nat) (f:TB) (t:TSv) (m:Nat) (ρ:En):mS (vWh fl f t m) ρ = bnd (f ρ) fun b=>if b = true then bnd (mS t ρ) (lpK fl fun ρ'=>fun Q=>∃ k,∃ h:k < m,mS (vWh fl f t k) ρ' Q) else ret (.nx ρ):=by
  refine mo_ext fun Q=>?_
  show vWh fl f t m _ ρ ↔ _
  rw [vWh_eq]
  simp only [bnd,ite_ap]
  exact Iff.rfl
theorem while_f {fl:List Nat} {f:TB} {t:TSv} {ρ:En} (h:f ρ = ret false):whileM fl f t ρ = ret (.nx ρ):=by
  refine mo_ext fun Q=>?_
  constructor
  · rintro ⟨m,q⟩; rw [wh_eq,h,bnd_ret,if_neg (by decide)] at q; exact q
  · intro q; refine ⟨0,?_⟩; rw [wh_eq,h,bnd_ret,if_neg (by decide)]; exact q
theorem while_t {fl:List Nat} {f:TB} {t:TSv} {ρ ρ':En} (h:f ρ = ret true) (h2:mS t ρ = ret (.nx ρ')):whileM fl f t ρ = whileM fl f t (fo fl ρ'):=by
  refine mo_ext fun Q=>?_
  constructor
  · rintro ⟨m,q⟩; rw [wh_eq,h,bnd_ret,if_pos rfl,h2,bnd_ret] at q; obtain ⟨k,_,q⟩:=q; exact ⟨k,q⟩
  · rintro ⟨m,q⟩; refine ⟨m + 1,?_⟩; rw [wh_eq,h,bnd_ret,if_pos rfl,h2,bnd_ret]; exact ⟨m,Nat.lt_succ_self m,q⟩
theorem while_det {σ:Type} {fl:List Nat} {f:TB} {t:TSv} (st : σ -> En) (c : σ -> Bool) (nxt : σ -> σ) (μ : σ -> Nat) (I : σ -> Prop)
    (hf:∀ s,I s -> f (st s) = ret (c s)) (ht:∀ s,I s -> c s = true -> I (nxt s) /\ μ (nxt s) < μ s /\ ∃ ρ',mS t (st s) = ret (.nx ρ') /\ fo fl ρ' = st (nxt s)) (s : σ) (hs:I s):∃ s',I s' /\ c s' = false /\ whileM fl f t (st s) = ret (.nx (st s')):=by
  induction hm : μ s using Nat.strongRecOn generalizing s with
  | ind n ih =>
    subst hm
    cases hc:c s with
    | false=>exact ⟨s,hs,hc,while_f (by rw [hf s hs,hc])⟩
    | true =>
      obtain ⟨i1,m1,ρ',e1,e2⟩:=ht s hs hc
      obtain ⟨s',a,b,e⟩:=ih _ m1 (nxt s) i1 rfl
      exact ⟨s',a,b,by rw [while_t (by rw [hf s hs,hc]) e1,e2,e]⟩
section
variable {X:Cx} {rl:Option Addr} {elt tg iter:Expr} {ifs:List Expr} {scope:Scope} {pos:Pos} {fi:En -> (List PyData -> Prop) -> Prop} {g:TGv} {ft:TB} {fe:TV}
end
section
variable {α:Type} {b:PyData -> Mo (Option PyData)}
end
section
variable (c:Prop) [Decidable c]
theorem ite_nx (a b:En):(if c then ret (Fl.nx a) else ret (Fl.nx b)) = ret (Fl.nx (if c then a else b)):=by split <;> rfl
theorem ite_rt (a b:W):(if c then ret (Fl.rt a) else ret (Fl.rt b)) = ret (Fl.rt (if c then a else b)):=by split <;> rfl
theorem ite_retd (a b:PyData):(if c then ret (W.d a) else ret (W.d b)) = ret (W.d (if c then a else b)):=by split <;> rfl
theorem ite_retb (a b:Bool):(if c then ret a else ret b) = ret (if c then a else b):=by split <;> rfl
theorem ite_rets (a b:PyData):(if c then ret (some a) else ret (some b)) = ret (some (if c then a else b)):=by split <;> rfl
theorem ite_cons {α:Type} (x y : α) (l m:List α):(if c then x :: l else y :: m) = (if c then x else y) :: (if c then l else m):=by split <;> rfl
theorem ite_some {α:Type} (x y : α):(if c then some x else some y) = some (if c then x else y):=by split <;> rfl
theorem ite_d (a b:PyData):(if c then W.d a else W.d b) = W.d (if c then a else b):=by split <;> rfl
theorem ite_pi (a b:Int):(if c then PyData.int a else PyData.int b) = PyData.int (if c then a else b):=by split <;> rfl
theorem ite_pb (a b:Bool):(if c then PyData.bool a else PyData.bool b) = PyData.bool (if c then a else b):=by split <;> rfl
theorem itb_tt (b y:Bool):(if b = true then true else y) = (b || y):=by cases b <;> rfl
theorem itb_ff (b y:Bool):(if b = true then y else false) = (b && y):=by cases b <;> rfl
theorem itb_ft (b y:Bool):(if b = true then false else y) = (!b && y):=by cases b <;> rfl
theorem itb_tf (b y:Bool):(if b = true then y else true) = (!b || y):=by cases b <;> rfl
end
theorem len_ok {n:Nat} (h:n <= 1000):(n <= sizeLine) = True:=by have:=PySem.sizeLine_eq; exact propext ⟨fun _=>trivial,fun _=>by omega⟩
theorem tup2 (x y:PyData):(match [x,y] with | [x,y]=>some (x,y) | _=>none) = some (x,y):=rfl
theorem bnd_tt {α β:Type} (a : α) (f : α -> Mo β):bnd (fun Q=>Q a) f = f a:=nr rfl
section
variable {α β:Type}
theorem any_step {P : α -> Prop} {f : α -> Mo β} {Q : β -> Prop} (h:∀ a,P a -> f a Q):bnd (anyM P) f Q:=h
theorem grd_step {P:Prop} {m:Mo α} {Q : α -> Prop} (h:P) (h':m Q):grd P m Q:=⟨h,h'⟩
theorem ite_step {c:Prop} [Decidable c] {a b:Mo α} {Q : α -> Prop} (h:c -> a Q) (h':¬ c -> b Q):(if c then a else b) Q:=by split <;> simp_all
theorem itb_step {b:Bool} {x y:Mo α} {Q : α -> Prop} (h:b = true -> x Q) (h':b = false -> y Q):(if b = true then x else y) Q:=by cases b <;> simp_all
end
theorem rt_end {Q:PyData -> Prop} {d:PyData} (h:Q d):ret (Fl.rt (.d d)) (endQ Q):=⟨d,rfl,h⟩
section
variable {α:Type} {k:En -> Mo Fl} {Q:Fl -> Prop}
theorem sqo {o:Option α} {h : α -> Mo Fl} (z:optM o (fun a=>sq (h a) k) Q):sq (optM o h) k Q:=by rw [sq_opt]; exact z
def kc (k1 k2:En -> Mo Fl):En -> Mo Fl:=fun ρ=>sq (k1 ρ) k2
theorem kc_ap (k1 k2:En -> Mo Fl) (ρ:En):kc k1 k2 ρ = sq (k1 ρ) k2:=nr rfl
theorem sq_sq (m:Mo Fl) (k1 k2:En -> Mo Fl):sq (sq m k1) k2 = sq m (kc k1 k2):=by
  refine mo_ext fun Q=>?_
  show m _ ↔ m _
  have:∀ fl:Fl,(sq (match fl with | .nx ρ=>k1 ρ | .rt w=>ret (.rt w) | .bk ρ=>ret (.bk ρ) | .ct ρ=>ret (.ct ρ)) k2) Q = (match fl with | .nx ρ=>kc k1 k2 ρ | .rt w=>ret (.rt w) | .bk ρ=>ret (.bk ρ) | .ct ρ=>ret (.ct ρ):Mo Fl) Q:=by intro fl; cases fl <;> rfl
  exact Iff.of_eq (congrArg m (funext this))
theorem sqb_any {P : α -> Prop} {f : α -> Mo Fl} (z:∀ a,P a -> sq (f a) k Q):sq (bnd (anyM P) f) k Q:=z
end
end L2.VL

namespace L2.VL
open PySem PySem.Spec PyProof.Rows
theorem pk_sc (x:List Int):L2.VL.W.peek (.sc x) = .sc x:=rfl
theorem fz_sc (x:List Int):(W.sc x).fz = .sc x:=rfl
theorem arg_sc (x:List Int):argOk (.sc x) = true:=rfl
theorem isPk_sc (x:List Int):(W.sc x).isPk = false:=rfl
section
variable {X:Cx} {rl:Option Addr} {a b c e:Expr} {es:List Expr} {fa fb fc:TV} {fs:TVs} {pos p p2:Pos} {ρ:En}
def asSc:W -> Option (List Int)
  | .sc ns=>some ns
  | _=>none
theorem asSc_s (ns:List Int):asSc (.sc ns) = some ns:=rfl
theorem atI_map {α β:Type} (f : α -> β) (xs:List α) (i:Int):atI (xs.map f) i = (atI xs i).map f:=by
  unfold atI
  rw [List.length_map]
  cases ixN xs.length i <;> simp
end
def spR (K:W.Frag) (pre:List W -> Prop):Sp:=fun vs H Q _=>∃ F ws,Same F H /\ RelWs K none F H vs ws /\ ws.all argOk = true /\ pre ws /\ ∀ r F' H',H r = none -> Grow none F H F' H' -> RAt (some r) F' H' -> Q (.ref r) H'
structure DfnR (P:Program) (w:World) (K:W.Frag) (mg:Str -> Option Value) (base:Heap) (x:Str) (ps:List Str) (k:Nat) (pre:List W -> Prop):Prop where
  ex:∃ f fd,mg x = some (.ref f) /\ W.keepIn K (.ref f) = true /\ Binds K fd ps [] /\ FnOk P w K mg base CX0 k f fd ps (spR K pre)
def nR1:Option W -> Option W
  | some .reel=>none
  | o=>o
def nR (ρ:En):En:=ρ.map nR1
def W.isR:W -> Bool
  | .reel=>true
  | _=>false
def vNewR (i:Nat) (pre:List W -> Prop) (fs:TVs) (t:TSv):TSv:=fun D ρ=>fs ρ fun ws=>ws.all argOk = true /\ pre ws /\ t ⟨fun ρ'=>D.nx (nR ρ'),fun w=>w.isR = false /\ D.rt w,fun ρ'=>D.bk (nR ρ'),fun ρ'=>D.ct (nR ρ')⟩ (ρ.set i (some .reel))
theorem grow_in {F₀ H₀ F H:Hp} {r:Addr} (g:Grow none F₀ H₀ F H) (ra:RAt (some r) F H):Grow (some r) F₀ H₀ F H:=⟨fun b o e _=>g.same b o e (by simp),g.fs,g.sub,g.old,ra⟩
theorem grow_out {F₀ H₀ F H:Hp} {r:Addr} (g:Grow (some r) F₀ H₀ F H) (n:H₀ r = none):Grow none F₀ H₀ F H:=⟨fun b o e _=>g.same b o e (fun z=>by cases z; rw [n] at e; cases e),g.fs,g.sub,g.old,fun _ z=>by cases z⟩
theorem rel_in {K:W.Frag} {F H:Hp} {r:Addr} {v:V} {w:W} (h:RelW K none F H v w) (ne:∀ a,w.own = true \/ (∃ xs,w = .pk xs) -> v = .ref a -> a ≠ r):RelW K (some r) F H v w:=by
  cases w with
  | d x=>exact h
  | ml xs=>obtain ⟨a,vs,e,f,_,g⟩:=h; exact ⟨a,vs,e,f,fun z=>ne a (.inl rfl) e (by cases z; rfl),g⟩
  | pk xs=>obtain ⟨a,vs,e,f,_,g⟩:=h; exact ⟨a,vs,e,f,fun z=>ne a (.inr ⟨_,rfl⟩) e (by cases z; rfl),g⟩
  | reel=>obtain ⟨_,z,_⟩:=h; cases z
  | vv u=>exact h
  | md kvs=>obtain ⟨a,vs,e,f,_,g⟩:=h; exact ⟨a,vs,e,f,fun z=>ne a (.inl rfl) e (by cases z; rfl),g⟩
  | mk kvs=>obtain ⟨a,vs,e,f,_,g⟩:=h; exact ⟨a,vs,e,f,fun z=>ne a (.inl rfl) e (by cases z; rfl),g⟩
  | nt ds=>exact h
  | lk=>trivial
  | sc ns=>exact h
  | fd _=>exact h
  | fw _=>exact h
  | ft _=>exact h
  | xc _ _=>exact h
  | dp _ _=>exact h
theorem rel_out {K:W.Frag} {F H:Hp} {r:Addr} {v:V} {w:W} (h:RelW K (some r) F H v w) (n:w.isR = false):RelW K none F H v w:=by
  cases w with
  | d x=>exact h
  | ml xs=>obtain ⟨a,vs,e,f,_,g⟩:=h; exact ⟨a,vs,e,f,by simp,g⟩
  | pk xs=>obtain ⟨a,vs,e,f,_,g⟩:=h; exact ⟨a,vs,e,f,by simp,g⟩
  | reel=>cases n
  | vv u=>exact h
  | md kvs=>obtain ⟨a,vs,e,f,_,g⟩:=h; exact ⟨a,vs,e,f,by simp,g⟩
  | mk kvs=>obtain ⟨a,vs,e,f,_,g⟩:=h; exact ⟨a,vs,e,f,by simp,g⟩
  | nt ds=>exact h
  | lk=>trivial
  | sc ns=>exact h
  | fd _=>exact h
  | fw _=>exact h
  | ft _=>exact h
  | xc _ _=>exact h
  | dp _ _=>exact h
theorem nR_get {ρ:En} {i:Nat} {w:W} (h:(nR ρ)[i]? = some (some w)) : ρ[i]? = some (some w) /\ w.isR = false:=by
  unfold nR at h
  rw [List.getElem?_map] at h
  cases e : ρ[i]? with
  | none=>rw [e] at h; cases h
  | some o =>
    rw [e] at h
    cases o with
    | none=>cases h
    | some u=>cases u <;> first | (cases h; exact ⟨rfl,rfl⟩) | cases h
theorem VR.out {K:W.Frag} {r:Addr} {F₀ H₀ F H:Hp} {σ:St} {ρ:En} (R:VR K (some r) F₀ H₀ F H σ ρ) (n:H₀ r = none):VR K none F₀ H₀ F H σ (nR ρ):=by
  refine ⟨grow_out R.g n,fun i w e=>?_,fun i j x y v hn e1 e2=>R.ap i j x y v hn (nR_get e1).1 (nR_get e2).1,fun i xs e=>R.np i xs (nR_get e).1,?_⟩
  · obtain ⟨e1,e2⟩:=nR_get e
    obtain ⟨v,h1,h2,h3⟩:=R.sl i w e1
    exact ⟨v,h1,rel_out h2 e2,h3⟩
  · have:=R.len; simpa [nR] using this
theorem VR.into {K:W.Frag} {r:Addr} {F₀ H₀ F H F' H':Hp} {σ:St} {ρ:En} (R:VR K none F₀ H₀ F H σ ρ) (n:H r = none) (g:Grow none F H F' H') (ra:RAt (some r) F' H') (i:Nat):VR K (some r) F₀ H₀ F' H' (σ.set i (some (.ref r))) (ρ.set i (some .reel)):=by
  have R1:=R.grow g
  refine ⟨grow_in R1.g ra,fun j w e=>?_,fun j k x y v hn e1 e2 o1 o2 s1 s2=>?_,fun j xs e=>?_,by simp [R.len]⟩
  · by_cases hj:i = j
    · subst hj
      have hi:i < ρ.length:=by
        rw [List.getElem?_set] at e
        by_cases hi:i < ρ.length
        · exact hi
        · simp [hi] at e
      rw [List.getElem?_set_self hi] at e
      cases e
      exact ⟨.ref r,by rw [List.getElem?_set_self (by rw [<- R.len]; exact hi)],⟨r,rfl,rfl⟩,trivial⟩
    · rw [List.getElem?_set_ne hj] at e
      obtain ⟨v,h1,h2,h3⟩:=R1.sl j w e
      refine ⟨v,by rw [List.getElem?_set_ne hj]; exact h1,rel_in h2 fun a ow ea z=>?_,h3⟩
      obtain ⟨v0,h10,h20,_⟩:=R.sl j w e
      rw [h1] at h10
      cases h10
      rcases ow with ow | ⟨xs,rfl⟩
      · obtain ⟨b,o,eb,hb⟩:=h20.live ow
        rw [ea] at eb
        cases eb
        rw [z,n] at hb
        cases hb
      · exact absurd e (R.np j xs)
  · have key:∀ (m:Nat) (z:W),(ρ.set i (some W.reel))[m]? = some (some z) -> z.own = true -> i ≠ m /\ ρ[m]? = some (some z):=fun m z e o=>by
      by_cases hm:i = m
      · subst hm
        rw [List.getElem?_set] at e
        split at e
        · split at e
          · cases e; cases o
          · cases e
        · exact absurd rfl (by assumption)
      · rw [List.getElem?_set_ne hm] at e; exact ⟨hm,e⟩
    obtain ⟨n1,d1⟩:=key j x e1 o1
    obtain ⟨n2,d2⟩:=key k y e2 o2
    rw [List.getElem?_set_ne n1] at s1
    rw [List.getElem?_set_ne n2] at s2
    exact R1.ap j k x y v hn d1 d2 o1 o2 s1 s2
  · rw [List.getElem?_set] at e
    split at e
    · split at e
      · cases e
      · cases e
    · exact R1.np j xs e
section
variable {X:Cx} {st:Stmt} {rest body:List Stmt} {t u:TSv} {a b c e:Expr} {es:List Expr} {fa fb:TV} {fs:TVs} {pos p px cpos:Pos} {ρ:En}
theorem vs_newR (i:Nat) {x f:Str} {ps:List Str} {k:Nat} {pre:List W -> Prop} (D:DfnR X.prog X.w X.K X.mg X.base f ps k pre) (hr:Room k X.A) (hN:X.N.Nodup) (ha:PVs X none (e :: es) fs) (hrest:∀ r,PSsV X (some r) rest t)
    (hi:X.N[i]? = some x:=by rfl) (hx:Loc X.env.scope x:=by first | exact Or.inl rfl | exact Or.inr rfl) (hg:Gl X f:=by rfl) (hdb:(f == ("__debug__" : Str)) = false:=by decide)
    (he:starEach (e :: es) X.env = (false,eval e X.env) :: starEach es X.env:=by rfl) (hpl:(backTo cpos (starEach es X.env)).any (·.1) = false:=by rfl)
    (hs:swapsWith (.Call (.Name f p) (e :: es) [] cpos) (some (.Name x px)) pos.line X.env = pure false:=by rfl) (hf:X.fn x = true \/ X.env.scope.names.lookup x = some .local:=by first | exact .inl rfl | exact .inr rfl) :
    PSsV X none (.Assign [.Name x px] (.Call (.Name f p) (e :: es) [] cpos) pos :: rest) (vNewR i pre fs t):=by
  obtain ⟨fa,fd,hm,hk,hb,F⟩:=D.ex
  obtain ⟨ta,p1,k1⟩:=ha
  refine ⟨_,pss_cons (ps_set hN hi hx (pe_call F hr hg hm hk hb .nil pass0 p1 hdb he hpl) hs hf) (pss_any X rest),fun {F₀ H₀ F H σ ρ} R Dv D ok q=>k1 R _ _ q fun vs ws F1 H1 g1 r1 ⟨ao,pw,q1⟩=>?_⟩
  have R1:=R.grow g1
  refine ⟨F1,ws,g1.sub,by rw [List.append_nil]; exact r1,ao,pw,fun r F2 H2 hr2 g2 ra=>?_⟩
  intro pins s I
  obtain ⟨T,pT,kT⟩:=hrest r
  have h0:H₀ r = none:=R1.g.freeB hr2
  refine pT pins s _ H2 D I (kT (R1.into hr2 g2 ra i) _ D ⟨fun F3 H3 σ3 ρ3 s3 R3 q3=>?_,fun v w F3 H3 g3 r3 n3 q3=>?_,fun F3 H3 σ3 ρ3 s3 R3 q3=>?_,fun F3 H3 σ3 ρ3 s3 R3 q3=>?_⟩ q1)
  · exact ok.nx F3 H3 σ3 _ (g1.fs.trans (g2.fs.trans s3)) (R3.out h0) q3
  · exact ok.rt v w F3 H3 (grow_out g3 h0) (rel_out r3 q3.1) n3 q3.2
  · exact ok.bk F3 H3 σ3 _ (g1.fs.trans (g2.fs.trans s3)) (R3.out h0) q3
  · exact ok.ct F3 H3 σ3 _ (g1.fs.trans (g2.fs.trans s3)) (R3.out h0) q3
end
def unR:Fl -> Mo Fl
  | .nx ρ=>ret (.nx (nR ρ))
  | .rt w=>grd (w.isR = false) (ret (.rt w))
  | .bk ρ=>ret (.bk (nR ρ))
  | .ct ρ=>ret (.ct (nR ρ))
theorem s_newR (i:Nat) (pre:List W -> Prop) (fs:TVs) (t:TSv) (ρ:En):mS (vNewR i pre fs t) ρ = bnd (fs ρ) fun ws=>grd (ws.all argOk = true) (grd (pre ws) (bnd (mS t (ρ.set i (some .reel))) unR)):=nr rfl
theorem nR_nil:nR [] = []:=rfl
theorem nR_r (l:En):nR (some .reel :: l) = none :: nR l:=rfl
theorem nR_n (l:En):nR (none :: l) = none :: nR l:=rfl
theorem nR_d (x:PyData) (l:En):nR (some (.d x) :: l) = some (.d x) :: nR l:=rfl
theorem nR_ml (x:List PyData) (l:En):nR (some (.ml x) :: l) = some (.ml x) :: nR l:=rfl
theorem nR_sc (x:List Int) (l:En):nR (some (.sc x) :: l) = some (.sc x) :: nR l:=rfl
def spLaw2 (K:W.Frag):Sp:=fun vs H Q _=>∃ (a:Addr) (ns:List Int),vs = [.ref a] /\ SqL K H a (ns.map V.int) /\ ns.length <= 63 /\ ∀ H',Q (.bl true) H'
def lawE:VEnds:=⟨fun _=>False,fun w=>w = .d (.bool true),fun _=>False,fun _=>False⟩
def lawQ:Fl -> Prop
  | .rt w=>w = .d (.bool true)
  | _=>False
theorem un_law (m:Mo Fl):bnd m unR lawQ = m lawQ:=by
  show m (fun fl=>unR fl lawQ) = m lawQ
  congr 1
  funext fl
  cases fl with
  | rt w=>exact propext ⟨fun ⟨_,h⟩=>h,fun h=>⟨by rw [show w = .d (.bool true) from h]; rfl,h⟩⟩
  | _=>rfl
theorem law_end:ret (Fl.rt (.d (.bool true))) lawQ:=rfl
section
variable {P:Program} {w:World} {K:W.Frag} {mg:Str -> Option Value} {base:Heap} {st:Stmt} {N:List Str} {k:Nat} {t:TSv} {x:Str}
theorem ok_law2 {f:Addr} {fd:FuncData} (F:Fun K "law" "law" st f fd) (S:FnScope N [x] (defScope st))
    (hbody:∀ (cdv:Value) (A:Around) (outer:List Env) (s:Shared) (H:Hp) (E:XK),Room k (A.deeper (envOfC "law" (defScope st) s.heap.objs.size f cdv)) -> PSsV (cxOf CX0 P w K mg base N "law" (defScope st) f cdv A outer s H E).nox none (defBody st) t)
    (hread:∀ ns:List Int,ns.length <= 63 -> mS t (startV N [.sc ns]) lawQ):FnOk P w K mg base CX0 (k + 1) f fd [x] (spLaw2 K):=by
  refine F.ok S (fun vs H Q E h=>?_) (fun cdv A outer s H vs Q E hr h=>?_)
  · obtain ⟨a,ns,rfl,_⟩:=h
    rfl
  · obtain ⟨a,ns,rfl,hS,hl,kq⟩:=h
    obtain ⟨T,p,kk⟩:=hbody cdv A outer s H E hr
    have rw0:RelWs K none H H [.ref a] [.sc ns]:=.cons ⟨a,rfl,hS⟩ .nil
    have R:VR K none H H H H (start N [.ref a]) (startV N [.sc ns]):=vr_start (.refl H) (fun _ z=>by cases z) rw0 rfl
    refine ⟨T,p,kk R lawE _ ⟨fun _ _ _ _ _ _ z=>False.elim z,?_,fun _ _ _ _ _ _ z=>False.elim z,fun _ _ _ _ _ _ z=>False.elim z⟩ (hread ns hl)⟩
    rintro v w1 F1 H1 g1 r1 n1 z
    have z:w1 = .d (.bool true):=z
    subst z
    have e:=rep_bl r1
    subst e
    exact kq H1
end
end L2.VL

namespace L2.VL
open PySem PySem.Spec PyProof.Rows
def vSetZ (i:Nat) (fa:TV):TSv:=fun D ρ=>fa ρ fun w=>∃ d,w.fz = .d d /\ D.nx (ρ.set i (some (.d d)))
section
variable {X:Cx} {rl:Option Addr} {st:Stmt} {rest body:List Stmt} {t u:TSv} {a b c e:Expr} {es:List Expr} {fa fb:TV} {fs:TVs} {f:TB} {pos p:Pos} {ρ:En}
theorem vs_setZ (i:Nat) {x:Str} {pos':Pos} (hN:X.N.Nodup) (he:PV X rl e fa) (hi:X.N[i]? = some x:=by rfl) (hx:Loc X.env.scope x:=by first | exact Or.inl rfl | exact Or.inr rfl)
    (hs:swapsWith e (some (.Name x pos')) pos.line X.env = pure false:=by rfl) (hf:X.fn x = true \/ X.env.scope.names.lookup x = some .local:=by first | exact .inl rfl | exact .inr rfl) :
    PSV X rl (.Assign [.Name x pos'] e pos) (vSetZ i fa):=by
  obtain ⟨t,p,k⟩:=he
  refine ⟨_,ps_set hN hi hx p hs hf,fun R Dv D ok q=>k R _ _ q fun v w F1 H1 g1 r1 n1 ⟨d,ed,q1⟩=>?_⟩
  obtain ⟨F2,g2,s2,r2⟩:=RelW.fz g1 r1 n1
  rw [ed] at r2
  exact ok.nx _ _ _ _ g2.fs (R.set g2 r2 trivial (fun xs z=>by cases z) i) q1
theorem s_setZ (i:Nat):mS (vSetZ i fa) ρ = bnd (fa ρ) fun w=>optM (asD w.fz) fun d=>ret (.nx (ρ.set i (some (.d d)))):=by
  show (bnd (fa ρ) fun w=>fun (Q:Fl -> Prop)=>∃ d,w.fz = .d d /\ Q (.nx (ρ.set i (some (.d d))))) = _
  congr 1; funext w
  refine mo_ext fun Q=>?_
  simp only [opt_iff,asD_of,ret]
end
section
variable {X:Cx} {rl:Option Addr} {elt tg iter:Expr} {ifs:List Expr} {scope:Scope} {pos:Pos} {fi:En -> (List PyData -> Prop) -> Prop} {g:TGv} {ft:TB} {fe:TV}
end
def tupI (xs:List Int):PyData:=.tuple (xs.map .int)
def lstI (xs:List Int):PyData:=.list (xs.map .int)
theorem map_int_inj:∀ {xs ys:List Int},xs.map PyData.int = ys.map PyData.int ↔ xs = ys:=by
  intro xs ys
  constructor
  · intro h
    have:=congrArg intsD h
    rw [intsD_map,intsD_map] at this
    exact Option.some.inj this
  · rintro rfl; rfl
theorem tupI_inj {xs ys:List Int}:tupI xs = tupI ys ↔ xs = ys:=by
  unfold tupI
  rw [PyData.tuple.injEq,map_int_inj]
theorem lstI_inj {xs ys:List Int}:lstI xs = lstI ys ↔ xs = ys:=by
  unfold lstI
  rw [PyData.list.injEq,map_int_inj]
theorem map_inj_of {α:Type} {f : α -> PyData} (h:∀ a b,f a = f b ↔ a = b):∀ {xs ys:List α},xs.map f = ys.map f ↔ xs = ys
  | [],[]=>by simp
  | [],_ :: _=>by simp
  | _ :: _,[]=>by simp
  | x :: xs,y :: ys=>by simp [h,map_inj_of h (xs:=xs) (ys:=ys)]
def tupT (xs:List (List Int)):PyData:=.tuple (xs.map tupI)
theorem tupT_inj {xs ys:List (List Int)}:tupT xs = tupT ys ↔ xs = ys:=by
  unfold tupT
  rw [PyData.tuple.injEq,map_inj_of fun _ _=>tupI_inj]
end L2.VL

namespace L2.VL
open PySem PySem.Spec PyProof.Rows
section
variable {α σ:Type} {fl:List Nat} {b:PyData -> En -> Mo Fl} {k:En -> Mo Fl} {Q:Fl -> Prop} {ρ:En}
theorem while_go {f:TB} {t:TSv} (st : σ -> En) (c : σ -> Bool) (nxt : σ -> σ) (μ : σ -> Nat) (I : σ -> Prop) (s : σ) (h0 : ρ = st s) (hs:I s)
    (hf:∀ s,I s -> f (st s) = ret (c s)) (ht:∀ s,I s -> c s = true -> I (nxt s) /\ μ (nxt s) < μ s /\ ∃ ρ',mS t (st s) = ret (.nx ρ') /\ fo fl ρ' = st (nxt s)) (fin:∀ s,I s -> c s = false -> k (st s) Q):sq (whileM fl f t ρ) k Q:=by
  subst h0
  obtain ⟨s',a,b,e⟩:=while_det st c nxt μ I hf ht s hs
  rw [e]
  exact fin s' a b
theorem fold_go {xs:List α} {enc : α -> PyData} {xs':List PyData} (st : σ -> En) (f : σ -> α -> σ) (s : σ) (I : σ -> Prop) (h0 : ρ = st s) (hx:xs' = xs.map enc) (hs:I s) (step:∀ x ∈ xs,∀ s,I s -> I (f s x) /\ ∃ ρ',b (enc x) (st s) = ret (.nx ρ') /\ fo fl ρ' = st (f s x))
    (fin:k (st (xs.foldl f s)) Q):sq (loopM fl b xs' ρ) k Q:=by
  subst h0 hx
  rw [loop_fold st f s I hs step]
  exact fin
def lpS (fl:List Nat) (J:En -> Prop) (k:En -> Mo Fl) (Q:Fl -> Prop):Fl -> Prop
  | .nx ρ=>J (fo fl ρ)
  | .ct ρ=>J (fo fl ρ)
  | .bk ρ=>k (fo fl ρ) Q
  | .rt w=>Q (.rt w)
theorem lpS_nx {J:En -> Prop} {ρ:En} (h:J (fo fl ρ)):lpS fl J k Q (.nx ρ):=h
theorem inv_go {xs:List α} {enc : α -> PyData} {xs':List PyData} (J:Nat -> En -> Prop) (hx:xs' = xs.map enc) (h0:J 0 ρ)
    (step:∀ i (h:i < xs.length) ρ,J i ρ -> ∀ K:Fl -> Prop,(∀ r,lpS fl (J (i + 1)) k Q r -> K r) -> b (enc xs[i]) ρ K) (fin:∀ ρ,J xs.length ρ -> k ρ Q):sq (loopM fl b xs' ρ) k Q:=by
  subst hx
  refine loop_by (Q:=fun r=>(match r with | .nx ρ=>k ρ | .rt w=>ret (.rt w) | .bk ρ=>ret (.bk ρ) | .ct ρ=>ret (.ct ρ):Mo Fl) Q) J h0 (fun i hi ρ j K hK=>step i hi ρ j K fun r hr=>hK r ?_) fin
  cases r <;> exact hr
theorem invR_go {lo:Int} {n:Nat} (J:Nat -> En -> Prop) (h0:J 0 ρ)
    (step:∀ i,i < n -> ∀ ρ,J i ρ -> ∀ K:Fl -> Prop,(∀ r,lpS fl (J (i + 1)) k Q r -> K r) -> b (.int (lo + i)) ρ K) (fin:∀ ρ,J n ρ -> k ρ Q):sq (loopM fl b (rangeD lo n) ρ) k Q:=by
  refine loop_byR (Q:=fun r=>(match r with | .nx ρ=>k ρ | .rt w=>ret (.rt w) | .bk ρ=>ret (.bk ρ) | .ct ρ=>ret (.ct ρ):Mo Fl) Q) J h0 (fun i hi ρ j K hK=>step i hi ρ j K fun r hr=>hK r ?_) fin
  cases r <;> exact hr
theorem each_go {xs:List α} {enc : α -> PyData} {xs':List PyData} (hx:xs' = xs.map enc) (step:∀ x ∈ xs,∀ K:Fl -> Prop,(∀ r,lpS fl (fun ρ'=>ρ' = ρ) k Q r -> K r) -> b (enc x) ρ K) (fin:k ρ Q):sq (loopM fl b xs' ρ) k Q :=
  inv_go (fun _ ρ'=>ρ' = ρ) hx rfl (fun i h ρ' e K hK=>by subst e; exact step _ (List.getElem_mem h) K hK) fun ρ' e=>by subst e; exact fin
theorem eachR_go {lo:Int} {n:Nat} (step:∀ i,i < n -> ∀ K:Fl -> Prop,(∀ r,lpS fl (fun ρ'=>ρ' = ρ) k Q r -> K r) -> b (.int (lo + i)) ρ K) (fin:k ρ Q):sq (loopM fl b (rangeD lo n) ρ) k Q :=
  invR_go (fun _ ρ'=>ρ' = ρ) rfl (fun i h ρ' e K hK=>by subst e; exact step i h K hK) fun ρ' e=>by subst e; exact fin
end
theorem endS {m:Mo Fl} {Q:Fl -> Prop} (h:sq m (fun ρ=>ret (.nx ρ)) Q):m Q:=by
  have e:(fun fl:Fl=>(match fl with | .nx ρ=>ret (.nx ρ) | .rt w=>ret (.rt w) | .bk ρ=>ret (.bk ρ) | .ct ρ=>ret (.ct ρ):Mo Fl) Q) = Q:=by
    funext fl; cases fl <;> rfl
  have h:m (fun fl:Fl=>(match fl with | .nx ρ=>ret (.nx ρ) | .rt w=>ret (.rt w) | .bk ρ=>ret (.bk ρ) | .ct ρ=>ret (.ct ρ):Mo Fl) Q):=h
  rw [e] at h
  exact h
section
variable {α β:Type} {b:PyData -> Mo (Option PyData)} {k:List PyData -> Mo β} {Q : β -> Prop}
end
section
variable {α β:Type}
theorem menu_step {xs:List PyData} {i:Int} {k:PyData -> Mo β} {Q : β -> Prop} (h0 : 0 <= i) (h1:i < (xs.length:Int)) (h:∀ z ∈ xs,k z Q):optM (atI xs i) k Q:=by
  obtain ⟨z,e,m⟩:=at_in h0 h1
  rw [e]
  exact h z m
theorem menuA_step {xs:List α} {enc : α -> PyData} {xs':List PyData} {i:Int} {k:PyData -> Mo β} {Q : β -> Prop} (P : α -> Prop) (hx:xs' = xs.map enc) (h0 : 0 <= i) (h1:i < (xs.length:Int)) (hP:∀ z ∈ xs,P z) (h:∀ z,P z -> k (enc z) Q):optM (atI xs' i) k Q:=by
  subst hx
  refine menu_step h0 (by simpa using h1) fun z mz=>?_
  obtain ⟨x,hx,rfl⟩:=List.mem_map.mp mz
  exact h x (hP x hx)
end
end L2.VL

namespace L2.VL
open PySem PySem.Spec PyProof.Rows
section
variable {X:Cx} {rl:Option Addr} {a b c o e:Expr} {es:List Expr} {fa fb:TV} {fs:TVs} {pos p apos cpos:Pos} {ρ:En}
end
end L2.VL
namespace L2
open PySem PySem.Spec PyProof.Rows
section
variable {X:Cx} {pos:Pos}
end
end L2
namespace L2.VL
open PySem PySem.Spec PyProof.Rows
section
variable {X:Cx} {rl:Option Addr} {es:List Expr} {pos:Pos} {ρ:En}
end
end L2.VL

namespace L2.VL
open PySem PySem.Spec PyProof.Rows
def BMON0:=And.intro @bnd_tt (And.intro @bnd_ret (And.intro @bnd_bnd (And.intro @bnd_grd (And.intro @bnd_stk (And.intro @bnd_ite (And.intro @bnd_opt (And.intro @opt_some (And.intro @opt_none (And.intro @grd_T (And.intro @sq_nx (And.intro @sq_rt (And.intro @sq_bk (And.intro @sq_ct (And.intro @sq_grd (And.intro @sq_stk (And.intro @sq_ite (And.intro @sq_sq (@kc_ap))))))))))))))))))
def BITE0:=And.intro @ite_nx (And.intro @ite_rt (And.intro @ite_retd (And.intro @ite_retb (And.intro @ite_rets (And.intro @ite_cons (And.intro @ite_some (And.intro @ite_d (And.intro @ite_pi (And.intro @ite_pb (And.intro @itb_tt (And.intro @itb_ff (And.intro @itb_ft (And.intro @itb_tf (@ite_self.{1}))))))))))))))
def BEXP0:=And.intro @m_vC (And.intro @m_vVar (And.intro @m_vNil (And.intro @m_vCons (And.intro @m_vOp (And.intro @m_gI (And.intro @m_gI0 (And.intro @m_vNeg (And.intro @m_vTest (And.intro @m_gEqD (And.intro @m_vAnd (And.intro @m_vOr (And.intro @m_vNot (And.intro @m_vAndV (And.intro @m_vOrV (And.intro @m_vNotV (And.intro @m_vIf (And.intro @m_vTup (And.intro @m_vLst (And.intro @m_gIx (And.intro @m_vCall (And.intro @m_gAbs (@m_gLen))))))))))))))))))))))
def BEXP1:=And.intro @m_gRepr (And.intro @m_gIsi (And.intro @m_gTupO (And.intro @m_vSlL (And.intro @m_vChain (And.intro @m_iT (@m_iR1))))))
def BEXP2:=And.intro @m_vUse (@m_gEqS)
def BSTM0:=And.intro @s_next (And.intro @s_seq (And.intro @s_ret (And.intro @s_ifS (And.intro @s_set (And.intro @s_setZ (And.intro @s_never (And.intro @s_asg (And.intro @s_par (And.intro @s_frz (And.intro @s_mut (And.intro @s_for (And.intro @bdy_ap (And.intro @s_while (And.intro @s_newR (And.intro @m_hName (@m_hNil_n))))))))))))))))
def BSTM1:=And.intro @m_hCons_c (And.intro @m_hTup (@m_gApp))
def BPRJ0:=And.intro @pk_sc (And.intro @fz_sc (And.intro @arg_sc (And.intro @isPk_sc (And.intro @asI_d (And.intro @asB_d (And.intro @asS_d (And.intro @asD_d (And.intro @asT_d (And.intro @asL_d (And.intro @asL_ml (And.intro @asL_pk (And.intro @asQ_d (And.intro @asQ_ml (And.intro @asQ_pk (And.intro @lstD_l (And.intro @tupD_t (And.intro @toI_i (And.intro @toI_b (And.intro @isiT_t (And.intro @asM_ml (And.intro @asSc_s (And.intro @two_d (@fz_d)))))))))))))))))))))))
def BPRJ1:=And.intro @fz_ml (And.intro @fz_pk (And.intro @fz_reel (And.intro @fz_vv (And.intro @pk_d (And.intro @pk_ml (And.intro @pk_reel (And.intro @pk_vv (And.intro @dat_d (And.intro @dat_ml (And.intro @dat_pk (And.intro @isPk_d (And.intro @isPk_ml (And.intro @isPk_reel (And.intro @dats_nil (And.intro @dats_d (And.intro @arg_d (And.intro @arg_reel (And.intro @item_l (And.intro @item_t (And.intro @len_l (And.intro @len_t (And.intro @seq_l (@seq_t)))))))))))))))))))))))
def BPRJ2:=And.intro @at0 (And.intro @at1 (And.intro @blsD_map (And.intro @tup2 (And.intro @fo_nil (And.intro @fo_cons (And.intro @nR_nil (And.intro @nR_r (And.intro @nR_n (And.intro @nR_d (And.intro @nR_ml (And.intro @nR_sc (And.intro @le_nil (And.intro @le_cn (And.intro @le_cs (And.intro @end_d (And.intro @end_ml (And.intro @end_nx (@un_law))))))))))))))))))
def BLST0:=And.intro @List.map_cons.{0,0} (And.intro @List.map_nil.{0,0} (And.intro @List.length_cons.{0} (And.intro @List.length_nil.{0} (And.intro @List.getElem?_cons_zero.{0} (And.intro @List.getElem?_cons_succ.{0} (And.intro @List.set_cons_zero.{0} (And.intro @List.set_cons_succ.{0} (And.intro @List.set_nil.{0} (And.intro @List.cons_append.{0} (And.intro @List.nil_append.{0} (And.intro @List.all_cons.{0} (And.intro @List.all_nil.{0} (And.intro @List.head?_cons.{0} (And.intro @Bool.and_true (And.intro @Option.some.injEq.{0} (And.intro @Option.map_some.{0,0} (And.intro @Option.bind_some.{0,0} (And.intro @Option.bind_none.{0,0} (And.intro @Option.join_some.{0} (And.intro @Option.join_none.{0} (And.intro @Bool.false_eq_true (And.intro @and_self (@and_true)))))))))))))))))))))))
def BLST1:=And.intro @true_and (And.intro @shaped_i (And.intro @eqv_ii (And.intro @shaped_b (And.intro @Bool.true_and (And.intro @Bool.and_self (And.intro @Bool.not_true (And.intro @Bool.not_false (And.intro @List.length_map.{0,0} (And.intro @Int.toNat_natCast (And.intro @Bool.true_eq_false (And.intro @decide_true (And.intro @decide_false (And.intro @List.isEmpty_cons.{0} (And.intro @List.isEmpty_nil.{0} (@List.isEmpty_map.{0,0})))))))))))))))
end L2.VL

namespace L2.VL
open PySem PySem.Spec PyProof.Rows

def kC:Key:=Sum.inr "cells"
def kA:Key:=Sum.inr "at"
def kL:Key:=Sum.inr "left"
def kT:Key:=Sum.inr "turn"
theorem k_ca:¬ kC = kA:=by decide +kernel
theorem k_cl:¬ kC = kL:=by decide +kernel
theorem k_ct:¬ kC = kT:=by decide +kernel
theorem k_al:¬ kA = kL:=by decide +kernel
theorem k_at:¬ kA = kT:=by decide +kernel
theorem k_lt:¬ kL = kT:=by decide +kernel
def reelKv (c:Addr) (a l t:Int):List (Key × V):=[(kC,.ref c),(kA,.int a),(kL,.int l),(kT,.int t)]
theorem valV_cons_ne {p:Key × V} {r:List (Key × V)} {k:Key} (e:¬ p.1 = k):valV (p :: r) k = valV r k:=by
  unfold valV
  rw [List.find?_cons]
  simp [e]
theorem reel_c (c:Addr) (a l t:Int):valV (reelKv c a l t) kC = some (.ref c):=valV_pos rfl
theorem reel_a (c:Addr) (a l t:Int):valV (reelKv c a l t) kA = some (.int a):=by unfold reelKv; rw [valV_cons_ne k_ca]; exact valV_pos rfl
theorem reel_l (c:Addr) (a l t:Int):valV (reelKv c a l t) kL = some (.int l):=by unfold reelKv; rw [valV_cons_ne k_cl,valV_cons_ne k_al]; exact valV_pos rfl
theorem reel_t (c:Addr) (a l t:Int):valV (reelKv c a l t) kT = some (.int t):=by unfold reelKv; rw [valV_cons_ne k_ct,valV_cons_ne k_at,valV_cons_ne k_lt]; exact valV_pos rfl
theorem ne' {a b:Key} (h:¬ a = b):¬ b = a:=fun e=>h e.symm
theorem put_a (c:Addr) (a l t n:Int):putK (reelKv c a l t) kA (.int n) = reelKv c n l t:=by
  unfold putK reelKv
  rw [if_pos (by simp)]
  simp [k_ca,ne' k_al,ne' k_at]
theorem put_l (c:Addr) (a l t n:Int):putK (reelKv c a l t) kL (.int n) = reelKv c a n t:=by
  unfold putK reelKv
  rw [if_pos (by simp)]
  simp [k_cl,k_al,ne' k_lt]
theorem put_t (c:Addr) (a l t n:Int):putK (reelKv c a l t) kT (.int n) = reelKv c a l n:=by
  unfold putK reelKv
  rw [if_pos (by simp)]
  simp [k_ct,k_at,k_lt]
theorem ReelOk.kv {F H:Hp} {r:Addr} (h:ReelOk F H r):∃ (c:Addr) (ns:List Int) (a l t:Int),H r = some (.dK (reelKv c a l t)) /\ F c = some (.lst (ns.map V.int)) /\ ns.length <= 63 /\ 0 <= a /\ 0 <= l /\ 0 <= t:=by
  obtain ⟨o,e,c,ns,a,l,t,rfl,q⟩:=h.ex
  exact ⟨c,ns,a,l,t,e,q⟩
theorem RAt.put {rl:Option Addr} {F₀ H₀ F H:Hp} {K:W.Frag} {σ:St} {ρ:En} {r c:Addr} {ns:List Int} {a l t:Int} (R:VR K rl F₀ H₀ F H σ ρ) (e:rl = some r) (h:F c = some (.lst (ns.map V.int)) /\ ns.length <= 63 /\ 0 <= a /\ 0 <= l /\ 0 <= t) :
    VR K rl F₀ H₀ F (upd H r (.dK (reelKv c a l t))) σ ρ:=by
  have fr:F r = none:=(R.reel r e).1
  have neF:∀ b u,F b = some u -> b ≠ r:=fun b u q z=>by subst z; rw [fr] at q; cases q
  have g:Grow rl F H F (upd H r (.dK (reelKv c a l t))):=by
    refine ⟨fun b o q n=>by rw [upd_ne (fun z=>n (by rw [z]; exact e))]; exact q,.refl F,fun b o q=>by rw [upd_ne (neF b o q)]; exact R.sub b o q,fun _ _ _=>rfl,fun y z=>?_⟩
    have:y = r:=Option.some.inj (z.symm.trans e)
    subst this
    exact ⟨fr,⟨_,upd_same,c,ns,a,l,t,rfl,h⟩⟩
  exact R.grow g
section
variable {X:Cx} {rl:Option Addr} {e:Expr} {fa:TV} {pos p p1 p2:Pos}
def vRN (i:Nat):TV:=fun ρ Q=>ρ[i]? = some (some .reel) /\ ∀ n:Int,0 <= n -> Q (.d (.int n))
def vRC (i:Nat):TV:=fun ρ Q=>ρ[i]? = some (some .reel) /\ ∀ ns:List Int,ns.length <= 63 -> Q (.d (.list (ns.map .int)))
theorem reps_ints {K:W.Frag} {F:Hp}:∀ ns:List Int,Reps K F (ns.map V.int) (ns.map PyData.int)
  | []=>.nil
  | n :: ns=>.cons (.int n) (reps_ints ns)
theorem v_rget {i:Nat} {x:Str} {k:Str} {j} (hr:Room 0 X.A) (hk:(Sum.inr k:Key) = kA \/ (Sum.inr k:Key) = kL \/ (Sum.inr k:Key) = kT) (hN:X.N[i]? = some x:=by rfl) (hv:Vis X.env.scope x:=by first | exact Or.inl rfl | exact Or.inr (Or.inl rfl) | exact Or.inr (Or.inr rfl))
    (hd:(x == ("__debug__" : Str)) = false:=by decide) (hcd:(x == ("__classdict__" : Str)) = false:=by decide) (hs:NoSl (.Constant (.str k) j p2):=by exact fun _ _=>rfl):PV X rl (.Subscript (.Name x p1) (.Constant (.str k) j p2) pos) (vRN i):=by
  refine ⟨_,pe_dget (hu_of hr) (pe_var hN hv hd hcd) pe_str hs,fun {F₀ H₀ F H σ ρ} R Qd Q ⟨e1,q⟩ h=>?_⟩
  obtain ⟨v,s1,⟨r,er,ev⟩,_⟩:=R.sl i _ e1
  subst ev
  obtain ⟨_,ok⟩:=R.reel r er
  obtain ⟨c,ns,a,l,t,hH,_,_,b1,b2,b3⟩:=ok.kv
  have go:∀ n:Int,0 <= n -> valV (reelKv c a l t) (Sum.inr k) = some (.int n) -> tDGet (tVar i) (tC (.str k)) σ H Q:=fun n hn e=>by
    refine ⟨.ref r,s1,r,.int n,rfl,?_,h _ (.d _) F H (Grow.refl R.sub R.reel) (.int n) trivial (q n hn)⟩
    have g:=DGet.k (k:=(Sum.inr k:Key)) hH
    rw [e] at g
    exact g
  rcases hk with hk | hk | hk
  · exact go a b1 (by rw [hk]; exact reel_a c a l t)
  · exact go l b2 (by rw [hk]; exact reel_l c a l t)
  · exact go t b3 (by rw [hk]; exact reel_t c a l t)
theorem v_rcells {i:Nat} {x:Str} {j} (hr:Room 0 X.A) (hN:X.N[i]? = some x:=by rfl) (hv:Vis X.env.scope x:=by first | exact Or.inl rfl | exact Or.inr (Or.inl rfl) | exact Or.inr (Or.inr rfl))
    (hd:(x == ("__debug__" : Str)) = false:=by decide) (hcd:(x == ("__classdict__" : Str)) = false:=by decide) (hs:NoSl (.Constant (.str "cells") j p2):=by exact fun _ _=>rfl):PV X rl (.Subscript (.Name x p1) (.Constant (.str "cells") j p2) pos) (vRC i):=by
  refine ⟨_,pe_dget (hu_of hr) (pe_var hN hv hd hcd) pe_str hs,fun {F₀ H₀ F H σ ρ} R Qd Q ⟨e1,q⟩ h=>?_⟩
  obtain ⟨v,s1,⟨r,er,ev⟩,_⟩:=R.sl i _ e1
  subst ev
  obtain ⟨_,ok⟩:=R.reel r er
  obtain ⟨c,ns,a,l,t,hH,hc,hl,_⟩:=ok.kv
  refine ⟨.ref r,s1,r,.ref c,rfl,?_,h _ (.d _) F H (Grow.refl R.sub R.reel) (Rep.lst hc (reps_ints ns)) trivial (q ns hl)⟩
  have g:=DGet.k (k:=kC) hH
  rw [reel_c] at g
  exact g
def vRPut (i:Nat) (fa:TV):TSv:=fun D ρ=>fa ρ fun w=>∃ n,w = .d (.int n) /\ 0 <= n /\ ρ[i]? = some (some .reel) /\ D.nx ρ
theorem vs_rput {i:Nat} {x:Str} {k:Str} {j} {pos':Pos} (hr:Room 0 X.A) (hk:(Sum.inr k:Key) = kA \/ (Sum.inr k:Key) = kL \/ (Sum.inr k:Key) = kT) (ha:PV X rl e fa) (hN:X.N[i]? = some x:=by rfl) (hv:Vis X.env.scope x:=by first | exact Or.inl rfl | exact Or.inr (Or.inl rfl) | exact Or.inr (Or.inr rfl))
    (hd:(x == ("__debug__" : Str)) = false:=by decide) (hcd:(x == ("__classdict__" : Str)) = false:=by decide) (hsw:swapsWith e (some (.Subscript (.Name x p1) (.Constant (.str k) j p2) pos')) pos.line X.env = pure false:=by rfl) :
    PSV X rl (.Assign [.Subscript (.Name x p1) (.Constant (.str k) j p2) pos'] e pos) (vRPut i fa):=by
  obtain ⟨t,p3,kk⟩:=ha
  refine ⟨_,ps_dput (hu_of hr) (pe_var hN hv hd hcd) pe_str p3 hsw,fun {F₀ H₀ F H σ ρ} R Dv D ok q=>kk R _ _ q fun v w F1 H1 g1 r1 n1 ⟨n,ew,hn,e1,q1⟩=>?_⟩
  subst ew
  have ev:=rep_int r1
  subst ev
  have R1:=R.grow g1
  obtain ⟨v,s1,⟨r,er,ev⟩,_⟩:=R1.sl i _ e1
  subst ev
  obtain ⟨_,okr⟩:=R1.reel r er
  obtain ⟨c,ns,a,l,t,hH,hc,hl,b1,b2,b3⟩:=okr.kv
  refine ⟨.ref r,s1,r,_,rfl,DPut.k (k:=(Sum.inr k:Key)) hH (small1000 (by show 4 <= 1000; decide)),?_⟩
  have go:∀ a' l' t':Int,0 <= a' -> 0 <= l' -> 0 <= t' -> putK (reelKv c a l t) (Sum.inr k) (.int n) = reelKv c a' l' t' -> D.nx σ (upd H1 r (.dK (putK (reelKv c a l t) (Sum.inr k) (.int n)))):=fun a' l' t' x1 x2 x3 e=>by
    rw [e]
    exact ok.nx _ _ _ _ g1.fs (RAt.put R1 er ⟨hc,hl,x1,x2,x3⟩) q1
  rcases hk with hk | hk | hk
  · exact go n l t hn b2 b3 (by rw [hk]; exact put_a c a l t n)
  · exact go a n t b1 hn b3 (by rw [hk]; exact put_l c a l t n)
  · exact go a l n b1 b2 hn (by rw [hk]; exact put_t c a l t n)
end
theorem merge_reel (c:Addr):mergeK [] [(kC,V.ref c),(kA,.int 0),(kL,.int 0),(kT,.int 0)] = reelKv c 0 0 0:=by
  unfold mergeK reelKv
  simp only [List.foldl_cons,List.foldl_nil]
  have p0:putK ([]:List (Key × V)) kC (V.ref c) = [(kC,V.ref c)]:=rfl
  rw [p0]
  unfold putK
  simp [k_ca,k_cl,k_ct,k_al,k_at,k_lt]
end L2.VL

namespace L2.VL
open PySem PySem.Spec PyProof.Rows
section
variable {X:Cx} {rl:Option Addr} {e:Expr} {fa:TV} {pos p p1 p2:Pos} {ρ:En}
def asR:W -> Option Unit
  | .reel=>some ()
  | _=>none
theorem asR_r:asR .reel = some ():=rfl
theorem slR_of {i:Nat}:(((ρ[i]?).join).bind asR = some ()) ↔ ρ[i]? = some (some .reel):=by
  constructor
  · intro h
    cases q : ρ[i]? with
    | none=>rw [q] at h; cases h
    | some o=>rw [q] at h; cases o with
      | none=>cases h
      | some w=>cases w <;> first | rfl | cases h
  · intro h; rw [h]; rfl
theorem slR_ex {β:Type} {i:Nat} {k:Unit -> Mo β} {Q : β -> Prop}:optM (((ρ[i]?).join).bind asR) k Q ↔ ρ[i]? = some (some .reel) /\ k () Q:=by
  rw [opt_iff]
  exact ⟨fun ⟨u,a,q⟩=>⟨slR_of.mp a,q⟩,fun ⟨a,q⟩=>⟨(),slR_of.mpr a,q⟩⟩
theorem m_vRN (i:Nat):vRN i ρ = optM (((ρ[i]?).join).bind asR) fun _=>bnd (anyM fun n:Int=>0 <= n) fun n=>ret (.d (.int n)):=mo_ext fun Q=>(Iff.intro (fun ⟨a,q⟩=>slR_ex.mpr ⟨a,fun n h=>q n h⟩) fun h=>⟨(slR_ex.mp h).1,fun n hn=>(slR_ex.mp h).2 n hn⟩)
theorem m_vRC (i:Nat):vRC i ρ = optM (((ρ[i]?).join).bind asR) fun _=>bnd (anyM fun ns:List Int=>ns.length <= 63) fun ns=>ret (.d (lstI ns)):=mo_ext fun Q=>(Iff.intro (fun ⟨a,q⟩=>slR_ex.mpr ⟨a,fun n h=>q n h⟩) fun h=>⟨(slR_ex.mp h).1,fun n hn=>(slR_ex.mp h).2 n hn⟩)
theorem s_rput (i:Nat):mS (vRPut i fa) ρ = bnd (fa ρ) fun w=>optM (asI w) fun n=>grd (0 <= n) (optM (((ρ[i]?).join).bind asR) fun _=>ret (.nx ρ)):=by
  show (bnd (fa ρ) fun w=>fun (Q:Fl -> Prop)=>∃ n,w = .d (.int n) /\ 0 <= n /\ ρ[i]? = some (some .reel) /\ Q (.nx ρ)) = _
  congr 1; funext w
  refine mo_ext fun Q=>?_
  simp only [opt_iff (o:=asI w),asI_of,grd,slR_ex,ret]
end
theorem lenD_l (xs:List Int):lenD (lstI xs) = some xs.length:=by show some (xs.map PyData.int).length = _; rw [List.length_map]
theorem item_li (xs:List Int) (i:Int):itemAt (lstI xs) i = (atI xs i).map .int:=atI_map _ _ _
end L2.VL

namespace L2.VL
open PySem PySem.Spec PyProof.Rows
def fr (q:Rat):PyData:=.tuple [.int q.num,.int q.den]
theorem fr_inj {q r:Rat} (h:fr q = fr r):q = r:=by
  simp only [fr,PyData.tuple.injEq,List.cons.injEq,PyData.int.injEq,and_true] at h
  exact Rat.ext h.1 (by omega)
theorem low_norm (n:Int) (d:Nat) (h:d ≠ 0):lowD n d = fr (Rat.normalize n d h):=by
  unfold lowD fr
  rw [Rat.normalize_eq]
  have g:(Int.gcd n d:Int) = ((n.natAbs.gcd d:Nat):Int):=by simp [Int.gcd]
  have gp : 0 < n.natAbs.gcd d:=Nat.gcd_pos_of_pos_right _ (by omega)
  have e1:n.fdiv (Int.gcd n d) = n / ((n.natAbs.gcd d:Nat):Int):=by rw [g,Int.fdiv_eq_ediv_of_nonneg _ (by omega)]
  have e2:(d:Int).fdiv (Int.gcd n d) = ((d / n.natAbs.gcd d:Nat):Int):=by rw [g,Int.fdiv_eq_ediv_of_nonneg _ (by omega),Int.natCast_ediv]
  rw [e1,e2]
theorem low_div {a b:Int} (hb : 0 < b):lowD a b = fr ((a:Rat) / (b:Rat)):=by
  obtain ⟨d,rfl⟩:=Int.eq_ofNat_of_zero_le (show 0 <= b by omega)
  rw [low_norm a d (by omega)]
  congr 1
  have:(Rat.normalize a d (by omega)) = mkRat a d:=by rw [Rat.normalize_eq_mkRat]
  rw [this,Rat.mkRat_eq_div]
  rfl
def q2P (f:Rat -> Rat -> PyData) (pre:Rat -> Rat -> Prop):List W -> (PyData -> Prop) -> Prop:=fun ws Q=>∃ q r,ws = [.d (fr q),.d (fr r)] /\ pre q r /\ Q (f q r)
theorem q2P.mono {f:Rat -> Rat -> PyData} {pre:Rat -> Rat -> Prop}:∀ ws (Q Q':PyData -> Prop),(∀ d,Q d -> Q' d) -> q2P f pre ws Q -> q2P f pre ws Q':=fun _ _ _ h ⟨q,r,e,p,x⟩=>⟨q,r,e,p,h _ x⟩
theorem q2P.len {f:Rat -> Rat -> PyData} {pre:Rat -> Rat -> Prop}:∀ ws (Q:PyData -> Prop),q2P f pre ws Q -> ws.length = 2:=fun _ _ ⟨_,_,e,_⟩=>by subst e; rfl
def q1P (f:Rat -> PyData) (pre:Rat -> Prop):List W -> (PyData -> Prop) -> Prop:=fun ws Q=>∃ q,ws = [.d (fr q)] /\ pre q /\ Q (f q)
theorem q1P.mono {f:Rat -> PyData} {pre:Rat -> Prop}:∀ ws (Q Q':PyData -> Prop),(∀ d,Q d -> Q' d) -> q1P f pre ws Q -> q1P f pre ws Q':=fun _ _ _ h ⟨q,e,p,x⟩=>⟨q,e,p,h _ x⟩
theorem q1P.len {f:Rat -> PyData} {pre:Rat -> Prop}:∀ ws (Q:PyData -> Prop),q1P f pre ws Q -> ws.length = 1:=fun _ _ ⟨_,e,_⟩=>by subst e; rfl
def qSm (n:Nat) (q:Rat):Prop:=q.num.natAbs < 2 ^ n /\ q.den < 2 ^ n
theorem qSm.mono {n m:Nat} {q:Rat} (h:qSm n q) (hm:n <= m):qSm m q:=⟨Nat.lt_of_lt_of_le h.1 (Nat.pow_le_pow_right (by decide) hm),Nat.lt_of_lt_of_le h.2 (Nat.pow_le_pow_right (by decide) hm)⟩
end L2.VL

namespace L2.VL
open PySem PySem.Spec PyProof.Rows
inductive Sd where
  | to (t:Rat) | from (a b:Rat) | round (a b:Rat)
def Sd.last:Sd -> Rat
  | .to t=>t | .from _ b=>b | .round _ b=>b
def Sd.first:Sd -> Rat
  | .to t=>t | .from a _=>a | .round a _=>a
def Sd.word:Sd -> Str
  | .to _ => "to" | .from _ _ => "from" | .round _ _ => "round"
def sdD:Sd -> PyData
  | .to t=>.tuple [.str "to", fr t]
  | .from a b=>.tuple [.str "from", fr a,fr b]
  | .round a b=>.tuple [.str "round", fr a,fr b]
def mx (q r:Rat):Rat:=if q < r then r else q
def Sd.Sm (s:Sd):Prop:=qSm 60 s.first /\ qSm 60 s.last
theorem fr0:pr 0 1 = fr 0:=rfl
theorem fr1:pr 1 1 = fr 1:=rfl
theorem norm_sm {n:Int} {d k:Nat} (hd:d ≠ 0) (h1:n.natAbs < 2 ^ k) (h2:d < 2 ^ k):qSm k (Rat.normalize n d hd):=by
  rw [Rat.normalize_eq]
  refine ⟨?_,Nat.lt_of_le_of_lt (Nat.div_le_self _ _) h2⟩
  show (n / ((n.natAbs.gcd d:Nat):Int)).natAbs < 2 ^ k
  have hdv:((n.natAbs.gcd d:Nat):Int) ∣ n:=Int.ofNat_dvd_left.mpr (Nat.gcd_dvd_left _ _)
  rw [Int.natAbs_ediv_of_dvd hdv,Int.natAbs_natCast]
  exact Nat.lt_of_le_of_lt (Nat.div_le_self _ _) h1
theorem qSm.up {q:Rat} (h:qSm 60 q):qSm 2000 q:=h.mono (by decide)
def fn1x {α:Type} (pre : α -> Prop) (enc : α -> PyData) (f : α -> PyData):List W -> (PyData -> Prop) -> Prop:=fun ws Q=>∃ a,ws = [.d (enc a)] /\ pre a /\ Q (f a)
theorem fn1x.mono {α:Type} {pre : α -> Prop} {enc : α -> PyData} {f : α -> PyData}:∀ ws (Q Q':PyData -> Prop),(∀ d,Q d -> Q' d) -> fn1x pre enc f ws Q -> fn1x pre enc f ws Q':=fun _ _ _ h ⟨a,e,p,q⟩=>⟨a,e,p,h _ q⟩
theorem fn1x.len {α:Type} {pre : α -> Prop} {enc : α -> PyData} {f : α -> PyData}:∀ ws (Q:PyData -> Prop),fn1x pre enc f ws Q -> ws.length = 1:=fun _ _ ⟨_,e,_⟩=>by subst e; rfl
def gaB (x y:Rat) (b:Bool):Bool:=if b then !decide (y < x) else decide (x < y)
def gaP:List W -> (PyData -> Prop) -> Prop:=fun ws Q=>∃ x y b,ws = [.d (fr x),.d (fr y),.d (.bool b)] /\ qSm 2000 x /\ qSm 2000 y /\ Q (.bool (gaB x y b))
theorem gaP.mono:∀ ws (Q Q':PyData -> Prop),(∀ d,Q d -> Q' d) -> gaP ws Q -> gaP ws Q':=fun _ _ _ h ⟨a,b,c,e,p,p',q⟩=>⟨a,b,c,e,p,p',h _ q⟩
theorem gaP.len:∀ ws (Q:PyData -> Prop),gaP ws Q -> ws.length = 3:=fun _ _ ⟨_,_,_,e,_⟩=>by subst e; rfl
def isW (w:Str):Prop:=w = "half" \/ w = "shut" \/ w = "open"
theorem isW.sh {w:Str} (h:isW w):SeqAt.shaped (.str w) = true:=by rcases h with rfl | rfl | rfl <;> decide +kernel
def lyB (s:Sd) (w:Str) (x:Rat):Bool :=
  let ahead:=gaB x s.last (decide (w = "shut"))
  let behind:=gaB s.first x (!decide (w = "open"))
  match s with
  | .to _=>ahead
  | .from _ _=>behind && ahead
  | .round _ _=>behind || ahead
def lyP:List W -> (PyData -> Prop) -> Prop:=fun ws Q=>∃ x s w,ws = [.d (fr x),.d (sdD s),.d (.str w)] /\ qSm 60 x /\ s.Sm /\ isW w /\ Q (.bool (lyB s w x))
theorem lyP.mono:∀ ws (Q Q':PyData -> Prop),(∀ d,Q d -> Q' d) -> lyP ws Q -> lyP ws Q':=fun _ _ _ h ⟨a,b,c,e,p,p',p'',q⟩=>⟨a,b,c,e,p,p',p'',h _ q⟩
theorem lyP.len:∀ ws (Q:PyData -> Prop),lyP ws Q -> ws.length = 3:=fun _ _ ⟨_,_,_,e,_⟩=>by subst e; rfl
def prodQ (qs:List Rat):Rat:=qs.foldl (· * ·) 1
def pdP:List W -> (PyData -> Prop) -> Prop:=fun ws Q=>∃ qs:List Rat,ws = [.d (.list (qs.map fr))] /\ qs.length <= 4 /\ (∀ q ∈ qs,qSm 400 q) /\ Q (fr (prodQ qs))
theorem pdP.mono:∀ ws (Q Q':PyData -> Prop),(∀ d,Q d -> Q' d) -> pdP ws Q -> pdP ws Q':=fun _ _ _ h ⟨a,e,p,p',q⟩=>⟨a,e,p,p',h _ q⟩
theorem pdP.len:∀ ws (Q:PyData -> Prop),pdP ws Q -> ws.length = 1:=fun _ _ ⟨_,e,_⟩=>by subst e; rfl
def boxD (ss:List Sd):PyData:=.tuple (ss.map sdD)
def IsBx (ss:List Sd):Prop:=1 <= ss.length /\ ss.length <= 4 /\ ∀ s ∈ ss,s.Sm
def ptD (qs:List Rat):PyData:=.tuple (qs.map fr)
def IsPt (n:Nat) (qs:List Rat):Prop:=qs.length = n /\ ∀ q ∈ qs,qSm 60 q
def liB (qs:List Rat) (ss:List Sd) (w:Str):Bool:=(qs.zip ss).all fun p=>lyB p.2 w p.1
def liP:List W -> (PyData -> Prop) -> Prop:=fun ws Q=>∃ qs ss w,ws = [.d (ptD qs),.d (boxD ss),.d (.str w)] /\ IsPt ss.length qs /\ IsBx ss /\ isW w /\ Q (.bool (liB qs ss w))
theorem liP.mono:∀ ws (Q Q':PyData -> Prop),(∀ d,Q d -> Q' d) -> liP ws Q -> liP ws Q':=fun _ _ _ h ⟨a,b,c,e,p,p',p'',q⟩=>⟨a,b,c,e,p,p',p'',h _ q⟩
theorem liP.len:∀ ws (Q:PyData -> Prop),liP ws Q -> ws.length = 3:=fun _ _ ⟨_,_,_,e,_⟩=>by subst e; rfl
def ptsQ (ps:List (List Rat)):PyData:=.tuple (ps.map ptD)
def IsPs (n:Nat) (ps:List (List Rat)):Prop:=1 <= ps.length /\ ps.length <= 40 /\ ∀ p ∈ ps,IsPt n p
def cnP (f:List (List Rat) -> List Sd -> Str -> PyData):List W -> (PyData -> Prop) -> Prop:=fun ws Q=>∃ ps ss w,ws = [.d (ptsQ ps),.d (boxD ss),.d (.str w)] /\ IsPs ss.length ps /\ IsBx ss /\ isW w /\ Q (f ps ss w)
theorem cnP.mono {f:List (List Rat) -> List Sd -> Str -> PyData}:∀ ws (Q Q':PyData -> Prop),(∀ d,Q d -> Q' d) -> cnP f ws Q -> cnP f ws Q':=fun _ _ _ h ⟨a,b,c,e,p,p',p'',q⟩=>⟨a,b,c,e,p,p',p'',h _ q⟩
theorem cnP.len {f:List (List Rat) -> List Sd -> Str -> PyData}:∀ ws (Q:PyData -> Prop),cnP f ws Q -> ws.length = 3:=fun _ _ ⟨_,_,_,e,_⟩=>by subst e; rfl
def msP (f:List (List Rat) -> List Sd -> Rat):List W -> (PyData -> Prop) -> Prop:=fun ws Q=>∃ ps ss,ws = [.d (ptsQ ps),.d (boxD ss)] /\ IsPs ss.length ps /\ IsBx ss /\ Q (fr (f ps ss))
theorem msP.mono {f:List (List Rat) -> List Sd -> Rat}:∀ ws (Q Q':PyData -> Prop),(∀ d,Q d -> Q' d) -> msP f ws Q -> msP f ws Q':=fun _ _ _ h ⟨a,b,e,p,p',q⟩=>⟨a,b,e,p,p',h _ q⟩
theorem msP.len {f:List (List Rat) -> List Sd -> Rat}:∀ ws (Q:PyData -> Prop),msP f ws Q -> ws.length = 2:=fun _ _ ⟨_,_,e,_⟩=>by subst e; rfl
theorem at_last2 {α:Type} (x y : α):L2.atI [x,y] (-1) = some y:=rfl
theorem at_last3 {α:Type} (x y z : α):L2.atI [x,y,z] (-1) = some z:=rfl
end L2.VL

namespace L2.VL
open PySem PySem.Spec PyProof.Rows
theorem at_last1 {α:Type} (x : α):L2.atI [x] (-1) = some x:=rfl
def nbP:List W -> (PyData -> Prop) -> Prop:=fun ws Q=>ws = [.reel] /\ ∀ q,qSm 60 q -> Q (fr q)
theorem nbP.mono:∀ ws (Q Q':PyData -> Prop),(∀ d,Q d -> Q' d) -> nbP ws Q -> nbP ws Q':=fun _ _ _ h ⟨e,q⟩=>⟨e,fun r hr=>h _ (q r hr)⟩
theorem nbP.len:∀ ws (Q:PyData -> Prop),nbP ws Q -> ws.length = 1:=fun _ _ ⟨e,_⟩=>by subst e; rfl
def edP:List W -> (PyData -> Prop) -> Prop:=fun ws Q=>∃ qs:List Rat,ws = [.reel,.d (.list (qs.map fr))] /\ (∀ q ∈ qs,qSm 60 q) /\ qs.length <= 40 /\ ∀ q,qSm 60 q -> Q (fr q)
theorem edP.mono:∀ ws (Q Q':PyData -> Prop),(∀ d,Q d -> Q' d) -> edP ws Q -> edP ws Q':=fun _ _ _ h ⟨a,e,p,p',q⟩=>⟨a,e,p,p',fun r hr=>h _ (q r hr)⟩
theorem edP.len:∀ ws (Q:PyData -> Prop),edP ws Q -> ws.length = 2:=fun _ _ ⟨_,e,_⟩=>by subst e; rfl
def isSw (w:Str):Prop:=w = "to" \/ w = "from" \/ w = "round"
theorem isSw.sh {w:Str} (h:isSw w):SeqAt.shaped (.str w) = true:=by rcases h with rfl | rfl | rfl <;> decide +kernel
def sdP:List W -> (PyData -> Prop) -> Prop:=fun ws Q=>∃ (qs:List Rat) (w:Str),ws = [.reel,.d (.list (qs.map fr)),.d (.str w)] /\ (∀ q ∈ qs,qSm 60 q) /\ qs.length <= 40 /\ isSw w /\ ∀ s:Sd,s.Sm -> Q (sdD s)
theorem sdP.mono:∀ ws (Q Q':PyData -> Prop),(∀ d,Q d -> Q' d) -> sdP ws Q -> sdP ws Q':=fun _ _ _ h ⟨a,b,e,p,p',p'',q⟩=>⟨a,b,e,p,p',p'',fun r hr=>h _ (q r hr)⟩
theorem sdP.len:∀ ws (Q:PyData -> Prop),sdP ws Q -> ws.length = 3:=fun _ _ ⟨_,_,e,_⟩=>by subst e; rfl
end L2.VL

namespace L2.VL
open PySem PySem.Spec PyProof.Rows
theorem fr_i {q r:Rat}:fr q = fr r ↔ q = r:=⟨fr_inj,fun h=>by rw [h]⟩
theorem sdD_i {s t:Sd}:sdD s = sdD t ↔ s = t:=by
  constructor
  · intro h
    have n1:¬ (Str.ofString "from" = Str.ofString "round"):=by decide +kernel
    cases s <;> cases t <;> simp [sdD,fr_i,n1,Ne.symm n1] at h ⊢ <;> first | exact h | exact (n1 h.1.symm).elim | exact (n1 h.1).elim
  · rintro rfl; rfl
theorem ptD_i {a b:List Rat}:ptD a = ptD b ↔ a = b:=by
  unfold ptD
  rw [PyData.tuple.injEq,map_inj_of fun _ _=>fr_i]
theorem boxD_i {a b:List Sd}:boxD a = boxD b ↔ a = b:=by
  unfold boxD
  rw [PyData.tuple.injEq,map_inj_of fun _ _=>sdD_i]
theorem ptsQ_i {a b:List (List Rat)}:ptsQ a = ptsQ b ↔ a = b:=by
  unfold ptsQ
  rw [PyData.tuple.injEq,map_inj_of fun _ _=>ptD_i]
theorem frs_i {a b:List Rat}:a.map fr = b.map fr ↔ a = b:=map_inj_of fun _ _=>fr_i
theorem item_fr0 (q:Rat):itemAt (fr q) 0 = some (.int q.num):=rfl
theorem item_fr1 (q:Rat):itemAt (fr q) 1 = some (.int q.den):=rfl
theorem tupD_pt (a:List Rat):tupD (ptD a) = some (a.map fr):=rfl
theorem seqD_pt (a:List Rat):seqD (ptD a) = some (a.map fr):=rfl
theorem lenD_pt (a:List Rat):lenD (ptD a) = some a.length:=by show some (a.map fr).length = _; rw [List.length_map]
theorem item_pt (a:List Rat) (i:Int):itemAt (ptD a) i = (atI a i).map fr:=atI_map _ _ _
theorem tupD_bx (a:List Sd):tupD (boxD a) = some (a.map sdD):=rfl
theorem seqD_bx (a:List Sd):seqD (boxD a) = some (a.map sdD):=rfl
theorem lenD_bx (a:List Sd):lenD (boxD a) = some a.length:=by show some (a.map sdD).length = _; rw [List.length_map]
theorem item_bx (a:List Sd) (i:Int):itemAt (boxD a) i = (atI a i).map sdD:=atI_map _ _ _
theorem tupD_ps (a:List (List Rat)):tupD (ptsQ a) = some (a.map ptD):=rfl
theorem seqD_ps (a:List (List Rat)):seqD (ptsQ a) = some (a.map ptD):=rfl
theorem lenD_ps (a:List (List Rat)):lenD (ptsQ a) = some a.length:=by show some (a.map ptD).length = _; rw [List.length_map]
theorem item_ps (a:List (List Rat)) (i:Int):itemAt (ptsQ a) i = (atI a i).map ptD:=atI_map _ _ _
theorem kind_pt (a:List Rat):kindB (ptD a) = kindB (.tuple []):=rfl
theorem kind_bx (a:List Sd):kindB (boxD a) = kindB (.tuple []):=rfl
def qd (a b:Int):Rat:=(a:Rat) / (b:Rat)
theorem low_qd {a b:Int} (hb : 0 < b):PyData.tuple [.int (a.fdiv (Int.gcd a b)),.int (b.fdiv (Int.gcd a b))] = fr (qd a b):=low_div hb
theorem den_p (q:Rat):(0:Int) < (q.den:Int):=by have:=q.den_nz; omega
theorem qd_sm {a b:Int} {k:Nat} (hb : 0 < b) (h1:a.natAbs < 2 ^ k) (h2:b.natAbs < 2 ^ k):qSm k (qd a b):=by
  obtain ⟨d,rfl⟩:=Int.eq_ofNat_of_zero_le (show 0 <= b by omega)
  have hd:d ≠ 0:=by omega
  have e:qd a d = Rat.normalize a d hd:=fr_inj (by rw [<- low_norm,low_div (by omega)]; rfl)
  rw [e]
  exact norm_sm _ h1 (by simpa using h2)
def sg (x y:Rat):Int:=x.num * y.den - y.num * x.den
def In01 (qs:List Rat):Prop:=∀ q ∈ qs,0 <= q /\ q < 1
def In01s (ps:List (List Rat)):Prop:=∀ p ∈ ps,In01 p
theorem In01.snoc {qs:List Rat} {r:Rat} (h:In01 qs) (hr : 0 <= r /\ r < 1):In01 (qs ++ [r]):=fun q hq=>by
  rcases List.mem_append.mp hq with h' | h'
  · exact h q h'
  · simp at h'; rw [h']; exact hr
theorem In01s.snoc {ps:List (List Rat)} {r:List Rat} (h:In01s ps) (hr:In01 r):In01s (ps ++ [r]):=fun q hq=>by
  rcases List.mem_append.mp hq with h' | h'
  · exact h q h'
  · simp at h'; rw [h']; exact hr
theorem qd_lt1 {a b:Int} (hb : 0 < b) (h:a < b):qd a b < 1:=by
  unfold qd
  have h1:(a:Rat) < (b:Rat):=by exact_mod_cast h
  have h2:(0:Rat) < (b:Rat):=by exact_mod_cast hb
  exact (Rat.div_lt_iff h2).mpr (by rw [Rat.one_mul]; exact h1)
def BFR:=And.intro @item_fr0 (And.intro @item_fr1 (And.intro @tupD_pt (And.intro @seqD_pt (And.intro @lenD_pt (And.intro @item_pt (And.intro @tupD_bx (And.intro @seqD_bx (And.intro @lenD_bx (And.intro @item_bx (And.intro @tupD_ps (And.intro @seqD_ps (And.intro @lenD_ps (And.intro @item_ps (And.intro @at_last1 (And.intro @at_last2 (And.intro @at_last3 (And.intro @kind_pt (And.intro @kind_bx (And.intro @fr0 (@fr1))))))))))))))))))))
end L2.VL

namespace L2.VL
open PySem PySem.Spec PyProof.Rows
structure GlTK (P:Program) (w:World) (K:W.Frag) (x:Str) (D:List (Str × Int)):Prop where
  ex:∃ p,W.nsIn K mainGlobals x = some (some (.ref p)) /\ ∀ h,K.In h -> StrTab P w h p (tabD D)
theorem GlTK.mk' {P:Program} {w:World} {K:W.Frag} {x:Str} {D:List (Str × Int)} {p:Addr} (h1:W.nsIn K mainGlobals x = some (some (.ref p)))
    (h2:PyProof.Rows.KTD.tabLook PyProof.Rows.KTD.flatLooks (fun b=>K.lookup b) p (D.map fun q=>(q.1,PyData.int q.2)) = true) (hn:((D.map fun q=>(q.1,PyData.int q.2)).map (·.1)).Nodup)
    (h3:PyProof.Rows.KTD.hashesOf (fun b=>K.lookup b) p = (D.map fun q=>(q.1,PyData.int q.2)).map fun q=>(PySem.strKind P w).hash q.1):GlTK P w K x D :=
  ⟨p,h1,fun h X=>W.kt_tab_in P w X h2 hn h3⟩
theorem GlTK.of {P:Program} {w:World} {K:W.Frag} {x:Str} {D:List (Str × Int)} {h:Heap} {mg:Str -> Option Value} (k:GlTK P w K x D) (Y:K.In h) (G:h.Ns mainGlobals mg):GlT P w K mg x D:=by
  obtain ⟨p,h1,h2⟩:=k.ex
  exact ⟨p,W.mg_of Y G h1,h2⟩
section
variable {X:Cx} {rl:Option Addr} {e:Expr} {fa:TV} {pos dpos q1 q2 q3 q4:Pos} {ρ:En} {j1 j2 j3 j4:Nat} {a b x y:Str}
end
end L2.VL

namespace L2.VL
open PySem PySem.Spec PyProof.Rows
theorem isi_ii (i:Int):isiD (.int i) "int" = true:=rfl
theorem isi_ib (i:Int):isiD (.int i) "bool" = false:=by show ("int" == "bool" || ("int" == "bool" && "bool" == "int")) = false; decide
theorem isi_ft (q:Rat):isiD (fr q) "tuple" = true:=rfl
theorem isi_st (s:Sd):isiD (sdD s) "tuple" = true:=by cases s <;> rfl
theorem isi_ss (x:Str):isiD (.str x) "str" = true:=rfl
theorem tyOk_i:tyOk "int" = true:=by decide
theorem tyOk_b:tyOk "bool" = true:=by decide
theorem tyOk_t:tyOk "tuple" = true:=by decide
theorem tyOk_s:tyOk "str" = true:=by decide
theorem lenD_fr (q:Rat):lenD (fr q) = some 2:=rfl
theorem tupD_fr (q:Rat):tupD (fr q) = some [.int q.num,.int q.den]:=rfl
theorem shaped_fr (q:Rat):SeqAt.shaped (fr q) = true:=by
  simp [SeqAt.shaped,fr,PyData.canLay0,PyData.canLayAll0,PyData.depth,PyData.depthAll]
theorem gcd_fr (q:Rat):Int.gcd q.num q.den = 1:=by
  have:=q.reduced
  simpa [Int.gcd,Nat.Coprime] using this
def BIS:=And.intro isi_ii (And.intro isi_ib (And.intro isi_ft (And.intro isi_st (And.intro isi_ss (And.intro tyOk_i (And.intro tyOk_b (And.intro tyOk_t (And.intro tyOk_s (And.intro lenD_fr (And.intro tupD_fr (shaped_fr)))))))))))
end L2.VL

namespace L2
open PySem PySem.Spec PyProof.Rows
section
variable {X:Cx} {kx vx tg iter:Expr} {ifs:List Expr} {scope:Scope} {pos:Pos} {wi:TI} {g:CompA -> TG} {tt:CompA -> TT} {tk te:CompA -> TE}
end
end L2

namespace L2
open PySem PySem.Spec PyProof.Rows
section
variable {prog:Program} {w:World} {A:Around} {E:Value -> Shared -> Prop}
end
end L2

namespace L2
open PySem PySem.Spec PyProof.Rows
section
variable {X:Cx}
end
end L2
theorem L2.Room.un1 {k:Nat} {A:PySem.Around} (r:L2.Room k A):A.units + 1 < PySem.cLine:=by have:=r.un; omega
namespace L2.VL
open PySem PySem.Spec PyProof.Rows
section
variable {K:W.Frag} {F:Hp} {us:List (Key × V)} {kvs:List (Key × PyData)}
theorem KDk.any (r:KDk K F us kvs) (k:Key):(us.any fun kv=>decide (kv.1 = k)) = kvs.any fun kv=>decide (kv.1 = k):=by
  induction r with
  | nil=>rfl
  | cons h t ih=>rw [List.any_cons,List.any_cons,ih,h.1]
theorem KDk.keys (r:KDk K F us kvs):us.map (·.1) = kvs.map (·.1):=by
  induction r with
  | nil=>rfl
  | cons h t ih=>rw [List.map_cons,List.map_cons,ih,h.1]
theorem KDk.snoc (r:KDk K F us kvs) (k:Key) {v:V} {d:PyData} (rv:Rep K F v d):KDk K F (us ++ [(k,v)]) (kvs ++ [(k,d)]):=by
  induction r with
  | nil=>exact .cons ⟨rfl,rv⟩ .nil
  | cons h t ih=>exact .cons h ih
theorem KDk.mono {F':Hp} (s:Same F F') (r:KDk K F us kvs):KDk K F' us kvs:=Paired.mapP r fun _ _ z=>⟨z.1,z.2.mono s⟩
end
section
variable {X:Cx} {rl:Option Addr} {kx vx tg iter:Expr} {ifs:List Expr} {scope:Scope} {pos:Pos} {fi:En -> (List PyData -> Prop) -> Prop} {g:TGv} {ft:TB} {fk fe:TV}
end
section
variable {α:Type} {b:PyData -> Mo (Option (Key × PyData))}
end
section
variable {X:Cx} {rl:Option Addr} {a c e o i:Expr} {es:List Expr} {fa fb:TV} {fs:TVs} {pos p kpos:Pos} {ρ:En}
end
end L2.VL

namespace L2
open PySem PySem.Spec PyProof.Rows
end L2
namespace L2.VL
open PySem PySem.Spec PyProof.Rows
section
variable {X:Cx} {rl:Option Addr} {tg:Expr} {fa:TV} {ρ:En}
end
end L2.VL

namespace L2.VL
open PySem PySem.Spec PyProof.Rows
end L2.VL

namespace L2
open PySem PySem.Spec PyProof.Rows
def Air (h:Heap) (a:Addr) (C:Value) (d:Option Addr) (T:Addr) (fl:Value):Prop :=
  ∃ oe vs oT ts,h.get? a = some oe /\ oe.cls = C /\ oe.dict = d /\ oe.data = .fields vs /\ vs[1]? = some (.ref T) /\ T ≠ a /\ h.get? T = some oT /\ oT.data = .fields ts /\ ts[3]? = some fl
def Born (h:Heap) (a:Addr) (C:Value) (d:Option Addr):Prop:=∃ oe vs,h.get? a = some oe /\ oe.cls = C /\ oe.dict = d /\ oe.data = .fields vs /\ vs[1]? = some .none
structure But (fs l:List Addr) (h h':Heap):Prop where
  keep:∀ b o,b ∉ l -> b ∉ fs -> h.get? b = some o -> h'.get? b = some o
  slot:∀ b o,b ∉ l -> b ∈ fs -> h.get? b = some o -> ∃ sl,h'.get? b = some { o with slots:=sl }
  there:∀ b o,h.get? b = some o -> ∃ o',h'.get? b = some o'
theorem But.trans {fs l:List Addr} {h h1 h2:Heap} (x:But fs l h h1) (y:But fs l h1 h2):But fs l h h2 :=
  ⟨fun b o n m e=>y.keep b o n m (x.keep b o n m e),fun b o n m e=>by
    obtain ⟨s1,e1⟩:=x.slot b o n m e
    obtain ⟨s2,e2⟩:=y.slot b _ n m e1
    exact ⟨s2,e2⟩,fun b o e=>by obtain ⟨o1,e1⟩:=x.there b o e; exact y.there b o1 e1⟩
theorem But.more {fs l l':List Addr} {h h':Heap} (x:But fs l h h') (s:∀ b,b ∈ l -> b ∈ l'):But fs l' h h' :=
  ⟨fun b o n m e=>x.keep b o (fun z=>n (s b z)) m e,fun b o n m e=>x.slot b o (fun z=>n (s b z)) m e,x.there⟩
theorem But.any {fs l:List Addr} {h h':Heap} (x:But fs l h h') {b:Addr} {o:Obj} (n:b ∉ l) (e:h.get? b = some o):∃ sl,h'.get? b = some { o with slots:=sl }:=by
  by_cases m:b ∈ fs
  · exact x.slot b o n m e
  · exact ⟨o.slots,x.keep b o n m e⟩
section
variable {M:Model} {A:Around} {E:Value -> Shared -> Prop} {s:Shared} {base:Heap} {env:Env} {outer:List Env} {L a T:Addr} {C:Value} {d:Option Addr} {Q:Unit -> Shared -> Prop}
theorem dict_mapF (f:Array Value -> Array Value) (o:Obj):(Obj.mapFields f o).dict = o.dict:=by
  obtain ⟨_,_,dt,_⟩:=o
  cases dt <;> rfl
theorem entryX {oe:Obj} {vs:Array Value} {head:Value} {hadNext:Bool} (hfr:A.frames = some (env :: outer)) (hl:s.heap.FunFrames base (env :: outer)) (hf:env.frame = some L) (he:s.heap.get? a = some oe) (hd:oe.data = .fields vs) (hz : 1 < vs.size)
    (h:∀ h' T,s.heap.get? T = none -> Air h' a oe.cls oe.dict T (rawInt L) -> But (frs (env :: outer)) [a] s.heap h' -> Q () { s with heap:=h' }) :
    wpAny M A (do let f <- frameOf env; let pl <- entryPlaceOf L hadNext; let b <- EntryCells.newEntry head f .none (rawInt L) .none pl; setField (.ref a) 1 b) Q E s:=by
  have na:a ∉ frs (env :: outer):=fun hm=>by
    obtain ⟨_,o,ho,hn⟩:=hl.mem hm
    rw [he] at ho
    cases ho
    exact hn vs hd
  refine wpAny_bind (wpAny_frameOf_fun hfr hl hf fun h1 z1=>wpAny_bind (wpAny_entryPlaceOf fun pl hpl=>?_))
  unfold EntryCells.newEntry newFields
  refine wpAny_bind (wpAny_newObj_type ?_ (hpl.sizeOk5 _ _ _ _ _))
  have e1:h1.get? a = some oe:=(z1.2.1 a na).trans he
  generalize hob:({ cls:=.type "traceback", dict:=none,data:=.fields ([head,.ref L,.none,rawInt L,.none] ++ (if pl.isEmpty then List.replicate 6 Value.none else pl)).toArray }:Obj) = ob
  have e2:(h1.push ob).get? a = some oe:=Heap.get?_push_of_some _ e1
  refine wpAny_setField e2 hd hz (h _ h1.objs.size ?_ ?_ ?_)
  · cases q:s.heap.get? h1.objs.size with
    | none=>rfl
    | some o =>
      obtain ⟨sl,e⟩:=z1.2.2 _ o q
      exact absurd (Heap.lt_size e) (Nat.lt_irrefl _)
  · have ne:h1.objs.size ≠ a:=Nat.ne_of_gt (Heap.lt_size e1)
    have d3:=Obj.data_mapFields hd (·.setIfInBounds 1 (Value.ref h1.objs.size))
    have e3:=Heap.get?_update_self (Obj.mapFields (·.setIfInBounds 1 (Value.ref h1.objs.size))) e2 (Obj.isFreed_of_fields d3)
    have e4:((h1.push ob).update a (Obj.mapFields (·.setIfInBounds 1 (Value.ref h1.objs.size)))).get? h1.objs.size = some ob :=
      (Heap.get?_update_other _ _ (Ne.symm ne)).trans (Heap.get?_push_size h1 (by rw [<- hob]; rfl))
    refine ⟨_,_,ob,_,e3,Obj.cls_mapFields _ _,dict_mapF _ _,d3,by simp [hz],ne,e4,by rw [<- hob],?_⟩
    first | (simp; done) | (rcases hpl with rfl | ⟨_,_,_,_,_,_,_,rfl⟩ <;> simp)
  · have kk:∀ b o,b ≠ a -> h1.get? b = some o -> ((h1.push ob).update a (Obj.mapFields (·.setIfInBounds 1 (Value.ref h1.objs.size)))).get? b = some o:=fun b o nb e=>by
      rw [Heap.get?_update_other _ _ (Ne.symm nb)]
      exact Heap.get?_push_of_some _ e
    refine ⟨fun b o n m e=>kk b o (by simpa using n) ((z1.2.1 b m).trans e),fun b o n m e=>?_,fun b o e=>?_⟩
    · obtain ⟨sl,q⟩:=z1.2.2 b o e
      exact ⟨sl,kk b _ (by simpa using n) q⟩
    · by_cases hb:b = a
      · subst hb
        exact ⟨_,Heap.get?_update_self _ e2 (Obj.isFreed_of_fields (Obj.data_mapFields hd _))⟩
      · obtain ⟨sl,q⟩:=z1.2.2 b o e
        exact ⟨_,kk b _ hb q⟩
theorem noteX1 (hfr:A.frames = some (env :: outer)) (hl:s.heap.FunFrames base (env :: outer)) (hf:env.frame = some L) (b:Born s.heap a C d)
    (h:∀ h' T,s.heap.get? T = none -> Air h' a C d T (rawInt L) -> But (frs (env :: outer)) [a] s.heap h' -> Q () { s with heap:=h' }):wpAny M A (noteFrame (.ref a) env) Q E s:=by
  obtain ⟨oe,vs,he,rfl,rfl,hd,h1⟩:=b
  unfold noteFrame
  simp only [hf]
  refine wpAny_bind (wpAny_field he hd h1 ?_)
  rw [if_neg (by decide)]
  exact entryX hfr hl hf he hd (Array.getElem?_eq_some_iff.mp h1).1 h
theorem noteX2 (hfr:A.frames = some (env :: outer)) (hl:s.heap.FunFrames base (env :: outer)) (hf:env.frame = some L) (b:Air s.heap a C d T .none)
    (h:∀ h' T',s.heap.get? T' = none -> Air h' a C d T' (rawInt L) -> But (frs (env :: outer)) [a,T] s.heap h' -> Q () { s with heap:=h' }):wpAny M A (noteFrame (.ref a) env) Q E s:=by
  obtain ⟨oe,vs,oT,ts,he,rfl,rfl,hd,h1,nT,hT,dT,h3⟩:=b
  unfold noteFrame
  simp only [hf]
  refine wpAny_bind (wpAny_field he hd h1 ?_)
  rw [if_pos (show (Value.ref T != Value.none) = true from by simp)]
  refine wpAny_bind (wpAny_field hT dT h3 ?_)
  rw [if_neg (show ¬ ((Value.none == rawInt L) = true) from by simp [rawInt])]
  refine wpAny_bind (wpAny_setField hT dT (Array.getElem?_eq_some_iff.mp h3).1 ?_)
  have oth:∀ b,b ≠ T -> (s.heap.update T (Obj.mapFields (·.setIfInBounds 3 Value.none))).get? b = s.heap.get? b:=fun b n=>Heap.get?_update_other _ _ (Ne.symm n)
  have ntT:∀ b o,s.heap.get? b = some o -> (∀ vs,o.data ≠ .fields vs) -> b ≠ T:=fun b o e n q=>by
    rw [q,hT] at e
    cases e
    exact n ts dT
  have B0:But (frs (env :: outer)) [a,T] s.heap (s.heap.update T (Obj.mapFields (·.setIfInBounds 3 Value.none))):=⟨fun b o n _ e=>(oth b (fun z=>n (by simp [z]))).trans e,fun b o n _ e=>⟨o.slots,(oth b (fun z=>n (by simp [z]))).trans e⟩,fun b o e=>by
    by_cases q:b = T
    · subst q
      exact ⟨_,Heap.get?_update_self _ e (by rw [hT] at e; cases e; exact Obj.isFreed_of_fields (Obj.data_mapFields dT _))⟩
    · exact ⟨o,(oth b q).trans e⟩⟩
  refine entryX (s:={ s with heap:=_ }) hfr (hl.of_keeps fun b o e n=>⟨o,(oth b (ntT b o e n)).trans e,rfl⟩) hf ((oth a (Ne.symm nT)).trans he) hd (Array.getElem?_eq_some_iff.mp h1).1 fun h' T' n' air bt=>?_
  refine h h' T' ?_ air (B0.trans (bt.more fun b z=>by simp at z; simp [z]))
  cases q:s.heap.get? T' with
  | none=>rfl
  | some o=>obtain ⟨o',e'⟩:=B0.there _ o q; rw [n'] at e'; cases e'
theorem flyX {fl:Value} (b:Air s.heap a C d T fl) (h:∀ h',Air h' a C d T .none -> (∀ b,b ≠ T -> h'.get? b = s.heap.get? b) -> (∃ o,h'.get? T = some o) -> Q () { s with heap:=h' }):wpAny M A (setFlight (.ref a) none) Q E s:=by
  obtain ⟨oe,vs,oT,ts,he,rfl,rfl,hd,h1,nT,hT,dT,h3⟩:=b
  have z3 : 3 < ts.size:=(Array.getElem?_eq_some_iff.mp h3).1
  unfold setFlight
  refine wpAny_bind (wpAny_field he hd h1 ?_)
  rw [if_pos (show (Value.ref T != Value.none) = true from by simp)]
  have oth:∀ b,b ≠ T -> (s.heap.update T (Obj.mapFields (·.setIfInBounds 3 ((none:Option Addr).elim Value.none fun f=>rawInt f)))).get? b = s.heap.get? b:=fun b n=>Heap.get?_update_other _ _ (Ne.symm n)
  have eT:=Heap.get?_update_self (Obj.mapFields (·.setIfInBounds 3 ((none:Option Addr).elim Value.none fun f=>rawInt f))) hT (Obj.isFreed_of_fields (Obj.data_mapFields dT _))
  exact wpAny_setField hT dT z3 (h _ ⟨oe,vs,_,_,(oth a (Ne.symm nT)).trans he,rfl,rfl,hd,h1,nT,eT,Obj.data_mapFields dT _,by simp [z3]⟩ oth ⟨_,eT⟩)
theorem fly_but {fs:List Addr} {h h':Heap} (k:∀ b,b ≠ T -> h'.get? b = h.get? b) (t:∃ o,h'.get? T = some o):But fs [T] h h' :=
  ⟨fun b o n _ e=>(k b (by simpa using n)).trans e,fun b o n _ e=>⟨o.slots,(k b (by simpa using n)).trans e⟩,fun b o e=>by
    by_cases q:b = T
    · subst q; exact t
    · exact ⟨o,(k b q).trans e⟩⟩
theorem leaveX1 (hfr:A.frames = some (env :: outer)) (hl:s.heap.FunFrames base (env :: outer)) (hf:env.frame = some L) (b:Born s.heap a C d)
    (h:∀ h' T,s.heap.get? T = none -> Air h' a C d T .none -> But (frs (env :: outer)) [a] s.heap h' -> Q () { s with heap:=h' }):wpAny M A (leaving env (.ref a)) Q E s:=by
  unfold leaving
  refine wpAny_bind (noteX1 hfr hl hf b fun h1 T n1 air bt=>?_)
  refine flyX air fun h2 air2 k2 t2=>h h2 T n1 air2 ?_
  have b2:But (frs (env :: outer)) [T] h1 h2:=fly_but k2 t2
  refine ⟨fun c o n m e=>b2.keep c o ?_ m (bt.keep c o n m e),fun c o n m e=>?_,fun c o e=>by obtain ⟨o1,e1⟩:=bt.there c o e; exact b2.there c o1 e1⟩
  · intro z
    have:c = T:=by simpa using z
    subst this
    rw [n1] at e
    cases e
  · obtain ⟨sl,e1⟩:=bt.slot c o n m e
    refine b2.slot c _ ?_ m e1 |>.imp fun sl' e2=>e2
    intro z
    have:c = T:=by simpa using z
    subst this
    rw [n1] at e
    cases e
end
end L2

namespace L2
open PySem PySem.Spec PyProof.Rows
def bmV:List Value:=[.type "ValueError", .type "Exception", .type "BaseException", .type "object"]
def xcIn (K:W.Frag) (C:Addr):Bool:=match K.lookup C with
  | some ⟨.type "type", _,.cls cd,sl⟩=>(match cd.mro,sl.toList with
    | .ref C' :: bm,[_,_,_,_,some (.builtin n),_]=>C' == C && n == "ValueError.__new__" && !cd.hasDel && cd.hasDict && W.tailIn K bmV bm && W.nsOkIn K cd.ns
    | _,_=>false)
  | _=>false
theorem xc_cls {K:W.Frag} {h:Heap} {C:Addr} (X:K.In h) (q:xcIn K C = true):∃ nm qn N bs bm sn sub ab col dd k0 k1 k2 k3 k5,
    K.lookup C = some (excClassObj nm qn C N bs bm true sn sub ab col dd k0 k1 k2 k3 k5 "ValueError.__new__") /\ OwnTail h bmV bm:=by
  unfold xcIn at q
  split at q
  · rename_i dd cd sl ho
    split at q
    · rename_i C' bm k0 k1 k2 k3 n k5 hm hs
      simp only [Bool.and_eq_true,beq_iff_eq,Bool.not_eq_true'] at q
      obtain ⟨⟨⟨⟨⟨c1,c2⟩,c3⟩,c4⟩,c5⟩,c6⟩:=q
      obtain ⟨nm,bs,mro,ns,qn,hd,sn,sub,ab,col,del⟩:=cd
      dsimp only at hm c3 c4 c6
      have hsl:sl = #[k0,k1,k2,k3,some (.builtin n),k5]:=by
        obtain ⟨l⟩:=sl
        simp only at hs
        rw [hs]
      subst hsl hm c1 c2 c3 c4
      exact ⟨nm,qn,ns,bs,bm,sn,sub,ab,col,dd,k0,k1,k2,k3,k5,ho,W.tail_of_in X c5⟩
    · cases q
  · cases q
abbrev excObj (C t:Addr) (d:Option Addr):Obj:={ cls:=.ref C,dict:=d,data:=.fields #[.ref t,.none,.none,.none,.bool false,.none] }
abbrev bornHeap (h:Heap) (C:Addr) (us:List Value):Heap:=(h.push { cls:=.type "tuple", data:=.seq us.toArray }).push (excObj C h.objs.size none)
section
variable {prog:Program} {w:World} {A:Around} {E:Value -> Shared -> Prop} {s:Shared} {K:W.Frag} {C f:Addr} {us:List Value}
theorem call_xinit {Q:Value -> Shared -> Prop} (X:K.In s.heap) (q:xcIn K C = true) (hi:W.findIn K (.ref C) "__init__" = some (some (.ref f))) (hf:W.typeIn K (.ref f) = some (.type "function")) (hz:us.length <= sizeLine)
    (h:wpAny (model prog w) (A.under (.builtin "type.__call__" ⟨.ref C :: us,[]⟩)) (call (.ref f) (.ref (s.heap.objs.size + 1) :: us)) (fun r s'=>r = .none /\ Q (.ref (s.heap.objs.size + 1)) s') E { s with heap:=bornHeap s.heap C us }) :
    wpAny (model prog w) A (call (.ref C) us) Q E s:=by
  obtain ⟨nm,qn,N,bs,bm,sn,sub,ab,col,dd,k0,k1,k2,k3,k5,lk,T⟩:=xc_cls X q
  obtain ⟨hp,g,d,t,os⟩:=s
  have hC:=X _ _ lk
  have F:=PySem.F.excBase_ValueError
  have f1:=tc_lookup
  have f2:=tc_bind (.ref C)
  have hT:(⟨hp,g,d,t,os⟩:Shared).TypeIs (.ref C) "type" := ⟨_,hC,rfl⟩
  refine wpAny_call (codeAny_of_tree ?_)
  show wpAny _ _ (callAny (.ref C) _) _ _ _
  repeat (any_goals (first | assumption | (with_reducible refine wpAny_loadPart_at hC ?_) | wp_step))
  refine ⟨rfl,?_⟩
  refine codeAny_call_builtin_at (Code.quiet_builtin _ (by decide +kernel)) entry_typeCall (wpAny_check_type_call_sub hC ?_)
  repeat (first | (with_reducible refine wpAny_loadPart_at hC ?_) | (with_reducible refine wpAny_madeBy_exc hC ?_) | wp_step)
  refine codeAny_call_builtin_code (Code.quiet_builtin _ F.quiet) (wpAny_check_new_subT F T hC ?_)
  refine codeAny_exc_new_subT F T hC ?_ hz
  show wpAny _ _ _ _ _ _
  have kk:∀ b o,hp.get? b = some o -> (bornHeap hp C us).get? b = some o:=fun b o e=>Heap.get?_push_of_some _ (Heap.get?_push_of_some _ e)
  have hC1:=kk _ _ hC
  have X1:K.In (bornHeap hp C us):=X.keeps kk
  have hg:(bornHeap hp C us).get? (hp.objs.size + 1) = some (excObj C hp.objs.size none):=by heap_get
  have hcC:(Value.ref C :: bm).contains (.ref C) = true:=by simp
  unfold isInstance
  repeat (first | (with_reducible refine wpAny_loadPart_at hg ?_) | ((with_reducible refine wpAny_isSubtype_exc hC1 ?_); rw [hcC]) | wp_step)
  refine wpAny_isSubtype_exc hC1 ?_
  rw [hcC]
  repeat (first | (with_reducible refine wpAny_loadPart_at hg ?_) | wp_step)
  show wpAny _ _ (typeLookup (.ref C) _) _ _ _
  refine W.Looks.here (s:=⟨bornHeap hp C us,g,d,t,os⟩) (W.looks_findIn X1 hi) ?_
  refine wpAny_holding (wpAny_bind (W.Looks.here (s:=⟨bornHeap hp C us,g,d,t,os⟩) (W.bind_fn X1 _ hf) ?_))
  refine wpAny_bind (wpAny_mono h (fun r s' hr=>?_) fun _ _ x=>x)
  obtain ⟨rfl,hQ⟩:=hr
  wp_walk
  exact hQ
end
end L2

namespace L2
open PySem PySem.Spec PyProof.Rows
open Builtin Builtin.ObjectAttr
theorem refuse_x {h:Heap} (self:Value) {l:List Value} (T:OwnTail h bmV l):refuseLoop self "__setattr__" l = pure ():=by
  induction T with
  | base=>exact PySem.F.store_ValueError.passes self
  | own _ _ _ _ ih=>rw [refuseLoop_ref]; exact ih
section
variable {prog:Program} {w:World} {A:Around} {E:Value -> Shared -> Prop} {s:Shared} {K:W.Frag} {C a t:Addr} {d:Option Addr} {name:Str} {v:Value} {mA:Str -> Option Value} {ns:List Str}
theorem set_x {Q:Unit -> Shared -> Prop} (X:K.In s.heap) (q:xcIn K C = true) (hs:W.findIn K (.ref C) "__setattr__" = some (some (.builtin "object.__setattr__"))) (hn:W.findIn K (.ref C) name = some none)
    (ha:s.heap.get? a = some (excObj C t d)) (hm:(d = none /\ ∀ n,mA n = none) \/ ∃ dx,d = some dx /\ dx ≠ a /\ s.heap.Ns1 dx mA) (hw:PySem.Within mA ns) (hz:ns.length <= sizeLine)
    (h:∀ h' tk dx,h'.get? a = some (excObj C t (some dx)) -> h'.Ns1 dx (fun y=>if y = name then some v else mA y) -> dx ≠ a -> (d = some dx \/ (d = none /\ s.heap.objs.size <= dx)) ->
      (∀ b o,b ≠ a -> b ≠ dx -> s.heap.get? b = some o -> h'.get? b = some o) -> Q () { s with heap:=h',toks:=tk }):wpAny (model prog w) A (setAttr (.ref a) name v) Q E s:=by
  obtain ⟨nm,qn,N,bs,bm,sn,sub,ab,col,dd,k0,k1,k2,k3,k5,lk,T⟩:=xc_cls X q
  have hC:=X _ _ lk
  have SF:=PySem.F.store_ValueError
  obtain ⟨od,I⟩:∃ od,W.InstAt s.heap a (excObj C t d) C od:=by
    rcases hm with ⟨rfl,_⟩ | ⟨dx,rfl,_,⟨o,es,ep,ho,_⟩⟩
    · exact ⟨none,ha,rfl,rfl,trivial⟩
    · exact ⟨some o,ha,rfl,rfl,ho⟩
  refine W.set_plain X I hs ?_
  obtain ⟨hp,g,dr,tk,os⟩:=s
  have hc:W.clsIn K C = some { name:=nm,bases:=bs,mro:=.ref C :: bm,ns:=N,qualname:=qn,hasDict:=true,slotNames:=sn,subclasses:=sub,abstract:=ab,collection:=col,hasDel:=false }:=by
    unfold W.clsIn
    rw [lk]
  have hmr:W.Looks (model prog w) hp (mroOf (.ref C)) (.ref C :: bm):=(W.looks_clsIn X hc).andThen .now
  have sb:W.Looks (model prog w) hp (isInstance (.ref a) (.type "object")) true:=I.type.andThen (W.looks_mroIn X (by
    unfold W.mroIn
    rw [hc,Option.bind_some,if_neg (by simp),List.contains_cons,T.hasType (X := "object") (b:=true) (by decide +kernel),Bool.or_true]))
  refine codeAny_call_builtin SF.slot.plain SF.entry (@W.check_slot (model prog w) _ _ ⟨hp,g,dr,tk + 1,os⟩ "object.__setattr__" "object" "__setattr__" (.ref a) [.str name tk,v] [] _ SF.kind SF.split sb (SF.args (.ref a) (.str name tk) v) ?_)
  rw [W.osa_eq,refuse_eq]
  refine wpAny_bind (wpAny_bind (W.Looks.here (s:=⟨hp,g,dr,tk + 1,os⟩) I.type (wpAny_bind (W.Looks.here (s:=⟨hp,g,dr,tk + 1,os⟩) hmr ?_))))
  rw [refuseLoop_ref,refuse_x _ T]
  refine wpAny_pure (wpAny_bind (W.Looks.here (s:=⟨hp,g,dr,tk + 1,os⟩) I.type (wpAny_bind (W.Looks.here (s:=⟨hp,g,dr,tk + 1,os⟩) (W.looks_findIn X hn) ?_))))
  refine wpAny_bind (wpAny_pure ?_)
  show wpAny _ _ (storeInOwnDict _ _ _ _ _ _) _ _ _
  rcases hm with ⟨rfl,hmA⟩ | ⟨dx,rfl,hne,hns⟩
  · have hC':=hC
    refine wpAny_bind (wpAny_pure (wpAny_bind (wpAny_bind (wpAny_loadPart (s:=⟨hp,g,dr,tk + 1,os⟩) ha (wpAny_bind (W.Looks.here (s:=⟨hp,g,dr,tk + 1,os⟩) (W.looks_clsIn X hc) ?_))))))
    have ha1:(hp.push { cls:=.type "dict", data:=.dict #[] }).get? a = some (excObj C t none):=Heap.get?_push_of_some _ ha
    have nas:a ≠ hp.objs.size:=Nat.ne_of_lt (Heap.lt_size ha)
    refine wpAny_bind (wpAny_alloc' ?_)
    refine wpAny_bind (wpAny_update' ha1 (wpAny_pure ?_))
    have hgd:((hp.push { cls:=.type "dict", data:=.dict #[] }).update a fun o=>{ o with dict:=some hp.objs.size }).get? hp.objs.size = some { cls:=.type "dict", data:=.dict #[] } :=
      (Heap.get?_update_ne _ _ _ _ nas.symm).trans (Heap.get?_push_at rfl rfl)
    have hnd:((hp.push { cls:=.type "dict", data:=.dict #[] }).update a fun o=>{ o with dict:=some hp.objs.size }).Ns hp.objs.size (fun _=>none):=⟨_,#[],_,hgd,rfl,fun e he=>absurd he (by simp),fun _=>rfl⟩
    have hga:((hp.push { cls:=.type "dict", data:=.dict #[] }).update a fun o=>{ o with dict:=some hp.objs.size }).get? a = some (excObj C t (some hp.objs.size)):=Heap.get?_update_self _ ha1 rfl
    show wpAny _ _ (storeInDict hp.objs.size (.str name tk) name v) _ _ _
    unfold storeInDict newKeyGuard
    refine wpAny_bind (wpAny_pure (wpAny_bind (wpAny_nsSet1 (Heap.Ns1.of_empty hnd) fun h' hn' hs'=>?_)))
    obtain ⟨oD,esD,epD,hoD,hdD,hcD⟩:=hn'.count (Within.cons name v Within.nil)
    refine wpAny_bind (wpAny_lookBehind hoD (by rw [hdD]; exact pastItsLine_dict (Nat.le_trans hcD (by rw [List.length_cons,List.length_nil,sizeLine_eq]; omega))) (wpAny_pure ?_))
    refine h h' _ hp.objs.size ((hs'.2 a nas).trans hga) ?_ nas.symm (.inr ⟨rfl,Nat.le_refl _⟩) fun b o n1 n2 e=>(hs'.2 b n2).trans ((Heap.get?_update_ne _ _ _ _ n1).trans (Heap.get?_push_of_some _ e))
    obtain ⟨o',es,ep,e1,e2,e3,eu,e4⟩:=hn'
    exact ⟨o',es,ep,e1,e2,e3,eu,fun y=>by rw [e4 y]; by_cases hy:y = name <;> simp [hy,hmA]⟩
  · refine wpAny_bind (wpAny_pure (wpAny_bind (wpAny_bind (wpAny_loadPart (s:=⟨hp,g,dr,tk + 1,os⟩) ha (wpAny_bind (W.Looks.here (s:=⟨hp,g,dr,tk + 1,os⟩) (W.looks_clsIn X hc) ?_))))))
    refine wpAny_pure (a:=some dx) ?_
    show wpAny _ _ (storeInDict dx (.str name tk) name v) _ _ _
    unfold storeInDict newKeyGuard
    refine wpAny_bind (wpAny_pure (wpAny_bind (wpAny_nsSet1 (s:=⟨hp,g,dr,tk + 1,os⟩) hns fun h' hn' hs'=>?_)))
    obtain ⟨oD,esD,epD,hoD,hdD,hcD⟩:=hn'.count (Within.cons name v hw)
    refine wpAny_bind (wpAny_lookBehind hoD (by rw [hdD]; exact pastItsLine_dict (Nat.le_trans hcD (by rw [List.length_cons]; omega))) (wpAny_pure ?_))
    exact h h' _ dx ((hs'.2 a hne.symm).trans ha) hn' hne (.inl rfl) fun b o n1 n2 e=>(hs'.2 b n2).trans e
end
end L2

namespace L2
open PySem PySem.Spec PyProof.Rows
open Builtin Builtin.ObjectAttr
theorem lk_at {α:Type} {M:Model} {A:Around} {E:Value -> Shared -> Prop} {h:Heap} {g:Array GenState} {d:Drawn} {tk:Nat} {os:OsState} {t:Sem α} {r : α} {Q : α -> Shared -> Prop} (x:W.Looks M h t r) (q:Q r ⟨h,g,d,tk,os⟩):wpAny M A t Q E ⟨h,g,d,tk,os⟩:=x.here (s:=⟨h,g,d,tk,os⟩) q
section
variable {prog:Program} {w:World} {A:Around} {E:Value -> Shared -> Prop} {s:Shared} {K:W.Frag} {C a dx:Addr} {name:Str} {v:Value} {mA:Str -> Option Value} {oe:Obj} {vs:Array Value}
theorem get_x {expr:Bool} {Q:Value -> Shared -> Prop} (X:K.In s.heap) (q:xcIn K C = true) (hg:W.findIn K (.ref C) "__getattribute__" = some (some (.builtin "BaseException.__getattribute__"))) (hh:W.findIn K (.ref C) "__getattr__" = some none)
    (hn:W.findIn K (.ref C) name = some none) (ha:s.heap.get? a = some oe) (hc:oe.cls = .ref C) (hd:oe.dict = some dx) (hv:oe.data = .fields vs) (ns:s.heap.Ns1 dx mA) (hm:mA name = some v) (hv':W.handedIn v = true)
    (h:Q v { s with toks:=s.toks + 1 }):wpAny (model prog w) A (getAttr (.ref a) name expr) Q E s:=by
  obtain ⟨nm,qn,N,bs,bm,sn,sub,ab,col,dd,k0,k1,k2,k3,k5,lk,T⟩:=xc_cls X q
  have hC:=X _ _ lk
  have F:=PySem.F.excBase_ValueError
  have FB:=PySem.F.attrBase_ValueError
  obtain ⟨od,ho,hl⟩:=lookIn_ns ns
  have I:W.InstAt s.heap a oe C (some od):=⟨ha,hc,by unfold W.notCls; rw [hv],by rw [hd]; exact ho⟩
  have hc':W.clsIn K C = some { name:=nm,bases:=bs,mro:=.ref C :: bm,ns:=N,qualname:=qn,hasDict:=true,slotNames:=sn,subclasses:=sub,abstract:=ab,collection:=col,hasDel:=false }:=by
    unfold W.clsIn
    rw [lk]
  have hf:W.findObj K C (some od) name = some (.value v):=W.findObj_own (by unfold W.hasDictIn; rw [hc']; rfl) hn rfl (by rw [hl,hm])
  obtain ⟨hp,g,dr,tk,os⟩:=s
  have L0:=I.type (M:=model prog w)
  have L1:=W.looks_find (M:=model prog w) X I hf
  have L2:=W.looks_findIn (M:=model prog w) X hg
  have L3:=W.looks_findIn (M:=model prog w) X hh
  have f3:=FB.ga.bind (.ref a)
  have hx0:(expr && onTheHeap (Value.builtin "BaseException.__getattribute__")) = false:=by cases expr <;> rfl
  have hx2:(Value.builtin "BaseException.__getattribute__" == Value.builtin "object.__getattribute__") = false:=by decide +kernel
  have hx1:(onTheHeap (Value.ref C) && Value.builtin "BaseException.__getattribute__" == Value.builtin "object.__getattribute__") = false:=by rw [hx2]; rfl
  have sb:W.Looks (model prog w) hp (isInstance (.ref a) (.type "BaseException")) true:=I.type.andThen (W.looks_mroIn X (by
    unfold W.mroIn
    rw [hc',Option.bind_some,if_neg (by simp),List.contains_cons,T.hasType (X := "BaseException") (b:=true) (by decide +kernel),Bool.or_true]))
  have hk:builtinKind "BaseException.__getattribute__" = some .slot:=by decide +kernel
  have hsplit:splitId "BaseException.__getattribute__" = some ("BaseException", "__getattribute__"):=by decide +kernel
  unfold getAttr getAttrBy
  repeat (any_goals (first | assumption | (with_reducible refine lk_at L0 ?_) | (with_reducible refine lk_at L2 ?_) | (with_reducible refine lk_at L3 ?_) | wp_step))
  refine codeAny_call_builtin FB.ga.plain PySem.F.entry_bexc_ga (@W.check_slot (model prog w) _ _ ⟨hp,g,dr,tk + 1,os⟩ "BaseException.__getattribute__" "BaseException" "__getattribute__" (.ref a) [.str name tk] [] _ hk hsplit sb (PySem.F.args_bexc_ga (.ref a) (.str name tk)) ?_)
  unfold Builtin.«object.__getattribute__»
  repeat (any_goals (first | assumption | (with_reducible refine lk_at L0 ?_) | (with_reducible refine lk_at L1 ?_) | wp_step))
  refine lk_at (r:=v) (.of_pure (W.handedOut_of hv')) ?_
  exact h
end
end L2

namespace L2
open PySem PySem.Spec PyProof.Rows
open Builtin Builtin.ObjectAttr
structure XCls (K:W.Frag) (C:Addr):Prop where
  xc:xcIn K C = true
  sa:W.findIn K (.ref C) "__setattr__" = some (some (.builtin "object.__setattr__"))
  ga:W.findIn K (.ref C) "__getattribute__" = some (some (.builtin "BaseException.__getattribute__"))
  gh:W.findIn K (.ref C) "__getattr__" = some none
  ca:W.findIn K (.ref C) "__class__" = some (some (.builtin "object.__class__"))
  cg:W.specialIn K (.builtin "object.__class__") "__get__" = some (some (.builtin "getset_descriptor.__get__"))
  ct:W.takesIn K (.builtin "object.__class__") = some true
  ob:W.mroIn K C (.type "object") = some true
theorem XCls.cls {K:W.Frag} {C:Addr} (c:XCls K C):∃ cd,W.clsIn K C = some cd:=by
  have q:=c.xc
  unfold xcIn at q
  unfold W.clsIn
  split at q
  · rename_i ho
    rw [ho]
    exact ⟨_,rfl⟩
  · cases q
section
variable {prog:Program} {w:World} {A:Around} {E:Value -> Shared -> Prop} {s:Shared} {K:W.Frag} {C a dx:Addr} {ox od:Obj}
theorem class_x {Q:Option Value -> Shared -> Prop} (c:XCls K C) (X:K.In s.heap) (I:W.InstAt s.heap a ox C (some od)) (h:Q (some (.ref C)) { s with toks:=s.toks + 1 }):wpAny (model prog w) A (getAttr? (.ref a) "__class__") Q E s:=by
  obtain ⟨nm,qn,N,bs,bm,sn,sub,ab,col,dd,k0,k1,k2,k3,k5,lk,T⟩:=xc_cls X c.xc
  have hC:=X _ _ lk
  have FB:=PySem.F.attrBase_ValueError
  have hc':W.clsIn K C = some { name:=nm,bases:=bs,mro:=.ref C :: bm,ns:=N,qualname:=qn,hasDict:=true,slotNames:=sn,subclasses:=sub,abstract:=ab,collection:=col,hasDel:=false }:=by
    unfold W.clsIn
    rw [lk]
  have hf:W.findObj K C (some od) "__class__" = some (.bind (.builtin "getset_descriptor.__get__") (.builtin "object.__class__")):=W.findObj_data (by rw [hc']; rfl) c.ca c.cg c.ct
  have cg:∀ {A:Around} {R:Result -> Shared -> Prop} {s':Shared},s'.heap = s.heap -> R (.ok (.ret (.ref C))) s' -> codeAny (model prog w) A (.call (.builtin "getset_descriptor.__get__") ⟨[.builtin "object.__class__", .ref a,.ref C],[]⟩) R s':=fun {A R s'} e z=>by
    obtain ⟨h1,g1,d1,t1,o1⟩:=s'
    cases e
    exact W.class_get (s:=⟨s.heap,g1,d1,t1,o1⟩) (ox:=ox) (od:=some od) X I c.ob z
  obtain ⟨hp,g,dr,tk,os⟩:=s
  have L0:=I.type (M:=model prog w)
  have L1:=W.looks_find (M:=model prog w) X I hf
  have L2:=W.looks_findIn (M:=model prog w) X c.ga
  have L3:=W.looks_findIn (M:=model prog w) X c.gh
  have f3:=FB.ga.bind (.ref a)
  have hx2:(Value.builtin "BaseException.__getattribute__" == Value.builtin "object.__getattribute__") = false:=by decide +kernel
  have hx1:(onTheHeap (Value.ref C) && Value.builtin "BaseException.__getattribute__" == Value.builtin "object.__getattribute__") = false:=by rw [hx2]; rfl
  have hx0:(false && onTheHeap (Value.builtin "BaseException.__getattribute__")) = false:=rfl
  have sb:W.Looks (model prog w) hp (isInstance (.ref a) (.type "BaseException")) true:=I.type.andThen (W.looks_mroIn X (by
    unfold W.mroIn
    rw [hc',Option.bind_some,if_neg (by simp),List.contains_cons,T.hasType (X := "BaseException") (b:=true) (by decide +kernel),Bool.or_true]))
  have hk:builtinKind "BaseException.__getattribute__" = some .slot:=by decide +kernel
  have hsplit:splitId "BaseException.__getattribute__" = some ("BaseException", "__getattribute__"):=by decide +kernel
  unfold getAttr? getAttrBy? getAttrBy
  repeat (any_goals (first | assumption | (with_reducible refine lk_at L0 ?_) | (with_reducible refine lk_at L2 ?_) | (with_reducible refine lk_at L3 ?_) | wp_step))
  refine codeAny_call_builtin FB.ga.plain PySem.F.entry_bexc_ga (@W.check_slot (model prog w) _ _ ⟨hp,g,dr,tk + 1,os⟩ "BaseException.__getattribute__" "BaseException" "__getattribute__" (.ref a) [.str "__class__" tk] [] _ hk hsplit sb (PySem.F.args_bexc_ga (.ref a) (.str "__class__" tk)) ?_)
  unfold Builtin.«object.__getattribute__»
  repeat (any_goals (first | assumption | (with_reducible refine lk_at L0 ?_) | (with_reducible refine lk_at L1 ?_) | wp_step))
  exact cg rfl (wpAny_pure (wpAny_pure (wpAny_pure h)))
theorem kitx_x (c:XCls K C):W.KitX K (.ref a) (.ref C) (fun h=>∃ ox od,W.InstAt h a ox C (some od)) where
  ty:=fun _ _ _ ⟨_,_,I⟩=>I.type
  it:=fun _ _ X _=>by
    obtain ⟨cd,hc⟩:=c.cls
    unfold W.clsIn at hc
    split at hc
    · rename_i ho
      intro A' Q' E' s' k q
      unfold isType loadHead
      exact wpAny_bind (wpAny_loadPart (k _ _ (X _ _ ho)) (wpAny_pure q))
    · cases hc
  ne:=fun h tp dd its n sl X htp=>by
    obtain ⟨cd,hc⟩:=c.cls
    refine Bool.eq_false_iff.mpr fun q=>?_
    have e:C = tp:=Value.ref.inj (beq_iff_eq.mp q)
    subst e
    unfold W.clsIn at hc
    split at hc
    · rename_i ho
      have z:=(X _ _ ho).symm.trans htp
      cases z
    · cases hc
  ca:=fun X ⟨_,_,I⟩ k=>class_x c X I k
end
abbrev BornAt (a C:Addr) (d:Option Addr):Heap -> Prop:=fun h=>∃ t,h.get? a = some (excObj C t d)
theorem born_ok {P:Program} {w:World} {H:Hp} {h:Heap} {a C t:Addr} {d:Option Addr} (e:h.get? a = some (excObj C t d)):ObjOk P w H h a (.ext (BornAt a C d)) :=
  ⟨⟨t,e⟩,⟨_,e⟩,fun _ _ ⟨u,z⟩ k=>⟨u,k _ z⟩⟩
section
variable {X:Cx} {pins:List (Addr × Obj)} {σ:St} {H:Hp} {s:Shared} {a C dx:Addr} {f:Str} {v:V} {A:Around} {E:Value -> Shared -> Prop}
theorem setx_ok {u:Value} {Q:Unit -> Shared -> Prop} (I:Inv X pins σ H s) (e:H a = some (.ext (BornAt a C none))) (c:XCls X.K C) (n:NoAttr X.K C f) (r:RelV v u)
    (h:∀ s' dx,H dx = none -> dx ≠ a -> Inv X pins σ (upd (upd H a (.ext (BornAt a C (some dx)))) dx (.xd [(f,v)])) s' -> Q () s'):wpAny (model X.prog X.w) A (setAttr (.ref a) f u) Q E s:=by
  obtain ⟨⟨t,ea⟩,_,_⟩:=(show ObjOk X.prog X.w H s.heap a (.ext (BornAt a C none)) from I.hok a _ e)
  refine set_x (mA:=fun _=>none) (ns:=[]) I.kIn c.xc c.sa n ea (.inl ⟨rfl,fun _=>rfl⟩) Within.nil (Nat.zero_le _) fun h' tk dx e1 e2 ne hdx kk=>?_
  obtain hz:s.heap.objs.size <= dx:=by
    rcases hdx with z | ⟨_,z⟩
    · cases z
    · exact z
  have fr:H dx = none:=I.hok.fresh hz
  have lt:∀ b o,s.heap.get? b = some o -> b ≠ dx:=fun b o q=>Nat.ne_of_lt (Nat.lt_of_lt_of_le (Heap.lt_size q) hz)
  have ltH:∀ b o,H b = some o -> b ≠ dx:=fun b o q=>ne_of_none q fr
  have nea:∀ b,H b = none -> b ≠ a:=fun b q z=>by rw [z,e] at q; cases q
  have up:∀ b o,b ≠ a -> H b = some o -> upd (upd H a (.ext (BornAt a C (some dx)))) dx (.xd [(f,v)]) b = some o:=fun b o n q=>by
    rw [upd_ne (ltH b o q),upd_ne n]
    exact q
  refine h _ dx fr ne (I.un (h':=h') (t':=tk) ⟨fun b o q n _ _=>kk b o (nea b n) (lt b o q) q,fun b o q n _ _=>⟨o.slots,kk b o (nea b n) (lt b o q) q⟩,fun b o q n _=>?_,fun b o q _=>?_,fun b xs q=>up b _ ?_ q,fun b o u q=>up b _ ?_ q,fun b ps q=>⟨#[],by rw [up b _ (ne_of q e (fun z=>nomatch z)) q]; simp⟩⟩ fun b o q=>?_)
  · rw [upd_ne (lt b o q),upd_ne (nea b n)]
    exact n
  · by_cases hb:b = a
    · subst hb; exact ⟨_,e1⟩
    · exact ⟨o,kk b o hb (lt b o q) q⟩
  · exact ne_of q e (fun z=>nomatch z)
  · exact ne_of q e (fun z=>nomatch z)
  · by_cases hd:b = dx
    · subst hd
      rw [upd_same] at q
      cases q
      refine ⟨_,e2,fun g=>?_⟩
      by_cases hg:g = f
      · subst hg
        have hb:(g == g) = true:=by simp
        simp only [List.lookup,hb,if_true]
        exact r
      · have hb:(g == f) = false:=beq_eq_false_iff_ne.mpr hg
        simp only [List.lookup,hb,if_neg hg]
        exact True.intro
    · rw [upd_ne hd] at q
      by_cases hb:b = a
      · subst hb
        rw [upd_same] at q
        cases q
        exact born_ok e1
      · rw [upd_ne hb] at q
        refine (I.hok b o q).stay (fun c u hc z=>kk c u ?_ (lt c u z) z) (fun c z=>up c _ (ne_of z e (fun y=>nomatch y)) z) fun c xs z=>up c _ (ne_of z e (fun y=>nomatch y)) z
        rcases hc with rfl | hc
        · exact hb
        · exact ne_of hc e (fun y=>nomatch y)
end
end L2

namespace L2
open PySem PySem.Spec PyProof.Rows
section
variable {M:Model} {A:Around} {E:Value -> Shared -> Prop} {s:Shared} {env:Env} {K:W.Frag}
theorem raise_x {x:Sem Value} {Q:Flow -> Shared -> Prop} (hh:A.handled = none)
    (h:wpAny M A x (fun v s1=>∃ a C t d,v = .ref a /\ K.In s1.heap /\ xcIn K C = true /\ s1.heap.get? a = some (excObj C t d) /\ E (.ref a) s1) E s):wpAny M A (raiseStmt env (some x) none) Q E s:=by
  unfold raiseStmt
  refine wpAny_bind (wpAny_mono h (fun v s1 ⟨a,C,t,d,ev,X,q,ea,z⟩=>?_) fun _ _ y=>y)
  subst ev
  obtain ⟨nm,qn,N,bs,bm,sn,sub,ab,col,dd,k0,k1,k2,k3,k5,lk,T⟩:=xc_cls X q
  have hC:=X _ _ lk
  have hcB:(Value.ref C :: bm).contains (.type "BaseException") = true:=by rw [List.contains_cons,T.hasType (X := "BaseException") (b:=true) (by decide +kernel),Bool.or_true]
  obtain ⟨hp,g,dr,tk,os⟩:=s1
  have hx:hp.get? a = some { cls:=.ref C,dict:=d,data:=.fields #[.ref t,.none,.none,.none,.bool false,.none] }:=ea
  repeat (first | (with_reducible refine wpAny_loadPart_at hx ?_) | (with_reducible refine wpAny_loadPart_at hC ?_) | ((with_reducible refine wpAny_isSubtype_exc hC ?_); rw [hcB]) | wp_step)
  exact wpAny_raiseNew_none hh z
end
structure XMk (K:W.Frag) (C f:Addr):Prop where
  cl:XCls K C
  init:W.findIn K (.ref C) "__init__" = some (some (.ref f))
  fn:W.isFn K (.ref f) = true
  kp:W.keepIn K (.ref C) = true
def spI (K:W.Frag) (n:Str):Sp:=fun vs H Q _=>∃ a C y,vs = [.ref a,y] /\ XCls K C /\ NoAttr K C n /\ H a = some (.ext (BornAt a C none)) /\ ∀ dx,H dx = none -> dx ≠ a -> Q .non (upd (upd H a (.ext (BornAt a C (some dx)))) dx (.xd [(n,y)]))
def sX1 (K:W.Frag) (ta tv:TE) (n:Str):TS:=fun D σ H=>tv σ H fun y H1=>ta σ H1 fun x H2=>∃ a C,x = .ref a /\ XCls K C /\ NoAttr K C n /\ H2 a = some (.ext (BornAt a C none)) /\
  ∀ dx,H2 dx = none -> dx ≠ a -> D.nx σ (upd (upd H2 a (.ext (BornAt a C (some dx)))) dx (.xd [(n,y)]))
section
variable {X:Cx} {o value:Expr} {n:Str} {pos pos':Pos} {ta tv:TE}
theorem ps_x1 (ha:PE X o ta) (hv:PE X value tv) (hs:swapsWith value (some (.Attribute o n pos')) pos.line X.env = pure false:=by rfl):PS X (.Assign [.Attribute o n pos'] value pos) (sX1 X.K ta tv n):=by
  intro pins s σ H D I h
  refine plainObj_wpAny_Assign_Attribute (thn (hv pins s σ H _ I h) fun u s1 ⟨y,H1,I1,ry,q⟩=>thn (ha pins s1 σ H1 _ I1 q) fun ov s2 ⟨x,H2,I2,rx,a,C,ex,c,na,ea,q2⟩=>?_) hs
  subst ex
  obtain rfl:ov = Value.ref a:=rx
  exact setx_ok I2 ea c na ry fun s3 dx hd ne I3=>⟨σ,_,I3,q2 dx hd ne⟩
end
section
variable {X:Cx} {k:Nat} {f C:Addr} {fd:FuncData} {ps:List Str} {x n:Str} {p pos rpos:Pos} {e:Expr} {t:TA}
theorem run_xmake {pins:List (Addr × Obj)} {σ:St} {H:Hp} {s:Shared} {Q:Value -> Shared -> Prop} {u:Value} {v:V} (M:XMk X.K C f) (na:NoAttr X.K C n) (F:FnOk X.prog X.w X.K X.mg X.base CX0 k f fd ps (spI X.K n)) (hr:Room (k + 1) X.A) (hb:Binds X.K fd ps [])
    (I:Inv X pins σ H s) (r:RelV v u)
    (h:∀ s' a dx,H a = none -> H dx = none -> dx ≠ a -> X.s₀.heap.objs.size <= a -> Inv X pins σ (upd (upd H a (.ext (BornAt a C (some dx)))) dx (.xd [(n,v)])) s' -> Q (.ref a) s') :
    wpAny (model X.prog X.w) X.A (call (.ref C) [u]) Q X.xe s:=by
  refine call_xinit I.kIn M.cl.xc M.init (beq_iff_eq.mp M.fn) (by size_fits) ?_
  have kk:∀ b o,s.heap.get? b = some o -> (bornHeap s.heap C [u]).get? b = some o:=fun b o e=>Heap.get?_push_of_some _ (Heap.get?_push_of_some _ e)
  have hg:(bornHeap s.heap C [u]).get? (s.heap.objs.size + 1) = some (excObj C s.heap.objs.size none):=by heap_get
  have I2:Inv X pins σ (upd H (s.heap.objs.size + 1) (.ext (BornAt (s.heap.objs.size + 1) C none))) { s with heap:=bornHeap s.heap C [u] }:=I.laid (t':=s.toks) kk (Nat.le_succ _) (born_ok hg)
  have fa:H (s.heap.objs.size + 1) = none:=I.hok.fresh (Nat.le_succ _)
  have r2:Vals [V.ref (s.heap.objs.size + 1),v] [Value.ref (s.heap.objs.size + 1),u]:=.cons rfl (.cons r .nil)
  have hq:spI X.K n [V.ref (s.heap.objs.size + 1),v] (upd H (s.heap.objs.size + 1) (.ext (BornAt (s.heap.objs.size + 1) C none))) (fun y H'=>y = .non /\ ∃ dx,H dx = none /\ dx ≠ s.heap.objs.size + 1 /\ H' = upd (upd H (s.heap.objs.size + 1) (.ext (BornAt (s.heap.objs.size + 1) C (some dx)))) dx (.xd [(n,v)])) E0 :=
    ⟨_,C,v,rfl,M.cl,na,upd_same,fun dx hd ne=>⟨rfl,dx,by rw [upd_ne ne] at hd; exact hd,ne,by rw [upd_upd]⟩⟩
  have hl:([Value.ref (s.heap.objs.size + 1),u] ++ ([]:List Value)).length = ps.length:=by
    have z:=r2.length
    rw [F.len _ _ _ _ hq] at z
    exact z.symm
  have hb2:=hb { s with heap:=bornHeap s.heap C [u] } [Value.ref (s.heap.objs.size + 1),u] I2.kIn hl
  rw [List.append_nil] at hb2
  refine wpAny_call (codeAny_mono (F.run _ X.stack _ _ ⟨[Value.ref (s.heap.objs.size + 1),u],[]⟩ [Value.ref (s.heap.objs.size + 1),u] _ _ E0 (hr.make C [u] []) (I2.env0.make C [u] []) hb2 r2 hq) fun r s' hq'=>?_)
  cases r with
  | error e=>exact hq'.elim
  | ok fl =>
    cases fl with
    | ret y =>
      obtain ⟨z,H',I3,rv,ev,dx,hd,ne,eH⟩:=I2.after hq'
      subst ev eH
      have ey:y = Value.none:=rv
      exact ⟨ey,h _ _ dx fa hd ne (Nat.le_trans I.sz (Nat.le_succ _)) I3⟩
    | next=>exact False.elim hq'
    | brk=>exact False.elim hq'
    | cont=>exact False.elim hq'
def tRaise (C:Addr) (n:Str) (XE:Addr -> Addr -> V -> Hp -> Prop) (t:TA):TS:=fun _ σ H=>t σ H fun vs H1=>∃ v,vs = [v] /\ ∀ a dx,H1 a = none -> H1 dx = none -> dx ≠ a -> XE a dx v (upd (upd H1 a (.ext (BornAt a C (some dx)))) dx (.xd [(n,v)]))
theorem ps_raise {XE:Addr -> Addr -> V -> Hp -> Prop} (M:XMk X.K C f) (na:NoAttr X.K C n) (F:FnOk X.prog X.w X.K X.mg X.base CX0 k f fd ps (spI X.K n)) (hr:Room (k + 1) X.A) (hb:Binds X.K fd ps []) (hg:Gl X x) (hm:X.mg x = some (.ref C))
    (pa:PA X [e] t) (hx:∀ pins σ H s a dx v,Inv X pins σ H s -> X.s₀.heap.objs.size <= a -> dx ≠ a -> H a = some (.ext (BornAt a C (some dx))) -> H dx = some (.xd [(n,v)]) -> XE a dx v H -> X.xe (.ref a) s)
    (hdb:(x == ("__debug__" : Str)) = false:=by decide) (hs:starEach [e] X.env = (false,eval e X.env) :: starEach [] X.env:=by rfl):PS X (.Raise (some (.Call (.Name x p) [e] [] pos)) none rpos) (tRaise C n XE t):=by
  intro pins s σ H D I h
  rw [arm_exec_Raise]
  refine wpAny_bind (wpAny_standAt (raise_x (K:=X.K) hr.hd ?_))
  refine wpAny_bind (wpAny_mono (wpAny_Call_Name_kw (ld_glob I hg hm ?_ hdb)) (fun v s3 (h3:∃ a C t d,v = .ref a /\ X.K.In s3.heap /\ xcIn X.K C = true /\ s3.heap.get? a = some (excObj C t d) /\ X.xe (.ref a) s3)=>wpAny_bind (wpAny_standAt (wpAny_pure h3))) fun _ _ y=>y)
  refine W.callWith_K (h₀:=X.base) I.ok.mod.kin M.kp (thn (pa pos pins s σ H _ I h) fun us s1 ⟨vs,H1,I1,r,v,ev,q⟩=>⟨I1.kIn,?_⟩) hs rfl
  subst ev
  cases r with
  | cons r1 r2 =>
    cases r2
    refine run_xmake M na F hr hb I1 r1 fun s' a dx ha hd ne sz I3=>?_
    have ea:upd (upd H1 a (.ext (BornAt a C (some dx)))) dx (.xd [(n,v)]) a = some (.ext (BornAt a C (some dx))):=by rw [upd_ne (Ne.symm ne),upd_same]
    obtain ⟨⟨t,e3⟩,_,_⟩:=(show ObjOk X.prog X.w _ s'.heap a (.ext (BornAt a C (some dx))) from I3.hok a _ ea)
    exact ⟨a,C,t,some dx,rfl,I3.kIn,M.cl.xc,e3,hx pins σ _ s' a dx v I3 sz ne ea upd_same (q a dx ha hd ne)⟩
end
end L2

namespace L2
open PySem PySem.Spec PyProof.Rows
theorem objOk_there {P:Program} {w:World} {H:Hp} {h:Heap} {a:Addr} {o:HO} (x:ObjOk P w H h a o):∃ ob,h.get? a = some ob:=by
  cases o with
  | lst xs=>obtain ⟨_,_,_,_,e⟩:=x; exact ⟨_,e⟩
  | tup xs=>obtain ⟨_,_,_,⟨_,e,_⟩⟩:=x; exact ⟨_,e⟩
  | dK kvs=>obtain ⟨_,_,_,_,o,_,_,e,_⟩:=x; exact ⟨_,e⟩
  | dT kvs=>obtain ⟨_,_,_,_,o,_,_,e,_⟩:=x; exact ⟨_,e⟩
  | set S n=>obtain ⟨o,_,_,_,e,_⟩:=x; exact ⟨_,e⟩
  | ins C dx fs=>obtain ⟨_,_,_,e,_⟩:=x; exact ⟨_,e⟩
  | own y=>exact x
  | xd fs=>obtain ⟨_,⟨_,_,_,e,_⟩,_⟩:=x; exact ⟨_,e⟩
  | rng lo hi=>obtain ⟨_,_,_,e⟩:=x; exact ⟨_,e⟩
  | frz ob u=>obtain ⟨e,_⟩:=x; exact ⟨_,e⟩
  | tbl ps=>exact ⟨_,(show h.get? a = some _ from x)⟩
  | met f y=>exact ⟨_,(show h.get? a = some _ from x)⟩
  | ext φ=>obtain ⟨_,e,_⟩:=x; exact e
def hideH (H:Hp) (a:Addr):Hp:=fun b=>if b = a then none else H b
theorem hideH_same {H:Hp} {a:Addr}:hideH H a a = none:=by unfold hideH; rw [if_pos rfl]
theorem hideH_ne {H:Hp} {a b:Addr} (n:b ≠ a):hideH H a b = H b:=by unfold hideH; rw [if_neg n]
def CXE (P:Program) (w:World):CXT:=fun outer H s E e s'=>∃ a C dx T H',e = .ref a /\ s'.os = s.os /\ AllBare s'.gens /\ Un (frs outer) [] H H' s.heap s'.heap /\ HOk P w H' s'.heap /\ Air s'.heap a (.ref C) (some dx) T .none /\
  H' a = none /\ H' T = none /\ s.heap.get? a = none /\ s.heap.get? T = none /\ E (.ref C) (some dx) H'
section
variable {P:Program} {w:World} {K:W.Frag} {mg:Str -> Option Value} {base:Heap} {N:List Str} {qual:Str} {scope:Scope} {f:Addr} {cd:Value} {A:Around} {outer:List Env} {s s1:Shared} {H H1:Hp} {E:XK} {pins:List (Addr × Obj)} {σ:St} {a C dx:Addr}
theorem xe_born (I:Inv (cxOf (CXE P w) P w K mg base N qual scope f cd A outer s H E) pins σ H1 s1) (sz:s.heap.objs.size <= a) (ne:dx ≠ a) (ea:H1 a = some (.ext (BornAt a C (some dx)))) (q:E (.ref C) (some dx) (hideH H1 a)) :
    (cxOf (CXE P w) P w K mg base N qual scope f cd A outer s H E).xe (.ref a) s1:=by
  obtain ⟨⟨t,e1⟩,_,_⟩:=(show ObjOk P w H1 s1.heap a (.ext (BornAt a C (some dx))) from I.hok a _ ea)
  refine leaveX1 I.ok.frames I.stack rfl ⟨_,_,e1,rfl,rfl,rfl,rfl⟩ fun h' T nT air bt=>?_
  have B:=I.base
  have fra:s.heap.get? a = none:=Heap.get?_none_of_le sz
  have nea:∀ b o,s.heap.get? b = some o -> b ≠ a:=fun b o e z=>by rw [z,fra] at e; cases e
  have nfr:∀ b o,s.heap.get? b = some o -> b ∉ frs outer -> b ∉ frs (envOfC qual scope s.heap.objs.size f cd :: outer):=fun b o e n z=>by
    unfold frs at z
    rw [List.filterMap_cons] at z
    rcases List.mem_cons.mp z with y | y
    · exact absurd (Heap.lt_size e) (by rw [y]; exact Nat.lt_irrefl _)
    · exact n y
  have infr:∀ b,b ∈ frs outer -> b ∈ frs (envOfC qual scope s.heap.objs.size f cd :: outer):=fun b z=>by
    unfold frs
    rw [List.filterMap_cons]
    exact List.mem_cons_of_mem _ z
  have un1:∀ b,b ≠ a -> hideH H1 a b = H1 b:=fun b n=>hideH_ne n
  refine ⟨a,C,dx,T,hideH H1 a,rfl,I.os,I.bare,⟨fun b o e n m _=>?_,fun b o e n m _=>?_,fun b o e n _=>?_,fun b o e _=>?_,fun b xs e=>?_,fun b o u e=>?_,fun b ps e=>?_⟩,fun b o e=>?_,air,hideH_same,?_,fra,?_,q⟩
  · exact bt.keep b o (by simpa using nea b o e) (nfr b o e m) (B.keep b o e n m (fun z=>nomatch z))
  · obtain ⟨sl,e2⟩:=B.slot b o e n m (fun z=>nomatch z)
    obtain ⟨sl',e3⟩:=bt.slot b _ (by simpa using nea b o e) (infr b m) e2
    exact ⟨sl',e3⟩
  · rw [un1 b (nea b o e)]
    exact B.free b o e n (fun z=>nomatch z)
  · obtain ⟨o1,e2⟩:=B.there b o e (fun z=>nomatch z)
    exact bt.there b o1 e2
  · have z:=B.tups b xs e
    rw [un1 b (ne_of z ea (fun y=>nomatch y))]
    exact z
  · have z:=B.frzs b o u e
    rw [un1 b (ne_of z ea (fun y=>nomatch y))]
    exact z
  · obtain ⟨m,z⟩:=B.tbls b ps e
    exact ⟨m,by rw [un1 b (ne_of z ea (fun y=>nomatch y))]; exact z⟩
  · have hb:b ≠ a:=fun z=>by rw [z,hideH_same] at e; cases e
    rw [un1 b hb] at e
    refine (I.hok b o e).stay (fun c u hc z=>?_) (fun c z=>by rw [un1 c (ne_of z ea (fun y=>nomatch y))]; exact z) fun c xs z=>by rw [un1 c (ne_of z ea (fun y=>nomatch y))]; exact z
    have hH:∃ o',H1 c = some o':=by
      rcases hc with rfl | hc
      · exact ⟨_,e⟩
      · exact ⟨_,hc⟩
    have hca:c ≠ a:=by
      rcases hc with rfl | hc
      · exact hb
      · exact ne_of hc ea (fun y=>nomatch y)
    refine bt.keep c u (by simpa using hca) (fun m=>?_) z
    obtain ⟨o',hH⟩:=hH
    rw [I.stkFree c m] at hH
    cases hH
  · by_cases hT:T = a
    · rw [hT]; exact hideH_same
    · rw [un1 T hT]
      cases z:H1 T with
      | none=>rfl
      | some o =>
        obtain ⟨o',e'⟩:=objOk_there (I.hok T o z)
        rw [nT] at e'
        cases e'
  · cases z:s.heap.get? T with
    | none=>rfl
    | some o =>
      obtain ⟨o1,e2⟩:=B.there T o z (fun y=>nomatch y)
      rw [nT] at e2
      cases e2
end
end L2

namespace L2
open PySem PySem.Spec PyProof.Rows
theorem PS.nox {X:Cx} {st:Stmt} {t:TS} (h:PS X.nox st t):PS X st t:=fun pins s σ H D I hw =>
  wpAny_mono (h pins s σ H D (I.wish _) hw) (fun _ _ q=>q.unwish) fun _ _ z=>False.elim z
theorem PA.nox {X:Cx} {es:List Expr} {t:TA} (h:PA X.nox es t):PA X es t:=fun pos pins s σ H Q I hw =>
  wpAny_mono (h pos pins s σ H Q (I.wish _) hw) (fun _ _ ⟨v,H',I',r,q⟩=>⟨v,H',I'.unwish,r,q⟩) fun _ _ z=>False.elim z
namespace VL
abbrev XQ:=Str -> List (Str × PyData) -> Prop
abbrev XAt (K:W.Frag) (rl:Option Addr) (F H Fs:Hp) (E:XK) (c:Str) (fs:List (Str × PyData)):Prop:=∀ C dx F' H' us,Grow rl F H F' H' -> Same Fs F' -> W.nsIn K mainGlobals c = some (some (.ref C)) -> H' dx = some (.xd us) -> H dx = none -> F' dx = none -> KDs K F' us fs -> E (.ref C) (some dx) H'
abbrev XLink (K:W.Frag) (rl:Option Addr) (F H Fs:Hp) (E:XK) (QE:XQ):Prop:=∀ c fs,QE c fs -> XAt K rl F H Fs E c fs
theorem XLink.on {K:W.Frag} {rl:Option Addr} {F H Fs Fs':Hp} {E:XK} {QE:XQ} (l:XLink K rl F H Fs E QE) (s:Same Fs Fs'):XLink K rl F H Fs' E QE:=fun c fs z C dx F' H' us g m=>l c fs z C dx F' H' us g (s.trans m)
def vspE (K:W.Frag) (rl:Option Addr) (P:List W -> (PyData -> Prop) -> XQ -> Prop):Sp:=fun vs H Q E=>∃ F ws,Same F H /\ RAt rl F H /\ RelWs K rl F H vs ws /\ ws.all argOk = true /\ P ws (fun d=>∀ v F' H',Grow rl F H F' H' -> Rep K F' v d -> Q v H') (XAt K rl F H F E)
def PSsE (X:Cx) (rl:Option Addr) (E:XK) (body:List Stmt) (t:VEnds -> XQ -> En -> Prop):Prop:=∃ T,PSs X body T /\ ∀ {F₀ H₀ F H:Hp} {σ:St} {ρ:En},VR X.K rl F₀ H₀ F H σ ρ -> ∀ Dv D QE,EndsOk X.K rl F₀ H₀ F Dv D -> XLink X.K rl F₀ H₀ F E QE -> t Dv QE ρ -> T D σ H
section
variable {X:Cx} {rl:Option Addr} {E:XK} {st:Stmt} {rest body:List Stmt} {t:TSv} {u:VEnds -> XQ -> En -> Prop} {c e:Expr} {f:TB} {fs:TVs} {pos:Pos}
theorem PB.nox (h:PB X.nox rl c f):PB X rl c f:=let ⟨t,p,k⟩:=h; ⟨t,p.nox,k⟩
theorem PSV.nox (h:PSV X.nox rl st t):PSV X rl st t:=let ⟨T,p,k⟩:=h; ⟨T,p.nox,k⟩
theorem PSsV.nox (h:PSsV X.nox rl body t):PSsV X rl body t:=let ⟨T,p,k⟩:=h; ⟨T,p.nox,k⟩
theorem PVs.nox {es:List Expr} (h:PVs X.nox rl es fs):PVs X rl es fs:=let ⟨T,p,k⟩:=h; ⟨T,p.nox,k⟩
def xOf (t:TSv):VEnds -> XQ -> En -> Prop:=fun Dv _ ρ=>t Dv ρ
theorem e_of (h:PSsV X.nox rl body t):PSsE X rl E body (xOf t):=by
  obtain ⟨T,p,k⟩:=h.nox
  exact ⟨T,p,fun R Dv D _ ok _ q=>k R Dv D ok q⟩
structure XOne (P:Program) (w:World) (K:W.Frag) (mg:Str -> Option Value) (base:Heap) (x n:Str) (C:Addr):Prop where
  at_:W.nsIn K mainGlobals x = some (some (.ref C))
  mg_:mg x = some (.ref C)
  no:NoAttr K C n
  ex:∃ f fd ps,XMk K C f /\ Binds K fd ps [] /\ FnOk P w K mg base CX0 1 f fd ps (spI K n)
def xIf (f:TB) (x n:Str) (fs:TVs) (u:VEnds -> XQ -> En -> Prop):VEnds -> XQ -> En -> Prop:=fun Dv QE ρ=>f ρ fun b=>if b = true then fs ρ fun ws=>∃ d,ws = [.d d] /\ QE x [(n,d)] else u Dv QE ρ
theorem e_if {x n:Str} {C:Addr} {p cpos rpos:Pos} (hxe:∀ pins σ H s a C dx,Inv X pins σ H s -> X.s₀.heap.objs.size <= a -> dx ≠ a -> H a = some (.ext (BornAt a C (some dx))) -> E (.ref C) (some dx) (hideH H a) -> X.xe (.ref a) s)
    (hr:Room 2 X.A) (xo:XOne X.prog X.w X.K X.mg X.base x n C) (hc:PB X.nox rl c f) (ha:PVs X.nox rl [e] fs) (h2:PSsE X rl E rest u) (hg:Gl X x:=by rfl) (hdb:(x == ("__debug__" : Str)) = false:=by decide)
    (hs:starEach [e] X.env = (false,eval e X.env) :: starEach [] X.env:=by rfl) :
    PSsE X rl E (.If c [.Raise (some (.Call (.Name x p) [e] [] cpos)) none rpos] [] pos :: rest) (xIf f x n fs u):=by
  obtain ⟨t0,p0,k0⟩:=hc.nox
  obtain ⟨t1,p1,k1⟩:=ha.nox
  obtain ⟨T2,p2,k2⟩:=h2
  obtain ⟨fa,fd,ps,M,hb,F⟩:=xo.ex
  have pr:=ps_raise (p:=p) (pos:=cpos) (rpos:=rpos) (XE:=fun a dx _ H=>E (.ref C) (some dx) (hideH H a)) M xo.no F hr hb hg xo.mg_ p1 (fun pins σ H s a dx v I sz ne ea _ q=>hxe pins σ H s a C dx I sz ne ea q) hdb hs
  refine ⟨_,pss_cons (ps_if p0 (pss_one pr) pss_nil) p2,fun {F₀ H₀ F H σ ρ} R Dv D QE ok l q=>k0 R _ _ q fun b F1 H1 g1 q1=>?_⟩
  cases b with
  | true =>
    have q1:fs ρ fun ws=>∃ d,ws = [.d d] /\ QE x [(n,d)]:=q1
    refine k1 (R.grow g1) _ _ q1 fun vs ws F2 H2 g2 r2 ⟨d,ew,qe⟩=>?_
    subst ew
    cases r2 with
    | @cons v _ vs' _ r r' =>
      cases r'
      refine ⟨v,rfl,fun a dx na nd ne=>?_⟩
      have eh:hideH (upd (upd H2 a (.ext (BornAt a C (some dx)))) dx (.xd [(n,v)])) a = upd H2 dx (.xd [(n,v)]):=by
        funext b
        by_cases hb:b = a
        · subst hb
          rw [hideH_same,upd_ne (Ne.symm ne)]
          exact na.symm
        · rw [hideH_ne hb]
          by_cases hd:b = dx
          · subst hd; rw [upd_same,upd_same]
          · rw [upd_ne hd,upd_ne hb,upd_ne hd]
      show E _ _ (hideH _ _)
      rw [eh]
      have g3:=(R.g.trans g1).trans g2
      exact l x _ qe C dx F2 _ [(n,v)] (g3.trans (Grow.laid g2.sub g2.reel nd)) (g1.fs.trans g2.fs) xo.at_ upd_same (g3.freeB nd) (g2.sub.free nd) (.cons ⟨rfl,r⟩ .nil)
  | false=>exact k2 (R.grow g1) Dv D QE (ok.on g1.fs) (XLink.on l g1.fs) q1
end
structure DfnE (P:Program) (w:World) (K:W.Frag) (mg:Str -> Option Value) (base:Heap) (rl:Option Addr) (x:Str) (ps:List Str) (k:Nat) (Pd:List W -> (PyData -> Prop) -> XQ -> Prop):Prop where
  mono:∀ ws Q Q' R R',(∀ d,Q d -> Q' d) -> (∀ c fs,R c fs -> R' c fs) -> Pd ws Q R -> Pd ws Q' R'
  ex:∃ f fd,mg x = some (.ref f) /\ W.keepIn K (.ref f) = true /\ Binds K fd ps [] /\ FnOk P w K mg base (CXE P w) k f fd ps (vspE K rl Pd)
section
variable {P:Program} {w:World} {K:W.Frag} {mg:Str -> Option Value} {base:Heap} {rl:Option Addr} {x:Str} {st:Stmt} {N ps:List Str} {k:Nat} {Pd:List W -> (PyData -> Prop) -> XQ -> Prop} {t:VEnds -> XQ -> En -> Prop}
theorem DfnE.of (Fn:FnIn K mg x st ps) (S:FnScope N ps (defScope st)) (mono:∀ ws Q Q' R R',(∀ d,Q d -> Q' d) -> (∀ c fs,R c fs -> R' c fs) -> Pd ws Q R -> Pd ws Q' R') (len:∀ ws Q R,Pd ws Q R -> ws.length = ps.length)
    (hbody:∀ {f:Addr} (cdv:Value) (A:Around) (outer:List Env) (s:Shared) (H:Hp) (E:XK),Room k (A.deeper (envOfC x (defScope st) s.heap.objs.size f cdv)) ->
      (∀ pins σ H1 s1 a C dx,Inv (cxOf (CXE P w) P w K mg base N x (defScope st) f cdv A outer s H E) pins σ H1 s1 -> s.heap.objs.size <= a -> dx ≠ a -> H1 a = some (.ext (BornAt a C (some dx))) -> E (.ref C) (some dx) (hideH H1 a) ->
        (cxOf (CXE P w) P w K mg base N x (defScope st) f cdv A outer s H E).xe (.ref a) s1) ->
      PSsE (cxOf (CXE P w) P w K mg base N x (defScope st) f cdv A outer s H E) rl E (defBody st) t)
    (hread:∀ ws Q R,Pd ws Q R -> t (vEnds Q) R (startV N ws)):DfnE P w K mg base rl x ps (k + 1) Pd:=by
  obtain ⟨f,fd,hm,F,hb⟩:=Fn.ex
  refine ⟨mono,f,fd,hm,F.kp,hb,?_⟩
  obtain ⟨oc,od,kV,doc,pm,an,cdv,ct,osl,rfl,lk,hcd⟩:=F.ex
  refine fn_of lk hcd S (fun vs H Q E ⟨F,ws,_,_,r,_,q⟩=>(Paired.length r).trans (len ws _ _ q)) fun A outer s H vs Q E hr h=>?_
  obtain ⟨F,ws,sm,ra,r,ok,q⟩:=h
  obtain ⟨T,p,kk⟩:=hbody cdv A outer s H E hr (fun pins σ H1 s1 a C dx I sz ne ea q=>xe_born I sz ne ea q)
  refine ⟨T,p,kk (vr_start sm ra r ok) (vEnds _) _ _ ⟨?_,?_,fun _ _ _ _ _ _ z=>False.elim z,fun _ _ _ _ _ _ z=>False.elim z⟩ (fun c fs z=>z) (hread ws _ _ q)⟩
  · intro F1 H1 σ1 ρ1 _ R1 q1
    exact q1 .non F1 H1 R1.g .non
  · rintro v w1 F1 H1 g1 r1 n1 ⟨d,ed,q1⟩
    obtain ⟨F2,g2,s2,r2⟩:=RelW.fz g1 r1 n1
    rw [ed] at r2
    exact q1 v F2 H1 g2 r2
end
end VL
end L2

namespace L2
open PySem PySem.Spec PyProof.Rows
theorem un_but {fs l:List Addr} {H H':Hp} {h h1 h2:Heap} (u:Un fs [] H H' h h1) (bt:But fs l h1 h2) (fr:∀ b ∈ l,h.get? b = none):Un fs [] H H' h h2:=by
  have nl:∀ b o,h.get? b = some o -> b ∉ l:=fun b o e z=>by rw [fr b z] at e; cases e
  refine ⟨fun b o e n m x=>bt.keep b o (nl b o e) m (u.keep b o e n m x),fun b o e n m x=>?_,u.free,fun b o e x=>?_,u.tups,u.frzs,u.tbls⟩
  · obtain ⟨sl,e1⟩:=u.slot b o e n m x
    obtain ⟨sl',e2⟩:=bt.slot b _ (nl b o e) m e1
    exact ⟨sl',e2⟩
  · obtain ⟨o1,e1⟩:=u.there b o e x
    exact bt.there b o1 e1
theorem hok_but {P:Program} {w:World} {fs l:List Addr} {H:Hp} {h1 h2:Heap} (ok:HOk P w H h1) (bt:But fs l h1 h2) (fr:∀ b ∈ l,H b = none) (ff:∀ b ∈ fs,H b = none):HOk P w H h2:=fun b o e=>by
  have nt:∀ c u,H c = some u -> c ∉ l /\ c ∉ fs:=fun c u q=>⟨fun z=>(by rw [fr c z] at q; cases q),fun z=>(by rw [ff c z] at q; cases q)⟩
  refine (ok b o e).stay (fun c u hc z=>?_) (fun _ q=>q) fun _ _ q=>q
  rcases hc with rfl | hc
  · exact bt.keep c u (nt c _ e).1 (nt c _ e).2 z
  · exact bt.keep c u (nt c _ hc).1 (nt c _ hc).2 z
theorem un_upd {fs:List Addr} {H H':Hp} {h h1:Heap} {a:Addr} {o:HO} (u:Un fs [] H H' h h1) (na:H' a = none) (fa:h.get? a = none):Un fs [] H (upd H' a o) h h1:=by
  have nea:∀ b o,h.get? b = some o -> b ≠ a:=fun b o e z=>by rw [z,fa] at e; cases e
  refine ⟨u.keep,u.slot,fun b o e n x=>?_,u.there,fun b xs e=>?_,fun b o u' e=>?_,fun b ps e=>?_⟩
  · rw [upd_ne (nea b o e)]
    exact u.free b o e n x
  · have z:=u.tups b xs e
    rw [upd_ne (ne_of_none z na)]
    exact z
  · have z:=u.frzs b o u' e
    rw [upd_ne (ne_of_none z na)]
    exact z
  · obtain ⟨m,z⟩:=u.tbls b ps e
    exact ⟨m,by rw [upd_ne (ne_of_none z na)]; exact z⟩
theorem hok_upd {P:Program} {w:World} {H:Hp} {h:Heap} {a:Addr} {o:HO} (ok:HOk P w H h) (na:H a = none) (new:ObjOk P w (upd H a o) h a o):HOk P w (upd H a o) h:=fun b u e=>by
  by_cases hb:b = a
  · subst hb
    rw [upd_same] at e
    cases e
    exact new
  · rw [upd_ne hb] at e
    exact (ok b u e).stay (fun _ _ _ z=>z) (fun c q=>by rw [upd_ne (ne_of_none q na)]; exact q) fun c xs q=>by rw [upd_ne (ne_of_none q na)]; exact q
section
variable {X:Cx} {pins:List (Addr × Obj)} {σ:St} {H:Hp} {s:Shared}
theorem goes_ok {M:Model} {A:Around} {E:Value -> Shared -> Prop} {i:Nat} {n:Str} {pos:Pos} {Q:Unit -> Shared -> Prop} (I:Inv X pins σ H s) (hN:X.N.Nodup) (hi:X.N[i]? = some n) (hk:X.env.scope.names.lookup n = some .local)
    (h:∀ s',Inv X pins (σ.set i none) H s' -> Q () s'):wpAny M A (do bindName X.env n .none; unbindBehindTheSuite X.env n pos) Q E s:=by
  obtain ⟨m,hn,hl⟩:=id I.loc
  obtain ⟨oL,_,_,hoL,_⟩:=id hn
  refine wpAny_nameGoes_keeps hk hn (by rw [I.ok.kind]; rfl) fun h' v hn' hs=>?_
  have low:∀ b o,X.s₀.heap.get? b = some o -> b ≠ X.env.locals:=fun b o e=>Nat.ne_of_lt (Nat.lt_of_lt_of_le (Heap.lt_size e) I.ok.above)
  refine h _ ⟨I.ok,I.os,I.bare,⟨fun b o e n hb hx=>(hs.2 b (low b o e)).trans (I.base.keep b o e n hb hx),fun b o e n hb hx=>?_,I.base.free,fun b o e hx=>?_,I.base.tups,I.base.frzs,I.base.tbls⟩,⟨_,hn',fun j y v' e1 e2 e3=>?_⟩,fun y c e=>?_,I.free,I.freeC,fun p hp=>?_,fun b o e=>?_,by simpa using I.len⟩
  · obtain ⟨sl,e1⟩:=I.base.slot b o e n hb hx
    exact ⟨sl,(hs.2 b (low b o e)).trans e1⟩
  · obtain ⟨o',e1⟩:=I.base.there b o e hx
    exact ⟨o',(hs.2 b (low b o e)).trans e1⟩
  · have hj:i ≠ j:=fun z=>by
      subst z
      rw [List.getElem?_set] at e2
      split at e2
      · split at e2 <;> cases e2
      · rename_i q; exact q rfl
    rw [List.getElem?_set_ne hj] at e2
    have hy:y ≠ n:=fun z=>by
      subst z
      exact hj (nodup_ix hN hi e1)
    obtain ⟨u,ru,l⟩:=hl j y v' e1 e2 e3
    refine ⟨u,ru,?_⟩
    rcases l with ⟨k,z⟩ | ⟨k,c,e,o,ho,hd⟩
    · exact .inl ⟨k,by show (if y = n then v else m y) = _; rw [if_neg hy]; exact z⟩
    · exact .inr ⟨k,c,e,o,(hs.2 c (I.cne y c e)).trans ho,hd⟩
  · obtain ⟨v',o,ho,hd⟩:=I.cell y c e
    exact ⟨v',o,(hs.2 c (I.cne y c e)).trans ho,hd⟩
  · obtain ⟨e,z,ne,nf,d⟩:=I.pin p hp
    exact ⟨(hs.2 p.1 ne).trans e,z,ne,nf,d⟩
  · refine (I.hok b o e).stay (fun c w' hc q=>(hs.2 c ?_).trans q) (fun _ q=>q) fun _ _ q=>q
    rintro rfl
    rcases hc with rfl | hc
    · rw [I.free] at e; cases e
    · rw [I.free] at hc; cases hc
end
structure XOver (K:W.Frag) (C B:Addr):Prop where
  sub:W.mroIn K C (.ref B) = some true
  exc:W.mroIn K B (.type "BaseException") = some true
  ty:W.typeIn K (.ref B) = some (.type "type")
section
variable {M:Model} {A:Around} {E:Value -> Shared -> Prop} {s:Shared} {K:W.Frag} {C B a:Addr} {oe:Obj}
theorem excm_x {Q:Bool -> Shared -> Prop} (X:K.In s.heap) (o:XOver K C B) (ha:s.heap.get? a = some oe) (hc:oe.cls = .ref C) (h:Q true s):wpAny M A (excMatches (.ref a) (.ref B)) Q E s:=by
  have L1:W.Looks M s.heap (isInstance (.ref B) (.type "tuple")) false:=(W.looks_typeIn X o.ty).andThen (.of_pure (by rw [isSubtype_type]; kernel_rfl))
  have hcl:∃ cd,W.clsIn K B = some cd:=by
    have z:=o.exc
    unfold W.mroIn at z
    cases q:W.clsIn K B with
    | none=>rw [q] at z; cases z
    | some cd=>exact ⟨cd,rfl⟩
  obtain ⟨cd,hcd⟩:=hcl
  have L2:W.Looks M s.heap (isSubtype (.ref B) (.type "BaseException")) true:=W.looks_mroIn X o.exc
  have L3:W.Looks M s.heap (isSubtype (.ref C) (.ref B)) true:=W.looks_mroIn X o.sub
  have L4:W.Looks M s.heap (isType (.ref B)) true:=by
    unfold W.clsIn at hcd
    split at hcd
    · rename_i ho
      intro A' Q' E' s' k q
      unfold isType loadHead
      exact wpAny_bind (wpAny_loadPart (k _ _ (X _ _ ho)) (wpAny_pure q))
    · cases hcd
  have L5:W.Looks M s.heap (typeOf (.ref a)) (.ref C):=hc ▸ (W.Looks.ld ha).andThen .now
  obtain ⟨hp,g,d,tk,os⟩:=s
  unfold excMatches isExcClass
  repeat (first | (with_reducible refine lk_at L1 ?_) | (with_reducible refine lk_at L2 ?_) | (with_reducible refine lk_at L3 ?_) | (with_reducible refine lk_at L4 ?_) | (with_reducible refine lk_at L5 ?_) | wp_step)
  exact h
end
end L2

namespace L2.VL
open PySem PySem.Spec PyProof.Rows
theorem exc_ok {P:Program} {w:World} {H:Hp} {h:Heap} {a C dx T:Addr} {fl:Value} (z:Air h a (.ref C) (some dx) T fl):ObjOk P w H h a (.ext (ExcAt a C dx)):=by
  obtain ⟨oe,vs,_,_,e,c,d,f,_⟩:=z
  exact ⟨⟨oe,vs,e,c,d,f⟩,⟨_,e⟩,fun _ _ ⟨oe,vs,e,q⟩ k=>⟨oe,vs,k _ e,q⟩⟩
theorem ro_xd {F:Hp} {us:List (Str × V)} (h:RO F (.xd us)):False:=by
  unfold RO at h
  simp at h
section
variable {X:Cx} {rl:Option Addr} {E:XK} {e:Expr} {es:List Expr} {fs:TVs} {pos p:Pos}
def xSet (i:Nat) (Pd:List W -> (PyData -> Prop) -> XQ -> Prop) (fs:TVs):VEnds -> XQ -> En -> Prop:=fun Dv QE ρ=>fs ρ fun ws=>ws.all argOk = true /\ Pd ws (fun d=>Dv.nx (ρ.set i (some (.d d)))) QE
theorem e_set (i:Nat) {x y:Str} {ps:List Str} {k:Nat} {Pd:List W -> (PyData -> Prop) -> XQ -> Prop} {pos' apos:Pos} (hx:Passes (CXE X.prog X.w) X E) (hN:X.N.Nodup) (D:DfnE X.prog X.w X.K X.mg X.base rl x ps k Pd) (hr:Room k X.A) (ha:PVs X rl (e :: es) fs) (hg:Gl X x:=by rfl)
    (hi:X.N[i]? = some y:=by rfl) (hy:Loc X.env.scope y:=by first | exact Or.inl rfl | exact Or.inr rfl) (hdb:(x == ("__debug__" : Str)) = false:=by decide)
    (he:starEach (e :: es) X.env = (false,eval e X.env) :: starEach es X.env:=by rfl) (hpl:(backTo pos (starEach es X.env)).any (·.1) = false:=by rfl)
    (hs:swapsWith (.Call (.Name x p) (e :: es) [] pos) (some (.Name y pos')) apos.line X.env = pure false:=by rfl) (hf:X.fn y = true \/ X.env.scope.names.lookup y = some .local:=by first | exact .inl rfl | exact .inr rfl) :
    PSsE X rl E [.Assign [.Name y pos'] (.Call (.Name x p) (e :: es) [] pos) apos] (xSet i Pd fs):=by
  obtain ⟨f,fd,hm,hk,hb,F⟩:=D.ex
  obtain ⟨t,p1,kk⟩:=ha
  refine ⟨_,pss_one (ps_set hN hi hy (pe_call (ds:=[]) (dvs:=[]) F hr hg hm hk hb .nil hx p1 hdb he hpl) hs hf),fun {F₀ H₀ F H σ ρ} R Dv D' QE ok l q=>kk R _ _ q fun vs ws F1 H1 g1 r1 ⟨ao,q1⟩=>?_⟩
  refine ⟨F1,ws,g1.sub,g1.reel,by rw [List.append_nil]; exact r1,ao,?_⟩
  refine D.mono ws _ _ _ _ (fun d qd v F2 H2 g2 r2=>?_) (fun c fs z C dx F' H' us g sm n hd nd fd kd=>?_) q1
  · exact ok.nx _ _ _ _ (g1.fs.trans g2.fs) (R.set (g1.trans g2) (w:=.d d) r2 trivial (fun xs z=>by cases z) i) qd
  · exact l c fs z C dx F' H' us ((R.g.trans g1).trans g) (g1.fs.trans sm) n hd ((R.g.trans g1).freeB nd) fd kd
end
theorem VR.unset {K:W.Frag} {rl:Option Addr} {F₀ H₀ F H:Hp} {σ:St} {ρ:En} (r:VR K rl F₀ H₀ F H σ ρ) (i:Nat):VR K rl F₀ H₀ F H (σ.set i none) (ρ.set i none):=by
  have nd:∀ (j:Nat) (y:W),(ρ.set i none)[j]? = some (some y) -> i ≠ j /\ ρ[j]? = some (some y):=fun j y z=>by
    by_cases hj:i = j
    · subst hj
      rw [List.getElem?_set] at z
      split at z
      · split at z <;> cases z
      · rename_i q; exact absurd rfl q
    · rw [List.getElem?_set_ne hj] at z
      exact ⟨hj,z⟩
  refine ⟨r.g,fun j w z=>?_,fun j k x y v hjk e1 e2 o1 o2 s1 s2=>?_,fun j xs z=>r.np j xs (nd j _ z).2,by simp [r.len]⟩
  · obtain ⟨hj,z'⟩:=nd j w z
    obtain ⟨v,h1,h2⟩:=r.sl j w z'
    exact ⟨v,by rw [List.getElem?_set_ne hj]; exact h1,h2⟩
  · obtain ⟨hj,z1⟩:=nd j x e1
    obtain ⟨hk,z2⟩:=nd k y e2
    rw [List.getElem?_set_ne hj] at s1
    rw [List.getElem?_set_ne hk] at s2
    exact r.ap j k x y v hjk z1 z2 o1 o2 s1 s2
def vTry (i:Nat) (cs:List Str) (tb:VEnds -> XQ -> En -> Prop) (ts:TSv):TSv:=fun Dv ρ=>tb Dv (fun c fs=>c ∈ cs /\ ts ⟨fun ρ'=>Dv.nx (ρ'.set i none),Dv.rt,fun _=>False,fun _=>False⟩ ((List.replicate ρ.length none).set i (some (.xc c fs)))) ρ
section
variable {X:Cx} {rl:Option Addr} {tb:VEnds -> XQ -> En -> Prop} {ts:TSv} {st b₀:Stmt} {suite:List Stmt} {cb n:Str} {cs:List Str} {B:Addr} {np hpos pos:Pos}
abbrev Cx.caughtIn (X:Cx) (a:Addr):Cx:={ X with A:=X.A.mark (some (.ref a)),calm:=false,xe:=fun _ _=>False }
theorem Cx.Ok.caughtIn {X:Cx} (ok:X.Ok) (a:Addr):(Cx.caughtIn X a).Ok :=
  ⟨ok.mod,ok.kind,ok.glob,ok.blt,ok.above,ok.inj,ok.has,ok.cab,(fun z=>nomatch z),ok.frames,ok.stk,ok.exf,ok.bs,ok.bsz,ok.noex,ok.exfs,ok.funs,ok.frf⟩
theorem Inv.caughtIn {pins:List (Addr × Obj)} {σ:St} {H:Hp} {s:Shared} (I:Inv X pins σ H s) (a:Addr):Inv (Cx.caughtIn X a) pins σ H s:=⟨Cx.Ok.caughtIn I.ok a,I.os,I.bare,I.base,I.loc,I.cell,I.free,I.freeC,I.pin,I.hok,I.len⟩
theorem Inv.uncaught {pins:List (Addr × Obj)} {σ:St} {H:Hp} {s:Shared} {a:Addr} (ok:X.Ok) (I:Inv (Cx.caughtIn X a) pins σ H s):Inv X pins σ H s:=⟨ok,I.os,I.bare,I.base,I.loc,I.cell,I.free,I.freeC,I.pin,I.hok,I.len⟩
abbrev Cx.held (X:Cx) (pn:List (Addr × Obj)) (XE:Value -> Shared -> Prop):Cx:={ X with pn:=pn,xe:=XE }
theorem Inv.held {pins:List (Addr × Obj)} {σ:St} {H:Hp} {s:Shared} (I:Inv X pins σ H s) (XE:Value -> Shared -> Prop):Inv (Cx.held X (X.pn ++ pins) XE) [] σ H s:=by
  have ok:=I.ok
  exact ⟨⟨ok.mod,ok.kind,ok.glob,ok.blt,ok.above,ok.inj,ok.has,ok.cab,ok.hd,ok.frames,ok.stk,ok.exf,ok.bs,ok.bsz,ok.noex,ok.exfs,ok.funs,ok.frf⟩,I.os,I.bare,I.base,I.loc,I.cell,I.free,I.freeC,fun p hp=>I.pin p (by simpa using hp),I.hok,I.len⟩
theorem Inv.unheld {pins pins':List (Addr × Obj)} {σ:St} {H:Hp} {s:Shared} {XE:Value -> Shared -> Prop} (ok:X.Ok) (I:Inv (Cx.held X (X.pn ++ pins) XE) pins' σ H s):Inv X pins σ H s :=
  ⟨ok,I.os,I.bare,I.base,I.loc,I.cell,I.free,I.freeC,fun p hp=>I.pin p (List.mem_append_left _ hp),I.hok,I.len⟩
theorem vs_try (i:Nat) (hst:X.stack = X.env :: X.outer) (hfl:X.env.frame = some X.env.locals) (hN:X.N.Nodup) (hi:X.N[i]? = some n) (hn:X.env.scope.names.lookup n = some .local) (hmb:X.mg cb = some (.ref B))
    (hcs:∀ c ∈ cs,∀ C,W.nsIn X.K mainGlobals c = some (some (.ref C)) -> XOver X.K C B)
    (hb:∀ pn XE E,Passes (CXE X.prog X.w) (Cx.held X pn XE) E -> PSsE (Cx.held X pn XE) rl E [st] tb)
    (hs:∀ a:Addr,PSsV (Cx.caughtIn X a) rl (b₀ :: suite) ts) (hg:Gl X cb:=by rfl) (hdb:(cb == ("__debug__" : Str)) = false:=by decide) :
    PSV X rl (.Try [st] [.ExceptHandler (some (.Name cb np)) (some n) (b₀ :: suite) hpos] [] [] pos) (vTry i cs tb ts):=by
  refine ⟨fun D σ H=>∀ pins s,Inv X pins σ H s -> wpAny (model X.prog X.w) X.A (exec (.Try [st] [.ExceptHandler (some (.Name cb np)) (some n) (b₀ :: suite) hpos] [] [] pos) X.env) (SP X pins D) X.xe s,fun pins s σ H D I h=>h pins s I,fun {F₀ H₀ F H σ ρ} R Dv D ok q pins s I=>?_⟩
  refine wpAny_Try_except ?_
  generalize hXE:(fun e s₁=>wpAny (model X.prog X.w) X.A (noteFrame e X.env) (fun _ s₂=>wpAny (model X.prog X.w) X.A (setFlight e none) (fun _ s₃=>wpAny (model X.prog X.w) X.A (handleBy e X.env [.ExceptHandler (some (.Name cb np)) (some n) (b₀ :: suite) hpos]) (SP X pins D) X.xe s₃) X.xe s₂) X.xe s₁:Value -> Shared -> Prop) = XE
  have I':=Inv.held I XE
  generalize hQE:(fun c fs=>c ∈ cs /\ ts ⟨fun ρ'=>Dv.nx (ρ'.set i none),Dv.rt,fun _=>False,fun _=>False⟩ ((List.replicate ρ.length none).set i (some (.xc c fs))):XQ) = QE
  have q:tb Dv QE ρ:=by rw [<- hQE]; exact q
  let E:XK:=fun cls d H'=>∃ C dx F' us c fs,cls = .ref C /\ d = some dx /\ Grow rl F₀ H₀ F' H' /\ Same F F' /\ W.nsIn X.K mainGlobals c = some (some (.ref C)) /\ H' dx = some (.xd us) /\ H₀ dx = none /\ F' dx = none /\ KDs X.K F' us fs /\ QE c fs
  have pass:Passes (CXE X.prog X.w) (Cx.held X (X.pn ++ pins) XE) E:=by
    rintro pins2 σ2 H2 s2 e s' J ⟨a,C,dx,T,H',rfl,hos,bare,un,hok,air,na,nT,fa,fT,⟨C',dx',F',us,c,fs,eC,ed,g,smF,ns,hxd,hd0,fd0,kd,qe⟩⟩
    cases eC
    cases ed
    have okX:=I.ok
    have J0:Inv X pins σ2 H2 s2:=Inv.unheld okX J
    have J1:Inv X pins σ2 H' s':=J0.call' hos un hok bare (fun _ z=>nomatch z)
    have hfr:X.A.frames = some (X.env :: X.outer):=by rw [<- hst]; exact okX.frames
    have hst1:s'.heap.FunFrames X.base (X.env :: X.outer):=by rw [<- hst]; exact J1.stack
    show XE (.ref a) s'
    rw [<- hXE]
    refine noteX2 hfr hst1 hfl air fun h3 T' nT' air3 bt3=>flyX (s:={ s' with heap:=h3 }) air3 fun h4 air4 k4 t4=>?_
    rw [<- hst] at bt3
    have bt4:But (frs X.stack) [a,T,T'] s'.heap h4:=(bt3.more fun b z=>by simp at z; rcases z with z | z <;> simp [z]).trans ((fly_but k4 t4).more fun b z=>by simp at z; simp [z])
    have sT':s2.heap.get? T' = none:=by
      cases z:s2.heap.get? T' with
      | none=>rfl
      | some o=>obtain ⟨o',e'⟩:=un.there T' o z (fun y=>nomatch y); rw [nT'] at e'; cases e'
    have hT':H' T' = none:=by
      cases z:H' T' with
      | none=>rfl
      | some o=>obtain ⟨o',e'⟩:=objOk_there (hok T' o z); rw [nT'] at e'; cases e'
    have f1:∀ b ∈ [a,T,T'],s2.heap.get? b = none:=fun b z=>by
      simp at z
      rcases z with rfl | rfl | rfl
      · exact fa
      · exact fT
      · exact sT'
    have f2:∀ b ∈ [a,T,T'],H' b = none:=fun b z=>by
      simp at z
      rcases z with rfl | rfl | rfl
      · exact na
      · exact nT
      · exact hT'
    have J4:Inv X pins σ2 H' { s' with heap:=h4 }:=J0.call' hos (un_but un bt4 f1) (hok_but hok bt4 f2 J1.stkFree) bare (fun _ z=>nomatch z)
    have hq:c ∈ cs /\ ts ⟨fun ρ'=>Dv.nx (ρ'.set i none),Dv.rt,fun _=>False,fun _=>False⟩ ((List.replicate ρ.length none).set i (some (.xc c fs))):=by rw [<- hQE] at qe; exact qe
    obtain ⟨oe,vs,oT,tts,ea,ec,edx,ef,_⟩:=id air4
    refine wpAny_handleBy_cons (codeAny_handlers_test (ld_glob (Inv.caughtIn J4 a) hg hmb ?_ hdb)) (by intro z; cases z)
    refine excm_x J4.kIn (hcs c hq.1 C ns) ea ec ?_
    refine codeAny_handlers_suite_as (flyX (s:={ s' with heap:=h4 }) air4 fun h5 air5 k5 t5=>?_)
    have bt5:But (frs X.stack) [a,T,T'] s'.heap h5:=bt4.trans ((fly_but k5 t5).more fun b z=>by simp at z; simp [z])
    have J5:Inv X pins σ2 (upd H' a (.ext (ExcAt a C dx))) { s' with heap:=h5 } :=
      J0.call' hos (un_upd (un_but un bt5 f1) na fa) (hok_upd (hok_but hok bt5 f2 J1.stkFree) na (exc_ok air5)) bare (fun _ z=>nomatch z)
    have J6:Inv X pins (List.replicate σ2.length none) (upd H' a (.ext (ExcAt a C dx))) { s' with heap:=h5 }:=J5.weak (by simp) fun j v z=>by
      rw [List.getElem?_replicate] at z
      split at z <;> cases z
    refine store_ok J6 hN hi (.inl hn) (show RelV (.ref a) (.ref a) from rfl) (fun s7 J7=>?_) (.inr hn)
    obtain ⟨Ts,ps,ks⟩:=hs a
    have ned:dx ≠ a:=fun z=>by rw [z,na] at hxd; cases hxd
    have hla:H₀ a = none:=g.freeB na
    have Fa:F' a = none:=g.sub.free na
    have rld:rl ≠ some dx:=fun z=>by
      obtain ⟨_,⟨o2,e2,e3⟩⟩:=g.reel dx z
      rw [hxd] at e2
      cases e2
      exact ro_xd e3
    have g1:Grow rl F₀ H₀ (upd F' dx (.xd us)) H':=g.freeze hd0 hxd fd0 rld
    have g2:Grow rl F₀ H₀ (upd (upd F' dx (.xd us)) a (.ext (ExcAt a C dx))) (upd H' a (.ext (ExcAt a C dx))):=g1.trans (Grow.data g1.sub g1.reel na)
    have sm:Same F' (upd (upd F' dx (.xd us)) a (.ext (ExcAt a C dx))):=fun b o z=>by
      rw [upd_ne (ne_of_none z Fa),upd_ne (ne_of_none z fd0)]
      exact z
    have hlen : ρ.length = σ2.length:=by rw [R.len,I.len]; exact J0.len.symm
    have rx:RelW X.K rl (upd (upd F' dx (.xd us)) a (.ext (ExcAt a C dx))) (upd H' a (.ext (ExcAt a C dx))) (.ref a) (.xc c fs) :=
      ⟨a,dx,us,C,rfl,ns,upd_same,by rw [upd_ne ned,upd_same],Paired.mapP kd fun _ _ z=>⟨z.1,z.2.mono sm⟩⟩
    have R0:VR X.K rl F₀ H₀ (upd (upd F' dx (.xd us)) a (.ext (ExcAt a C dx))) (upd H' a (.ext (ExcAt a C dx))) (List.replicate σ2.length none) (List.replicate ρ.length none) :=
      ⟨g2,fun j w z=>(by rw [List.getElem?_replicate] at z; split at z <;> cases z),fun j k x y v _ z=>(by rw [List.getElem?_replicate] at z; split at z <;> cases z),fun j xs z=>(by rw [List.getElem?_replicate] at z; split at z <;> cases z),by simp [hlen]⟩
    have R7:=R0.set (Grow.refl R0.sub R0.reel) rx trivial (fun xs z=>nomatch z) i
    refine wpAny_mono (ps pins s7 _ _ ⟨fun σ' H6=>D.nx (σ'.set i none) H6,D.rt,fun _ _=>False,fun _ _=>False⟩ (Inv.caughtIn J7 a) (ks R7 ⟨fun ρ'=>Dv.nx (ρ'.set i none),Dv.rt,fun _=>False,fun _=>False⟩ _ ⟨fun F6 H6 σ6 ρ6 s6 R6 z=>ok.nx F6 H6 _ _ ((smF.trans sm).trans s6) (R6.unset i) z,ok.rt,fun _ _ _ _ _ _ z=>z,fun _ _ _ _ _ _ z=>z⟩ hq.2)) (fun fl s8 h8=>?_) fun _ _ z=>z.elim
    cases fl with
    | next =>
      obtain ⟨σ8,H8,J8,z⟩:=h8
      exact goes_ok (Inv.uncaught okX J8) hN hi hn fun s9 J9=>⟨_,H8,J9,z⟩
    | ret u =>
      obtain ⟨v,σ8,H8,J8,r8,z⟩:=h8
      exact goes_ok (Inv.uncaught okX J8) hN hi hn fun s9 J9=>⟨v,_,H8,J9,r8,z⟩
    | brk=>obtain ⟨_,_,_,z⟩:=h8; exact False.elim z
    | cont=>obtain ⟨_,_,_,z⟩:=h8; exact False.elim z
  obtain ⟨T',p',k'⟩:=hb (X.pn ++ pins) XE E pass
  refine wpAny_mono (p' [] s σ H D I' (k' R Dv D QE ok (fun c fs z C dx F' H' us g sm n hx hd fd kd=>⟨C,dx,F',us,c,fs,rfl,rfl,g,sm,n,hx,hd,fd,kd,z⟩) q)) (fun fl s1 h1=>?_) (fun e s1 z=>?_)
  · cases fl with
    | next =>
      obtain ⟨σ1,H1,J1,z⟩:=h1
      exact wpAny_execs_nil ⟨σ1,H1,Inv.unheld I.ok J1,z⟩
    | ret u =>
      obtain ⟨v,σ1,H1,J1,r1,z⟩:=h1
      exact ⟨v,σ1,H1,Inv.unheld I.ok J1,r1,z⟩
    | brk=>obtain ⟨σ1,H1,J1,z⟩:=h1; exact ⟨σ1,H1,Inv.unheld I.ok J1,z⟩
    | cont=>obtain ⟨σ1,H1,J1,z⟩:=h1; exact ⟨σ1,H1,Inv.unheld I.ok J1,z⟩
  · exact z
end
end L2.VL

namespace L2.VL
open PySem PySem.Spec PyProof.Rows
theorem kds_get {K:W.Frag} {F:Hp} {us:List (Str × V)} {fs:List (Str × PyData)} (r:KDs K F us fs) {n:Str} {d:PyData} (e:fs.lookup n = some d):∃ v,us.lookup n = some v /\ Rep K F v d:=by
  induction r with
  | nil=>cases e
  | @cons p q us fs h _ ih =>
    obtain ⟨k,v⟩:=p
    obtain ⟨k',d'⟩:=q
    obtain ⟨h1,h2⟩:=h
    dsimp only at h1 h2
    subst h1
    by_cases hk:(n == k) = true
    · simp only [List.lookup,hk] at e ⊢
      cases e
      exact ⟨v,rfl,h2⟩
    · simp only [List.lookup,Bool.not_eq_true _ ▸ hk] at e ⊢
      exact ih e
theorem xc_at {X:Cx} {pins:List (Addr × Obj)} {rl:Option Addr} {F₀ H₀ F H:Hp} {σ:St} {ρ:En} {s:Shared} {i:Nat} {c:Str} {fs:List (Str × PyData)} (I:Inv X pins σ H s) (R:VR X.K rl F₀ H₀ F H σ ρ) (e : ρ[i]? = some (some (.xc c fs))) :
    ∃ a dx us C,σ[i]? = some (some (.ref a)) /\ W.nsIn X.K mainGlobals c = some (some (.ref C)) /\ ExcAt a C dx s.heap /\ H dx = some (.xd us) /\ KDs X.K F us fs:=by
  obtain ⟨v,s1,⟨a,dx,us,C,ev,n,h1,h2,kd⟩,_⟩:=R.sl i _ e
  subst ev
  obtain ⟨z,_⟩:=(show ObjOk X.prog X.w H s.heap a (.ext (ExcAt a C dx)) from I.hok a _ (R.sub _ _ h1))
  exact ⟨a,dx,us,C,s1,n,z,R.sub _ _ h2,kd⟩
theorem exc_inst {P:Program} {w:World} {H:Hp} {h:Heap} {a C dx:Addr} {us:List (Str × V)} (z:ExcAt a C dx h) (ok:HOk P w H h) (e:H dx = some (.xd us)):∃ ox od,W.InstAt h a ox C (some od):=by
  obtain ⟨oe,vs,h1,h2,h3,h4⟩:=z
  obtain ⟨mA,⟨od,es,ep,ho,_⟩,_⟩:=(show ObjOk P w H h dx (.xd us) from ok dx _ e)
  exact ⟨oe,od,h1,h2,by unfold W.notCls; rw [h4],by rw [h3]; exact ho⟩
section
variable {X:Cx} {rl:Option Addr} {pos p p1:Pos} {c n x:Str}
def vXf (i:Nat) (c n:Str):TV:=fun ρ Q=>∃ fs d,ρ[i]? = some (some (.xc c fs)) /\ fs.lookup n = some d /\ Q (.d d)
theorem v_xfld (i:Nat) (hx:∀ C,W.nsIn X.K mainGlobals c = some (some (.ref C)) -> XCls X.K C /\ NoAttr X.K C n) (hN:X.N[i]? = some x:=by rfl) (hv:Vis X.env.scope x:=by first | exact Or.inl rfl | exact Or.inr (Or.inl rfl) | exact Or.inr (Or.inr rfl))
    (hd:(x == ("__debug__" : Str)) = false:=by decide) (hcd:(x == ("__classdict__" : Str)) = false:=by decide) (hb:attributeBase (.Name x p1) n X.env (eval (.Name x p1) X.env) = eval (.Name x p1) X.env:=by rfl) :
    PV X rl (.Attribute (.Name x p1) n pos) (vXf i c n):=by
  refine ⟨fun σ H Q=>∀ pins s,Inv X pins σ H s -> wpAny (model X.prog X.w) X.A (eval (.Attribute (.Name x p1) n pos) X.env) (EP X pins σ Q) X.xe s,fun pins s σ H Q I h=>h pins s I,fun {F₀ H₀ F H σ ρ} R Qd Q ⟨fs,d,e,l,q⟩ k pins s I=>?_⟩
  obtain ⟨v,s1,⟨a,dx,us,C,ev,ns,h1,h2,kd⟩,_⟩:=R.sl i _ e
  subst ev
  obtain ⟨xc,na⟩:=hx C ns
  obtain ⟨v,lv,rv⟩:=kds_get kd l
  refine attr_of hb (thn (pe_var hN hv hd hcd pins s σ H (fun y H1=>y = .ref a /\ H1 = H) I ⟨_,s1,rfl,rfl⟩) fun u s2 ⟨y,H1,I1,ry,ey,eH⟩=>?_)
  subst ey eH
  obtain rfl:u = Value.ref a:=ry
  obtain ⟨⟨oe,vs,z1,z2,z3,z4⟩,_⟩:=(show ObjOk X.prog X.w H1 s2.heap a (.ext (ExcAt a C dx)) from I1.hok a _ (R.sub _ _ h1))
  obtain ⟨mA,hns,hr⟩:=(show ObjOk X.prog X.w H1 s2.heap dx (.xd us) from I1.hok dx _ (R.sub _ _ h2))
  obtain ⟨u,hu,ru⟩:=RelO.some_of (v:=v) (o:=mA n) (by rw [<- lv]; exact hr n)
  exact get_x I1.kIn xc.xc xc.ga xc.gh na z1 z2 z3 z4 hns hu (handed_of ru) ⟨v,H1,I1.tok _,ru,k v (.d d) F H1 (Grow.refl R.sub R.reel) rv trivial q⟩
def vIsX (i:Nat) (c:Str) (b:Bool):TV:=fun ρ Q=>∃ fs,ρ[i]? = some (some (.xc c fs)) /\ Q (.d (.bool b))
theorem v_isx1 (i:Nat) {e2:Expr} {v:V} {u:Value} {b:Bool} (hm:X.mg "isinstance" = none) (hx:∀ C,W.nsIn X.K mainGlobals c = some (some (.ref C)) -> XCls X.K C /\ W.kitOne X.K (.ref C) u = some b) (h2:PE X e2 (tC v)) (hu:∀ u',RelV v u' -> u' = u)
    (hN:X.N[i]? = some x:=by rfl) (hv:Vis X.env.scope x:=by first | exact Or.inl rfl | exact Or.inr (Or.inl rfl) | exact Or.inr (Or.inr rfl)) (hd:(x == ("__debug__" : Str)) = false:=by decide) (hcd:(x == ("__classdict__" : Str)) = false:=by decide)
    (hg:Gl X "isinstance" := by rfl) (he:starEach [.Name x p1,e2] X.env = (false,eval (.Name x p1) X.env) :: starEach [e2] X.env:=by rfl) (he2:starEach [e2] X.env = (false,eval e2 X.env) :: starEach [] X.env:=by rfl) (hpl:(backTo pos (starEach [e2] X.env)).any (·.1) = false:=by rfl) :
    PV X rl (.Call (.Name "isinstance" p) [.Name x p1,e2] [] pos) (vIsX i c b):=by
  refine ⟨fun σ H Q=>∀ pins s,Inv X pins σ H s -> wpAny (model X.prog X.w) X.A (eval (.Call (.Name "isinstance" p) [.Name x p1,e2] [] pos) X.env) (EP X pins σ Q) X.xe s,fun pins s σ H Q I h=>h pins s I,fun {F₀ H₀ F H σ ρ} R Qd Q ⟨fs,e,q⟩ k pins s I=>?_⟩
  have pa:=pa_cons (pe_var (pos:=p1) hN hv hd hcd) (pa_cons h2 pa_nil he2) he
  obtain ⟨a,dx,us,C,s1,ns,z,ed,kd⟩:=xc_at I R e
  obtain ⟨xc,kit⟩:=hx C ns
  refine wpAny_Call_Name_kw (ld_blt I hg hm (show bootBuiltins "isinstance" = some (.builtin "isinstance") by rfl) ?_)
  refine PyProof.Rows.callWith_builtin1 (thn (pa pos pins s σ H (fun vs H1=>vs = [.ref a,v] /\ H1 = H) I ⟨_,s1,rfl,rfl⟩) fun us' s2 ⟨vs,H1,I1,r,ev,eH⟩=>?_) he hpl
  subst ev eH
  cases r with
  | cons r1 r2 =>
    cases r2 with
    | cons r2 r3 =>
      cases r3
      cases (show _ = Value.ref a from r1)
      cases hu _ r2
      obtain ⟨a',dx',us2,C',s1',ns',z',ed',kd'⟩:=xc_at I1 R e
      rw [s1] at s1'
      cases s1'
      rw [ns] at ns'
      cases ns'
      exact W.kia_one (kitx_x xc) I1.kIn (exc_inst z' I1.hok ed') kit (fun y=>nomatch y) fun tk=>⟨.bl b,H1,I1.tok tk,rfl,k (.bl b) (.d (.bool b)) F H1 (Grow.refl R.sub R.reel) (.bl b) trivial q⟩
theorem refs_of {Cs:List Addr}:∀ {l:List Value},Paired RelV (Cs.map V.ref) l -> l = Cs.map Value.ref:=by
  induction Cs with
  | nil=>intro l rv; cases rv; rfl
  | cons C0 Cs ih =>
    intro l rv
    cases rv with
    | cons r0 r' =>
      cases (show _ = Value.ref C0 from r0)
      rw [ih r']
      rfl
def tVs (vs:List V):TA:=fun _ H Q=>Q vs H
theorem pcs_nil:PA X [] (tVs []):=pa_nil
theorem pcs_cons {y:Str} {B:Addr} {es:List Expr} {vs:List V} {py:Pos} (hm:X.mg y = some (.ref B)) (h:PA X es (tVs vs)) (hg:Gl X y:=by rfl) (hd:(y == ("__debug__" : Str)) = false:=by decide) (hs:starEach (.Name y py :: es) X.env = (false,eval (.Name y py) X.env) :: starEach es X.env:=by rfl) :
    PA X (.Name y py :: es) (tVs (.ref B :: vs)):=pa_cons (pe_glob (v:=.ref B) hg hm rfl hd) h hs
theorem v_isxT (i:Nat) {es:List Expr} {Cs:List Addr} {b:Bool} {x1} {tpos:Pos} (hm:X.mg "isinstance" = none) (hx:∀ C,W.nsIn X.K mainGlobals c = some (some (.ref C)) -> XCls X.K C /\ W.kitAny X.K (.ref C) (Cs.map Value.ref) = some b) (h2:PA X es (tVs (Cs.map V.ref))) (hz:Cs.length <= sizeLine)
    (hN:X.N[i]? = some x:=by rfl) (hv:Vis X.env.scope x:=by first | exact Or.inl rfl | exact Or.inr (Or.inl rfl) | exact Or.inr (Or.inr rfl)) (hd:(x == ("__debug__" : Str)) = false:=by decide) (hcd:(x == ("__classdict__" : Str)) = false:=by decide)
    (hg:Gl X "isinstance" := by rfl) (he:starEach [.Name x p1,.Tuple es x1 tpos] X.env = (false,eval (.Name x p1) X.env) :: starEach [.Tuple es x1 tpos] X.env:=by rfl) (he2:starEach [.Tuple es x1 tpos] X.env = (false,eval (.Tuple es x1 tpos) X.env) :: starEach [] X.env:=by rfl) (hpl:(backTo pos (starEach [.Tuple es x1 tpos] X.env)).any (·.1) = false:=by rfl) :
    PV X rl (.Call (.Name "isinstance" p) [.Name x p1,.Tuple es x1 tpos] [] pos) (vIsX i c b):=by
  refine ⟨fun σ H Q=>∀ pins s,Inv X pins σ H s -> wpAny (model X.prog X.w) X.A (eval (.Call (.Name "isinstance" p) [.Name x p1,.Tuple es x1 tpos] [] pos) X.env) (EP X pins σ Q) X.xe s,fun pins s σ H Q I h=>h pins s I,fun {F₀ H₀ F H σ ρ} R Qd Q ⟨fs,e,q⟩ k pins s I=>?_⟩
  have pa:=pa_cons (pe_var (pos:=p1) hN hv hd hcd) (pa_cons (pe_tup (x1:=x1) (pos:=tpos) h2) pa_nil he2) he
  obtain ⟨a,dx,us,C,s1,ns,z,ed,kd⟩:=xc_at I R e
  obtain ⟨xc,kit⟩:=hx C ns
  refine wpAny_Call_Name_kw (ld_blt I hg hm (show bootBuiltins "isinstance" = some (.builtin "isinstance") by rfl) ?_)
  refine PyProof.Rows.callWith_builtin1 (thn (pa pos pins s σ H (fun vs H1=>∃ t,vs = [.ref a,.ref t] /\ H t = none /\ H1 = upd H t (.tup (Cs.map V.ref))) I ⟨_,s1,by rw [List.length_map]; exact hz,fun t ht=>⟨t,rfl,ht,rfl⟩⟩) fun us' s2 ⟨vs,H1,I1,r,t,ev,ht,eH⟩=>?_) he hpl
  subst ev eH
  have g1:Grow rl F H F (upd H t (.tup (Cs.map V.ref))):=Grow.laid R.sub R.reel ht
  cases r with
  | cons r1 r2 =>
    cases r2 with
    | cons r2 r3 =>
      cases r3
      cases (show _ = Value.ref a from r1)
      cases (show _ = Value.ref t from r2)
      obtain ⟨a',dx',us2,C',s1',ns',z',ed',kd'⟩:=xc_at I1 (R.grow g1) e
      rw [s1] at s1'
      cases s1'
      rw [ns] at ns'
      cases ns'
      obtain ⟨_,its,rv,⟨⟨oc,od,oda,osl⟩,t1,t2,⟨m,t3⟩,t4⟩⟩:=(show ObjOk X.prog X.w _ s2.heap t (.tup (Cs.map V.ref)) from I1.hok t _ upd_same)
      dsimp only at t2 t3 t4
      subst t2 t3 t4
      have ei:its = Cs.map Value.ref:=refs_of rv
      subst ei
      exact W.kia_tup (kitx_x xc) I1.kIn (exc_inst z' I1.hok ed') t1 kit (fun y=>nomatch y) fun tk=>⟨.bl b,_,I1.tok tk,rfl,k (.bl b) (.d (.bool b)) F _ g1 (.bl b) trivial q⟩
end
end L2.VL

namespace L2.VL
open PySem PySem.Spec PyProof.Rows
structure XCl (K:W.Frag) (mg:Str -> Option Value) (c n b qual:Str) (st:Stmt) (ps os:List Str):Prop where
  ex:∃ C B f fd Cs,W.nsIn K mainGlobals c = some (some (.ref C)) /\ mg c = some (.ref C) /\ mg b = some (.ref B) /\ XMk K C f /\ NoAttr K C n /\ XOver K C B /\ Fun K "__init__" qual st f fd /\ Binds K fd ps [] /\ Paired (fun x D=>mg x = some (.ref D)) os Cs /\
    W.kitAny K (.ref C) (Cs.map Value.ref) = some false /\ W.kitOne K (.ref C) (.ref C) = some true /\ W.kitOne K (.ref C) (.type "ValueError") = some true /\ mg "ValueError" = none
theorem XCl.one {P:Program} {w:World} {K:W.Frag} {mg:Str -> Option Value} {base:Heap} {c n b qual:Str} {st:Stmt} {ps os:List Str} (x:XCl K mg c n b qual st ps os) (hi:∀ f fd,Fun K "__init__" qual st f fd -> FnOk P w K mg base CX0 1 f fd ps (spI K n)):∃ C,XOne P w K mg base c n C:=by
  obtain ⟨C,B,f,fd,Cs,h1,h2,h3,h4,h5,h6,h7,h8,_⟩:=x.ex
  exact ⟨C,h1,h2,h5,f,fd,ps,h4,h8,hi f fd h7⟩
def xAll (K:W.Frag) (C B f:Addr) (n:Str) (Cs:List Addr):Bool :=
  xcIn K C && (W.findIn K (.ref C) "__setattr__" == some (some (.builtin "object.__setattr__"))) && (W.findIn K (.ref C) "__getattribute__" == some (some (.builtin "BaseException.__getattribute__"))) &&
  (W.findIn K (.ref C) "__getattr__" == some none) && (W.findIn K (.ref C) "__class__" == some (some (.builtin "object.__class__"))) && (W.specialIn K (.builtin "object.__class__") "__get__" == some (some (.builtin "getset_descriptor.__get__"))) &&
  (W.takesIn K (.builtin "object.__class__") == some true) && (W.mroIn K C (.type "object") == some true) && W.isFn K (.ref f) && W.keepIn K (.ref C) && (W.findIn K (.ref C) n == some none) &&
  (W.mroIn K C (.ref B) == some true) && (W.mroIn K B (.type "BaseException") == some true) && (W.typeIn K (.ref B) == some (.type "type")) &&
  (W.kitAny K (.ref C) (Cs.map Value.ref) == some false) && (W.kitOne K (.ref C) (.ref C) == some true) && (W.kitOne K (.ref C) (.type "ValueError") == some true)
theorem XCl.mk' {K:W.Frag} {mg:Str -> Option Value} {c n b qual:Str} {st:Stmt} {ps os:List Str} {C B f:Addr} {fd:FuncData} {Cs:List Addr} (h1:W.nsIn K mainGlobals c = some (some (.ref C))) (h2:mg c = some (.ref C)) (h3:mg b = some (.ref B))
    (hi:W.findIn K (.ref C) "__init__" = some (some (.ref f))) (hf:Fun K "__init__" qual st f fd) (hb:Binds K fd ps []) (ho:Paired (fun x D=>mg x = some (.ref D)) os Cs) (hv:mg "ValueError" = none) (hx:xAll K C B f n Cs = true):XCl K mg c n b qual st ps os:=by
  unfold xAll at hx
  simp only [Bool.and_eq_true,beq_iff_eq] at hx
  obtain ⟨⟨⟨⟨⟨⟨⟨⟨⟨⟨⟨⟨⟨⟨⟨⟨x1,x2⟩,x3⟩,x4⟩,x5⟩,x6⟩,x7⟩,x8⟩,x9⟩,x10⟩,x11⟩,x12⟩,x13⟩,x14⟩,x15⟩,x16⟩,x17⟩:=hx
  exact ⟨C,B,f,fd,Cs,h1,h2,h3,⟨⟨x1,x2,x3,x4,x5,x6,x7,x8⟩,hi,x9,x10⟩,x11,⟨x12,x13,x14⟩,hf,hb,ho,x15,x16,x17,hv⟩
theorem xif_t {f:TB} {x n:Str} {fs:TVs} {u:VEnds -> XQ -> En -> Prop} {D:VEnds} {R:XQ} {ρ:En} (d:PyData) (h:f ρ = VL.ret true) (hf:fs ρ = VL.ret [.d d]) (q:R x [(n,d)]):xIf f x n fs u D R ρ:=by
  show f ρ _
  rw [h]
  show fs ρ _
  rw [hf]
  exact ⟨d,rfl,q⟩
theorem xif_f {f:TB} {x n:Str} {fs:TVs} {u:VEnds -> XQ -> En -> Prop} {D:VEnds} {R:XQ} {ρ:En} (h:f ρ = VL.ret false) (q:u D R ρ):xIf f x n fs u D R ρ:=by
  show f ρ _
  rw [h]
  exact q
def toldP (c n:Str) (Pd:List W -> (PyData -> Prop) -> XQ -> Prop):List W -> (PyData -> Prop) -> Prop:=fun ws Q=>(∃ a b,ws = [.d a,.d b]) /\ Pd ws Q (fun c' fs=>c' = c /\ ∃ d,fs = [(n,d)] /\ Q (.tuple [.str "no", d]))
def toldT (c n:Str) (Pd:List W -> (PyData -> Prop) -> XQ -> Prop):TSv :=
  vSeq (vSet 2 (vC .none)) (vSeq (vTry 3 [c] (xSet 2 Pd (vCons (vVar 0) (vCons (vVar 1) vNil)))
    (vSeq (vSet 4 (vNotV (vIsX 3 c false))) (vSet 2 (vIf (vAnd (vTest (vIsX 3 c true)) (vAnd (vTest (vIsX 3 c true)) (vTest (vVar 4)))) (vTup (vCons (vC (.str "no")) (vCons (vXf 3 c n) vNil))) (vC (.str "other"))))))
    (vRet (vVar 2)))
theorem told_read {c n:Str} {Pd:List W -> (PyData -> Prop) -> XQ -> Prop} {N:List Str} (hN:N.length = 5) (mono:∀ ws Q Q' R R',(∀ d,Q d -> Q' d) -> (∀ c fs,R c fs -> R' c fs) -> Pd ws Q R -> Pd ws Q' R'):∀ ws Q,toldP c n Pd ws Q -> toldT c n Pd (vEnds Q) (startV N ws):=by
  rintro ws Q ⟨⟨a,b,rfl⟩,h⟩
  have es:startV N [.d a,.d b] = [some (.d a),some (.d b),none,none,none]:=by
    unfold startV
    rw [hN]
    rfl
  rw [es]
  refine ⟨rfl,?_⟩
  refine ⟨.d a,rfl,.d b,rfl,rfl,mono _ _ _ _ _ (fun d q=>⟨.d d,rfl,d,rfl,q⟩) (fun c' fs z=>?_) h⟩
  obtain ⟨rfl,d,rfl,q⟩:=z
  refine ⟨List.mem_singleton.mpr rfl,⟨_,rfl,false,rfl,rfl,?_⟩⟩
  refine ⟨_,rfl,true,rfl,⟨_,rfl,true,rfl,⟨.d (.bool true),rfl,true,rfl,?_⟩⟩⟩
  refine ⟨_,d,rfl,by simp [List.lookup],[.str "no", d],rfl,by rw [sizeLine_eq]; exact (by decide : 2 <= 16777216),rfl,⟨.d (.tuple [.str "no", d]),rfl,_,rfl,q⟩⟩
theorem toldP.mono {c n:Str} {Pd:List W -> (PyData -> Prop) -> XQ -> Prop} (mono:∀ ws Q Q' R R',(∀ d,Q d -> Q' d) -> (∀ c fs,R c fs -> R' c fs) -> Pd ws Q R -> Pd ws Q' R'):∀ ws Q Q',(∀ d,Q d -> Q' d) -> toldP c n Pd ws Q -> toldP c n Pd ws Q' :=
  fun ws Q Q' h ⟨e,q⟩=>⟨e,mono _ _ _ _ _ h (fun c' fs ⟨z,d,y,q⟩=>⟨z,d,y,h _ q⟩) q⟩
theorem toldP.len {c n:Str} {Pd:List W -> (PyData -> Prop) -> XQ -> Prop}:∀ ws Q,toldP c n Pd ws Q -> ws.length = 2:=fun ws Q ⟨⟨a,b,e⟩,_⟩=>by subst e; rfl
end L2.VL

namespace L2.VL
open PySem PySem.Spec PyProof.Rows
theorem Reps.put {K:W.Frag} {F:Hp} {vs:List V} {ds:List PyData} {v:V} {d:PyData} (k:Nat) (r:Reps K F vs ds) (h:Rep K F v d):Reps K F (vs.set k v) (ds.set k d):=by
  induction vs generalizing ds k with
  | nil=>cases r; exact .nil
  | cons x vs ih =>
    cases r with
    | cons r1 r2 =>
      cases k with
      | zero=>exact .cons h r2
      | succ k=>exact .cons r1 (ih k r2)
def vLput (i:Nat) (fx fv:TV):TSv:=fun D ρ=>fv ρ fun w=>∃ d,w.fz = .d d /\ ∃ xs,ρ[i]? = some (some (.ml xs)) /\ fx ρ fun wx=>∃ k:Int,wx = .d (.int k) /\ 0 <= k /\ k < (xs.length:Int) /\ D.nx (ρ.set i (some (.ml (xs.set k.toNat d))))
section
variable {X:Cx} {rl:Option Addr} {ei e:Expr} {fx fv:TV} {pos p1 pos':Pos} {ρ:En}
theorem vs_lput (i:Nat) {x:Str} (hx:PV X rl ei fx) (hv:PV X rl e fv) (hN:X.N[i]? = some x:=by rfl) (hvis:Vis X.env.scope x:=by first | exact Or.inl rfl | exact Or.inr (Or.inl rfl) | exact Or.inr (Or.inr rfl))
    (hd:(x == ("__debug__" : Str)) = false:=by decide) (hcd:(x == ("__classdict__" : Str)) = false:=by decide)
    (ha:∀ v,assign (.Subscript (.Name x p1) ei pos') X.env v = (do
      let ov <- holding [v] (eval (.Name x p1) X.env)
      let iv <- holding [v,ov] (eval ei X.env)
      standAt pos'
      holding [v,ov,iv] (setItem ov iv v)
      release [v,ov,iv] []):=by intro _; rfl)
    (hs:swapsWithSole [.Subscript (.Name x p1) ei pos'] e pos.line X.env = pure false:=by rfl) (hw:swappedStores [.Subscript (.Name x p1) ei pos'] e X.env = pure none:=by rfl)
    (h1:(assignEach [.Subscript (.Name x p1) ei pos'] X.env).map (·.2) = [assign (.Subscript (.Name x p1) ei pos') X.env]:=by rfl) :
    PSV X rl (.Assign [.Subscript (.Name x p1) ei pos'] e pos) (vLput i fx fv):=by
  obtain ⟨tv,pv,kv⟩:=hv
  obtain ⟨tx,px,kx⟩:=hx
  refine ⟨_,ps_asg pv (pg_sub (pe_var hN hvis hd hcd) px set_list ha) hs hw h1,fun {F₀ H₀ F H σ ρ} R Dv D ok q=>kv R _ _ q fun v w F1 H1 g1 r1 n1 ⟨d,ed,xs,e1,q1⟩=>?_⟩
  obtain ⟨F2,g2,s2,r2⟩:=RelW.fz g1 r1 n1
  rw [ed] at r2
  have R1:=R.grow g2
  obtain ⟨u,h1',h2,h3⟩:=R1.sl i _ e1
  obtain ⟨a,vs,rfl,f,hr,hh,rs⟩:=(show OwnL X.K rl F2 H1 u xs from h2)
  refine ⟨.ref a,h1',kx R1 _ _ q1 fun y wy F3 H3 g3 r3 n3 ⟨k,ek,k0,k1,q3⟩=>?_⟩
  subst ek
  have ey:=rep_int r3
  subst ey
  have R3:=R1.grow g3
  have vl:vs.length = xs.length:=rs.length
  refine ⟨a,vs,k,k.toNat,rfl,rfl,g3.same a _ hh hr,?_,ok.nx _ _ _ _ (g2.fs.trans g3.fs) (R3.own e1 h1' (Reps.put k.toNat (rs.mono g3.fs) (Rep.mono g3.fs r2))) q3⟩
  obtain ⟨n,rfl⟩:=Int.eq_ofNat_of_zero_le k0
  unfold ixN
  simp
  omega
theorem s_lput (i:Nat):mS (vLput i fx fv) ρ = bnd (fv ρ) fun w=>optM (asD w.fz) fun d=>optM (slM ρ i) fun xs=>bnd (fx ρ) fun wx=>optM (asI wx) fun k=>grd (0 <= k /\ k < (xs.length:Int)) (ret (.nx (ρ.set i (some (.ml (xs.set k.toNat d)))))):=by
  refine mo_ext fun Q=>?_
  simp only [mS,vLput,bnd,opt_iff,slM_of,asD_of,asI_of,grd,ret,and_assoc]
end
end L2.VL

namespace L2.VL
open PySem PySem.Spec PyProof.Rows
def fv (b:Int):List Int -> Rat
  | []=>0
  | d :: ds=>((d:Rat) + fv b ds) / (b:Rat)
def nv (b:Int):List Int -> Int
  | []=>0
  | d :: ds=>d + b * nv b ds
def tv (b:Int) (ds:List Int):Int:=ds.foldl (fun t d=>t * b + d) 0
def Fig (b:Int) (ds:List Int):Prop:=∀ d ∈ ds,0 <= d /\ d < b
theorem foldl_tv (b:Int):∀ (ds:List Int) (t:Int),ds.foldl (fun t d=>t * b + d) t = t * b ^ ds.length + tv b ds
  | [],t=>by simp [tv]
  | d :: ds,t=>by
    rw [List.foldl_cons,foldl_tv b ds (t * b + d),show tv b (d :: ds) = ds.foldl (fun t d=>t * b + d) (0 * b + d) from rfl,foldl_tv b ds (0 * b + d),List.length_cons,Int.pow_succ]
    grind
theorem tv_cons (b d:Int) (ds:List Int):tv b (d :: ds) = d * b ^ ds.length + tv b ds:=by
  rw [show tv b (d :: ds) = ds.foldl (fun t d=>t * b + d) (0 * b + d) from rfl,foldl_tv]; grind
theorem rat_ne {b:Int} (h : 0 < b):(b:Rat) ≠ 0:=by
  intro z
  have:b = 0:=by exact_mod_cast z
  omega
theorem tv_fv {b:Int} (hb : 2 <= b):∀ ds:List Int,qd (tv b ds) (b ^ ds.length) = fv b ds
  | []=>by rw [show tv b [] = 0 from rfl,List.length_nil,Int.pow_zero]; show ((0:Int):Rat) / ((1:Int):Rat) = 0; rw [Rat.div_def,show ((0:Int):Rat) = 0 from rfl,Rat.zero_mul]
  | d :: ds=>by
    have ih:=tv_fv hb ds
    have h1:=rat_ne (show 0 < b by omega)
    have h2:=rat_ne (show 0 < b ^ ds.length from Int.pow_pos (by omega))
    rw [tv_cons,fv,<- ih,List.length_cons,Int.pow_succ]
    unfold qd
    rw [Rat.intCast_add,Rat.intCast_mul,Rat.intCast_mul]
    grind
theorem tv_bd {b:Int} (hb : 2 <= b):∀ ds:List Int,Fig b ds -> 0 <= tv b ds /\ tv b ds < b ^ ds.length
  | [],_=>⟨Int.le_refl _,by simp [tv]⟩
  | d :: ds,h=>by
    obtain ⟨i1,i2⟩:=tv_bd hb ds fun x m=>h x (List.mem_cons_of_mem _ m)
    obtain ⟨j1,j2⟩:=h d List.mem_cons_self
    have hp : 0 < b ^ ds.length:=Int.pow_pos (by omega)
    rw [tv_cons,List.length_cons,Int.pow_succ,Int.mul_comm (b ^ ds.length) b]
    have h1 : 0 <= d * b ^ ds.length:=Int.mul_nonneg j1 (by omega)
    have h2:(d + 1) * b ^ ds.length <= b * b ^ ds.length:=Int.mul_le_mul_of_nonneg_right (by omega) (by omega)
    rw [Int.add_mul,Int.one_mul] at h2
    omega
def Xp (b t B:Int) (ds:List Int):Prop:=Fig b ds /\ t * b ^ ds.length = tv b ds * B
theorem Xp.nil {b t B:Int} (h:Xp b t B []):t = 0:=by
  have:=h.2
  simpa [tv] using this
theorem Xp.cons {b t B d:Int} {ds:List Int} (hb : 2 <= b) (hB : 0 < B) (h:Xp b t B (d :: ds)):(t * b) / B = d /\ Xp b (t * b % B) B ds:=by
  obtain ⟨f,e⟩:=h
  have fd:Fig b ds:=fun x m=>f x (List.mem_cons_of_mem _ m)
  obtain ⟨s0,s1⟩:=tv_bd hb ds fd
  rw [tv_cons,List.length_cons,Int.pow_succ] at e
  generalize hn:b ^ ds.length = n at *
  generalize hs:tv b ds = s at *
  have hn0 : 0 < n:=by rw [<- hn]; exact Int.pow_pos (by omega)
  have e1:n * (t * b - d * B) = s * B:=by grind
  have r0 : 0 <= t * b - d * B:=by
    by_cases z : 0 <= t * b - d * B
    · exact z
    · have:n * (t * b - d * B) < 0:=Int.mul_neg_of_pos_of_neg hn0 (by omega)
      have : 0 <= s * B:=Int.mul_nonneg s0 (by omega)
      omega
  have r1:t * b - d * B < B:=by
    have h1:s * B < n * B:=Int.mul_lt_mul_of_pos_right s1 hB
    exact Int.lt_of_mul_lt_mul_left (e1 ▸ h1) (by omega)
  have q:t * b / B = d:=by
    have:t * b = (t * b - d * B) + d * B:=by omega
    rw [this,Int.add_mul_ediv_right _ _ (by omega),Int.ediv_eq_zero_of_lt r0 r1,Int.zero_add]
  have q2:t * b % B = t * b - d * B:=by rw [Int.emod_def,q,Int.mul_comm B d]
  exact ⟨q,fd,by rw [q2,hn,hs,Int.mul_comm,e1]⟩
theorem tv0 {b:Int} (hb : 2 <= b):∀ ds:List Int,Fig b ds -> tv b ds = 0 -> ∀ d ∈ ds,d = 0
  | [],_,_,_,m=>nomatch m
  | d :: ds,h,e,x,m=>by
    have fd:Fig b ds:=fun x m=>h x (List.mem_cons_of_mem _ m)
    obtain ⟨s0,s1⟩:=tv_bd hb ds fd
    obtain ⟨j1,j2⟩:=h d List.mem_cons_self
    have hp : 0 < b ^ ds.length:=Int.pow_pos (by omega)
    rw [tv_cons] at e
    have hd:d = 0:=by
      by_cases z:d = 0
      · exact z
      · have : 0 < d * b ^ ds.length:=Int.mul_pos (by omega) hp
        omega
    subst hd
    rw [Int.zero_mul,Int.zero_add] at e
    rcases List.mem_cons.mp m with rfl | m
    · rfl
    · exact tv0 hb ds fd e x m
theorem Xp.zero {b B:Int} {ds:List Int} (hb : 2 <= b) (hB : 0 < B) (h:Xp b 0 B ds):∀ d ∈ ds,d = 0:=by
  have e:=h.2
  rw [Int.zero_mul] at e
  have:tv b ds = 0:=by
    rcases Int.mul_eq_zero.mp e.symm with z | z
    · exact z
    · omega
  exact tv0 hb ds h.1 this
def ix (p:List Int) (f:Int):Int:=(p.idxOf f:Int)
def dgs (b n:Int):List Int:=(digs b.toNat n.toNat).map fun (k:Nat)=>(k:Int)
theorem fig_dgs {b:Int} (hb : 2 <= b) (n:Int):Fig b (dgs b n):=by
  intro d m
  obtain ⟨k,mk,rfl⟩:=List.mem_map.mp m
  have:=digs_lt (b:=b.toNat) (by omega) _ k mk
  omega
theorem tv_snoc (b:Int) (ds:List Int) (d:Int):tv b (ds ++ [d]) = tv b ds * b + d:=by simp [tv]
theorem tv_rev (b:Int):∀ xs:List Int,tv b xs.reverse = nv b xs
  | []=>rfl
  | x :: xs=>by rw [List.reverse_cons,tv_snoc,tv_rev b xs,nv]; grind
theorem len_digs {b:Nat} (hb : 2 <= b):∀ (k n:Nat),n < b ^ k -> (digs b n).length <= k
  | k,n,h=>by
    by_cases hn : 0 < n
    · cases k with
      | zero=>simp at h; omega
      | succ k =>
        rw [digs_pos hb hn,List.length_cons]
        have:n / b < b ^ k:=by rw [Nat.div_lt_iff_lt_mul (by omega)]; rw [Nat.pow_succ] at h; exact h
        have:=len_digs hb k (n / b) this
        omega
    · have:n = 0:=by omega
      subst this
      rw [digs_zero]; simp
theorem len_dgs {b n:Int} {k:Nat} (hb : 2 <= b) (hn : 0 <= n) (h:n < b ^ k):(dgs b n).length <= k:=by
  unfold dgs
  rw [List.length_map]
  refine len_digs (by omega) k _ ?_
  have:((n.toNat:Nat):Int) < ((b.toNat ^ k:Nat):Int):=by
    rw [Int.toNat_of_nonneg hn,Int.natCast_pow,Int.toNat_of_nonneg (by omega)]; exact h
  exact_mod_cast this
def pad (b c:Int) (k:Nat):List Int:=dgs b c ++ List.replicate (k - (dgs b c).length) 0
theorem pad_len {b c:Int} {k:Nat} (hb : 2 <= b) (hc : 0 <= c) (h:c < b ^ k):(pad b c k).length = k:=by
  have:=len_dgs hb hc h
  simp [pad]; omega
theorem pad_fig {b c:Int} {k:Nat} (hb : 2 <= b):Fig b (pad b c k):=by
  intro d m
  rcases List.mem_append.mp m with m | m
  · exact fig_dgs hb c d m
  · rw [(List.mem_replicate.mp m).2]; omega
def exI (p:List Int) (a:Int):Int:=p.getD a.toNat 0
theorem exI_bd {b:Int} {p:List Int} (ex:IsEx b p) {a:Int} (h0 : 0 <= a) (h:a < b) : 0 <= exI p a /\ exI p a < b:=(getD_bd ex (show a.toNat < b.toNat by omega)).2
theorem php:∀ (l r:List Int),l.Nodup -> (∀ x ∈ l,x ∈ r) -> l.length <= r.length
  | [],r,_,_=>Nat.zero_le _
  | x :: l,r,nd,h=>by
    have hx:=h x List.mem_cons_self
    obtain ⟨n1,n2⟩:=List.nodup_cons.mp nd
    have:=php l (r.erase x) n2 fun y my=>(List.mem_erase_of_ne (a:=y) (b:=x) (fun z=>n1 (by rw [<- z]; exact my))).mpr (h y (List.mem_cons_of_mem _ my))
    rw [List.length_erase_of_mem hx] at this
    have:=List.length_pos_of_mem hx
    simp only [List.length_cons]
    omega
theorem mem_ex {b:Int} {p:List Int} (ex:IsEx b p) {f:Int} (h0 : 0 <= f) (h:f < b):f ∈ p:=by
  by_cases m:f ∈ p
  · exact m
  · have:=php (f :: p) (intR 0 b.toNat) (List.nodup_cons.mpr ⟨m,ex.nd⟩) fun x mx=>by
      rw [intR_mem]
      rcases List.mem_cons.mp mx with rfl | mx
      · omega
      · have:=ex.rng x mx; omega
    rw [intR_length,List.length_cons,ex.len] at this
    omega
theorem ix_bd {b:Int} {p:List Int} (ex:IsEx b p) {f:Int} (h0 : 0 <= f) (h:f < b) : 0 <= ix p f /\ ix p f < b:=by
  have:=List.idxOf_lt_length_of_mem (mem_ex ex h0 h)
  rw [ex.len] at this
  unfold ix
  omega
def turnF (b:Int) (p:List Int) (n:Int):Rat:=fv b ((dgs b n).map (exI p))
theorem fig_ex {b:Int} {p:List Int} (ex:IsEx b p) {ds:List Int} (f:Fig b ds):Fig b (ds.map (exI p)):=by
  intro d m
  obtain ⟨a,ma,rfl⟩:=List.mem_map.mp m
  exact exI_bd ex (f a ma).1 (f a ma).2
theorem fig_ix {b:Int} {p:List Int} (ex:IsEx b p) {ds:List Int} (f:Fig b ds):Fig b (ds.map (ix p)):=by
  intro d m
  obtain ⟨a,ma,rfl⟩:=List.mem_map.mp m
  exact ix_bd ex (f a ma).1 (f a ma).2
theorem nv_nn {b:Int} (hb : 2 <= b):∀ es:List Int,Fig b es -> 0 <= nv b es
  | [],_=>Int.le_refl _
  | e :: es,f=>by
    have h1:=nv_nn hb es fun x m=>f x (List.mem_cons_of_mem _ m)
    have h2:=(f e List.mem_cons_self).1
    have:=Int.mul_nonneg (show 0 <= b by omega) h1
    rw [nv]; omega
theorem nv_bd {b:Int} (hb : 2 <= b) (es:List Int) (f:Fig b es):nv b es < b ^ es.length:=by
  have:=(tv_bd hb es.reverse fun d m=>f d (List.mem_reverse.mp m)).2
  rwa [tv_rev,List.length_reverse] at this
theorem dgs_0 (b:Int):dgs b 0 = []:=by unfold dgs; rw [show (0:Int).toNat = 0 from rfl,digs_zero]; rfl
def Fx (b:Int) (N:Nat) (q:Rat):Prop:=∃ (T:Int) (k:Nat),q = qd T (b ^ k) /\ 0 <= T /\ T < b ^ k /\ b ^ k < 2 ^ N
theorem Fx.lt {b:Int} {N:Nat} {q:Rat} (hb : 2 <= b) (h:Fx b N q):q < 1:=by
  obtain ⟨T,k,rfl,h0,h1,_⟩:=h
  exact qd_lt1 (Int.pow_pos (by omega)) h1
theorem abs_lt {x:Int} {N:Nat} (h0 : 0 <= x) (h:x < 2 ^ N):x.natAbs < 2 ^ N:=by
  have:((x.natAbs:Nat):Int) < ((2 ^ N:Nat):Int):=by rw [Int.natAbs_of_nonneg h0]; exact_mod_cast h
  exact_mod_cast this
theorem Fx.sm {b:Int} {N:Nat} {q:Rat} (hb : 2 <= b) (h:Fx b N q):qSm N q:=by
  obtain ⟨T,k,rfl,h0,h1,h2⟩:=h
  have hp : 0 < b ^ k:=Int.pow_pos (by omega)
  exact qd_sm hp (abs_lt h0 (by omega)) (abs_lt (by omega) h2)
theorem Fx.mono {b:Int} {N M:Nat} {q:Rat} (h:Fx b N q) (hm:N <= M):Fx b M q:=by
  obtain ⟨T,k,e,h0,h1,h2⟩:=h
  exact ⟨T,k,e,h0,h1,Int.lt_of_lt_of_le h2 (pow_le_pow (by decide) hm)⟩
theorem Fx.turn {b:Int} {p:List Int} {n:Int} (hb : 2 <= b) (h16:b <= 16) (ex:IsEx b p) (h0 : 0 <= n) (h1:n <= 10 ^ 9 + 1):Fx b 40 (turnF b p n):=by
  have f:=fig_ex ex (fig_dgs hb n)
  obtain ⟨t0,t1⟩:=tv_bd hb _ f
  refine ⟨_,_,(tv_fv hb _).symm,t0,t1,?_⟩
  rw [List.length_map]
  by_cases hn : 0 < n
  · have h:=digs_pow (b:=b.toNat) (by omega) n.toNat (by omega)
    unfold dgs
    rw [List.length_map]
    have h':((b.toNat ^ (digs b.toNat n.toNat).length:Nat):Int) <= ((b.toNat * n.toNat:Nat):Int):=by exact_mod_cast h
    rw [Int.natCast_pow,Int.natCast_mul,Int.toNat_of_nonneg (by omega),Int.toNat_of_nonneg (by omega)] at h'
    have h3:b * n <= 16 * n:=Int.mul_le_mul_of_nonneg_right h16 h0
    omega
  · have:n = 0:=by omega
    subst this
    rw [dgs_0,List.length_nil,Int.pow_zero]; decide
end L2.VL

namespace L2.VL
open PySem PySem.Spec PyProof.Rows
def wbk (b:Int) (p:List Int) (k c:Int):Int:=nv b ((pad b c k.toNat).reverse.map (ix p))
theorem wbk_bd {b:Int} {p:List Int} {k c:Int} (hb : 2 <= b) (ex:IsEx b p) (h0 : 0 <= c) (h1:c < b ^ k.toNat) : 0 <= wbk b p k c /\ wbk b p k c < b ^ k.toNat:=by
  have f:=fig_ix ex (fun d m=>pad_fig (c:=c) (k:=k.toNat) hb d (List.mem_reverse.mp m))
  have:=nv_bd hb _ f
  rw [List.length_map,List.length_reverse,pad_len hb h0 h1] at this
  exact ⟨nv_nn hb _ f,this⟩
theorem mul_dvd_iff {M s y:Int} (c:Int.gcd M s = 1):M * s ∣ y ↔ M ∣ y /\ s ∣ y:=by
  constructor
  · intro h; exact ⟨Int.dvd_trans (Int.dvd_mul_right M s) h,Int.dvd_trans (Int.dvd_mul_left M s) h⟩
  · rintro ⟨h1,h2⟩
    have:=Nat.Coprime.mul_dvd_of_dvd_of_dvd (show Nat.Coprime M.natAbs s.natAbs from c) (Int.natAbs_dvd_natAbs.mpr h1) (Int.natAbs_dvd_natAbs.mpr h2)
    exact Int.natAbs_dvd_natAbs.mp (by rwa [Int.natAbs_mul])
theorem emod_iff {n s w:Int} (w0 : 0 <= w) (w1:w < s):s ∣ n - w ↔ n % s = w:=by
  rw [Int.dvd_iff_emod_eq_zero,<- Int.emod_eq_emod_iff_emod_sub_eq_zero,Int.emod_eq_of_lt w0 w1]
theorem crt_step {M s r w h:Int} (hM : 0 < M) (hs : 0 < s) (c:Int.gcd M s = 1) (r0 : 0 <= r) (r1:r < M) (w0 : 0 <= w) (w1:w < s) (hh:s ∣ M * h - 1) :
    0 <= r + M * ((w - r) * h % s) /\ r + M * ((w - r) * h % s) < M * s /\ ∀ n,M * s ∣ n - (r + M * ((w - r) * h % s)) ↔ M ∣ n - r /\ n % s = w:=by
  have x0 : 0 <= (w - r) * h % s:=Int.emod_nonneg _ (by omega)
  have x1:(w - r) * h % s < s:=Int.emod_lt_of_pos _ hs
  have dx:s ∣ (w - r) * h - (w - r) * h % s:=Int.dvd_self_sub_emod
  generalize (w - r) * h % s = x at *
  have m0 : 0 <= M * x:=Int.mul_nonneg (by omega) x0
  have m1:M * x <= M * (s - 1):=Int.mul_le_mul_of_nonneg_left (by omega) (by omega)
  have m2:M * (s - 1) = M * s - M:=by rw [Int.mul_sub,Int.mul_one]
  have dw:s ∣ r + M * x - w:=by
    obtain ⟨u,hu⟩:=dx
    obtain ⟨v,hv⟩:=hh
    refine ⟨(w - r) * v - M * u,?_⟩
    have hx:x = (w - r) * h - s * u:=by omega
    have hMh:M * h = 1 + s * v:=by omega
    have:M * x = (w - r) * (M * h) - M * s * u:=by rw [hx]; grind
    rw [hMh] at this
    rw [this]; grind
  refine ⟨by omega,by omega,fun n=>?_⟩
  rw [mul_dvd_iff c,<- emod_iff w0 w1]
  constructor
  · rintro ⟨a1,a2⟩
    refine ⟨?_,?_⟩
    · have:=Int.dvd_add a1 (Int.dvd_mul_right M x)
      rwa [show n - (r + M * x) + M * x = n - r by omega] at this
    · have:=Int.dvd_add a2 dw
      rwa [show n - (r + M * x) + (r + M * x - w) = n - w by omega] at this
  · rintro ⟨a1,a2⟩
    refine ⟨?_,?_⟩
    · have:=Int.dvd_sub a1 (Int.dvd_mul_right M x)
      rwa [show n - r - M * x = n - (r + M * x) by omega] at this
    · have:=Int.dvd_sub a2 dw
      rwa [show n - w - (r + M * x - w) = n - (r + M * x) by omega] at this
structure Iv (a m f h r d:Int):Prop where
  r0 : 0 < r
  d0 : 0 < d
  c:Int.gcd r d = 1
  hh:m ∣ a * h - r
  hf:m ∣ a * f - d
  sg:(0 <= h /\ f <= 0 /\ h * d - f * r = m) \/ (h <= 0 /\ 0 <= f /\ f * r - h * d = m)
theorem Iv.start {a m:Int} (ha : 0 < a) (hm : 0 < m) (c:Int.gcd a m = 1):Iv a m 0 1 a m:=⟨ha,hm,c,by simp,by simp,.inl ⟨by decide,by decide,by omega⟩⟩
theorem Iv.step {a m f h r d:Int} (i:Iv a m f h r d) (r1 : 1 < r):Iv a m h (f - d / r * h) (d - d / r * r) r /\ (d - d / r * r).toNat < r.toNat:=by
  obtain ⟨r0,d0,c,hh,hf,sg⟩:=i
  have e:d - d / r * r = d % r:=by rw [Int.emod_def,Int.mul_comm]
  have m0:=Int.emod_nonneg d (show r ≠ 0 by omega)
  have m1:=Int.emod_lt_of_pos d r0
  have q0 : 0 <= d / r:=Int.ediv_nonneg (by omega) (by omega)
  have c':Int.gcd (d % r) r = 1:=by
    rw [Int.gcd_comm,<- Int.fmod_eq_emod_of_nonneg d (show 0 <= r by omega),gcd_fmod,Int.gcd_comm]
    exact c
  have nz:d % r ≠ 0:=fun z=>by
    rw [z,Int.gcd_zero_left] at c'
    omega
  rw [e]
  have ed:d = d % r + d / r * r:=by omega
  refine ⟨⟨by omega,r0,c',?_,hh,?_⟩,by omega⟩
  · obtain ⟨u,hu⟩:=hh
    obtain ⟨v,hv⟩:=hf
    refine ⟨v - d / r * u,?_⟩
    rw [<- e]
    generalize d / r = q at *
    grind
  · rw [<- e]
    generalize d / r = q at *
    rcases sg with ⟨a1,a2,a3⟩ | ⟨a1,a2,a3⟩
    · right
      have:=Int.mul_nonneg q0 a1
      exact ⟨by omega,a1,by grind⟩
    · left
      have:=Int.mul_nonneg q0 (show 0 <= -h by omega)
      rw [Int.mul_neg] at this
      exact ⟨by omega,a1,by grind⟩
abbrev Pc:=(Int × List Int) × (Int × Int)
def stp (z:Pc):Int:=z.1.1 ^ z.2.1.toNat
def wz (z:Pc):Int:=wbk z.1.1 z.1.2 z.2.1 z.2.2
def prodS (zs:List Pc):Int:=zs.foldl (fun t z=>t * stp z) 1
structure PcOk (z:Pc):Prop where
  b2 : 2 <= z.1.1
  b16:z.1.1 <= 16
  ex:IsEx z.1.1 z.1.2
  k0 : 0 <= z.2.1
  k8:z.2.1 <= 8
  c0 : 0 <= z.2.2
  c1:z.2.2 < z.1.1 ^ z.2.1.toNat
theorem PcOk.st {z:Pc} (h:PcOk z) : 0 < stp z /\ stp z <= 2 ^ 32:=by
  refine ⟨Int.pow_pos (by have:=h.b2; omega),?_⟩
  have h1:stp z <= 16 ^ z.2.1.toNat:=pow_mono (by have:=h.b2; omega) h.b16 _
  have h2:(16:Int) ^ z.2.1.toNat <= 16 ^ 8:=pow_le_pow (by decide) (by have:=h.k8; omega)
  have h3:(16:Int) ^ 8 = 2 ^ 32:=by decide
  omega
theorem PcOk.w {z:Pc} (h:PcOk z) : 0 <= wz z /\ wz z < stp z:=wbk_bd h.b2 h.ex h.c0 h.c1
structure Ixs (zs:List Pc) (r M:Int):Prop where
  r0 : 0 <= r
  r1:r < M
  M1:M = prodS zs
  Mb:M <= 2 ^ (32 * zs.length)
  iff:∀ n,M ∣ n - r ↔ ∀ z ∈ zs,n % stp z = wz z
theorem Ixs.nil:Ixs [] 0 1:=⟨by decide,by decide,rfl,by decide,fun n=>by simp⟩
theorem gcd_pow {a b:Int} (h:Int.gcd a b = 1) (k:Nat):Int.gcd a (b ^ k) = 1:=by
  have:Nat.Coprime a.natAbs (b.natAbs ^ k):=Nat.Coprime.pow_right k h
  rw [Int.gcd,Int.natAbs_pow]; exact this
theorem Ixs.step {zs:List Pc} {r M h:Int} {z:Pc} (i:Ixs zs r M) (ok:PcOk z) (c:Int.gcd M (stp z) = 1) (hh:stp z ∣ M * h - 1):Ixs (zs ++ [z]) (r + M * ((wz z - r) * h % stp z)) (M * stp z):=by
  obtain ⟨s0,s1⟩:=ok.st
  obtain ⟨w0,w1⟩:=ok.w
  have M0 : 0 < M:=by have:=i.r0; have:=i.r1; omega
  obtain ⟨a0,a1,a2⟩:=crt_step M0 s0 c i.r0 i.r1 w0 w1 hh
  refine ⟨a0,a1,by rw [i.M1]; simp [prodS],?_,fun n=>?_⟩
  · rw [List.length_append,List.length_singleton,Nat.mul_add,Int.pow_add]
    exact Int.mul_le_mul i.Mb s1 (by omega) (Int.pow_nonneg (by decide))
  · rw [a2 n,i.iff n]
    simp only [List.mem_append,List.mem_singleton]
    constructor
    · rintro ⟨p,q⟩ y (hy | rfl)
      · exact p y hy
      · exact q
    · intro p
      exact ⟨fun y hy=>p y (.inl hy),p z (.inr rfl)⟩
def PcsOk (rows:List (Int × List Int)) (sm:List (Int × Int)):Prop:=IsRow rows /\ sm.length = rows.length /\ ∀ z ∈ rows.zip sm,PcOk z
theorem PcsOk.len {rows:List (Int × List Int)} {sm:List (Int × Int)} (h:PcsOk rows sm):(rows.zip sm).length = rows.length:=by rw [List.length_zip,h.2.1,Nat.min_self]
theorem PcsOk.co {rows:List (Int × List Int)} {sm:List (Int × Int)} (h:PcsOk rows sm) {i:Nat} (hi:i < (rows.zip sm).length):∀ z ∈ (rows.zip sm).take i,Int.gcd (stp z) (stp (rows.zip sm)[i]) = 1:=by
  intro z mz
  obtain ⟨j,hj,e⟩:=List.mem_iff_getElem.mp mz
  rw [List.length_take] at hj
  rw [List.getElem_take] at e
  have lr:=h.len
  have p:=List.pairwise_iff_getElem.mp h.1.co j i (by omega) (by omega) (by omega)
  subst e
  unfold stp
  rw [List.getElem_zip,List.getElem_zip]
  have:=gcd_pow p (sm[i]'(by have:=h.2.1; omega)).1.toNat
  rw [Int.gcd_comm] at this
  have:=gcd_pow this (sm[j]'(by have:=h.2.1; omega)).1.toNat
  rw [Int.gcd_comm]
  exact this
end L2.VL

namespace L2.VL
open PySem PySem.Spec
def sab:Nat -> Int -> Int -> Int -> Int -> Int × Int
  | 0,_,_,_,_=>(0,1)
  | n + 1,a,b,c,d=>if c <= (a / b + 1) * d then (a / b * (sab n d (c - a / b * d) b (a - a / b * b)).1 + (sab n d (c - a / b * d) b (a - a / b * b)).2,(sab n d (c - a / b * d) b (a - a / b * b)).1) else (a / b + 1,1)
structure Lh (a b c d:Int):Prop where
  a0 : 0 <= a
  b0 : 0 < b
  c0 : 0 < c
  d0 : 0 <= d
  lt:a * d < c * b
theorem Lh.step {a b c d:Int} (h:Lh a b c d) (hc:c <= (a / b + 1) * d):Lh d (c - a / b * d) b (a - a / b * b) /\ (c - a / b * d).toNat + (a - a / b * b).toNat < b.toNat + d.toNat:=by
  have w0 : 0 <= a / b:=Int.ediv_nonneg h.a0 (by have:=h.b0; omega)
  have eab:=Int.mul_ediv_add_emod a b
  have rab:=Int.emod_nonneg a (show b ≠ 0 by have:=h.b0; omega)
  have rab1:=Int.emod_lt_of_pos a h.b0
  have cab:=Int.mul_comm (a / b) b
  have m0 : 0 <= a - a / b * b:=by omega
  have m1:a - a / b * b < b:=by omega
  generalize a / b = w at *
  have b0:=h.b0
  have e1:(w + 1) * d = w * d + d:=by rw [Int.add_mul,Int.one_mul]
  have lb : 0 < c - w * d:=by
    rcases Int.lt_or_le 0 (c - w * d) with z | z
    · exact z
    · exfalso
      have h1:c * b <= w * d * b:=Int.mul_le_mul_of_nonneg_right (by omega) (by omega)
      have h2:w * b * d <= a * d:=Int.mul_le_mul_of_nonneg_right (by omega) h.d0
      have e:w * d * b = w * b * d:=by grind
      have:=h.lt
      omega
  refine ⟨⟨h.d0,lb,b0,m0,?_⟩,by omega⟩
  have e2:d * (a - w * b) = a * d - w * b * d:=by grind
  have e3:b * (c - w * d) = c * b - w * b * d:=by grind
  have:=h.lt
  omega
structure Sp (a b c d p q k m:Int):Prop where
  q0 : 0 < q
  p0 : 0 < p
  lo:a * q < p * b
  hi:p * d < c * q
  det:p * m - k * q = 1
  k0 : 0 <= k
  m0 : 0 < m
  mq:m <= q
  left:k * b <= a * m
  right:c * (q - m) <= (p - k) * d
theorem Sp.base {a b c d:Int} (h:Lh a b c d) (hc:¬ c <= (a / b + 1) * d):Sp a b c d (a / b + 1) 1 (a / b) 1:=by
  have w0 : 0 <= a / b:=Int.ediv_nonneg h.a0 (by have:=h.b0; omega)
  have e:=Int.mul_ediv_add_emod a b
  have r0:=Int.emod_nonneg a (show b ≠ 0 by have:=h.b0; omega)
  have r1:=Int.emod_lt_of_pos a h.b0
  generalize a / b = w at *
  have e1:(w + 1) * b = b * w + b:=by grind
  have e2:w * b = b * w:=Int.mul_comm _ _
  exact ⟨by decide,by omega,by rw [Int.mul_one]; omega,by rw [Int.mul_one]; omega,by grind,w0,by decide,by decide,by rw [Int.mul_one]; omega,by rw [Int.sub_self,Int.mul_zero]; exact Int.mul_nonneg (by omega) h.d0⟩
theorem Sp.step {a b c d w p q k m:Int} (w0 : 0 <= w) (h:Sp d (c - w * d) b (a - w * b) p q k m):Sp a b c d (w * p + q) p (w * (p - k) + (q - m)) (p - k):=by
  obtain ⟨q0,p0,lo,hi,det,k0,m0,mq,left,right⟩:=h
  have kp : 0 < p - k:=by
    rcases Int.lt_or_le 0 (p - k) with z | z
    · exact z
    · exfalso
      have h1:p * q <= k * q:=Int.mul_le_mul_of_nonneg_right (by omega) (by omega)
      have h2:p * m <= p * q:=Int.mul_le_mul_of_nonneg_left mq (by omega)
      omega
  refine ⟨p0,?_,?_,?_,?_,?_,kp,by omega,?_,?_⟩
  · have:=Int.mul_nonneg w0 (show 0 <= p by omega); omega
  · have e:(w * p + q) * b - a * p = b * q - p * (a - w * b):=by grind
    omega
  · have e:c * p - (w * p + q) * d = p * (c - w * d) - d * q:=by grind
    omega
  · have e:(w * p + q) * (p - k) - (w * (p - k) + (q - m)) * p = p * m - k * q:=by grind
    rw [e]; exact det
  · have:=Int.mul_nonneg w0 (show 0 <= p - k by omega); omega
  · have e:a * (p - k) - (w * (p - k) + (q - m)) * b = (p - k) * (a - w * b) - b * (q - m):=by grind
    omega
  · have e:(w * p + q - (w * (p - k) + (q - m))) * d - c * (p - (p - k)) = d * m - k * (c - w * d):=by grind
    omega
theorem sab_ok:∀ (n:Nat) (a b c d:Int),Lh a b c d -> b.toNat + d.toNat < n -> ∃ k m,Sp a b c d (sab n a b c d).1 (sab n a b c d).2 k m
  | 0,a,b,c,d,_,hn=>by omega
  | n + 1,a,b,c,d,h,hn=>by
    unfold sab
    by_cases hc:c <= (a / b + 1) * d
    · rw [if_pos hc]
      obtain ⟨h',hm⟩:=h.step hc
      obtain ⟨k,m,s⟩:=sab_ok n d (c - a / b * d) b (a - a / b * b) h' (by omega)
      exact ⟨_,_,s.step (Int.ediv_nonneg h.a0 (by have:=h.b0; omega))⟩
    · rw [if_neg hc]
      exact ⟨_,_,.base h hc⟩
theorem sab_fuel:∀ (n m:Nat) (a b c d:Int),Lh a b c d -> b.toNat + d.toNat < n -> b.toNat + d.toNat < m -> sab n a b c d = sab m a b c d
  | 0,_,_,_,_,_,_,hn,_=>by omega
  | _,0,_,_,_,_,_,_,hm=>by omega
  | n + 1,m + 1,a,b,c,d,h,hn,hm=>by
    unfold sab
    by_cases hc:c <= (a / b + 1) * d
    · obtain ⟨h',hm'⟩:=h.step hc
      rw [if_pos hc,if_pos hc,sab_fuel n m _ _ _ _ h' (by omega) (by omega)]
    · rw [if_neg hc,if_neg hc]
def sabF (a b c d:Int):Int × Int:=sab (b.toNat + d.toNat + 1) a b c d
theorem sabF_step {a b c d:Int} (h:Lh a b c d) (hc:c <= (a / b + 1) * d):sabF a b c d = (a / b * (sabF d (c - a / b * d) b (a - a / b * b)).1 + (sabF d (c - a / b * d) b (a - a / b * b)).2,(sabF d (c - a / b * d) b (a - a / b * b)).1):=by
  obtain ⟨h',hm⟩:=h.step hc
  unfold sabF
  rw [sab,if_pos hc,sab_fuel (b.toNat + d.toNat) _ _ _ _ _ h' (by omega) (show _ < (c - a / b * d).toNat + (a - a / b * b).toNat + 1 by omega)]
theorem sabF_end {a b c d:Int} (hc:¬ c <= (a / b + 1) * d):sabF a b c d = (a / b + 1,1):=by
  unfold sabF
  rw [sab,if_neg hc]
def puts (ws:List Int) (r:Int × Int):Int × Int:=ws.foldr (fun w r=>(w * r.1 + r.2,r.1)) r
theorem puts_snoc (ws:List Int) (w:Int) (r:Int × Int):puts (ws ++ [w]) r = puts ws (w * r.1 + r.2,r.1):=by unfold puts; rw [List.foldr_append]; rfl
def smp (a b c d:Int):Int × Int:=if a < 0 /\ 0 < c then (0,1) else if a < 0 then (-(sabF (-c) d (-a) b).1,(sabF (-c) d (-a) b).2) else sabF a b c d
structure Fin (a b c d p q:Int):Prop where
  q0 : 0 < q
  lo:a * q < p * b
  hi:p * d < c * q
  one:q = 1 -> p = 0 \/ (0 < p /\ (p - 1) * b <= a) \/ (p < 0 /\ c <= (p + 1) * d)
  more : 1 < q -> ∃ k m,p * m - k * q = 1 /\ 0 < m /\ m < q /\ k * b <= a * m /\ c * (q - m) <= (p - k) * d
theorem Sp.fin {a b c d p q k m:Int} (h:Sp a b c d p q k m):Fin a b c d p q:=by
  refine ⟨h.q0,h.lo,h.hi,fun e=>.inr (.inl ⟨h.p0,?_⟩),fun hq=>⟨k,m,h.det,h.m0,?_,h.left,h.right⟩⟩
  · subst e
    have m1:m = 1:=by have:=h.m0; have:=h.mq; omega
    subst m1
    have k1:k = p - 1:=by have:=h.det; omega
    have:=h.left
    rw [k1] at this
    omega
  · rcases Int.lt_or_le m q with z | z
    · exact z
    · exfalso
      have e:m = q:=by have:=h.mq; omega
      have:=h.det
      rw [e] at this
      have e2:(p - k) * q = 1:=by rw [Int.sub_mul]; exact this
      have pk : 0 < p - k:=by
        rcases Int.lt_or_le 0 (p - k) with z | z
        · exact z
        · have:=Int.mul_le_mul_of_nonneg_right z (show 0 <= q by omega); omega
      have:=Int.mul_le_mul_of_nonneg_right (show 1 <= p - k by omega) (show 0 <= q by omega)
      omega
theorem smp_fin {a b c d:Int} (hb : 0 < b) (hd : 0 < d) (h:a * d < c * b):Fin a b c d (smp a b c d).1 (smp a b c d).2:=by
  unfold smp
  by_cases h1:a < 0 /\ 0 < c
  · rw [if_pos h1]
    exact ⟨by decide,by show a * 1 < 0 * b; omega,by show 0 * d < c * 1; omega,fun _=>.inl rfl,fun z=>absurd z (by decide)⟩
  · rw [if_neg h1]
    by_cases h2:a < 0
    · rw [if_pos h2]
      have c0:c <= 0:=by omega
      have lh:Lh (-c) d (-a) b:=⟨by omega,hd,by omega,by omega,by rw [Int.neg_mul,Int.neg_mul]; omega⟩
      obtain ⟨k,m,s⟩:=sab_ok (d.toNat + b.toNat + 1) _ _ _ _ lh (by omega)
      have s:Sp (-c) d (-a) b (sabF (-c) d (-a) b).1 (sabF (-c) d (-a) b).2 k m:=s
      generalize (sabF (-c) d (-a) b).1 = p at *
      generalize (sabF (-c) d (-a) b).2 = q at *
      have f:=s.fin
      refine ⟨s.q0,?_,?_,fun e=>.inr (.inr ⟨?_,?_⟩),fun hq=>?_⟩
      · have:=s.hi; show a * q < -p * b; rw [Int.neg_mul] at *; omega
      · have:=s.lo; show -p * d < c * q; rw [Int.neg_mul] at *; omega
      · have:=s.p0; show -p < 0; omega
      · show c <= (-p + 1) * d
        rcases f.one e with z | ⟨_,z⟩ | ⟨z,_⟩
        · have:=s.p0; omega
        · have e:(-p + 1) * d = -((p - 1) * d):=by grind
          omega
        · have:=s.p0; omega
      · obtain ⟨k,m,e1,m0,mq,l,r⟩:=f.more hq
        refine ⟨k - p,q - m,?_,by show 0 < q - m; omega,by show q - m < q; omega,?_,?_⟩
        · show -p * (q - m) - (k - p) * q = 1
          have e : -p * (q - m) - (k - p) * q = p * m - k * q:=by grind
          omega
        · show (k - p) * b <= a * (q - m)
          have e:(k - p) * b = -((p - k) * b):=by grind
          have e2 : -a * (q - m) = -(a * (q - m)):=Int.neg_mul ..
          omega
        · show c * (q - (q - m)) <= (-p - (k - p)) * d
          have e:(-p - (k - p)) * d = -(k * d):=by grind
          have e2:c * (q - (q - m)) = -(-c * m):=by grind
          omega
    · rw [if_neg h2]
      have lh:Lh a b c d:=⟨by omega,hb,?_,by omega,h⟩
      · obtain ⟨k,m,s⟩:=sab_ok (b.toNat + d.toNat + 1) _ _ _ _ lh (by omega)
        exact Sp.fin (k:=k) (m:=m) s
      · rcases Int.lt_or_le 0 c with z | z
        · exact z
        · exfalso
          have h3:c * b <= 0:=Int.mul_nonpos_of_nonpos_of_nonneg z (by omega)
          have h4 : 0 <= a * d:=Int.mul_nonneg (by omega) (by omega)
          omega
theorem Fin.gcd {a b c d p q:Int} (h:Fin a b c d p q):Int.gcd p q = 1:=by
  rcases Int.lt_or_le 1 q with z | z
  · obtain ⟨k,m,e,_⟩:=h.more z
    have h1:(Int.gcd p q:Int) ∣ 1:=by
      rw [<- e]
      exact Int.dvd_sub (Int.dvd_trans (Int.gcd_dvd_left ..) (Int.dvd_mul_right ..)) (Int.dvd_trans (Int.gcd_dvd_right ..) (Int.dvd_mul_left ..))
    have:=Int.le_of_dvd (by decide) h1
    have g0:Int.gcd p q ≠ 0:=by
      intro g
      rw [g] at h1
      have:=Int.zero_dvd.mp h1
      omega
    omega
  · have:q = 1:=by have:=h.q0; omega
    rw [this,Int.gcd_one_right]
theorem cop_dvd {p q x:Int} (g:Int.gcd p q = 1) (h:q ∣ p * x):q ∣ x:=by
  have hn:q.natAbs ∣ p.natAbs * x.natAbs:=by rw [<- Int.natAbs_mul]; exact Int.natAbs_dvd_natAbs.mpr h
  have:=Nat.Coprime.dvd_of_dvd_mul_left (k:=q.natAbs) (m:=p.natAbs) (n:=x.natAbs) (by show Nat.gcd q.natAbs p.natAbs = 1; rw [Nat.gcd_comm]; exact g) hn
  exact Int.natAbs_dvd_natAbs.mp this
theorem inv_uniq {p q m m':Int} (g:Int.gcd p q = 1) (h0 : 0 <= m) (h1:m < q) (h0' : 0 <= m') (h1':m' < q) (e:q ∣ p * m - 1) (e':q ∣ p * m' - 1):m = m':=by
  have h:q ∣ p * (m - m'):=by
    have:=Int.dvd_sub e e'
    have e3:p * m - 1 - (p * m' - 1) = p * (m - m'):=by grind
    rwa [e3] at this
  have h2:q ∣ m - m':=(cop_dvd g h)
  obtain ⟨t,ht⟩:=h2
  rcases Int.lt_trichotomy t 0 with z | z | z
  · have:q * t <= q * (-1):=Int.mul_le_mul_of_nonneg_left (by omega) (by omega)
    omega
  · rw [z] at ht; omega
  · have:q * 1 <= q * t:=Int.mul_le_mul_of_nonneg_left (by omega) (by omega)
    omega
theorem fr_low {p q:Int} (hq : 0 < q) (g:Int.gcd p q = 1):fr (qd p q) = .tuple [.int p,.int q]:=by
  rw [<- low_qd hq,g]
  simp
end L2.VL
namespace L2.VL
open PySem PySem.Spec
theorem Fin.bd {a b c d p q:Int} (h:Fin a b c d p q) (hb : 0 < b) (hd : 0 < d):q <= b + d:=by
  rcases Int.lt_or_le 1 q with z | z
  · obtain ⟨k,m,e,m0,mq,l,r⟩:=h.more z
    have h1:m <= b:=by
      have e1:b = m * (p * b - a * q) + q * (a * m - k * b):=by
        have:b = b * (p * m - k * q):=by rw [e,Int.mul_one]
        grind
      have u1:m * 1 <= m * (p * b - a * q):=Int.mul_le_mul_of_nonneg_left (by have:=h.lo; omega) (by omega)
      have u2 : 0 <= q * (a * m - k * b):=Int.mul_nonneg (by omega) (by omega)
      omega
    have h2:q - m <= d:=by
      have e1:d = (q - m) * (c * q - p * d) + q * ((p - k) * d - c * (q - m)):=by
        have:d = d * (p * m - k * q):=by rw [e,Int.mul_one]
        grind
      have u1:(q - m) * 1 <= (q - m) * (c * q - p * d):=Int.mul_le_mul_of_nonneg_left (by have:=h.hi; omega) (by omega)
      have u2 : 0 <= q * ((p - k) * d - c * (q - m)):=Int.mul_nonneg (by omega) (by omega)
      omega
    omega
  · omega
theorem Fin.pb {a b c d p q:Int} {N:Nat} (h:Fin a b c d p q) (hb : 0 < b) (hd : 0 < d) (ha:a.natAbs < 2 ^ N) (hc:c.natAbs < 2 ^ N) (hq:q < 2 ^ N):p.natAbs < 2 ^ (N + N):=by
  have q0:=h.q0
  have h1:p * d < c * q:=h.hi
  have h2:a * q < p * b:=h.lo
  have hp:(2:Int) ^ (N + N) = 2 ^ N * 2 ^ N:=Int.pow_add ..
  have hN:(0:Int) < 2 ^ N:=Int.pow_pos (by decide)
  have A : -(2 ^ N:Int) < a /\ a < 2 ^ N:=by
    have:((a.natAbs:Nat):Int) < (2:Int) ^ N:=by exact_mod_cast ha
    omega
  have C : -(2 ^ N:Int) < c /\ c < 2 ^ N:=by
    have:((c.natAbs:Nat):Int) < (2:Int) ^ N:=by exact_mod_cast hc
    omega
  have u1:c * q <= 2 ^ N * q:=Int.mul_le_mul_of_nonneg_right (by omega) (by omega)
  have u2:(2 ^ N:Int) * q <= 2 ^ N * 2 ^ N:=Int.mul_le_mul_of_nonneg_left (by omega) (by omega)
  have u3 : -(2 ^ N) * q <= a * q:=Int.mul_le_mul_of_nonneg_right (by omega) (by omega)
  have u4:(-(2 ^ N):Int) * q = -(2 ^ N * q):=Int.neg_mul ..
  have up:p < 2 ^ N * 2 ^ N:=by
    rcases Int.lt_or_le p (2 ^ N * 2 ^ N) with z | z
    · exact z
    · exfalso
      have:p * 1 <= p * d:=Int.mul_le_mul_of_nonneg_left (by omega) (by have:=Int.mul_pos hN hN; omega)
      omega
  have dn : -(2 ^ N * 2 ^ N) < p:=by
    rcases Int.lt_or_le (-(2 ^ N * 2 ^ N)) p with z | z
    · exact z
    · exfalso
      have:p * b <= p * 1:=Int.mul_le_mul_of_nonpos_left (by have:=Int.mul_pos hN hN; omega) (by omega)
      omega
  have:((p.natAbs:Nat):Int) < (2:Int) ^ (N + N):=by rw [hp]; omega
  exact_mod_cast this
end L2.VL

namespace L2.TI
open PySem PySem.Spec PyProof.Rows
section
variable {prog:Program} {w:World} {A:Around} {E:Value -> Shared -> Prop} {s:Shared} {t:Addr} {vs:List Value} {ns:List Int} {k:Int} {tok:Tok} {j:Nat}
theorem ints_at:∀ {vs:List Value} {ns:List Int} {i:Nat} {n:Int},IntsAre vs ns -> ns[i]? = some n -> ∃ u,vs[i]? = some (.int n u)
  | _,_,_,_,.nil,e=>by simp at e
  | _,_,0,_,.cons n t r,e=>by simp at e; subst e; exact ⟨t,rfl⟩
  | _,_,i + 1,_,.cons n t r,e=>by
    obtain ⟨u,h⟩:=ints_at (i:=i) r (by simpa using e)
    exact ⟨u,by simpa using h⟩
theorem scan {Q:Option Fin × Unit -> Shared -> Prop} (hI:IntsAre vs ns) (hj:ns[j]? = some k) (hno:∀ m,m < j -> ns[m]? ≠ some k) (q:Q (some (.done (.ret (.int j s.toks))),()) { s with toks:=s.toks + 1 }) :
    ∀ len start:Nat,start <= j -> j < start + len -> wpAny (model prog w) A (forIn (List.range' start len) ((none,()):Option Fin × Unit) fun (i:Nat) (_:Option Fin × Unit) =>
      match vs.toArray[i]? with
      | some y=>do
        let b <- eqBool y (Value.int k tok)
        if b = true then do
          let r <- retInt (i:Int)
          pure (ForInStep.done (some r,()))
        else pure (ForInStep.yield (none,()))
      | _=>pure (ForInStep.yield (none,()))) Q E s
  | 0,start,h1,h2=>by omega
  | len + 1,start,h1,h2=>by
    rw [List.range'_succ,List.forIn_cons]
    have hl:start < ns.length:=by have:=(List.getElem?_eq_some_iff.mp hj).1; omega
    obtain ⟨u,hu⟩:=ints_at (i:=start) (n:=ns[start]) hI (List.getElem?_eq_getElem hl)
    have hv:vs.toArray[start]? = some (.int ns[start] u):=by simpa using hu
    refine wpAny_bind ?_
    rw [hv]
    refine wpAny_bind (wpAny_eqBool_int ?_)
    by_cases e:ns[start] = k
    · have es:start = j:=by
        rcases Nat.lt_or_eq_of_le h1 with z | z
        · exact absurd (by rw [List.getElem?_eq_getElem hl,e]) (hno start z)
        · exact z
      subst es
      rw [if_pos (by simpa using e)]
      exact wpAny_bind (wpAny_bind (wpAny_mkInt (wpAny_pure (wpAny_pure (wpAny_pure q)))))
    · rw [if_neg (by simpa using e)]
      refine wpAny_pure ?_
      have ne:start ≠ j:=fun z=>by subst z; rw [List.getElem?_eq_getElem hl] at hj; exact e (Option.some.inj hj)
      exact scan hI hj hno q len (start + 1) (by omega) (by omega)
theorem body {R:Result -> Shared -> Prop} (tp:IsTup s.heap t vs.toArray) (hI:IntsAre vs ns) (hj:ns[j]? = some k) (hno:∀ m,m < j -> ns[m]? ≠ some k)
    (q:R (.ok (.ret (.int j s.toks))) { s with toks:=s.toks + 1 }) :
    wpAny (model prog w) A.in1 (Builtin.«tuple.index» ⟨[.ref t,.int k tok],[]⟩) (fun fin s'=>match fin with | .done f=>R (.ok f) s' | .again c'=>c'.quiet = true /\ codeAny (model prog w) A c' R s') (fun e s'=>R (.error e) s') s:=by
  unfold Builtin.«tuple.index»
  show wpAny _ _ (do let z <- Builtin.Tuple.tupleItemsOf (.ref t); _) _ _ s
  refine wpAny_bind (tupleItemsOf_ tp ?_)
  refine wpAny_bind (wpAny_pure (wpAny_bind (wpAny_pure ?_)))
  dsimp only
  rw [Std.Legacy.Range.forIn_eq_forIn_range']
  have hl:j < vs.toArray.size:=by
    have h1:=(List.getElem?_eq_some_iff.mp hj).1
    have h2:=hI.length
    simp only [List.size_toArray]
    omega
  refine wpAny_bind (scan hI hj hno ?_ _ 0 (Nat.zero_le _) ?_)
  · exact wpAny_pure q
  · show j < 0 + Std.Legacy.Range.size _
    simp [Std.Legacy.Range.size]
    simpa using hl
end
end L2.TI
namespace L2
open PySem PySem.Spec PyProof.Rows
section
variable {X:Cx}
end
end L2

namespace L2.VL
open PySem PySem.Spec PyProof.Rows
section
variable {X:Cx} {rl:Option Addr} {a b c o e:Expr} {es:List Expr} {fa fb:TV} {fs:TVs} {pos p apos cpos:Pos} {ρ:En}
def oneL:List W -> Option (List PyData)
  | [.d (.list xs)]=>some xs
  | _=>none
theorem oneL_l (xs:List PyData):oneL [.d (.list xs)] = some xs:=rfl
theorem oneL_of {ws:List W} {xs:List PyData}:oneL ws = some xs ↔ ws = [.d (.list xs)]:=by
  constructor
  · intro h
    unfold oneL at h
    split at h
    · cases h; rfl
    · cases h
  · rintro rfl; rfl
theorem m_iRvB:iRv fs ρ = bnd (fs ρ) fun ws=>optM (oneL ws) fun xs=>ret xs.reverse:=by
  show (bnd (fs ρ) fun ws=>fun (Q:List PyData -> Prop)=>∃ xs,ws = [.d (.list xs)] /\ Q xs.reverse) = _
  congr 1; funext ws
  refine mo_ext fun Q=>?_
  simp only [opt_iff,oneL_of,ret]
end
end L2.VL

namespace L2.VL
open PySem PySem.Spec PyProof.Rows
section
variable {X:Cx} {rl:Option Addr} {a b:Expr} {fa fb:TV} {pos:Pos}
def rIB:R2:=fun x y H Q=>∃ (i:Int) (b:Bool),x = .int i /\ y = .bl b /\ Q (.int (i * if b = true then 1 else 0)) H
theorem op_mulIB:OpR X (binaryOp .Mult) rIB:=by
  intro pins s σ H x y v u Q I rx ry h
  obtain ⟨i,b,rfl,rfl,q⟩:=h
  obtain ⟨t,rfl⟩:=rx
  cases ry
  exact IntBool.mul_int_bool ⟨.int _,H,I.tok _,⟨_,rfl⟩,q⟩
def gIB:W -> W -> (W -> Prop) -> Prop:=fun x y Q=>∃ (i:Int) (b:Bool),x = .d (.int i) /\ y = .d (.bool b) /\ Q (.d (.int (i * if b = true then 1 else 0)))
theorem vop_IB:VOp X rl rIB gIB:=fun {F H x y wx wy} Qd Q s ra r1 r2 q k=>by
  obtain ⟨i,b,rfl,rfl,q⟩:=q
  have e2:y = .bl b:=by
    have r2:Rep X.K F y (.bool b):=r2
    cases r2; rfl
  exact ⟨i,b,rep_int r1,e2,k _ (.d _) _ _ (Grow.refl s ra) (.int _) trivial q⟩
theorem v_mulIB (ha:PV X rl a fa) (hb:PV X rl b fb):PV X rl (.BinOp a .Mult b pos) (vOp gIB fa fb):=pv_op op_mulIB vop_IB ha hb
theorem m_gIB (x y:W):gIB x y = optM (asI x) fun i=>optM (asB y) fun b=>ret (.d (.int (i * if b = true then 1 else 0))):=by
  refine mo_ext fun Q=>?_
  rw [opt_iff]
  constructor
  · rintro ⟨i,b,rfl,rfl,q⟩
    exact ⟨i,rfl,by rw [opt_iff]; exact ⟨b,rfl,q⟩⟩
  · rintro ⟨i,e,q⟩
    rw [opt_iff] at q
    obtain ⟨b,eb,q⟩:=q
    have e:=asI_of.mp e
    cases y with
    | d z=>cases z with
      | bool b'=>cases eb; exact ⟨i,_,e,rfl,q⟩
      | _=>cases eb
    | _=>cases eb
end
end L2.VL

namespace K06
open PySem PySem.Spec PyProof.Rows L2 L2.VL
local macro_rules | `(tactic| simp_arith only [$xs,*])=>`(tactic| simp (maxSteps:=2000000) (disch:=(first | assumption | omega | decide)) only [BMON0,BITE0,BEXP0,BEXP1,BEXP2,BSTM0,BSTM1,BPRJ0,BPRJ1,BPRJ2,BLST0,BLST1,zipO,slI,slM,kindB,startV,frEn,W.cap,lpQ,List.replicate,id,↓reduceIte,if_true,Nat.reduceAdd,Nat.reduceSub,Nat.reduceLeDiff,Int.cast_ofNat_Int,Int.reduceBEq,Int.reduceSub,Int.reduceAdd,Int.reduceLT,Int.reduceLE,Int.reduceMul,Int.reduceNeg,reduceCtorEq,isNonD,$xs,*])
local macro_rules | `(tactic| simp_arith only [$xs,*] at $h:ident)=>`(tactic| simp only [List.cons.injEq,W.d.injEq,PyData.int.injEq,PyData.bool.injEq,PyData.str.injEq,PyData.list.injEq,PyData.tuple.injEq,tupI_inj,lstI_inj,tupT_inj,map_int_inj,and_true,true_and,reduceCtorEq,$xs,*] at $h:ident)
section
variable {P:Program} {w:World} {K:PySem.W.Frag} {mg:Str -> Option Value} {base:Heap} {rl:Option Addr}
theorem i_NoRoom:∀ f fd,Fun K "__init__" "NoRoom.__init__" (inClass (top 3) 0) f fd -> FnOk P w K mg base CX0 1 f fd ["self", "word"] (spI K "word"):=by
  intro f fd F
  refine F.ok (k:=0) (N:=["self", "word"]) ⟨rfl,rfl,rfl,by decide +kernel,rfl,by decide +kernel,by decide +kernel⟩ (fun vs H Q E h=>?_) fun cdv A outer s H vs Q E hr h=>⟨_,pss_one (ps_x1 (pe_var (i:=0) rfl (.inl rfl)) (pe_var (i:=1) rfl (.inl rfl)) rfl),?_⟩
  · obtain ⟨a,C,y,e,_⟩:=h
    subst e
    rfl
  · obtain ⟨a,C,y,e,xc,na,ea,z⟩:=h
    subst e
    exact ⟨y,rfl,.ref a,rfl,a,C,rfl,xc,na,ea,z⟩
def preS (ws:List W):Prop:=∃ ns:List Int,ws = [.sc ns] /\ ns.length <= 63
theorem preS.eq {ns:List Int} (h:ns.length <= 63):preS [.sc ns] = True:=propext ⟨fun _=>trivial,fun _=>⟨ns,rfl,h⟩⟩
theorem sc__law_reel:FnScope ["_law_script"] ["_law_script"] (defScope (top 17)):=⟨rfl,rfl,rfl,by decide +kernel,rfl,by decide +kernel,by decide +kernel⟩
theorem d__law_reel (Fn:FnIn K mg "_law_reel" (top 17) ["_law_script"]) (Z:Bz mg):DfnR P w K mg base "_law_reel" ["_law_script"] 1 preS:=by
  obtain ⟨f,fd,hm,Ff,hb⟩:=Fn.ex
  refine ⟨f,fd,hm,Ff.kp,hb,?_⟩
  refine Ff.ok sc__law_reel (fun vs H Q E h=>?_) (fun cdv A outer s H vs Q E hr h=>?_)
  · obtain ⟨F,ws,_,r,_,⟨ns,rfl,_⟩,_⟩:=h
    have:=Paired.length r
    simpa using this
  · obtain ⟨F,ws,sm,r,ao,⟨ns,rfl,hl⟩,k⟩:=h
    obtain ⟨v,rfl,⟨a,rfl,hS⟩⟩:=rel1 r
    refine ⟨_,pss_one (ps_ret (pe_disp (pps_cons pe_str (pe_slice sl_list (pv 0) po_none (po_some pe_int)) (pps_cons pe_str pe_int (pps_cons pe_str pe_int (pps_cons pe_str pe_int pps_nil)))) rfl rfl (by intro z; cases z) (by decide))),?_⟩
    intro p hp
    have s0:Same H (upd H p (.dK [])):=fun b o e=>by rw [upd_ne (ne_of_none e hp)]; exact e
    refine ⟨_,rfl,63,rfl,a,ns.map V.int,rfl,s0.seq (sameL sm hS),fun c hc=>?_⟩
    have hcp:c ≠ p:=fun z=>by rw [z,upd_same] at hc; cases hc
    have hc0:H c = none:=s0.free hc
    have fc:F c = none:=sm.free hc0
    have fp:F p = none:=sm.free hp
    refine ⟨by rw [upd_ne hcp.symm,upd_same],[(kC,.ref c),(kA,.int 0),(kL,.int 0),(kT,.int 0)],rfl,(by show 4 <= 15; decide),?_⟩
    rw [merge_reel,cutV_all hl]
    have nF:∀ b u,F b = some u -> b ≠ c /\ b ≠ p:=fun b u e=>⟨(fun z=>by subst z; rw [fc] at e; cases e),(fun z=>by subst z; rw [fp] at e; cases e)⟩
    have nH:∀ b u,H b = some u -> b ≠ c /\ b ≠ p:=fun b u e=>⟨ne_of_none e hc0,ne_of_none e hp⟩
    refine k p (upd F c (.lst (ns.map V.int))) _ hp ⟨fun b o e _=>?_,fun b o e=>?_,fun b o e=>?_,fun b o e=>?_,fun _ z=>by cases z⟩ (fun r e=>?_)
    · obtain ⟨n1,n2⟩:=nH b o e
      rw [upd_ne n2,upd_ne n1,upd_ne n2]
      exact e
    · rw [upd_ne (nF b o e).1]; exact e
    · by_cases hb:b = c
      · subst hb
        rw [upd_same] at e
        rw [upd_ne hcp,upd_same]
        exact e
      · rw [upd_ne hb] at e
        obtain ⟨n1,n2⟩:=nF b o e
        rw [upd_ne n2,upd_ne n1,upd_ne n2]
        exact sm b o e
    · rw [upd_ne (nH b o e).1]
    · cases e
      exact ⟨by rw [upd_ne hcp.symm]; exact fp,⟨_,upd_same,c,ns,0,0,0,rfl,upd_same,hl,by decide,by decide,by decide⟩⟩
def p__law_pick:List W -> (PyData -> Prop) -> Prop:=fun ws Q=>∃ (m:Int),ws = [.reel,.d (.int m)] /\ ((0 < m) /\ (m < 2 ^ 60)) /\ ∀ k:Int,(0 <= k /\ k < m) -> Q (.int k)
theorem p__law_pick.mono:∀ ws (Q Q':PyData -> Prop),(∀ d,Q d -> Q' d) -> p__law_pick ws Q -> p__law_pick ws Q':=fun _ _ _ h_ ⟨m,e_,p_,q_⟩=>⟨m,e_,p_,fun o_ ho_=>h_ _ (q_ o_ ho_)⟩
theorem p__law_pick.len:∀ ws (Q:PyData -> Prop),p__law_pick ws Q -> ws.length = 2:=fun _ _ ⟨_,e_,_⟩=>by subst e_; rfl
theorem p__law_pick.eq (m:Int) (hm : 0 < m) (hb:m < 2 ^ 60):p__law_pick [.reel,.d (.int m)] = bnd (anyM fun k:Int=>0 <= k /\ k < m) fun k=>VL.ret (.int k:PyData):=by
  refine mo_ext fun Q=>⟨?_,fun q_=>⟨m,rfl,⟨hm,hb⟩,q_⟩⟩
  rintro ⟨m',e_,_,q_⟩
  simp_arith only [and_true] at e_
  obtain rfl:=e_
  exact q_
theorem sc__law_pick:FnScope ["_law_reel_here", "_law_many", "_law_found", "_law_cells", "_law_cell", "_law_mixed"] ["_law_reel_here", "_law_many"] (defScope (top 18)):=⟨rfl,rfl,rfl,by decide +kernel,rfl,by decide +kernel,by decide +kernel⟩
theorem d__law_pick (Fn:FnIn K mg "_law_pick" (top 18) ["_law_reel_here", "_law_many"]) (Z:Bz mg)    : Dfn P w K mg base rl "_law_pick" ["_law_reel_here", "_law_many"] 1 p__law_pick:=by
  have sc:=sc__law_pick
  refine Dfn.of Fn sc (p__law_pick.mono) (p__law_pick.len) (fun cdv A outer s H E hr=>(vs_cons (vs_rput (i:=0) (hr.mono (Nat.zero_le _)) (.inr (.inr rfl)) (v_add (v_rget (i:=0) (hr.mono (Nat.zero_le _)) (.inr (.inr rfl))) pv_int))
      (vs_cons (vs_if (vb_cmp op_gt vo_gt (nomark _) (v_rget (i:=0) (hr.mono (Nat.zero_le _)) (.inr (.inl rfl))) pv_int) (vs_cons (vs_setZ 2 sc.nd (v_mod (v_rget (i:=0) (hr.mono (Nat.zero_le _)) (.inr (.inl rfl))) (vn 1)))
      (vs_cons (vs_rput (i:=0) (hr.mono (Nat.zero_le _)) (.inr (.inl rfl)) (v_div (v_rget (i:=0) (hr.mono (Nat.zero_le _)) (.inr (.inl rfl))) (vn 1)))
      (vs_one (vs_ret (vn 2))))) vs_nil)
      (vs_cons (vs_setZ 3 sc.nd (v_rcells (i:=0) (hr.mono (Nat.zero_le _))))
      (vs_cons (vs_setZ 4 sc.nd (v_ifExp (vb_cmp (op_neD hr.units) vo_eqD (nomark _) (vn 3) (v_lst pvs_nil)) (v_ix (vn 3) (v_mod (v_rget (i:=0) (hr.mono (Nat.zero_le _)) (.inl rfl)) (v_len Z.len_ (pvs_cons (vn 3) pvs_nil)))) pv_int))
      (vs_cons (vs_rput (i:=0) (hr.mono (Nat.zero_le _)) (.inl rfl) (v_add (v_rget (i:=0) (hr.mono (Nat.zero_le _)) (.inl rfl)) pv_int))
      (vs_cons (vs_if (PBW.pb (vb_and (vb_cmp op_ge vo_ge (nomark _) (vn 4) (v_pow pv_int pv_int)) (vb_and1 (vb_cmp op_le vo_le (nomark _) (v_rget (i:=0) (hr.mono (Nat.zero_le _)) (.inl rfl)) (v_len Z.len_ (pvs_cons (vn 3) pvs_nil)))))) (vs_cons (vs_rput (i:=0) (hr.mono (Nat.zero_le _)) (.inr (.inl rfl)) (v_div (vn 4) (vn 1)))
      (vs_one (vs_ret (v_mod (vn 4) (vn 1))))) vs_nil)
      (vs_cons (vs_setZ 5 sc.nd (v_mod (v_mul (v_add (v_mod (vn 4) pv_int) (v_mul pv_int (v_rget (i:=0) (hr.mono (Nat.zero_le _)) (.inr (.inr rfl))))) pv_int) pv_int))
      (vs_cons (vs_setZ 5 sc.nd (v_mod (v_add (v_mul (vn 5) (vn 5)) (v_mul pv_int (v_rget (i:=0) (hr.mono (Nat.zero_le _)) (.inr (.inr rfl))))) pv_int))
      (vs_one (vs_ret (v_mod (v_div (v_mod (v_mul (vn 5) pv_int) pv_int) pv_int) (vn 1))))))))))))) ?_
  rintro ws Q ⟨m,rfl,⟨hm,hb⟩,hQ⟩
  have hm0:m ≠ 0:=by omega
  have hmd:∀ i:Int,CDivB i m:=fun i=>CDivB.of hm0 (by omega)
  have hnn:∀ i:Int,0 <= i -> 0 <= i.fdiv m:=fun i hi=>Int.fdiv_nonneg hi (by omega)
  have fm:∀ i:Int,0 <= i.fmod m /\ i.fmod m < m:=fun i=>⟨Int.fmod_nonneg_of_pos _ hm,Int.fmod_lt_of_pos _ hm⟩
  refine read_of ?_
  simp_arith only [len_ok,m_vRN,m_vRC,s_rput,asR_r,lenD_l,item_li]
  (with_reducible (first | refine any_step fun n hn=>?_ | refine sqb_any fun n hn=>?_))
  try simp_arith only [len_ok,m_vRN,m_vRC,s_rput,asR_r,lenD_l,item_li]
  refine grd_step (by omega) ?_
  (with_reducible (first | refine any_step fun n2 h2=>?_ | refine sqb_any fun n2 h2=>?_))
  try simp_arith only [len_ok,m_vRN,m_vRC,s_rput,asR_r,lenD_l,item_li]
  refine ite_step (fun _=>?_) fun _=>?_
  · repeat' (first | exact rt_end (hQ _ (fm _)) | ((with_reducible refine grd_step ?_ ?_); (first | exact hmd _ | exact hnn _ (by assumption) | exact hnn _ (by decide) | exact CMulB.lt (by decide) | exact CMulB.rt (by decide) | exact CMulB.lt (small_fmod (by decide) (by decide)) | exact CDivB.of (by decide) (by decide) | exact ⟨by decide,by decide,by decide⟩ | omega | assumption | decide)) | (with_reducible refine any_step fun _ _=>?_) | (with_reducible refine sqb_any fun _ _=>?_) | (with_reducible refine ite_step (fun _=>?_) fun _=>?_) | (simp_arith only [len_ok,m_vRN,m_vRC,s_rput,asR_r,lenD_l,item_li]))
  · (with_reducible (first | refine any_step fun ns hl=>?_ | refine sqb_any fun ns hl=>?_))
    try simp_arith only [len_ok,m_vRN,m_vRC,s_rput,asR_r,lenD_l,item_li]
    refine grd_step (shaped_ints ns) (grd_step rfl (itb_step (fun he=>?_) fun _=>?_))
    · have he:ns ≠ []:=by rintro rfl; exact absurd he (by decide)
      have hz:(0:Int) < (ns.length:Int):=by have:=List.length_pos_iff.mpr he; omega
      (with_reducible (first | refine any_step fun n3 h3=>?_ | refine sqb_any fun n3 h3=>?_))
      try simp_arith only [len_ok,m_vRN,m_vRC,s_rput,asR_r,lenD_l,item_li]
      refine grd_step (by omega) ?_
      obtain ⟨z,ez,_⟩:=at_in (xs:=ns) (Int.fmod_nonneg_of_pos n3 hz) (Int.fmod_lt_of_pos n3 hz)
      rw [ez]
      simp_arith only [len_ok,m_vRN,m_vRC,s_rput,asR_r,lenD_l,item_li]
      have t0:(10:Int) ^ Int.toNat 18 <= z -> 0 <= z:=fun h=>Int.le_trans (by decide) h
      repeat' (first | exact rt_end (hQ _ (fm _)) | ((with_reducible refine grd_step ?_ ?_); (first | exact hmd _ | exact hnn _ (by assumption) | exact hnn _ (by decide) | exact hnn _ (t0 (by simp_all)) | exact CMulB.lt (by decide) | exact CMulB.rt (by decide) | exact CMulB.lt (small_fmod (by decide) (by decide)) | exact CDivB.of (by decide) (by decide) | exact ⟨by decide,by decide,by decide⟩ | omega | assumption | decide)) | (with_reducible refine any_step fun _ _=>?_) | (with_reducible refine sqb_any fun _ _=>?_) | (with_reducible refine ite_step (fun _=>?_) fun _=>?_) | (simp_arith only [len_ok,m_vRN,m_vRC,s_rput,asR_r,lenD_l,item_li]))
    · repeat' (first | exact rt_end (hQ _ (fm _)) | ((with_reducible refine grd_step ?_ ?_); (first | exact hmd _ | exact hnn _ (by assumption) | exact hnn _ (by decide) | exact CMulB.lt (by decide) | exact CMulB.rt (by decide) | exact CMulB.lt (small_fmod (by decide) (by decide)) | exact CDivB.of (by decide) (by decide) | exact ⟨by decide,by decide,by decide⟩ | omega | assumption | decide)) | (with_reducible refine any_step fun _ _=>?_) | (with_reducible refine sqb_any fun _ _=>?_) | (with_reducible refine ite_step (fun _=>?_) fun _=>?_) | (simp_arith only [len_ok,m_vRN,m_vRC,s_rput,asR_r,lenD_l,item_li]))
theorem pr_i {a b c d:Int}:pr a b = pr c d ↔ a = c /\ b = d:=by
  constructor
  · intro h; injection h with h; injection h with h1 h2; injection h2 with h2; injection h1 with h1; injection h2 with h2; exact ⟨h1,h2⟩
  · rintro ⟨rfl,rfl⟩; rfl
theorem i0 (a b:Int):itemAt (pr a b) 0 = some (.int a):=rfl
theorem i1 (a b:Int):itemAt (pr a b) 1 = some (.int b):=rfl
theorem tupD_pr (a b:Int):tupD (pr a b) = some [.int a,.int b]:=rfl
theorem asT_pr (a b:Int):asT (.d (pr a b)) = some [.int a,.int b]:=rfl
theorem pr_D (a b:Int):PyData.tuple [.int a,.int b] = pr a b:=rfl
def Sz (a b:Int):Prop:=0 < b /\ b < 2 ^ 60 /\ a.natAbs < 2 ^ 60
theorem Sz.b0 {a b:Int} (h:Sz a b) : 0 < b:=h.1
theorem cdv {a b:Int} (h : 0 < b) (hb:b < 2 ^ 9000):CDivB a b:=⟨by omega,abs_lt (by omega) hb⟩
theorem cl60 {a x:Int} (h:a.natAbs < 2 ^ 60):CMulB a x:=.lt (Nat.lt_of_lt_of_le h (by decide))
theorem cr60 {a x:Int} (h:a.natAbs < 2 ^ 60):CMulB x a:=.rt (Nat.lt_of_lt_of_le h (by decide))
def p_is_below:List W -> (PyData -> Prop) -> Prop:=fun ws Q=>∃ (a b c d:Int),ws = [.d (pr a b),.d (pr c d)] /\ ((CMulB a d) /\ (CMulB c b)) /\ Q (.bool (decide (a * d < c * b)))
theorem p_is_below.mono:∀ ws (Q Q':PyData -> Prop),(∀ d,Q d -> Q' d) -> p_is_below ws Q -> p_is_below ws Q':=fun _ _ _ h_ ⟨a,b,c,d,e_,p_,q_⟩=>⟨a,b,c,d,e_,p_,h_ _ q_⟩
theorem p_is_below.len:∀ ws (Q:PyData -> Prop),p_is_below ws Q -> ws.length = 2:=fun _ _ ⟨_,_,_,_,e_,_⟩=>by subst e_; rfl
theorem p_is_below.eq (a b c d:Int) (m1:CMulB a d) (m2:CMulB c b):p_is_below [.d (pr a b),.d (pr c d)] = VL.ret (.bool (decide (a * d < c * b)):PyData):=by
  refine mo_ext fun Q=>⟨?_,fun q_=>⟨a,b,c,d,rfl,⟨m1,m2⟩,q_⟩⟩
  rintro ⟨a',b',c',d',e_,_,q_⟩
  simp_arith only [pr_i,and_assoc] at e_
  obtain ⟨rfl,rfl,rfl,rfl⟩:=e_
  exact q_
theorem sc_is_below:FnScope ["one", "other"] ["one", "other"] (defScope (top 12)):=⟨rfl,rfl,rfl,by decide +kernel,rfl,by decide +kernel,by decide +kernel⟩
theorem d_is_below (Fn:FnIn K mg "is_below" (top 12) ["one", "other"]) (Z:Bz mg)    : Dfn P w K mg base rl "is_below" ["one", "other"] 1 p_is_below:=by
  have sc:=sc_is_below
  refine Dfn.of Fn sc (p_is_below.mono) (p_is_below.len) (fun cdv A outer s H E hr=>(vs_one (vs_ret (v_cmp op_lt vo_lt (nomark _) (v_mul (v_ix (vn 0) pv_int) (v_ix (vn 1) pv_int)) (v_mul (v_ix (vn 1) pv_int) (v_ix (vn 0) pv_int)))))) ?_
  rintro ws Q ⟨a,b,c,d,rfl,⟨m1,m2⟩,hQ⟩
  refine read_of ?_
  simp_arith only [grd_t,len_ok,i0,i1,tupD_pr,asT_pr]
  exact rt_end hQ
theorem div_fd {a b:Int} (hb : 0 < b):a.fdiv b = a / b:=Int.fdiv_eq_ediv_of_nonneg _ (by omega)
def SI (a0 b0 c0 d0:Int) (s:(Int × Int × Int × Int) × List Int):Prop:=Lh s.1.1 s.1.2.1 s.1.2.2.1 s.1.2.2.2 /\ (s.1.1 < 2 ^ 60 /\ s.1.2.1 < 2 ^ 60 /\ s.1.2.2.1 < 2 ^ 60 /\ s.1.2.2.2 < 2 ^ 60) /\ puts s.2 (sabF s.1.1 s.1.2.1 s.1.2.2.1 s.1.2.2.2) = sabF a0 b0 c0 d0 /\ (∀ w ∈ s.2,0 <= w /\ w < 2 ^ 60) /\ (s.2 = [] \/ (s.1.2.1 <= s.1.1 /\ s.1.1 * s.1.2.2.2 * 2 ^ s.2.length <= 2 ^ 122))
theorem SI.len {a0 b0 c0 d0 a b c d:Int} {ws:List Int} (h:SI a0 b0 c0 d0 ((a,b,c,d),ws)) (hc:c <= (a / b + 1) * d):ws.length <= 122:=by
  obtain ⟨lh,_,_,_,h | ⟨ba,hm⟩⟩:=h
  · have h:ws = []:=h
    rw [h]; decide
  · have ba:b <= a:=ba
    have hm:a * d * 2 ^ ws.length <= 2 ^ 122:=hm
    have b0 : 0 < b:=lh.b0
    have c0 : 0 < c:=lh.c0
    have d0 : 0 <= d:=lh.d0
    have d1 : 0 < d:=by
      rcases Int.lt_or_le 0 d with z | z
      · exact z
      · have:d = 0:=by omega
        rw [this,Int.mul_zero] at hc; omega
    have ad : 1 <= a * d:=by have:=Int.mul_pos (show 0 < a by omega) d1; omega
    have p0:(0:Int) < 2 ^ ws.length:=Int.pow_pos (by decide)
    have h1 : 1 * (2:Int) ^ ws.length <= a * d * 2 ^ ws.length:=Int.mul_le_mul_of_nonneg_right ad (by omega)
    rcases Nat.lt_or_ge 122 ws.length with z | z
    · exfalso
      have:(2:Int) ^ 123 <= 2 ^ ws.length:=pow_le_pow (by decide) (by omega)
      have e:(2:Int) ^ 123 = 2 * 2 ^ 122:=by decide
      omega
    · exact z
theorem SI.step {a0 b0 c0 d0 a b c d:Int} {ws:List Int} (h:SI a0 b0 c0 d0 ((a,b,c,d),ws)) (hc:c <= (a / b + 1) * d):SI a0 b0 c0 d0 ((d,c - a / b * d,b,a - a / b * b),ws ++ [a / b]) /\ (c - a / b * d).toNat + (a - a / b * b).toNat < b.toNat + d.toNat:=by
  obtain ⟨lh,⟨ha,hb,hcc,hd⟩,e,hw,hm⟩:=h
  have lh:Lh a b c d:=lh
  have ha:a < 2 ^ 60:=ha
  have hb:b < 2 ^ 60:=hb
  have hcc:c < 2 ^ 60:=hcc
  have hd:d < 2 ^ 60:=hd
  obtain ⟨lh',hdec⟩:=lh.step hc
  have w0 : 0 <= a / b:=Int.ediv_nonneg lh.a0 (by have:=lh.b0; omega)
  have wa:a / b <= a:=Int.ediv_le_self _ lh.a0
  have eab:=Int.mul_ediv_add_emod a b
  have cab:=Int.mul_comm (a / b) b
  have rab1:=Int.emod_lt_of_pos a lh.b0
  have rab:=Int.emod_nonneg a (show b ≠ 0 by have:=lh.b0; omega)
  have e1:(a / b + 1) * d = a / b * d + d:=by rw [Int.add_mul,Int.one_mul]
  have b0:=lh'.b0
  refine ⟨⟨lh',⟨hd,by show c - a / b * d < 2 ^ 60; have:=Int.mul_nonneg w0 lh.d0; omega,hb,by show a - a / b * b < 2 ^ 60; have:=lh.b0; omega⟩,?_,fun w mw=>?_,.inr ⟨by show c - a / b * d <= d; omega,?_⟩⟩,hdec⟩
  · show puts (ws ++ [a / b]) (sabF d (c - a / b * d) b (a - a / b * b)) = _
    rw [puts_snoc,<- e]
    show _ = puts ws (sabF a b c d)
    rw [sabF_step lh hc]
  · rcases List.mem_append.mp mw with h | h
    · exact hw w h
    · rw [List.mem_singleton.mp h]; omega
  · show d * (a - a / b * b) * 2 ^ (ws ++ [a / b]).length <= 2 ^ 122
    rw [List.length_append,List.length_singleton,Int.pow_succ]
    have d0 : 0 <= d:=lh.d0
    have m0 : 0 <= a - a / b * b:=lh'.d0
    rcases hm with hm | ⟨ba,hm⟩
    · have hm:ws = []:=hm
      rw [hm]
      show d * (a - a / b * b) * (2 ^ 0 * 2) <= 2 ^ 122
      have h1:d * (a - a / b * b) <= 2 ^ 60 * 2 ^ 60:=Int.mul_le_mul (by omega) (by have:=lh.b0; omega) m0 (by decide)
      have h2:(2:Int) ^ 60 * 2 ^ 60 = 2 ^ 120:=by decide
      have h3:(2:Int) ^ 122 = 4 * 2 ^ 120:=by decide
      rw [Int.pow_zero,Int.one_mul]
      omega
    · have ba:b <= a:=ba
      have hm:a * d * 2 ^ ws.length <= 2 ^ 122:=hm
      have w1 : 1 <= a / b:=by
        rcases Int.lt_or_le 0 (a / b) with z | z
        · omega
        · have:a / b = 0:=by omega
          rw [this] at eab; omega
      have bw:b * 1 <= b * (a / b):=Int.mul_le_mul_of_nonneg_left w1 (by have:=lh.b0; omega)
      have half : 2 * (a - a / b * b) <= a:=by omega
      have h1:d * (2 * (a - a / b * b)) <= d * a:=Int.mul_le_mul_of_nonneg_left half d0
      have p0:(0:Int) <= 2 ^ ws.length:=Int.le_of_lt (Int.pow_pos (by decide))
      have h2:=Int.mul_le_mul_of_nonneg_right h1 p0
      have e2:d * (2 * (a - a / b * b)) * 2 ^ ws.length = d * (a - a / b * b) * (2 ^ ws.length * 2):=by grind
      have e3:d * a * 2 ^ ws.length = a * d * 2 ^ ws.length:=by grind
      omega
def p_simplest_above_nought:List W -> (PyData -> Prop) -> Prop:=fun ws Q=>∃ (a b c d:Int),ws = [.d (pr a b),.d (pr c d)] /\ ((Lh a b c d) /\ (a < 2 ^ 60) /\ (b < 2 ^ 60) /\ (c < 2 ^ 60) /\ (d < 2 ^ 60)) /\ Q (pr (sabF a b c d).1 (sabF a b c d).2)
theorem p_simplest_above_nought.mono:∀ ws (Q Q':PyData -> Prop),(∀ d,Q d -> Q' d) -> p_simplest_above_nought ws Q -> p_simplest_above_nought ws Q':=fun _ _ _ h_ ⟨a,b,c,d,e_,p_,q_⟩=>⟨a,b,c,d,e_,p_,h_ _ q_⟩
theorem p_simplest_above_nought.len:∀ ws (Q:PyData -> Prop),p_simplest_above_nought ws Q -> ws.length = 2:=fun _ _ ⟨_,_,_,_,e_,_⟩=>by subst e_; rfl
theorem p_simplest_above_nought.eq (a b c d:Int) (lh:Lh a b c d) (sa:a < 2 ^ 60) (sb:b < 2 ^ 60) (sc_:c < 2 ^ 60) (sd:d < 2 ^ 60):p_simplest_above_nought [.d (pr a b),.d (pr c d)] = VL.ret (pr (sabF a b c d).1 (sabF a b c d).2:PyData):=by
  refine mo_ext fun Q=>⟨?_,fun q_=>⟨a,b,c,d,rfl,⟨lh,sa,sb,sc_,sd⟩,q_⟩⟩
  rintro ⟨a',b',c',d',e_,_,q_⟩
  simp_arith only [pr_i,and_assoc] at e_
  obtain ⟨rfl,rfl,rfl,rfl⟩:=e_
  exact q_
theorem sc_simplest_above_nought:FnScope ["one", "other", "low_top", "low_bottom", "high_top", "high_bottom", "taken", "whole", "top", "bottom", "former"] ["one", "other"] (defScope (top 15)):=⟨rfl,rfl,rfl,by decide +kernel,rfl,by decide +kernel,by decide +kernel⟩
theorem d_simplest_above_nought (Fn:FnIn K mg "simplest_above_nought" (top 15) ["one", "other"]) (Z:Bz mg)    : Dfn P w K mg base rl "simplest_above_nought" ["one", "other"] 1 p_simplest_above_nought:=by
  have sc:=sc_simplest_above_nought
  refine Dfn.of Fn sc (p_simplest_above_nought.mono) (p_simplest_above_nought.len) (fun cdv A outer s H E hr=>(vs_cons (vs_asg (vn 0) (vg_tup (n:=2) rfl (vgs_cons (vg_name 2 sc.nd) (vgs_cons (vg_name 3 sc.nd) vgs_nil))))
      (vs_cons (vs_asg (vn 1) (vg_tup (n:=2) rfl (vgs_cons (vg_name 4 sc.nd) (vgs_cons (vg_name 5 sc.nd) vgs_nil))))
      (vs_cons (vs_set 6 sc.nd (v_lst pvs_nil))
      (vs_cons (vs_setZ 7 sc.nd (v_div (vn 2) (vn 3)))
      (vs_cons (vs_whileF [] PassesOwn.never (vb_cmp op_ge vo_ge (nomark _) (v_mul (v_add (vn 7) pv_int) (vn 5)) (vn 4)) (vs_cons (vs_app 6 (pvs_cons (vn 7) pvs_nil))
      (vs_cons (vs_asg (v_tup (pvs_cons (vn 5) (pvs_cons (v_sub (vn 4) (v_mul (vn 7) (vn 5))) (pvs_cons (vn 3) (pvs_cons (v_sub (vn 2) (v_mul (vn 7) (vn 3))) pvs_nil))))) (vg_tup (n:=4) rfl (vgs_cons (vg_name 2 sc.nd) (vgs_cons (vg_name 3 sc.nd) (vgs_cons (vg_name 4 sc.nd) (vgs_cons (vg_name 5 sc.nd) vgs_nil))))))
      (vs_one (vs_setZ 7 sc.nd (v_div (vn 2) (vn 3)))))))
      (vs_cons (vs_par 8 9 rfl sc.nd (pvs_cons (v_add (vn 7) pv_int) (pvs_cons pv_int pvs_nil)))
      (vs_cons (vs_frz 6 (vs_forF [10] PassesOwn.never rfl (vi_reversedL Z.reversed_ (pvs_cons (vn 6) pvs_nil)) (vg_name 10 sc.nd) (vs_one (vs_par 8 9 rfl sc.nd (pvs_cons (v_add (v_mul (vn 10) (vn 8)) (vn 9)) (pvs_cons (vn 8) pvs_nil))))))
      (vs_one (vs_ret (v_tup (pvs_cons (vn 8) (pvs_cons (vn 9) pvs_nil))))))))))))) ?_
  rintro ws Q ⟨a,b,c,d,rfl,⟨lh,sa,sb,sc_,sd⟩,hQ⟩
  refine read_of ?_
  have sz:=PySem.sizeLine_eq
  have b0:=lh.b0
  have cd:CDivB a b:=CDivB.of (by omega) (by omega)
  have fd:=div_fd (a:=a) b0
  simp_arith only [grd_t,len_ok,i0,i1,tupD_pr,asT_pr,fd]
  refine while_go (σ:=(Int × Int × Int × Int) × List Int) (fun s=>[some (.d (pr a b)),some (.d (pr c d)),some (.d (.int s.1.1)),some (.d (.int s.1.2.1)),some (.d (.int s.1.2.2.1)),some (.d (.int s.1.2.2.2)),some (.ml (s.2.map .int)),some (.d (.int (s.1.1 / s.1.2.1))),none,none,none]) (fun s=>decide (s.1.2.2.1 <= (s.1.1 / s.1.2.1 + 1) * s.1.2.2.2)) (fun s=>((s.1.2.2.2,s.1.2.2.1 - s.1.1 / s.1.2.1 * s.1.2.2.2,s.1.2.1,s.1.1 - s.1.1 / s.1.2.1 * s.1.2.1),s.2 ++ [s.1.1 / s.1.2.1])) (fun s=>s.1.2.1.toNat + s.1.2.2.2.toNat) (SI a b c d) ((a,b,c,d),[]) rfl ⟨lh,⟨sa,sb,sc_,sd⟩,rfl,by simp,.inl rfl⟩ ?_ ?_ ?_
  · rintro ⟨⟨a',b',c',d'⟩,ws⟩ h
    have lh':Lh a' b' c' d':=h.1
    have ha:a' < 2 ^ 60:=h.2.1.1
    have w0 : 0 <= a' / b':=Int.ediv_nonneg lh'.a0 (by have:=lh'.b0; omega)
    have wa:a' / b' <= a':=Int.ediv_le_self _ lh'.a0
    have cm:CMulB (a' / b' + 1) d':=.lt (by omega)
    simp_arith only [grd_t,len_ok]
  · rintro ⟨⟨a',b',c',d'⟩,ws⟩ h hc
    have hc:c' <= (a' / b' + 1) * d':=of_decide_eq_true hc
    obtain ⟨h',hdec⟩:=h.step hc
    have wl:=h.len hc
    have lh':Lh a' b' c' d':=h.1
    have ha:a' < 2 ^ 60:=h.2.1.1
    have hd:d' < 2 ^ 60:=h.2.1.2.2.2
    have hcc:c' < 2 ^ 60:=h.2.1.2.2.1
    have w0 : 0 <= a' / b':=Int.ediv_nonneg lh'.a0 (by have:=lh'.b0; omega)
    have wa:a' / b' <= a':=Int.ediv_le_self _ lh'.a0
    have cm1:CMulB (a' / b') d':=.lt (by omega)
    have cm2:CMulB (a' / b') b':=.lt (by omega)
    have lb0 : 0 < c' - a' / b' * d':=h'.1.b0
    have lb1:c' - a' / b' * d' < 2 ^ 60:=h'.2.1.2.1
    have cd:CDivB d' (c' - a' / b' * d'):=CDivB.of (by omega) (by omega)
    have fd:=div_fd (a:=d') lb0
    have wz:ws.length < sizeLine:=by omega
    refine ⟨h',hdec,_,by (simp_arith only [grd_t,len_ok,fd]) <;> rfl,?_⟩
    simp [fo,List.map_append]
  · rintro ⟨⟨a',b',c',d'⟩,ws⟩ h hc
    have hc:¬ c' <= (a' / b' + 1) * d':=of_decide_eq_false hc
    obtain ⟨_,_,e,hw,_⟩:=h
    have e:puts ws (sabF a' b' c' d') = sabF a b c d:=e
    rw [sabF_end hc] at e
    simp_arith only [grd_t,len_ok,m_iRvB,oneL_l]
    refine fold_go (xs:=ws.reverse) (enc:=PyData.int) (fun r:Int × Int=>[some (.d (pr a b)),some (.d (pr c d)),some (.d (.int a')),some (.d (.int b')),some (.d (.int c')),some (.d (.int d')),some (.d (.list (ws.map .int))),some (.d (.int (a' / b'))),some (.d (.int r.1)),some (.d (.int r.2)),none]) (fun r w=>(w * r.1 + r.2,r.1)) (a' / b' + 1,1) (fun _=>True) rfl (by rw [List.map_reverse]) trivial ?_ ?_
    · rintro w mw ⟨p,q⟩ _
      have hwb:=hw w (List.mem_reverse.mp mw)
      have cm:CMulB w p:=.lt (by omega)
      refine ⟨trivial,_,by (simp_arith only [grd_t,len_ok]) <;> rfl,rfl⟩
    · rw [List.foldl_reverse]
      have e2:ws.foldr (fun w r=>(w * r.1 + r.2,r.1)) (a' / b' + 1,1) = sabF a b c d:=e
      rw [e2]
      simp_arith only [grd_t,len_ok,pr_D]
      exact rt_end hQ
theorem smp_neg {a b c d:Int} (h:a < 0) (hc:¬ 0 < c):smp a b c d = (-(sabF (-c) d (-a) b).1,(sabF (-c) d (-a) b).2):=by unfold smp; rw [if_neg fun z=>hc z.2,if_pos h]
theorem smp_mid {a b c d:Int} (h:a < 0) (hc : 0 < c):smp a b c d = (0,1):=by unfold smp; rw [if_pos ⟨h,hc⟩]
theorem smp_pos {a b c d:Int} (h:¬ a < 0):smp a b c d = sabF a b c d:=by unfold smp; rw [if_neg fun z=>h z.1,if_neg h]
def pE_simplest:List W -> (PyData -> Prop) -> XQ -> Prop:=fun ws Q R=>∃ (a b c d:Int),ws = [.d (pr a b),.d (pr c d)] /\ ((Sz a b) /\ (Sz c d)) /\ ((¬ a * d < c * b) -> R "NoRoom" [("word", .str "between")]) /\ (¬ (¬ a * d < c * b) -> Q (pr (smp a b c d).1 (smp a b c d).2))
theorem pE_simplest.mono:∀ ws (Q Q':PyData -> Prop) (R R':XQ),(∀ d,Q d -> Q' d) -> (∀ c fs,R c fs -> R' c fs) -> pE_simplest ws Q R -> pE_simplest ws Q' R':=fun _ _ _ _ _ h1 h2 ⟨a,b,c,d,e_,p_,a_,b_⟩=>⟨a,b,c,d,e_,p_,fun z=>h2 _ _ (a_ z),fun z=>h1 _ (b_ z)⟩
theorem pE_simplest.len:∀ ws (Q:PyData -> Prop) (R:XQ),pE_simplest ws Q R -> ws.length = 2:=fun _ _ _ ⟨_,_,_,_,e_,_⟩=>by subst e_; rfl
theorem scE_simplest:FnScope ["one", "other", "top", "bottom"] ["one", "other"] (defScope (top 14)):=⟨rfl,rfl,rfl,by decide +kernel,rfl,by decide +kernel,by decide +kernel⟩
theorem dE_simplest (Fn:FnIn K mg "simplest" (top 14) ["one", "other"]) (Z:Bz mg) (d_simplest_above_nought:∀ rl,Dfn P w K mg base rl "simplest_above_nought" ["one", "other"] 1 p_simplest_above_nought) (d_is_below:∀ rl,Dfn P w K mg base rl "is_below" ["one", "other"] 1 p_is_below)   (xo_:∃ C,XOne P w K mg base "NoRoom" "word" C):DfnE P w K mg base rl "simplest" ["one", "other"] 3 pE_simplest:=by
  have sc:=scE_simplest
  obtain ⟨C_,xo⟩:=xo_
  refine DfnE.of Fn sc pE_simplest.mono pE_simplest.len (fun cdv A outer s H E hr hxe=>e_if hxe (hr.mono (by decide)) xo (vb_not (vb_val (v_call (d_is_below _) (hr.mono (by decide)) (pvs_cons (vn 0) (pvs_cons (vn 1) pvs_nil))))) (pvs_cons pv_str pvs_nil) (e_of (vs_cons (vs_if (vb_chain op_lt op_lt (v_ix (vn 0) pv_int) pv_int (v_ix (vn 1) pv_int)) (vs_one (vs_ret (v_tup (pvs_cons pv_int (pvs_cons pv_int pvs_nil))))) vs_nil)
      (vs_cons (vs_if (vb_cmp op_lt vo_lt (nomark _) (v_ix (vn 0) pv_int) pv_int) (vs_cons (vs_asg (v_call (d_simplest_above_nought _) (hr.mono (by decide)) (pvs_cons (v_tup (pvs_cons (v_neg (v_ix (vn 1) pv_int)) (pvs_cons (v_ix (vn 1) pv_int) pvs_nil))) (pvs_cons (v_tup (pvs_cons (v_neg (v_ix (vn 0) pv_int)) (pvs_cons (v_ix (vn 0) pv_int) pvs_nil))) pvs_nil))) (vg_tup (n:=2) rfl (vgs_cons (vg_name 2 sc.nd) (vgs_cons (vg_name 3 sc.nd) vgs_nil))))
      (vs_one (vs_ret (v_tup (pvs_cons (v_neg (vn 2)) (pvs_cons (vn 3) pvs_nil)))))) vs_nil)
      (vs_one (vs_ret (v_call (d_simplest_above_nought _) (hr.mono (by decide)) (pvs_cons (vn 0) (pvs_cons (vn 1) pvs_nil))))))))) ?_
  rintro ws Q R ⟨a,b,c,d,rfl,⟨s1,s2⟩,hR,hQ⟩
  by_cases hc:¬ a * d < c * b
  · refine xif_t (.str "between") ?_ ?_ (hR hc)
    · have m1:CMulB a d:=cl60 s1.2.2
      have m2:CMulB c b:=cl60 s2.2.2
      have n0:decide (a * d < c * b) = false:=decide_eq_false hc
      simp_arith only [grd_t,len_ok,p_is_below.eq,n0]
    · simp_arith only [len_ok]
  · have hQ:=hQ hc
    refine xif_f ?_ (show _ from ?_)
    · have hlt:a * d < c * b:=Classical.byContradiction hc
      have m1:CMulB a d:=cl60 s1.2.2
      have m2:CMulB c b:=cl60 s2.2.2
      have n0:decide (a * d < c * b) = true:=decide_eq_true hlt
      simp_arith only [grd_t,len_ok,p_is_below.eq,n0]
    · refine read_of ?_
      have hlt:a * d < c * b:=Classical.byContradiction hc
      obtain ⟨b0,b60,a60⟩:=id s1
      obtain ⟨d0,d60,c60⟩:=id s2
      by_cases ha:a < 0
      · have da:decide (a < 0) = true:=decide_eq_true ha
        by_cases hc2 : 0 < c
        · have dc:decide (0 < c) = true:=decide_eq_true hc2
          rw [smp_mid ha hc2] at hQ
          simp_arith only [grd_t,len_ok,i0,i1,tupD_pr,asT_pr,da,dc]
          exact rt_end hQ
        · have dc:decide (0 < c) = false:=decide_eq_false hc2
          rw [smp_neg ha hc2] at hQ
          have lh:Lh (-c) d (-a) b:=⟨by omega,d0,by omega,by omega,by rw [Int.neg_mul,Int.neg_mul]; omega⟩
          have n1 : -c < 2 ^ 60:=by omega
          have n2 : -a < 2 ^ 60:=by omega
          simp_arith only [grd_t,len_ok,i0,i1,tupD_pr,asT_pr,da,dc,pr_D,p_simplest_above_nought.eq]
          exact rt_end hQ
      · have da:decide (a < 0) = false:=decide_eq_false ha
        rw [smp_pos ha] at hQ
        have c0 : 0 < c:=by
          rcases Int.lt_or_le 0 c with z | z
          · exact z
          · exfalso
            have h3:c * b <= 0:=Int.mul_nonpos_of_nonpos_of_nonneg z (by omega)
            have h4 : 0 <= a * d:=Int.mul_nonneg (by omega) (by omega)
            omega
        have lh:Lh a b c d:=⟨by omega,b0,c0,by omega,hlt⟩
        have n1:a < 2 ^ 60:=by omega
        have n2:c < 2 ^ 60:=by omega
        simp_arith only [grd_t,len_ok,i0,i1,tupD_pr,asT_pr,da,pr_D,p_simplest_above_nought.eq]
        exact rt_end hQ
theorem p__law_told.eq (a b c d:Int) (s1:Sz a b) (s2:Sz c d):toldP "NoRoom" "word" pE_simplest [.d (pr a b),.d (pr c d)] = VL.ret (if ¬ a * d < c * b then PyData.tuple [.str "no", .str "between"] else (pr (smp a b c d).1 (smp a b c d).2)):=by
  refine mo_ext fun Q=>⟨?_,fun q_=>⟨⟨_,_,rfl⟩,a,b,c,d,rfl,⟨s1,s2⟩,fun z=>⟨rfl,_,rfl,by rw [if_pos z] at q_; exact q_⟩,fun z=>by rw [if_neg z] at q_; exact q_⟩⟩
  rintro ⟨_,a',b',c',d',e_,_,hR,hQ⟩
  simp only [List.cons.injEq,W.d.injEq,PyData.int.injEq,PyData.bool.injEq,PyData.str.injEq,PyData.list.injEq,PyData.tuple.injEq,and_true,true_and,pr_i,and_assoc] at e_
  obtain ⟨rfl,rfl,rfl,rfl⟩:=e_
  show Q _
  split
  · rename_i z
    obtain ⟨_,d,ed,q_⟩:=hR z
    simp only [List.cons.injEq,Prod.mk.injEq,and_true,true_and] at ed
    subst ed
    exact q_
  · rename_i z
    exact hQ z
theorem sc__law_told:FnScope ["_law_one", "_law_other", "_law_found", "e", "_law_alone"] ["_law_one", "_law_other"] (defScope (top 21)):=⟨rfl,rfl,rfl,by decide +kernel,rfl,by decide +kernel,by decide +kernel⟩
theorem d__law_told (Fn:FnIn K mg "_law_told" (top 21) ["_law_one", "_law_other"]) (Z:Bz mg) (dE_simplest:∀ rl,DfnE P w K mg base rl "simplest" ["one", "other"] 3 pE_simplest) (xc_:XCl K mg "NoRoom" "word" "EvenError" "NoRoom.__init__" (inClass (top 3) 0) ["self", "word"] ["NoDeed", "NoNet", "NoPaper", "Nought", "NoRow", "NoText", "NoUpper", "TooMany"]):Dfn P w K mg base rl "_law_told" ["_law_one", "_law_other"] 4 (toldP "NoRoom" "word" pE_simplest):=by
  have sc:=sc__law_told
  obtain ⟨C,B,f,fd,Cs,ns,mC,mB,M,na,ov,_,_,pr,k0,k1,k2,zV⟩:=xc_.ex
  have un:∀ C',PySem.W.nsIn K mainGlobals "NoRoom" = some (some (.ref C')) -> C' = C:=fun C' e=>by rw [ns] at e; cases e; rfl
  have x0:∀ C',PySem.W.nsIn K mainGlobals "NoRoom" = some (some (.ref C')) -> XCls K C' /\ PySem.W.kitAny K (.ref C') (Cs.map Value.ref) = some false:=fun C' e=>by cases un C' e; exact ⟨M.cl,k0⟩
  have x1:∀ C',PySem.W.nsIn K mainGlobals "NoRoom" = some (some (.ref C')) -> XCls K C' /\ PySem.W.kitOne K (.ref C') (.ref C) = some true:=fun C' e=>by cases un C' e; exact ⟨M.cl,k1⟩
  have x2:∀ C',PySem.W.nsIn K mainGlobals "NoRoom" = some (some (.ref C')) -> XCls K C' /\ PySem.W.kitOne K (.ref C') (.type "ValueError") = some true:=fun C' e=>by cases un C' e; exact ⟨M.cl,k2⟩
  have x3:∀ C',PySem.W.nsIn K mainGlobals "NoRoom" = some (some (.ref C')) -> XCls K C' /\ NoAttr K C' "word" := fun C' e=>by cases un C' e; exact ⟨M.cl,na⟩
  have x4:∀ c' ∈ (["NoRoom"]:List Str),∀ C',PySem.W.nsIn K mainGlobals c' = some (some (.ref C')) -> XOver K C' B:=fun c' hc C' e=>by
    cases List.mem_singleton.mp hc
    cases un C' e
    exact ov
  obtain ⟨c1,c2,c3,c4,c5,c6,c7,c8,rfl,m1,m2,m3,m4,m5,m6,m7,m8⟩:∃ c1 c2 c3 c4 c5 c6 c7 c8,Cs = [c1,c2,c3,c4,c5,c6,c7,c8] /\ mg "NoDeed" = some (.ref c1) /\ mg "NoNet" = some (.ref c2) /\ mg "NoPaper" = some (.ref c3) /\ mg "Nought" = some (.ref c4) /\ mg "NoRow" = some (.ref c5) /\ mg "NoText" = some (.ref c6) /\ mg "NoUpper" = some (.ref c7) /\ mg "TooMany" = some (.ref c8):=by
    cases pr with | cons m1 pr=>cases pr with | cons m2 pr=>cases pr with | cons m3 pr=>cases pr with | cons m4 pr=>cases pr with | cons m5 pr=>cases pr with | cons m6 pr=>cases pr with | cons m7 pr=>cases pr with | cons m8 pr=>cases pr; exact ⟨_,_,_,_,_,_,_,_,rfl,m1,m2,m3,m4,m5,m6,m7,m8⟩
  refine Dfn.of Fn sc (toldP.mono (c := "NoRoom") (n := "word") pE_simplest.mono) toldP.len (t:=toldT "NoRoom" "word" pE_simplest) (fun cdv A outer s H E hr=>?_) (told_read rfl pE_simplest.mono)
  exact vs_cons (vs_set 2 sc.nd pv_non) (vs_cons (vs_try (B:=B) 3 rfl rfl sc.nd rfl rfl mB x4
    (fun pn XE E' hx=>e_set 2 hx sc.nd (dE_simplest rl) hr (pvs_cons (vn 0) (pvs_cons (vn 1) pvs_nil)))
    (fun a=>vs_cons (vs_set 4 sc.nd (v_not (v_isxT 3 (Cs:=[c1,c2,c3,c4,c5,c6,c7,c8]) Z.isinstance_ x0 (pcs_cons m1 (pcs_cons m2 (pcs_cons m3 (pcs_cons m4 (pcs_cons m5 (pcs_cons m6 (pcs_cons m7 (pcs_cons m8 pcs_nil)))))))) (by rw [sizeLine_eq]; exact (by decide : 8 <= 16777216)))))
      (vs_one (vs_set 2 sc.nd (v_ifExp (PBW.pb (vb_and (vb_val (v_isx1 3 (v:=.ref C) Z.isinstance_ x1 (pe_glob rfl mC rfl) (fun u e=>e))) (vb_and (vb_val (v_isx1 3 (v:=.ty "ValueError") Z.isinstance_ x2 (pe_bltn rfl zV rfl rfl) (fun u e=>e))) (vb_and1 (vb_val (vn 4))))))
        (v_tup (pvs_cons pv_str (pvs_cons (v_xfld 3 x3) pvs_nil))) pv_str)))))
    (vs_one (vs_ret (vn 2))))
def p__law_below:List W -> (PyData -> Prop) -> Prop:=fun ws Q=>∃ (a b c d:Int),ws = [.d (pr a b),.d (pr c d)] /\ ((CMulB a d) /\ (CMulB c b)) /\ Q (.bool (decide (a * d < c * b)))
theorem p__law_below.mono:∀ ws (Q Q':PyData -> Prop),(∀ d,Q d -> Q' d) -> p__law_below ws Q -> p__law_below ws Q':=fun _ _ _ h_ ⟨a,b,c,d,e_,p_,q_⟩=>⟨a,b,c,d,e_,p_,h_ _ q_⟩
theorem p__law_below.len:∀ ws (Q:PyData -> Prop),p__law_below ws Q -> ws.length = 2:=fun _ _ ⟨_,_,_,_,e_,_⟩=>by subst e_; rfl
theorem p__law_below.eq (a b c d:Int) (m1:CMulB a d) (m2:CMulB c b):p__law_below [.d (pr a b),.d (pr c d)] = VL.ret (.bool (decide (a * d < c * b)):PyData):=by
  refine mo_ext fun Q=>⟨?_,fun q_=>⟨a,b,c,d,rfl,⟨m1,m2⟩,q_⟩⟩
  rintro ⟨a',b',c',d',e_,_,q_⟩
  simp_arith only [pr_i,and_assoc] at e_
  obtain ⟨rfl,rfl,rfl,rfl⟩:=e_
  exact q_
theorem sc__law_below:FnScope ["_law_one", "_law_other"] ["_law_one", "_law_other"] (defScope (top 20)):=⟨rfl,rfl,rfl,by decide +kernel,rfl,by decide +kernel,by decide +kernel⟩
theorem d__law_below (Fn:FnIn K mg "_law_below" (top 20) ["_law_one", "_law_other"]) (Z:Bz mg)    : Dfn P w K mg base rl "_law_below" ["_law_one", "_law_other"] 1 p__law_below:=by
  have sc:=sc__law_below
  refine Dfn.of Fn sc (p__law_below.mono) (p__law_below.len) (fun cdv A outer s H E hr=>(vs_one (vs_ret (v_cmp op_lt vo_lt (nomark _) (v_mul (v_ix (vn 0) pv_int) (v_ix (vn 1) pv_int)) (v_mul (v_ix (vn 1) pv_int) (v_ix (vn 0) pv_int)))))) ?_
  rintro ws Q ⟨a,b,c,d,rfl,⟨m1,m2⟩,hQ⟩
  refine read_of ?_
  simp_arith only [grd_t,len_ok,i0,i1,tupD_pr,asT_pr]
  exact rt_end hQ
def p__law_made:List W -> (PyData -> Prop) -> Prop:=fun ws Q=>∃ (a b:Int),ws = [.d (.int a),.d (.int b)] /\ ((0 < b) /\ (b.natAbs < 2 ^ 8000)) /\ Q (fr (qd a b))
theorem p__law_made.mono:∀ ws (Q Q':PyData -> Prop),(∀ d,Q d -> Q' d) -> p__law_made ws Q -> p__law_made ws Q':=fun _ _ _ h_ ⟨a,b,e_,p_,q_⟩=>⟨a,b,e_,p_,h_ _ q_⟩
theorem p__law_made.len:∀ ws (Q:PyData -> Prop),p__law_made ws Q -> ws.length = 2:=fun _ _ ⟨_,_,e_,_⟩=>by subst e_; rfl
theorem p__law_made.eq (a b:Int) (hb : 0 < b) (hz:b.natAbs < 2 ^ 8000):p__law_made [.d (.int a),.d (.int b)] = VL.ret (fr (qd a b):PyData):=by
  refine mo_ext fun Q=>⟨?_,fun q_=>⟨a,b,rfl,⟨hb,hz⟩,q_⟩⟩
  rintro ⟨a',b',e_,_,q_⟩
  simp_arith only [fr_i,sdD_i,ptD_i,boxD_i,ptsQ_i,frs_i] at e_
  obtain ⟨rfl,rfl⟩:=e_
  exact q_
theorem sc__law_made:FnScope ["_law_top", "_law_bottom", "_law_one", "_law_other", "_law_by"] ["_law_top", "_law_bottom"] (defScope (top 19)):=⟨rfl,rfl,rfl,by decide +kernel,rfl,by decide +kernel,by decide +kernel⟩
theorem d__law_made (Fn:FnIn K mg "_law_made" (top 19) ["_law_top", "_law_bottom"]) (Z:Bz mg)    : Dfn P w K mg base rl "_law_made" ["_law_top", "_law_bottom"] 1 p__law_made:=by
  have sc:=sc__law_made
  refine Dfn.of Fn sc (p__law_made.mono) (p__law_made.len) (fun cdv A outer s H E hr=>(vs_cons (vs_par 2 3 rfl sc.nd (pvs_cons (v_abs Z.abs_ (pvs_cons (vn 0) pvs_nil)) (pvs_cons (v_abs Z.abs_ (pvs_cons (vn 1) pvs_nil)) pvs_nil)))
      (vs_cons (vs_whileF [] PassesOwn.never (vb_cmp op_gt vo_gt (nomark _) (vn 3) pv_int) (vs_one (vs_par 2 3 rfl sc.nd (pvs_cons (vn 3) (pvs_cons (v_mod (vn 2) (vn 3)) pvs_nil)))))
      (vs_cons (vs_setZ 4 sc.nd (v_ifExp (vb_cmp op_gt vo_gt (nomark _) (vn 1) pv_int) (vn 2) (v_neg (vn 2))))
      (vs_one (vs_ret (v_tup (pvs_cons (v_div (vn 0) (vn 4)) (pvs_cons (v_div (vn 1) (vn 4)) pvs_nil))))))))) ?_
  rintro ws Q ⟨a,b,rfl,⟨hb,hz⟩,hQ⟩
  refine read_of ?_
  simp_arith only [len_ok]
  refine while_go (σ:=Int × Int) (fun s=>[some (.d (.int a)),some (.d (.int b)),some (.d (.int s.1)),some (.d (.int s.2)),none]) (fun s=>decide (0 < s.2)) (fun s=>(s.2,s.1.fmod s.2)) (fun s=>s.2.natAbs) (fun s=>0 <= s.1 /\ 0 <= s.2 /\ Int.gcd s.1 s.2 = Int.gcd a b) (if a < 0 then -a else a,if b < 0 then -b else b) rfl ⟨by dsimp only; split <;> omega,by dsimp only; split <;> omega,gcd_abs a b⟩ ?_ ?_ ?_
  · intro s _
    simp_arith only [len_ok]
  · rintro s ⟨h1,h2,e⟩ c
    have hc : 0 < s.2:=by simpa using c
    have hc':s.2 ≠ 0:=by omega
    refine ⟨⟨h2,Int.fmod_nonneg_of_pos _ hc,by rw [gcd_fmod]; exact e⟩,fmod_abs_lt hc',_,?_,rfl⟩
    simp_arith only [grd_t,len_ok]
  · rintro s ⟨h1,h2,e⟩ c
    have hc : s.2 = 0 := by have : ¬ 0 < s.2 := by simpa using c
                            omega
    rw [hc,Int.gcd_zero_right] at e
    have ex:s.1 = (Int.gcd a b:Int):=by omega
    have c1:CDivB a (Int.gcd a b:Int):=gcd_div hb hz _
    have c2:CDivB b (Int.gcd a b:Int):=gcd_div hb hz _
    have h0:decide (0 < b) = true:=by simpa using hb
    simp_arith only [grd_t,len_ok,h0,ex,if_true]
    rw [low_qd hb]
    exact rt_end hQ
def p__law_between:List W -> (PyData -> Prop) -> Prop:=fun ws Q=>∃ (a b x y c d:Int),ws = [.d (pr a b),.d (pr x y),.d (pr c d)] /\ ((CMulB a y) /\ (CMulB x b) /\ (CMulB x d) /\ (CMulB c y)) /\ Q (.bool (decide (a * y < x * b) && decide (x * d < c * y)))
theorem p__law_between.mono:∀ ws (Q Q':PyData -> Prop),(∀ d,Q d -> Q' d) -> p__law_between ws Q -> p__law_between ws Q':=fun _ _ _ h_ ⟨a,b,x,y,c,d,e_,p_,q_⟩=>⟨a,b,x,y,c,d,e_,p_,h_ _ q_⟩
theorem p__law_between.len:∀ ws (Q:PyData -> Prop),p__law_between ws Q -> ws.length = 3:=fun _ _ ⟨_,_,_,_,_,_,e_,_⟩=>by subst e_; rfl
theorem p__law_between.eq (a b x y c d:Int) (m1:CMulB a y) (m2:CMulB x b) (m3:CMulB x d) (m4:CMulB c y):p__law_between [.d (pr a b),.d (pr x y),.d (pr c d)] = VL.ret (.bool (decide (a * y < x * b) && decide (x * d < c * y)):PyData):=by
  refine mo_ext fun Q=>⟨?_,fun q_=>⟨a,b,x,y,c,d,rfl,⟨m1,m2,m3,m4⟩,q_⟩⟩
  rintro ⟨a',b',x',y',c',d',e_,_,q_⟩
  simp_arith only [pr_i,and_assoc] at e_
  obtain ⟨rfl,rfl,rfl,rfl,rfl,rfl⟩:=e_
  exact q_
theorem sc__law_between:FnScope ["_law_one", "_law_middle", "_law_other"] ["_law_one", "_law_middle", "_law_other"] (defScope (top 23)):=⟨rfl,rfl,rfl,by decide +kernel,rfl,by decide +kernel,by decide +kernel⟩
theorem d__law_between (Fn:FnIn K mg "_law_between" (top 23) ["_law_one", "_law_middle", "_law_other"]) (Z:Bz mg) (d__law_below:∀ rl,Dfn P w K mg base rl "_law_below" ["_law_one", "_law_other"] 1 p__law_below)   : Dfn P w K mg base rl "_law_between" ["_law_one", "_law_middle", "_law_other"] 2 p__law_between:=by
  have sc:=sc__law_between
  refine Dfn.of Fn sc (p__law_between.mono) (p__law_between.len) (fun cdv A outer s H E hr=>(vs_one (vs_ret (v_and (v_call (d__law_below _) (hr.mono (by decide)) (pvs_cons (vn 0) (pvs_cons (vn 1) pvs_nil))) (v_one (v_call (d__law_below _) (hr.mono (by decide)) (pvs_cons (vn 1) (pvs_cons (vn 2) pvs_nil)))))))) ?_
  rintro ws Q ⟨a,b,x,y,c,d,rfl,⟨m1,m2,m3,m4⟩,hQ⟩
  refine read_of ?_
  cases h:decide (a * y < x * b) with
  | true =>
    rw [h] at hQ
    simp_arith only [grd_t,len_ok,p__law_below.eq,h]
    exact rt_end hQ
  | false =>
    rw [h] at hQ
    simp_arith only [grd_t,len_ok,p__law_below.eq,h]
    exact rt_end hQ
def p__law_turned:List W -> (PyData -> Prop) -> Prop:=fun ws Q=>∃ (p q:Int),ws = [.d (.int p),.d (.int q)] /\ ((1 < q) /\ (q < 2 ^ 62) /\ (Int.gcd p q = 1)) /\ ∀ m:Int,(0 < m /\ m < q /\ q ∣ p * m - 1) -> Q (.int m)
theorem p__law_turned.mono:∀ ws (Q Q':PyData -> Prop),(∀ d,Q d -> Q' d) -> p__law_turned ws Q -> p__law_turned ws Q':=fun _ _ _ h_ ⟨p,q,e_,p_,q_⟩=>⟨p,q,e_,p_,fun o_ ho_=>h_ _ (q_ o_ ho_)⟩
theorem p__law_turned.len:∀ ws (Q:PyData -> Prop),p__law_turned ws Q -> ws.length = 2:=fun _ _ ⟨_,_,e_,_⟩=>by subst e_; rfl
theorem p__law_turned.eq (p q:Int) (q1 : 1 < q) (qb:q < 2 ^ 62) (hg:Int.gcd p q = 1):p__law_turned [.d (.int p),.d (.int q)] = bnd (anyM fun m:Int=>0 < m /\ m < q /\ q ∣ p * m - 1) fun m=>VL.ret (.int m:PyData):=by
  refine mo_ext fun Q=>⟨?_,fun q_=>⟨p,q,rfl,⟨q1,qb,hg⟩,q_⟩⟩
  rintro ⟨p',q',e_,_,q_⟩
  simp_arith only [and_true] at e_
  obtain ⟨rfl,rfl⟩:=e_
  exact q_
theorem sc__law_turned:FnScope ["_law_p", "_law_q", "_law_one", "_law_other", "_law_first", "_law_second", "_law_often"] ["_law_p", "_law_q"] (defScope (top 22)):=⟨rfl,rfl,rfl,by decide +kernel,rfl,by decide +kernel,by decide +kernel⟩
theorem d__law_turned (Fn:FnIn K mg "_law_turned" (top 22) ["_law_p", "_law_q"]) (Z:Bz mg)    : Dfn P w K mg base rl "_law_turned" ["_law_p", "_law_q"] 1 p__law_turned:=by
  have sc:=sc__law_turned
  refine Dfn.of Fn sc (p__law_turned.mono) (p__law_turned.len) (fun cdv A outer s H E hr=>(vs_cons (vs_par 2 3 rfl sc.nd (pvs_cons (v_mod (vn 0) (vn 1)) (pvs_cons (vn 1) pvs_nil)))
      (vs_cons (vs_asg (v_tup (pvs_cons pv_int (pvs_cons pv_int pvs_nil))) (vg_tup (n:=2) rfl (vgs_cons (vg_name 4 sc.nd) (vgs_cons (vg_name 5 sc.nd) vgs_nil))))
      (vs_cons (vs_whileF [6] PassesOwn.never (vb_cmp op_gt vo_gt (nomark _) (vn 3) pv_int) (vs_cons (vs_setZ 6 sc.nd (v_div (vn 2) (vn 3)))
      (vs_cons (vs_par 2 3 rfl sc.nd (pvs_cons (vn 3) (pvs_cons (v_sub (vn 2) (v_mul (vn 6) (vn 3))) pvs_nil)))
      (vs_one (vs_par 4 5 rfl sc.nd (pvs_cons (vn 5) (pvs_cons (v_sub (vn 4) (v_mul (vn 6) (vn 5))) pvs_nil)))))))
      (vs_one (vs_ret (v_mod (vn 4) (vn 1)))))))) ?_
  rintro ws Q ⟨p,q,rfl,⟨q1,qb,hg⟩,hQ⟩
  refine read_of ?_
  have q0 : 0 < q:=by omega
  have qn:q ≠ 0:=by omega
  have f0:=Int.fmod_nonneg_of_pos p q0
  have f1:=Int.fmod_lt_of_pos p q0
  have cq:CDivB p q:=cdv q0 (by omega)
  simp_arith only [grd_t,len_ok]
  refine while_go (σ:=Int × Int × Int × Int) (fun s=>[some (.d (.int p)),some (.d (.int q)),some (.d (.int s.1)),some (.d (.int s.2.1)),some (.d (.int s.2.2.1)),some (.d (.int s.2.2.2)),none]) (fun s=>decide (0 < s.2.1)) (fun s=>(s.2.1,s.1 - s.1.fdiv s.2.1 * s.2.1,s.2.2.2,s.2.2.1 - s.1.fdiv s.2.1 * s.2.2.2)) (fun s=>s.2.1.toNat) (fun s=>0 <= s.1 /\ s.1 <= q /\ 0 <= s.2.1 /\ s.2.1 <= q /\ q ∣ p * s.2.2.1 - s.1 /\ q ∣ p * s.2.2.2 - s.2.1 /\ Int.gcd s.1 s.2.1 = 1) (p.fmod q,q,1,0) rfl ⟨f0,by show p.fmod q <= q; omega,by show 0 <= q; omega,Int.le_refl _,?_,?_,?_⟩ ?_ ?_ ?_
  · show q ∣ p * 1 - p.fmod q
    rw [Int.mul_one,Int.fmod_eq_emod_of_nonneg _ (by omega)]
    exact ⟨p / q,by have:=Int.mul_ediv_add_emod p q; omega⟩
  · show q ∣ p * 0 - q
    rw [Int.mul_zero,Int.zero_sub]
    exact Int.dvd_neg.mpr (Int.dvd_refl q)
  · show Int.gcd (p.fmod q) q = 1
    rw [Int.gcd_comm,gcd_fmod]; exact hg
  · rintro ⟨x,y,f,g⟩ _
    simp_arith only [grd_t,len_ok]
  · rintro ⟨x,y,f,g⟩ ⟨x0,x1,y0,y1,d1,d2,gg⟩ c
    have c1 : 0 < y:=of_decide_eq_true c
    have x0 : 0 <= x:=x0
    have x1:x <= q:=x1
    have y1:y <= q:=y1
    have cd:CDivB x y:=cdv c1 (by omega)
    have yn:y ≠ 0:=by omega
    have ef:x.fdiv y = x / y:=Int.fdiv_eq_ediv_of_nonneg _ (by omega)
    have w0 : 0 <= x / y:=Int.ediv_nonneg x0 (by omega)
    have wx:x / y <= x:=Int.ediv_le_self _ x0
    have cm1:CMulB (x / y) y:=.lt (by omega)
    have cm2:CMulB (x / y) g:=.lt (by omega)
    have em:x - x / y * y = x % y:=by have:=Int.mul_ediv_add_emod x y; have:=Int.mul_comm (x / y) y; omega
    have r0:=Int.emod_nonneg x yn
    have r1:=Int.emod_lt_of_pos x c1
    refine ⟨⟨by show 0 <= y; omega,y1,?_,?_,d2,?_,?_⟩,?_,_,by (simp_arith only [grd_t,len_ok,ef]) <;> rfl,?_⟩
    · show 0 <= x - x.fdiv y * y; rw [ef,em]; exact r0
    · show x - x.fdiv y * y <= q; rw [ef,em]; omega
    · show q ∣ p * (f - x.fdiv y * g) - (x - x.fdiv y * y)
      have e:p * (f - x.fdiv y * g) - (x - x.fdiv y * y) = (p * f - x) - x.fdiv y * (p * g - y):=by grind
      rw [e]
      exact Int.dvd_sub d1 (Int.dvd_trans d2 (Int.dvd_mul_left ..))
    · show Int.gcd y (x - x.fdiv y * y) = 1
      rw [ef,em,<- Int.fmod_eq_emod_of_nonneg _ (show 0 <= y by omega),gcd_fmod]; exact gg
    · show (x - x.fdiv y * y).toNat < y.toNat; rw [ef,em]; omega
    · simp [fo,ef]
  · rintro ⟨x,y,f,g⟩ ⟨x0,x1,y0,y1,d1,d2,gg⟩ c
    have c1:¬ 0 < y:=of_decide_eq_false c
    have y0 : 0 <= y:=y0
    have e:y = 0:=by omega
    subst e
    have x0 : 0 <= x:=x0
    have gg:Int.gcd x 0 = 1:=gg
    rw [Int.gcd_zero_right] at gg
    have x1:x = 1:=by omega
    subst x1
    have d1:q ∣ p * f - 1:=d1
    have cf:CDivB f q:=cdv q0 (by omega)
    simp_arith only [grd_t,len_ok]
    have m0:=Int.fmod_nonneg_of_pos f q0
    have m1:=Int.fmod_lt_of_pos f q0
    have dm:q ∣ p * f.fmod q - 1:=by
      rw [Int.fmod_eq_emod_of_nonneg _ (by omega)]
      have e1:=Int.mul_ediv_add_emod f q
      have e2:p * (f % q) - 1 = (p * f - 1) - q * (p * (f / q)):=by
        have:f % q = f - q * (f / q):=by omega
        rw [this]; grind
      rw [e2]
      exact Int.dvd_sub d1 (Int.dvd_mul_right ..)
    refine rt_end (hQ _ ⟨?_,m1,dm⟩)
    rcases Int.lt_or_le 0 (f.fmod q) with z | z
    · exact z
    · have e:f.fmod q = 0:=by omega
      rw [e,Int.mul_zero] at dm
      have:=Int.le_of_dvd (by decide) (Int.dvd_neg.mpr dm)
      omega
def p__law_is_simplest:List W -> (PyData -> Prop) -> Prop:=fun ws Q=>∃ (a b c d p q:Int),ws = [.d (pr a b),.d (pr c d),.d (pr p q)] /\ ((Sz a b) /\ (Sz c d) /\ (Fin a b c d p q)) /\ Q (.bool true)
theorem p__law_is_simplest.mono:∀ ws (Q Q':PyData -> Prop),(∀ d,Q d -> Q' d) -> p__law_is_simplest ws Q -> p__law_is_simplest ws Q':=fun _ _ _ h_ ⟨a,b,c,d,p,q,e_,p_,q_⟩=>⟨a,b,c,d,p,q,e_,p_,h_ _ q_⟩
theorem p__law_is_simplest.len:∀ ws (Q:PyData -> Prop),p__law_is_simplest ws Q -> ws.length = 3:=fun _ _ ⟨_,_,_,_,_,_,e_,_⟩=>by subst e_; rfl
theorem p__law_is_simplest.eq (a b c d p q:Int) (s1:Sz a b) (s2:Sz c d) (fn:Fin a b c d p q):p__law_is_simplest [.d (pr a b),.d (pr c d),.d (pr p q)] = VL.ret (.bool true:PyData):=by
  refine mo_ext fun Q=>⟨?_,fun q_=>⟨a,b,c,d,p,q,rfl,⟨s1,s2,fn⟩,q_⟩⟩
  rintro ⟨a',b',c',d',p',q',e_,_,q_⟩
  simp_arith only [pr_i,and_assoc] at e_
  obtain ⟨rfl,rfl,rfl,rfl,rfl,rfl⟩:=e_
  exact q_
theorem sc__law_is_simplest:FnScope ["_law_one", "_law_other", "_law_found", "_law_p", "_law_q", "_law_m", "_law_k"] ["_law_one", "_law_other", "_law_found"] (defScope (top 24)):=⟨rfl,rfl,rfl,by decide +kernel,rfl,by decide +kernel,by decide +kernel⟩
theorem d__law_is_simplest (Fn:FnIn K mg "_law_is_simplest" (top 24) ["_law_one", "_law_other", "_law_found"]) (Z:Bz mg) (d__law_turned:∀ rl,Dfn P w K mg base rl "_law_turned" ["_law_p", "_law_q"] 1 p__law_turned) (d__law_between:∀ rl,Dfn P w K mg base rl "_law_between" ["_law_one", "_law_middle", "_law_other"] 2 p__law_between) (d__law_made:∀ rl,Dfn P w K mg base rl "_law_made" ["_law_top", "_law_bottom"] 1 p__law_made) (d__law_below:∀ rl,Dfn P w K mg base rl "_law_below" ["_law_one", "_law_other"] 1 p__law_below)   : Dfn P w K mg base rl "_law_is_simplest" ["_law_one", "_law_other", "_law_found"] 3 p__law_is_simplest:=by
  have sc:=sc__law_is_simplest
  refine Dfn.of Fn sc (p__law_is_simplest.mono) (p__law_is_simplest.len) (fun cdv A outer s H E hr=>(vs_cons (vs_if (PBW.pb (vb_or (vb_not (vb_val (v_isi Z.isinstance_ (pvs_cons (vn 2) (pvs_cons (pv_ty Z.tuple_ (by rfl)) pvs_nil))))) (vb_or (vb_cmp (op_neD hr.units) vo_eqD (nomark _) (v_len Z.len_ (pvs_cons (vn 2) pvs_nil)) pv_int) (vb_or1 (vb_cmp (op_eqD hr.units) vo_eqD (nomark _) (v_ix (vn 2) pv_int) pv_str))))) (vs_one (vs_ret pv_bl)) vs_nil)
      (vs_cons (vs_asg (vn 2) (vg_tup (n:=2) rfl (vgs_cons (vg_name 3 sc.nd) (vgs_cons (vg_name 4 sc.nd) vgs_nil))))
      (vs_cons (vs_if (PBW.pb (vb_or (vb_val (v_isi Z.isinstance_ (pvs_cons (vn 3) (pvs_cons (pv_ty Z.bool_ (by rfl)) pvs_nil)))) (vb_or (vb_val (v_isi Z.isinstance_ (pvs_cons (vn 4) (pvs_cons (pv_ty Z.bool_ (by rfl)) pvs_nil)))) (vb_or (vb_cmp op_lt vo_lt (nomark _) (vn 4) pv_int) (vb_or1 (vb_cmp (op_neD hr.units) vo_eqD (nomark _) (v_call (d__law_made _) (hr.mono (by decide)) (pvs_cons (vn 3) (pvs_cons (vn 4) pvs_nil))) (vn 2))))))) (vs_one (vs_ret pv_bl)) vs_nil)
      (vs_cons (vs_if (vb_not (vb_val (v_call (d__law_between _) (hr.mono (by decide)) (pvs_cons (vn 0) (pvs_cons (vn 2) (pvs_cons (vn 1) pvs_nil)))))) (vs_one (vs_ret pv_bl)) vs_nil)
      (vs_cons (vs_if (vb_cmp (op_eqD hr.units) vo_eqD (nomark _) (vn 4) pv_int) (vs_one (vs_ret (v_or (v_cmp (op_eqD hr.units) vo_eqD (nomark _) (vn 3) pv_int) (v_one (v_not (v_call (d__law_between _) (hr.mono (by decide)) (pvs_cons (vn 0) (pvs_cons (v_tup (pvs_cons (v_sub (v_add (vn 3) pv_int) (v_mulIB pv_int (v_cmp op_gt vo_gt (nomark _) (vn 3) pv_int))) (pvs_cons pv_int pvs_nil))) (pvs_cons (vn 1) pvs_nil))))))))) vs_nil)
      (vs_cons (vs_setZ 5 sc.nd (v_call (d__law_turned _) (hr.mono (by decide)) (pvs_cons (vn 3) (pvs_cons (vn 4) pvs_nil))))
      (vs_cons (vs_setZ 6 sc.nd (v_div (v_sub (v_mul (vn 3) (vn 5)) pv_int) (vn 4)))
      (vs_one (vs_ret (v_and (v_not (v_call (d__law_below _) (hr.mono (by decide)) (pvs_cons (vn 0) (pvs_cons (v_tup (pvs_cons (vn 6) (pvs_cons (vn 5) pvs_nil))) pvs_nil)))) (v_one (v_not (v_call (d__law_below _) (hr.mono (by decide)) (pvs_cons (v_tup (pvs_cons (v_sub (vn 3) (vn 6)) (pvs_cons (v_sub (vn 4) (vn 5)) pvs_nil))) (pvs_cons (vn 1) pvs_nil)))))))))))))))) ?_
  rintro ws Q ⟨a,b,c,d,p,q,rfl,⟨s1,s2,fn⟩,hQ⟩
  refine read_of ?_
  obtain ⟨b0,b60,a60⟩:=id s1
  obtain ⟨d0,d60,c60⟩:=id s2
  have q0:=fn.q0
  have qb:q < 2 ^ 61:=by have:=fn.bd b0 d0; omega
  have pb:p.natAbs < 2 ^ 122:=fn.pb (N:=61) b0 d0 (by omega) (by omega) qb
  have g1:=fn.gcd
  have lo:decide (a * q < p * b) = true:=decide_eq_true fn.lo
  have hi:decide (p * d < c * q) = true:=decide_eq_true fn.hi
  have m1:CMulB a q:=cl60 a60
  have m2:CMulB p b:=cr60 (by omega)
  have m3:CMulB p d:=cr60 (by omega)
  have m4:CMulB c q:=cl60 c60
  have qz:q.natAbs < 2 ^ 8000:=Nat.lt_of_lt_of_le (show q.natAbs < 2 ^ 61 by omega) (Nat.pow_le_pow_right (by decide) (by decide))
  have ef:=fr_low q0 g1
  have t1:isiD (pr p q) "tuple" = true:=rfl
  have t2:lenD (pr p q) = some 2:=rfl
  have t3:decide (q < 1) = false:=by simp; omega
  have e1:PyData.eqv (.int p) (.str "no") = false:=rfl
  have s0:SeqAt.shaped (.str "no") = true:=by decide +kernel
  have s3:SeqAt.shaped (pr p q) = true:=by rw [show pr p q = fr (qd p q) from ef.symm]; exact shaped_fr _
  have e2:PyData.eqv (pr p q) (pr p q) = true:=by simp [pr,PyData.eqv,PyData.eqvAll]
  by_cases h1:q = 1
  · subst h1
    have one:=fn.one rfl
    have d1:((1:Int) == 1) = true:=rfl
    simp_arith only [grd_t,len_ok,i0,i1,tupD_pr,asT_pr,BIS,t1,t2,t3,e1,s0,s3,e2,d1,ef,pr_D,p__law_made.eq,p__law_between.eq,lo,hi,m_gIB]
    refine ite_step (fun _=>rt_end hQ) fun hp0=>?_
    have p0:p ≠ 0:=fun z=>hp0 (by rw [z]; rfl)
    have c2:∀ x:Int,CMulB 2 x:=fun x=>.lt (by decide)
    have n1:CMulB a 1:=.rt (by decide)
    have n4:CMulB c 1:=.rt (by decide)
    have n2:∀ x:Int,CMulB x b:=fun x=>cr60 (by omega)
    have n3:∀ x:Int,CMulB x d:=fun x=>cr60 (by omega)
    by_cases hp : 0 < p
    · have dp:decide (0 < p) = true:=decide_eq_true hp
      have fl:(decide (a * 1 < (p + 1 - 2) * b) && decide ((p + 1 - 2) * d < c * 1)) = false:=by
        rcases one with z | ⟨_,z⟩ | ⟨z,_⟩
        · exact absurd z p0
        · have e:(p + 1 - 2) * b = (p - 1) * b:=by congr 1; omega
          rw [e,decide_eq_false (by omega)]; rfl
        · omega
      have pbt:=p__law_between.eq a b (p + 1 - 2) 1 c d n1 (n2 _) (n3 _) n4
      rw [fl] at pbt
      simp_arith only [grd_t,len_ok,dp,pr_D,m_gIB,pbt]
      try simp_arith only [grd_t,len_ok,dp,pr_D,m_gIB,pbt]
      exact rt_end hQ
    · have dp:decide (0 < p) = false:=decide_eq_false hp
      have fl:(decide (a * 1 < (p + 1 - 0) * b) && decide ((p + 1 - 0) * d < c * 1)) = false:=by
        rcases one with z | ⟨z,_⟩ | ⟨_,z⟩
        · exact absurd z p0
        · omega
        · have e:(p + 1 - 0) * d = (p + 1) * d:=by congr 1; omega
          rw [e,decide_eq_false (show ¬ (p + 1) * d < c * 1 by omega),Bool.and_false]
      have pbt:=p__law_between.eq a b (p + 1 - 0) 1 c d n1 (n2 _) (n3 _) n4
      rw [fl] at pbt
      simp_arith only [grd_t,len_ok,dp,pr_D,m_gIB,pbt]
      try simp_arith only [grd_t,len_ok,dp,pr_D,m_gIB,pbt]
      exact rt_end hQ
  · have d1:(q == 1) = false:=by simpa using h1
    have q1 : 1 < q:=by omega
    have q62:q < 2 ^ 62:=by omega
    obtain ⟨k,m,e,m0,mq,l,r⟩:=fn.more q1
    simp_arith only [grd_t,len_ok,i0,i1,tupD_pr,asT_pr,BIS,t1,t2,t3,e1,s0,s3,e2,d1,ef,pr_D,p__law_made.eq,p__law_between.eq,p__law_turned.eq,lo,hi]
    (with_reducible (first | refine any_step fun m2 hm2=>?_ | refine sqb_any fun m2 hm2=>?_))
    have em:m2 = m:=inv_uniq g1 (by omega) hm2.2.1 (by omega) mq hm2.2.2 ⟨k,by have:=Int.mul_comm q k; omega⟩
    subst em
    have ek:(p * m2 - 1).fdiv q = k:=by
      rw [Int.fdiv_eq_ediv_of_nonneg _ (by omega),show p * m2 - 1 = q * k by have:=Int.mul_comm q k; omega,Int.mul_ediv_cancel_left _ (by omega)]
    have cm:CMulB p m2:=.rt (by omega)
    have cd:CDivB (p * m2 - 1) q:=cdv q0 (by omega)
    have x1:CMulB a m2:=cl60 a60
    have x2:CMulB k b:=cr60 (by omega)
    have x3:CMulB (p - k) d:=cr60 (by omega)
    have x4:CMulB c (q - m2):=cl60 c60
    have y1:decide (a * m2 < k * b) = false:=by simp; omega
    have y2:decide ((p - k) * d < c * (q - m2)) = false:=by simp; omega
    simp_arith only [grd_t,len_ok,i0,i1,tupD_pr,asT_pr,ek,pr_D,p__law_below.eq,y1,y2]
    exact rt_end hQ
def p__law_small:List W -> (PyData -> Prop) -> Prop:=fun ws Q=>ws = [.reel] /\ (True) /\ ∀ r:Rat,(qSm 20 r) -> Q (fr r)
theorem p__law_small.mono:∀ ws (Q Q':PyData -> Prop),(∀ d,Q d -> Q' d) -> p__law_small ws Q -> p__law_small ws Q':=fun _ _ _ h_ ⟨e_,p_,q_⟩=>⟨e_,p_,fun o_ ho_=>h_ _ (q_ o_ ho_)⟩
theorem p__law_small.len:∀ ws (Q:PyData -> Prop),p__law_small ws Q -> ws.length = 1:=fun _ _ ⟨e_,_⟩=>by subst e_; rfl
theorem p__law_small.eq   : p__law_small [.reel] = bnd (anyM fun r:Rat=>qSm 20 r) fun r=>VL.ret (fr r:PyData):=by
  refine mo_ext fun Q=>⟨?_,fun q_=>⟨rfl,trivial,q_⟩⟩
  rintro ⟨e_,_,q_⟩
  simp_arith only [fr_i,sdD_i,ptD_i,boxD_i,ptsQ_i,frs_i] at e_
  
  exact q_
theorem sc__law_small:FnScope ["_law_reel_here", "_law_bottom"] ["_law_reel_here"] (defScope (top 25)):=⟨rfl,rfl,rfl,by decide +kernel,rfl,by decide +kernel,by decide +kernel⟩
theorem d__law_small (Fn:FnIn K mg "_law_small" (top 25) ["_law_reel_here"]) (Z:Bz mg) (d__law_made:∀ rl,Dfn P w K mg base rl "_law_made" ["_law_top", "_law_bottom"] 1 p__law_made) (d__law_pick:∀ rl,Dfn P w K mg base rl "_law_pick" ["_law_reel_here", "_law_many"] 1 p__law_pick)   : Dfn P w K mg base rl "_law_small" ["_law_reel_here"] 2 p__law_small:=by
  have sc:=sc__law_small
  refine Dfn.of Fn sc (p__law_small.mono) (p__law_small.len) (fun cdv A outer s H E hr=>(vs_cons (vs_setZ 1 sc.nd (v_ix (v_lst (pvs_cons pv_int (pvs_cons pv_int (pvs_cons pv_int (pvs_cons pv_int (pvs_cons pv_int (pvs_cons pv_int (pvs_cons (v_add pv_int (v_call (d__law_pick _) (hr.mono (by decide)) (pvs_cons (vn 0) (pvs_cons pv_int pvs_nil)))) (pvs_cons (v_add pv_int (v_call (d__law_pick _) (hr.mono (by decide)) (pvs_cons (vn 0) (pvs_cons pv_int pvs_nil)))) pvs_nil))))))))) (v_call (d__law_pick _) (hr.mono (by decide)) (pvs_cons (vn 0) (pvs_cons pv_int pvs_nil)))))
      (vs_one (vs_ret (v_call (d__law_made _) (hr.mono (by decide)) (pvs_cons (v_sub (v_call (d__law_pick _) (hr.mono (by decide)) (pvs_cons (vn 0) (pvs_cons (v_add (v_mul pv_int (vn 1)) pv_int) pvs_nil))) (v_mul pv_int (vn 1))) (pvs_cons (vn 1) pvs_nil))))))) ?_
  rintro ws Q ⟨rfl,_,hQ⟩
  refine read_of ?_
  simp_arith only [grd_t,len_ok,p__law_pick.eq]
  (with_reducible (first | refine any_step fun x hx=>?_ | refine sqb_any fun x hx=>?_))
  try simp_arith only [grd_t,len_ok,p__law_pick.eq]
  (with_reducible (first | refine any_step fun y hy=>?_ | refine sqb_any fun y hy=>?_))
  try simp_arith only [grd_t,len_ok,p__law_pick.eq]
  (with_reducible (first | refine any_step fun k hk=>?_ | refine sqb_any fun k hk=>?_))
  refine sqo (menuA_step (xs:=[1,1,2,3,5,8,1 + x,1 + y]) (enc:=PyData.int) (fun m=>1 <= m /\ m <= 99999) rfl hk.1 (by show k < 8; omega) (by intro z hz; simp at hz; omega) fun m hm=>?_)
  have c6:CMulB 6 m:=.lt (by decide)
  have c3:CMulB 3 m:=.lt (by decide)
  have g1 : 0 < 6 * m + 1:=by omega
  have g2 : 6 * m + 1 < 2 ^ 60:=by omega
  have m0 : 0 < m:=by omega
  have mz:m.natAbs < 2 ^ 8000:=Nat.lt_of_lt_of_le (show m.natAbs < 2 ^ 60 by omega) (Nat.pow_le_pow_right (by decide) (by decide))
  simp_arith only [grd_t,len_ok,p__law_pick.eq]
  (with_reducible (first | refine any_step fun v hv=>?_ | refine sqb_any fun v hv=>?_))
  simp_arith only [grd_t,len_ok,p__law_made.eq]
  exact rt_end (hQ _ (qd_sm m0 (by omega) (by omega)))
def Nr (z:Int × Int):Prop:=0 <= z.1 /\ z.1 <= z.2 /\ 0 < z.2 /\ z.2 < 10 ^ 12
def p__law_near:List W -> (PyData -> Prop) -> Prop:=fun ws Q=>ws = [.reel] /\ (True) /\ ∀ z:(Int × Int) × (Int × Int),(Nr z.1 /\ Nr z.2) -> Q (.tuple [pr z.1.1 z.1.2,pr z.2.1 z.2.2])
theorem p__law_near.mono:∀ ws (Q Q':PyData -> Prop),(∀ d,Q d -> Q' d) -> p__law_near ws Q -> p__law_near ws Q':=fun _ _ _ h_ ⟨e_,p_,q_⟩=>⟨e_,p_,fun o_ ho_=>h_ _ (q_ o_ ho_)⟩
theorem p__law_near.len:∀ ws (Q:PyData -> Prop),p__law_near ws Q -> ws.length = 1:=fun _ _ ⟨e_,_⟩=>by subst e_; rfl
theorem p__law_near.eq   : p__law_near [.reel] = bnd (anyM fun z:(Int × Int) × (Int × Int)=>Nr z.1 /\ Nr z.2) fun z=>VL.ret (.tuple [pr z.1.1 z.1.2,pr z.2.1 z.2.2]:PyData):=by
  refine mo_ext fun Q=>⟨?_,fun q_=>⟨rfl,trivial,q_⟩⟩
  rintro ⟨e_,_,q_⟩
  simp_arith only [pr_i,and_assoc] at e_
  
  exact q_
theorem sc__law_near:FnScope ["_law_reel_here", "_law_ends", "_law_turn", "_law_often", "_law_here", "_law_there", "_law_grown"] ["_law_reel_here"] (defScope (top 26)):=⟨rfl,rfl,rfl,by decide +kernel,rfl,by decide +kernel,by decide +kernel⟩
theorem d__law_near (Fn:FnIn K mg "_law_near" (top 26) ["_law_reel_here"]) (Z:Bz mg) (d__law_pick:∀ rl,Dfn P w K mg base rl "_law_pick" ["_law_reel_here", "_law_many"] 1 p__law_pick)   : Dfn P w K mg base rl "_law_near" ["_law_reel_here"] 2 p__law_near:=by
  have sc:=sc__law_near
  refine Dfn.of Fn sc (p__law_near.mono) (p__law_near.len) (fun cdv A outer s H E hr=>(vs_cons (vs_set 1 sc.nd (v_lst (pvs_cons (v_tup (pvs_cons pv_int (pvs_cons pv_int pvs_nil))) (pvs_cons (v_tup (pvs_cons pv_int (pvs_cons pv_int pvs_nil))) pvs_nil))))
      (vs_cons (vs_forF [2,3,4,5,6] PassesOwn.never rfl (vi_range1 Z.range_ (pvs_cons pv_int pvs_nil)) (vg_name 2 sc.nd) (vs_cons (vs_setZ 3 sc.nd (v_ix (v_lst (pvs_cons pv_int (pvs_cons pv_int (pvs_cons pv_int (pvs_cons pv_int (pvs_cons pv_int (pvs_cons (v_add pv_int (v_call (d__law_pick _) (hr.mono (by decide)) (pvs_cons (vn 0) (pvs_cons pv_int pvs_nil)))) pvs_nil))))))) (v_call (d__law_pick _) (hr.mono (by decide)) (pvs_cons (vn 0) (pvs_cons pv_int pvs_nil)))))
      (vs_cons (vs_par 4 5 rfl sc.nd (pvs_cons (v_ix (vn 1) (v_mod (vn 2) pv_int)) (pvs_cons (v_ix (vn 1) (v_sub pv_int (v_mod (vn 2) pv_int))) pvs_nil)))
      (vs_cons (vs_setZ 6 sc.nd (v_tup (pvs_cons (v_add (v_ix (vn 5) pv_int) (v_mul (vn 3) (v_ix (vn 4) pv_int))) (pvs_cons (v_add (v_ix (vn 5) pv_int) (v_mul (vn 3) (v_ix (vn 4) pv_int))) pvs_nil))))
      (vs_one (vs_if (vb_cmp op_lt vo_lt (nomark _) (v_ix (vn 6) pv_int) (v_pow pv_int pv_int)) (vs_one (vs_lput 1 (v_sub pv_int (v_mod (vn 2) pv_int)) (vn 6))) vs_nil))))))
      (vs_one (vs_ret (v_tuple Z.tuple_ (pvs_cons (vn 1) pvs_nil))))))) ?_
  rintro ws Q ⟨rfl,_,hQ⟩
  refine read_of ?_
  have sz:=PySem.sizeLine_eq
  have cp12:CPow 10 12:=⟨by decide,by decide,by decide⟩
  simp_arith only [grd_t,len_ok]
  refine invR_go (fun i ρ=>∃ u v:Int × Int,Nr u /\ Nr v /\ ρ = [some .reel,some (.ml [pr u.1 u.2,pr v.1 v.2]),none,none,none,none,none]) ⟨(0,1),(1,1),⟨by decide,by decide,by decide,by decide⟩,⟨by decide,by decide,by decide,by decide⟩,rfl⟩ ?_ ?_
  · rintro i hi ρ ⟨⟨a,b⟩,⟨c,d⟩,hu,hv,rfl⟩ K hK
    obtain ⟨a0,ab,b0,b12⟩:=hu
    obtain ⟨c0,cd,d0,d12⟩:=hv
    have a0 : 0 <= a:=a0
    have ab:a <= b:=ab
    have b12:b < 10 ^ 12:=b12
    have c0 : 0 <= c:=c0
    have cd:c <= d:=cd
    have d12:d < 10 ^ 12:=d12
    simp_arith only [grd_t,len_ok,p__law_pick.eq]
    (with_reducible (first | refine any_step fun x hx=>?_ | refine sqb_any fun x hx=>?_))
    try simp_arith only [grd_t,len_ok,p__law_pick.eq]
    (with_reducible (first | refine any_step fun k hk=>?_ | refine sqb_any fun k hk=>?_))
    try simp_arith only [grd_t,len_ok]
    refine sqo (menuA_step (xs:=[1,1,1,1,2,1 + x]) (enc:=PyData.int) (fun m=>1 <= m /\ m <= 9) rfl hk.1 (by show k < 6; omega) (by intro z hz; simp at hz; omega) fun m hm=>?_)
    have c1:∀ y:Int,CMulB m y:=fun y=>.lt (by omega)
    have cd2:CDivB (0 + (i:Int)) 2:=CDivB.of (by decide) (by decide)
    have m2:(0 + (i:Int)).fmod 2 = 0 \/ (0 + (i:Int)).fmod 2 = 1:=by
      have h1:=Int.fmod_nonneg_of_pos (0 + (i:Int)) (show (0:Int) < 2 by decide)
      have h2:=Int.fmod_lt_of_pos (0 + (i:Int)) (show (0:Int) < 2 by decide)
      omega
    have n1:m * a <= m * b:=Int.mul_le_mul_of_nonneg_left ab (by omega)
    have n2 : 0 <= m * a:=Int.mul_nonneg (by omega) a0
    have n3:m * c <= m * d:=Int.mul_le_mul_of_nonneg_left cd (by omega)
    have n4 : 0 <= m * c:=Int.mul_nonneg (by omega) c0
    have n5 : 0 <= m * b:=Int.mul_nonneg (by omega) (by omega)
    have n6 : 0 <= m * d:=Int.mul_nonneg (by omega) (by omega)
    rcases m2 with e | e
    · simp_arith only [grd_t,len_ok,i0,i1,tupD_pr,asT_pr,e,c1,s_lput,cp12,pr_D]
      by_cases h:d + m * b < 10 ^ Int.toNat 12
      · rw [if_pos (decide_eq_true h)]
        exact hK _ (lpS_nx ⟨(a,b),(c + m * a,d + m * b),⟨a0,ab,b0,b12⟩,⟨by show 0 <= c + m * a; omega,by show c + m * a <= d + m * b; omega,by show 0 < d + m * b; omega,h⟩,rfl⟩)
      · rw [if_neg fun z=>h (of_decide_eq_true z)]
        exact hK _ (lpS_nx ⟨(a,b),(c,d),⟨a0,ab,b0,b12⟩,⟨c0,cd,d0,d12⟩,rfl⟩)
    · simp_arith only [grd_t,len_ok,i0,i1,tupD_pr,asT_pr,e,c1,s_lput,cp12,pr_D]
      by_cases h:b + m * d < 10 ^ Int.toNat 12
      · rw [if_pos (decide_eq_true h)]
        exact hK _ (lpS_nx ⟨(a + m * c,b + m * d),(c,d),⟨by show 0 <= a + m * c; omega,by show a + m * c <= b + m * d; omega,by show 0 < b + m * d; omega,h⟩,⟨c0,cd,d0,d12⟩,rfl⟩)
      · rw [if_neg fun z=>h (of_decide_eq_true z)]
        exact hK _ (lpS_nx ⟨(a,b),(c,d),⟨a0,ab,b0,b12⟩,⟨c0,cd,d0,d12⟩,rfl⟩)
  · rintro ρ ⟨u,v,hu,hv,rfl⟩
    simp_arith only [grd_t,len_ok]
    exact rt_end (hQ (u,v) ⟨hu,hv⟩)
def PrOk (z:(Int × Int) × (Int × Int)):Prop:=Sz z.1.1 z.1.2 /\ Sz z.2.1 z.2.2
theorem sz_fr {r:Rat} (h:qSm 60 r):Sz r.num r.den:=⟨den_p r,by have:=h.2; omega,h.1⟩
def p__law_pair:List W -> (PyData -> Prop) -> Prop:=fun ws Q=>ws = [.reel] /\ (True) /\ ∀ z:(Int × Int) × (Int × Int),(PrOk z) -> Q (.tuple [pr z.1.1 z.1.2,pr z.2.1 z.2.2])
theorem p__law_pair.mono:∀ ws (Q Q':PyData -> Prop),(∀ d,Q d -> Q' d) -> p__law_pair ws Q -> p__law_pair ws Q':=fun _ _ _ h_ ⟨e_,p_,q_⟩=>⟨e_,p_,fun o_ ho_=>h_ _ (q_ o_ ho_)⟩
theorem p__law_pair.len:∀ ws (Q:PyData -> Prop),p__law_pair ws Q -> ws.length = 1:=fun _ _ ⟨e_,_⟩=>by subst e_; rfl
theorem p__law_pair.eq   : p__law_pair [.reel] = bnd (anyM fun z:(Int × Int) × (Int × Int)=>PrOk z) fun z=>VL.ret (.tuple [pr z.1.1 z.1.2,pr z.2.1 z.2.2]:PyData):=by
  refine mo_ext fun Q=>⟨?_,fun q_=>⟨rfl,trivial,q_⟩⟩
  rintro ⟨e_,_,q_⟩
  simp_arith only [pr_i,and_assoc] at e_
  
  exact q_
theorem sc__law_pair:FnScope ["_law_reel_here", "_law_way", "_law_one", "_law_step", "_law_lump", "_law_by", "_law_bottom", "_law_top", "_law_m", "_law_k"] ["_law_reel_here"] (defScope (top 27)):=⟨rfl,rfl,rfl,by decide +kernel,rfl,by decide +kernel,by decide +kernel⟩
theorem d__law_pair (Fn:FnIn K mg "_law_pair" (top 27) ["_law_reel_here"]) (Z:Bz mg) (d__law_pick:∀ rl,Dfn P w K mg base rl "_law_pick" ["_law_reel_here", "_law_many"] 1 p__law_pick) (d__law_small:∀ rl,Dfn P w K mg base rl "_law_small" ["_law_reel_here"] 2 p__law_small) (d__law_turned:∀ rl,Dfn P w K mg base rl "_law_turned" ["_law_p", "_law_q"] 1 p__law_turned) (d__law_near:∀ rl,Dfn P w K mg base rl "_law_near" ["_law_reel_here"] 2 p__law_near) (d__law_made:∀ rl,Dfn P w K mg base rl "_law_made" ["_law_top", "_law_bottom"] 1 p__law_made)   : Dfn P w K mg base rl "_law_pair" ["_law_reel_here"] 3 p__law_pair:=by
  have sc:=sc__law_pair
  refine Dfn.of Fn sc (p__law_pair.mono) (p__law_pair.len) (fun cdv A outer s H E hr=>(vs_cons (vs_setZ 1 sc.nd (v_call (d__law_pick _) (hr.mono (by decide)) (pvs_cons (vn 0) (pvs_cons pv_int pvs_nil))))
      (vs_cons (vs_setZ 2 sc.nd (v_call (d__law_small _) (hr.mono (by decide)) (pvs_cons (vn 0) pvs_nil)))
      (vs_cons (vs_if (vb_cmp (op_eqD hr.units) vo_eqD (nomark _) (vn 1) pv_int) (vs_one (vs_ret (v_tup (pvs_cons (vn 2) (pvs_cons (v_call (d__law_small _) (hr.mono (by decide)) (pvs_cons (vn 0) pvs_nil)) pvs_nil))))) vs_nil)
      (vs_cons (vs_if (vb_cmp op_lt vo_lt (nomark _) (vn 1) pv_int) (vs_cons (vs_setZ 3 sc.nd (v_ix (v_lst (pvs_cons pv_int (pvs_cons pv_int (pvs_cons pv_int pvs_nil)))) (v_call (d__law_pick _) (hr.mono (by decide)) (pvs_cons (vn 0) (pvs_cons pv_int pvs_nil)))))
      (vs_one (vs_ret (v_tup (pvs_cons (vn 2) (pvs_cons (v_call (d__law_made _) (hr.mono (by decide)) (pvs_cons (v_add (v_mul (v_ix (vn 2) pv_int) (vn 3)) (v_ix (vn 2) pv_int)) (pvs_cons (v_mul (v_ix (vn 2) pv_int) (vn 3)) pvs_nil))) pvs_nil)))))) vs_nil)
      (vs_cons (vs_if (vb_cmp (op_eqD hr.units) vo_eqD (nomark _) (vn 1) pv_int) (vs_cons (vs_setZ 4 sc.nd (v_sub (v_call (d__law_pick _) (hr.mono (by decide)) (pvs_cons (vn 0) (pvs_cons pv_int pvs_nil))) pv_int))
      (vs_cons (vs_setZ 5 sc.nd (v_add pv_int (v_call (d__law_pick _) (hr.mono (by decide)) (pvs_cons (vn 0) (pvs_cons pv_int pvs_nil)))))
      (vs_one (vs_ret (v_ifExp (vb_cmp (op_eqD hr.units) vo_eqD (nomark _) (v_call (d__law_pick _) (hr.mono (by decide)) (pvs_cons (vn 0) (pvs_cons pv_int pvs_nil))) pv_int) (v_tup (pvs_cons (v_tup (pvs_cons (vn 4) (pvs_cons pv_int pvs_nil))) (pvs_cons (v_call (d__law_made _) (hr.mono (by decide)) (pvs_cons (v_add (v_mul (vn 4) (vn 5)) pv_int) (pvs_cons (vn 5) pvs_nil))) pvs_nil))) (v_tup (pvs_cons (v_tup (pvs_cons (v_sub (vn 4) pv_int) (pvs_cons (vn 5) pvs_nil))) (pvs_cons (v_tup (pvs_cons (vn 4) (pvs_cons pv_int pvs_nil))) pvs_nil)))))))) vs_nil)
      (vs_cons (vs_if (vb_cmp (op_eqD hr.units) vo_eqD (nomark _) (vn 1) pv_int) (vs_cons (vs_setZ 6 sc.nd (v_sub (v_sub (v_pow pv_int pv_int) pv_int) (v_call (d__law_pick _) (hr.mono (by decide)) (pvs_cons (vn 0) (pvs_cons pv_int pvs_nil)))))
      (vs_cons (vs_setZ 7 sc.nd (v_add (v_mul (v_call (d__law_pick _) (hr.mono (by decide)) (pvs_cons (vn 0) (pvs_cons (v_pow pv_int pv_int) pvs_nil))) (v_pow pv_int pv_int)) (v_call (d__law_pick _) (hr.mono (by decide)) (pvs_cons (vn 0) (pvs_cons (v_pow pv_int pv_int) pvs_nil)))))
      (vs_one (vs_ret (v_tup (pvs_cons (v_call (d__law_made _) (hr.mono (by decide)) (pvs_cons (vn 7) (pvs_cons (vn 6) pvs_nil))) (pvs_cons (v_call (d__law_made _) (hr.mono (by decide)) (pvs_cons (v_add (v_add (vn 7) pv_int) (v_call (d__law_pick _) (hr.mono (by decide)) (pvs_cons (vn 0) (pvs_cons pv_int pvs_nil)))) (pvs_cons (vn 6) pvs_nil))) pvs_nil))))))) vs_nil)
      (vs_cons (vs_if (PBW.pb (vb_and (vb_cmp (op_eqD hr.units) vo_eqD (nomark _) (vn 1) pv_int) (vb_and1 (vb_cmp op_gt vo_gt (nomark _) (v_ix (vn 2) pv_int) pv_int)))) (vs_cons (vs_setZ 8 sc.nd (v_call (d__law_turned _) (hr.mono (by decide)) (pvs_cons (v_ix (vn 2) pv_int) (pvs_cons (v_ix (vn 2) pv_int) pvs_nil))))
      (vs_cons (vs_setZ 9 sc.nd (v_div (v_sub (v_mul (v_ix (vn 2) pv_int) (vn 8)) pv_int) (v_ix (vn 2) pv_int)))
      (vs_one (vs_ret (v_ifExp (vb_cmp (op_eqD hr.units) vo_eqD (nomark _) (v_call (d__law_pick _) (hr.mono (by decide)) (pvs_cons (vn 0) (pvs_cons pv_int pvs_nil))) pv_int) (v_tup (pvs_cons (v_tup (pvs_cons (vn 9) (pvs_cons (vn 8) pvs_nil))) (pvs_cons (v_tup (pvs_cons (v_sub (v_ix (vn 2) pv_int) (vn 9)) (pvs_cons (v_sub (v_ix (vn 2) pv_int) (vn 8)) pvs_nil))) pvs_nil))) (v_tup (pvs_cons (v_tup (pvs_cons (vn 9) (pvs_cons (vn 8) pvs_nil))) (pvs_cons (vn 2) pvs_nil)))))))) vs_nil)
      (vs_cons (vs_if (vb_cmp (op_eqD hr.units) vo_eqD (nomark _) (vn 1) pv_int) (vs_one (vs_ret (v_tup (pvs_cons (v_call (d__law_made _) (hr.mono (by decide)) (pvs_cons (v_sub (v_neg pv_int) (v_call (d__law_pick _) (hr.mono (by decide)) (pvs_cons (vn 0) (pvs_cons pv_int pvs_nil)))) (pvs_cons (v_add pv_int (v_call (d__law_pick _) (hr.mono (by decide)) (pvs_cons (vn 0) (pvs_cons pv_int pvs_nil)))) pvs_nil))) (pvs_cons (v_tup (pvs_cons pv_int (pvs_cons (v_add pv_int (v_call (d__law_pick _) (hr.mono (by decide)) (pvs_cons (vn 0) (pvs_cons pv_int pvs_nil)))) pvs_nil))) pvs_nil))))) vs_nil)
      (vs_cons (vs_if (PBW.pb (vb_and (vb_cmp (op_eqD hr.units) vo_eqD (nomark _) (vn 1) pv_int) (vb_and1 (vb_cmp (op_eqD hr.units) vo_eqD (nomark _) (v_call (d__law_pick _) (hr.mono (by decide)) (pvs_cons (vn 0) (pvs_cons pv_int pvs_nil))) pv_int)))) (vs_one (vs_ret (v_call (d__law_near _) (hr.mono (by decide)) (pvs_cons (vn 0) pvs_nil)))) vs_nil)
      (vs_one (vs_ret (v_tup (pvs_cons (vn 2) (pvs_cons (vn 2) pvs_nil))))))))))))))) ?_
  rintro ws Q ⟨rfl,_,hQ⟩
  refine read_of ?_
  have cp12:CPow 10 12:=⟨by decide,by decide,by decide⟩
  have cp6:CPow 10 6:=⟨by decide,by decide,by decide⟩
  have cp5:CPow 10 5:=⟨by decide,by decide,by decide⟩
  have e12:(10:Int) ^ Int.toNat 12 = 1000000000000:=by decide
  have e6:(10:Int) ^ Int.toNat 6 = 1000000:=by decide
  have e5:(10:Int) ^ Int.toNat 5 = 100000:=by decide
  simp_arith only [grd_t,len_ok,p__law_pick.eq]
  (with_reducible (first | refine any_step fun w hw=>?_ | refine sqb_any fun w hw=>?_))
  try simp_arith only [grd_t,len_ok,p__law_small.eq]
  (with_reducible (first | refine any_step fun r hr=>?_ | refine sqb_any fun r hr=>?_))
  have sr:Sz r.num r.den:=sz_fr (hr.mono (by decide))
  have rn:=hr.1
  have rd:=hr.2
  have dp:=den_p r
  have fin:∀ q s:Rat,qSm 60 q -> qSm 60 s -> Q (.tuple [fr q,fr s]):=fun q s hq hs=>hQ ((q.num,q.den),(s.num,s.den)) ⟨sz_fr hq,sz_fr hs⟩
  have r60:qSm 60 r:=hr.mono (by decide)
  have mz:∀ x:Int,x.natAbs < 2 ^ 60 -> x.natAbs < 2 ^ 8000:=fun x h=>Nat.lt_of_lt_of_le h (Nat.pow_le_pow_right (by decide) (by decide))
  try simp_arith only [grd_t,len_ok]
  refine ite_step (fun _=>?_) fun _=>?_
  · try simp_arith only [grd_t,len_ok,p__law_small.eq]
    (with_reducible (first | refine any_step fun s hs=>?_ | refine sqb_any fun s hs=>?_))
    try simp_arith only [grd_t,len_ok]
    exact rt_end (fin r s r60 (hs.mono (by decide)))
  try simp_arith only [grd_t,len_ok]
  refine ite_step (fun _=>?_) fun _=>?_
  · try simp_arith only [grd_t,len_ok,p__law_pick.eq]
    (with_reducible (first | refine any_step fun k hk=>?_ | refine sqb_any fun k hk=>?_))
    try simp_arith only [grd_t,len_ok]
    refine sqo (menuA_step (xs:=[10,1000,99999]) (enc:=PyData.int) (fun m=>1 <= m /\ m <= 99999) rfl hk.1 (by show k < 3; omega) (by decide) fun m hm=>?_)
    have c1:∀ x:Int,CMulB x m:=fun x=>.rt (by omega)
    have b1:(r.den:Int) * m <= r.den * 99999:=Int.mul_le_mul_of_nonneg_left (by omega) (by omega)
    have b0 : 0 < (r.den:Int) * m:=Int.mul_pos dp (by omega)
    have u1:(r.num * m).natAbs <= 1048576 * 99999:=by rw [Int.natAbs_mul]; exact Nat.mul_le_mul (by omega) (by omega)
    have bz:=mz ((r.den:Int) * m) (by omega)
    simp_arith only [grd_t,len_ok,BFR,c1,p__law_made.eq]
    exact rt_end (fin _ _ r60 (qd_sm b0 (by omega) (by omega)))
  have sq':∀ q:Rat,qSm 60 q -> Sz q.num q.den:=fun q h=>sz_fr h
  have fin2:∀ a b c d:Int,Sz a b -> Sz c d -> Q (.tuple [pr a b,pr c d]):=fun a b c d h1 h2=>hQ ((a,b),(c,d)) ⟨h1,h2⟩
  try simp_arith only [grd_t,len_ok]
  refine ite_step (fun _=>?_) fun _=>?_
  · try simp_arith only [grd_t,len_ok,p__law_pick.eq]
    (with_reducible (first | refine any_step fun u hu=>?_ | refine sqb_any fun u hu=>?_))
    try simp_arith only [grd_t,len_ok,p__law_pick.eq]
    (with_reducible (first | refine any_step fun v hv=>?_ | refine sqb_any fun v hv=>?_))
    try simp_arith only [grd_t,len_ok,p__law_pick.eq]
    (with_reducible (first | refine any_step fun f hf=>?_ | refine sqb_any fun f hf=>?_))
    have c1:∀ x:Int,CMulB x (1 + v):=fun x=>.rt (by omega)
    have v0 : 0 < 1 + v:=by omega
    have vz:=mz (1 + v) (by omega)
    have hb:((u - 4) * (1 + v) + 1).natAbs < 2 ^ 60:=by
      have:((u - 4) * (1 + v)).natAbs <= 5 * 50:=by rw [Int.natAbs_mul]; exact Nat.mul_le_mul (by omega) (by omega)
      omega
    cases h0:(f == 0) with
    | true =>
      simp_arith only [grd_t,len_ok,c1,h0,p__law_made.eq]
      exact rt_end (fin2 (u - 4) 1 _ _ ⟨by decide,by decide,by omega⟩ (sq' _ (qd_sm v0 hb (by omega))))
    | false =>
      simp_arith only [grd_t,len_ok,c1,h0]
      exact rt_end (fin2 (u - 4 - 1) (1 + v) (u - 4) 1 ⟨by omega,by omega,by omega⟩ ⟨by decide,by decide,by omega⟩)
  try simp_arith only [grd_t,len_ok]
  refine ite_step (fun _=>?_) fun _=>?_
  · try simp_arith only [grd_t,len_ok,p__law_pick.eq,cp12,e12,cp6,e6,cp5,e5]
    (with_reducible (first | refine any_step fun u hu=>?_ | refine sqb_any fun u hu=>?_))
    try simp_arith only [grd_t,len_ok,p__law_pick.eq,cp12,e12,cp6,e6,cp5,e5]
    (with_reducible (first | refine any_step fun x hx=>?_ | refine sqb_any fun x hx=>?_))
    have c1:∀ x:Int,CMulB x 100000:=fun x=>.rt (by decide)
    try simp_arith only [grd_t,len_ok,p__law_pick.eq,c1,cp12,e12,cp6,e6,cp5,e5]
    (with_reducible (first | refine any_step fun y hy=>?_ | refine sqb_any fun y hy=>?_))
    have b0 : 0 < 1000000000000 - 1 - u:=by omega
    have bz:=mz (1000000000000 - 1 - u) (by omega)
    try simp_arith only [grd_t,len_ok,p__law_pick.eq,c1,p__law_made.eq]
    (with_reducible (first | refine any_step fun v hv=>?_ | refine sqb_any fun v hv=>?_))
    try simp_arith only [grd_t,len_ok,p__law_made.eq]
    exact rt_end (fin _ _ (qd_sm b0 (by omega) (by omega)) (qd_sm b0 (by omega) (by omega)))
  try simp_arith only [grd_t,len_ok]
  have gr:=gcd_fr r
  refine ite_step (fun _=>?_) fun _=>?_
  · by_cases hd : 1 < (r.den:Int)
    · have dd:decide (1 < (r.den:Int)) = true:=decide_eq_true hd
      have r62:(r.den:Int) < 2 ^ 62:=by omega
      simp_arith only [grd_t,len_ok,BFR,dd,p__law_turned.eq]
      (with_reducible (first | refine any_step fun m hm=>?_ | refine sqb_any fun m hm=>?_))
      have c1:CMulB r.num m:=.rt (by omega)
      have c2:CDivB (r.num * m - 1) (r.den:Int):=cdv dp (by omega)
      have hk:((r.num * m - 1).fdiv (r.den:Int)).natAbs < 2 ^ 50:=by
        rw [Int.fdiv_eq_ediv_of_nonneg _ (by omega)]
        have b1:(r.num * m).natAbs <= 1048576 * 1048576:=by rw [Int.natAbs_mul]; exact Nat.mul_le_mul (by omega) (by omega)
        have:=Int.natAbs_ediv_le_natAbs (r.num * m - 1) (r.den:Int)
        omega
      simp_arith only [grd_t,len_ok,BFR,c1,c2,p__law_pick.eq]
      (with_reducible (first | refine any_step fun f hf=>?_ | refine sqb_any fun f hf=>?_))
      generalize (r.num * m - 1).fdiv (r.den:Int) = k at *
      have m0:=hm.1
      have mq:=hm.2.1
      cases h0:(f == 0) with
      | true =>
        simp_arith only [grd_t,len_ok,BFR,h0]
        exact rt_end (fin2 k m (r.num - k) (r.den - m) ⟨m0,by omega,by omega⟩ ⟨by omega,by omega,by omega⟩)
      | false =>
        simp_arith only [grd_t,len_ok,BFR,h0]
        exact rt_end (fin2 k m _ _ ⟨m0,by omega,by omega⟩ sr)
    · have dd:decide (1 < (r.den:Int)) = false:=decide_eq_false hd
      simp_arith only [grd_t,len_ok,BFR,dd]
      try simp_arith only [grd_t,len_ok]
      refine ite_step (fun _=>?_) fun _=>?_
      · try simp_arith only [grd_t,len_ok,p__law_pick.eq]
        (with_reducible (first | refine any_step fun u hu=>?_ | refine sqb_any fun u hu=>?_))
        try simp_arith only [grd_t,len_ok,p__law_pick.eq]
        (with_reducible (first | refine any_step fun x hx=>?_ | refine sqb_any fun x hx=>?_))
        have b0 : 0 < 1 + x:=by omega
        have bz:=mz (1 + x) (by omega)
        try simp_arith only [grd_t,len_ok,p__law_pick.eq,p__law_made.eq]
        (with_reducible (first | refine any_step fun y hy=>?_ | refine sqb_any fun y hy=>?_))
        try simp_arith only [grd_t,len_ok]
        exact rt_end (fin2 _ _ 1 (1 + y) (sq' _ (qd_sm b0 (by omega) (by omega))) ⟨by omega,by omega,by decide⟩)
      try simp_arith only [grd_t,len_ok]
      have fine:VL.ret (Fl.rt (W.d (PyData.tuple [fr r,fr r]))) (endQ Q):=rt_end (fin r r r60 r60)
      refine ite_step (fun _=>?_) fun _=>?_
      · try simp_arith only [grd_t,len_ok,p__law_pick.eq]
        (with_reducible (first | refine any_step fun f hf=>?_ | refine sqb_any fun f hf=>?_))
        try simp_arith only [grd_t,len_ok]
        refine ite_step (fun _=>?_) fun _=>?_
        · try simp_arith only [grd_t,len_ok,p__law_near.eq]
          (with_reducible (first | refine any_step fun z hz=>?_ | refine sqb_any fun z hz=>?_))
          try simp_arith only [grd_t,len_ok]
          obtain ⟨⟨a,b⟩,⟨c,d⟩⟩:=z
          obtain ⟨⟨a0,ab,b0,b12⟩,c0,cd,d0,d12⟩:=hz
          have a0 : 0 <= a:=a0
          have ab:a <= b:=ab
          have b12:b < 10 ^ 12:=b12
          have c0 : 0 <= c:=c0
          have cd:c <= d:=cd
          have d12:d < 10 ^ 12:=d12
          exact rt_end (fin2 a b c d ⟨b0,by omega,by omega⟩ ⟨d0,by omega,by omega⟩)
        · try simp_arith only [grd_t,len_ok]
          exact fine
      · try simp_arith only [grd_t,len_ok]
        exact fine
  try simp_arith only [grd_t,len_ok]
  refine ite_step (fun _=>?_) fun _=>?_
  · try simp_arith only [grd_t,len_ok,p__law_pick.eq]
    (with_reducible (first | refine any_step fun u hu=>?_ | refine sqb_any fun u hu=>?_))
    try simp_arith only [grd_t,len_ok,p__law_pick.eq]
    (with_reducible (first | refine any_step fun x hx=>?_ | refine sqb_any fun x hx=>?_))
    have b0 : 0 < 1 + x:=by omega
    have bz:=mz (1 + x) (by omega)
    try simp_arith only [grd_t,len_ok,p__law_pick.eq,p__law_made.eq]
    (with_reducible (first | refine any_step fun y hy=>?_ | refine sqb_any fun y hy=>?_))
    try simp_arith only [grd_t,len_ok]
    exact rt_end (fin2 _ _ 1 (1 + y) (sq' _ (qd_sm b0 (by omega) (by omega))) ⟨by omega,by omega,by decide⟩)
  try simp_arith only [grd_t,len_ok]
  have fine:VL.ret (Fl.rt (W.d (PyData.tuple [fr r,fr r]))) (endQ Q):=rt_end (fin r r r60 r60)
  refine ite_step (fun _=>?_) fun _=>?_
  · try simp_arith only [grd_t,len_ok,p__law_pick.eq]
    (with_reducible (first | refine any_step fun f hf=>?_ | refine sqb_any fun f hf=>?_))
    try simp_arith only [grd_t,len_ok]
    refine ite_step (fun _=>?_) fun _=>?_
    · try simp_arith only [grd_t,len_ok,p__law_near.eq]
      (with_reducible (first | refine any_step fun z hz=>?_ | refine sqb_any fun z hz=>?_))
      try simp_arith only [grd_t,len_ok]
      obtain ⟨⟨a,b⟩,⟨c,d⟩⟩:=z
      obtain ⟨⟨a0,ab,b0,b12⟩,c0,cd,d0,d12⟩:=hz
      have a0 : 0 <= a:=a0
      have ab:a <= b:=ab
      have b12:b < 10 ^ 12:=b12
      have c0 : 0 <= c:=c0
      have cd:c <= d:=cd
      have d12:d < 10 ^ 12:=d12
      exact rt_end (fin2 a b c d ⟨b0,by omega,by omega⟩ ⟨d0,by omega,by omega⟩)
    · try simp_arith only [grd_t,len_ok]
      exact fine
  · try simp_arith only [grd_t,len_ok]
    exact fine
theorem nob_shw:Shw (PyData.tuple [.str "no", .str "between"]):=by
  have k:∀ y:String,(Str.ofString y).cps.size <= 100 -> Sm 0 200 (.str (Str.ofString y)):=fun y hy=>⟨strOk_ofString y,by simp [PyData.depth],by simp only [PyData.bulk]; omega⟩
  refine (Sm.seq (dp:=0) (bk:=200) (n:=2) (fun d m=>?_) (by simp)).1.shw (by decide) (by decide)
  simp only [List.mem_cons,List.not_mem_nil,or_false] at m
  rcases m with rfl | rfl
  · exact k _ (by decide)
  · exact k _ (by decide)
def zD (z:(Int × Int) × (Int × Int)):PyData:=.tuple [pr z.1.1 z.1.2,pr z.2.1 z.2.2]
theorem sc_law:FnScope ["_law_script", "_law_reel_here", "_law_turn", "_law_one", "_law_other", "_law_first", "_law_second", "_law_found"] ["_law_script"] (defScope (top 28)):=⟨rfl,rfl,rfl,by decide +kernel,rfl,by decide +kernel,by decide +kernel⟩
theorem law_body (Z:Bz mg) (d__law_reel:DfnR P w K mg base "_law_reel" ["_law_script"] 1 preS) (d__law_pair:∀ rl,Dfn P w K mg base rl "_law_pair" ["_law_reel_here"] 3 p__law_pair) (d__law_made:∀ rl,Dfn P w K mg base rl "_law_made" ["_law_top", "_law_bottom"] 1 p__law_made) (d__law_told:∀ rl,Dfn P w K mg base rl "_law_told" ["_law_one", "_law_other"] 4 (toldP "NoRoom" "word" pE_simplest)) (d__law_below:∀ rl,Dfn P w K mg base rl "_law_below" ["_law_one", "_law_other"] 1 p__law_below) (d__law_is_simplest:∀ rl,Dfn P w K mg base rl "_law_is_simplest" ["_law_one", "_law_other", "_law_found"] 3 p__law_is_simplest)   {f:Addr} {fd:FuncData} (F:Fun K "law" "law" (top 28) f fd):FnOk P w K mg base CX0 6 f fd ["_law_script"] (spLaw2 K):=by
  have sc:=sc_law
  refine ok_law2 F sc (fun cdv A outer s H E hr=>(vs_newR 1 d__law_reel (hr.mono (by decide)) sc.nd (pvs_cons (vn 0) pvs_nil) (fun r=>(vs_cons (vs_forF [2,3,4,5,6,7] PassesOwn.never rfl (vi_range1 Z.range_ (pvs_cons pv_int pvs_nil)) (vg_name 2 sc.nd) (vs_cons (vs_asg (v_call (d__law_pair _) (hr.mono (by decide)) (pvs_cons (vn 1) pvs_nil)) (vg_tup (n:=2) rfl (vgs_cons (vg_name 3 sc.nd) (vgs_cons (vg_name 4 sc.nd) vgs_nil))))
      (vs_cons (vs_setZ 3 sc.nd (v_call (d__law_made _) (hr.mono (by decide)) (pvs_cons (v_ix (vn 3) pv_int) (pvs_cons (v_ix (vn 3) pv_int) pvs_nil))))
      (vs_one (vs_forF [5,6,7] PassesOwn.never rfl (vi_tup (v_tup (pvs_cons (v_tup (pvs_cons (vn 3) (pvs_cons (vn 4) pvs_nil))) (pvs_cons (v_tup (pvs_cons (vn 4) (pvs_cons (vn 3) pvs_nil))) (pvs_cons (v_tup (pvs_cons (v_tup (pvs_cons (v_neg (v_ix (vn 4) pv_int)) (pvs_cons (v_ix (vn 4) pv_int) pvs_nil))) (pvs_cons (v_tup (pvs_cons (v_neg (v_ix (vn 3) pv_int)) (pvs_cons (v_ix (vn 3) pv_int) pvs_nil))) pvs_nil))) pvs_nil))))) (vg_tup (n:=2) rfl (vgs_cons (vg_name 5 sc.nd) (vgs_cons (vg_name 6 sc.nd) vgs_nil))) (vs_cons (vs_setZ 7 sc.nd (v_call (d__law_told _) (hr.mono (by decide)) (pvs_cons (vn 5) (pvs_cons (vn 6) pvs_nil))))
      (vs_one (vs_if (vb_not (vb_val (v_call (d__law_below _) (hr.mono (by decide)) (pvs_cons (vn 5) (pvs_cons (vn 6) pvs_nil))))) (vs_one (vs_if (vb_cmp op_ne vo_neS (nomark _) (v_repr (hr.mono (Nat.zero_le _)) Z.repr_ (pvs_cons (vn 7) pvs_nil)) (v_repr (hr.mono (Nat.zero_le _)) Z.repr_ (pvs_cons (v_tup (pvs_cons pv_str (pvs_cons pv_str pvs_nil))) pvs_nil))) (vs_one (vs_ret pv_bl)) vs_nil)) (vs_one (vs_if (vb_not (vb_val (v_call (d__law_is_simplest _) (hr.mono (by decide)) (pvs_cons (vn 5) (pvs_cons (vn 6) (pvs_cons (vn 7) pvs_nil)))))) (vs_one (vs_ret pv_bl)) vs_nil))))))))))
      (vs_one (vs_ret pv_bl)))))) ?_
  intro ns hn
  have ps:=preS.eq hn
  have sz:=PySem.sizeLine_eq
  simp_arith only [grd_t,len_ok,ps]
  refine eachR_go ?_ ?_
  · intro i hi K hK
    simp_arith only [grd_t,len_ok,p__law_pair.eq]
    (with_reducible (first | refine any_step fun z hz=>?_ | refine sqb_any fun z hz=>?_))
    obtain ⟨⟨a,b⟩,⟨c,d⟩⟩:=z
    obtain ⟨s1,s2⟩:=hz
    have s1:Sz a b:=s1
    have s2:Sz c d:=s2
    have b0:=s1.1
    have bz:b.natAbs < 2 ^ 8000:=Nat.lt_of_lt_of_le (show b.natAbs < 2 ^ 60 by have:=s1.2.1; omega) (Nat.pow_le_pow_right (by decide) (by decide))
    simp_arith only [grd_t,len_ok,i0,i1,tupD_pr,asT_pr,p__law_made.eq]
    have sx:Sz (qd a b).num (qd a b).den:=sz_fr (qd_sm b0 s1.2.2 (by have:=s1.2.1; omega))
    have ex:fr (qd a b) = pr (qd a b).num (qd a b).den:=rfl
    rw [ex]
    generalize (qd a b).num = x at *
    generalize ((qd a b).den:Int) = y at *
    try simp_arith only [grd_t,len_ok,i0,i1,tupD_pr,asT_pr,pr_D]
    have hs:∀ z ∈ [((x,y),(c,d)),((c,d),(x,y)),((-c,d),(-x,y))],PrOk z:=by
      intro z mz
      simp only [List.mem_cons,List.not_mem_nil,or_false] at mz
      rcases mz with rfl | rfl | rfl
      · exact ⟨sx,s2⟩
      · exact ⟨s2,sx⟩
      · exact ⟨⟨s2.1,s2.2.1,by rw [Int.natAbs_neg]; exact s2.2.2⟩,⟨sx.1,sx.2.1,by rw [Int.natAbs_neg]; exact sx.2.2⟩⟩
    refine endS (each_go (xs:=[((x,y),(c,d)),((c,d),(x,y)),((-c,d),(-x,y))]) (enc:=zD) rfl ?_ (hK _ (lpS_nx rfl)))
    rintro ⟨⟨e,f⟩,⟨g,h⟩⟩ mz K2 hK2
    obtain ⟨t1,t2⟩:=hs _ mz
    have t1:Sz e f:=t1
    have t2:Sz g h:=t2
    have m1:CMulB e h:=cl60 t1.2.2
    have m2:CMulB g f:=cl60 t2.2.2
    have sw:=nob_shw
    have iz:tupD (zD ((e,f),(g,h))) = some [pr e f,pr g h]:=rfl
    by_cases hlt:e * h < g * f
    · have dl:decide (e * h < g * f) = true:=decide_eq_true hlt
      have fn:=smp_fin t1.1 t2.1 hlt
      have pt:=p__law_told.eq e f g h t1 t2
      rw [if_neg (fun z=>z hlt)] at pt
      generalize (smp e f g h).1 = p at *
      generalize (smp e f g h).2 = q at *
      simp_arith only [grd_t,len_ok,iz,pt,p__law_below.eq,dl,p__law_is_simplest.eq]
      exact hK2 _ (lpS_nx rfl)
    · have dl:decide (e * h < g * f) = false:=decide_eq_false hlt
      have pt:=p__law_told.eq e f g h t1 t2
      rw [if_pos hlt] at pt
      simp_arith only [grd_t,len_ok,iz,pt,p__law_below.eq,dl]
      exact hK2 _ (lpS_nx rfl)
  · simp_arith only [grd_t,len_ok]
    exact law_end
structure Txt (K:PySem.W.Frag) (mg:Str -> Option Value):Prop where
  bz:Bz mg
  f__law_reel:FnIn K mg "_law_reel" (top 17) ["_law_script"]
  f__law_pick:FnIn K mg "_law_pick" (top 18) ["_law_reel_here", "_law_many"]
  f_is_below:FnIn K mg "is_below" (top 12) ["one", "other"]
  f_simplest_above_nought:FnIn K mg "simplest_above_nought" (top 15) ["one", "other"]
  f__law_told:FnIn K mg "_law_told" (top 21) ["_law_one", "_law_other"]
  f__law_below:FnIn K mg "_law_below" (top 20) ["_law_one", "_law_other"]
  f__law_made:FnIn K mg "_law_made" (top 19) ["_law_top", "_law_bottom"]
  f__law_between:FnIn K mg "_law_between" (top 23) ["_law_one", "_law_middle", "_law_other"]
  f__law_turned:FnIn K mg "_law_turned" (top 22) ["_law_p", "_law_q"]
  f__law_is_simplest:FnIn K mg "_law_is_simplest" (top 24) ["_law_one", "_law_other", "_law_found"]
  f__law_small:FnIn K mg "_law_small" (top 25) ["_law_reel_here"]
  f__law_near:FnIn K mg "_law_near" (top 26) ["_law_reel_here"]
  f__law_pair:FnIn K mg "_law_pair" (top 27) ["_law_reel_here"]
  f_simplest:FnIn K mg "simplest" (top 14) ["one", "other"]

  x_NoRoom:XCl K mg "NoRoom" "word" "EvenError" "NoRoom.__init__" (inClass (top 3) 0) ["self", "word"] ["NoDeed", "NoNet", "NoPaper", "Nought", "NoRow", "NoText", "NoUpper", "TooMany"]
theorem ok_law {f:Addr} {fd:FuncData} (F:Fun K "law" "law" (top 28) f fd) (T:Txt K mg)  : FnOk P w K mg base CX0 6 f fd ["_law_script"] (spLaw2 K):=by
  have d__law_reel:DfnR P w K mg base "_law_reel" ["_law_script"] 1 preS:=K06.d__law_reel T.f__law_reel T.bz   
  have d__law_pick:∀ rl,Dfn P w K mg base rl "_law_pick" ["_law_reel_here", "_law_many"] 1 p__law_pick:=fun rl=>K06.d__law_pick T.f__law_pick T.bz   
  have d_is_below:∀ rl,Dfn P w K mg base rl "is_below" ["one", "other"] 1 p_is_below:=fun rl=>K06.d_is_below T.f_is_below T.bz   
  have d_simplest_above_nought:∀ rl,Dfn P w K mg base rl "simplest_above_nought" ["one", "other"] 1 p_simplest_above_nought:=fun rl=>K06.d_simplest_above_nought T.f_simplest_above_nought T.bz   
  have dE_simplest:∀ rl,DfnE P w K mg base rl "simplest" ["one", "other"] 3 pE_simplest:=fun rl=>K06.dE_simplest T.f_simplest T.bz d_simplest_above_nought d_is_below   (T.x_NoRoom.one i_NoRoom)
  have d__law_told:∀ rl,Dfn P w K mg base rl "_law_told" ["_law_one", "_law_other"] 4 (toldP "NoRoom" "word" pE_simplest):=fun rl=>K06.d__law_told T.f__law_told T.bz dE_simplest T.x_NoRoom
  have d__law_below:∀ rl,Dfn P w K mg base rl "_law_below" ["_law_one", "_law_other"] 1 p__law_below:=fun rl=>K06.d__law_below T.f__law_below T.bz   
  have d__law_made:∀ rl,Dfn P w K mg base rl "_law_made" ["_law_top", "_law_bottom"] 1 p__law_made:=fun rl=>K06.d__law_made T.f__law_made T.bz   
  have d__law_between:∀ rl,Dfn P w K mg base rl "_law_between" ["_law_one", "_law_middle", "_law_other"] 2 p__law_between:=fun rl=>K06.d__law_between T.f__law_between T.bz d__law_below  
  have d__law_turned:∀ rl,Dfn P w K mg base rl "_law_turned" ["_law_p", "_law_q"] 1 p__law_turned:=fun rl=>K06.d__law_turned T.f__law_turned T.bz   
  have d__law_is_simplest:∀ rl,Dfn P w K mg base rl "_law_is_simplest" ["_law_one", "_law_other", "_law_found"] 3 p__law_is_simplest:=fun rl=>K06.d__law_is_simplest T.f__law_is_simplest T.bz d__law_turned d__law_between d__law_made d__law_below  
  have d__law_small:∀ rl,Dfn P w K mg base rl "_law_small" ["_law_reel_here"] 2 p__law_small:=fun rl=>K06.d__law_small T.f__law_small T.bz d__law_made d__law_pick  
  have d__law_near:∀ rl,Dfn P w K mg base rl "_law_near" ["_law_reel_here"] 2 p__law_near:=fun rl=>K06.d__law_near T.f__law_near T.bz d__law_pick  
  have d__law_pair:∀ rl,Dfn P w K mg base rl "_law_pair" ["_law_reel_here"] 3 p__law_pair:=fun rl=>K06.d__law_pair T.f__law_pair T.bz d__law_pick d__law_small d__law_turned d__law_near d__law_made  
  exact law_body T.bz d__law_reel d__law_pair d__law_made d__law_told d__law_below d__law_is_simplest   F
end
theorem fin_mk {K:PySem.W.Frag} {h:Heap} {mg:Str -> Option Value} (X:K.In h) (G:h.Ns mainGlobals mg) {x:Str} {st:Stmt} {ps:List Str} {f:Addr} {oc kV dc pm cd ct:Value} {od an:Option Addr} {sl:Array (Option Value)} (a:PySem.W.nsIn K mainGlobals x = some (some (.ref f))) (l:K.lookup f = some ⟨oc,od,.func (PySem.W.fnOf x x (defArgs st) (defBody st) (defScope st) .none kV dc pm an cd ct),sl⟩) (c:PySem.W.codeIn K cd x = true) (k:PySem.W.keepIn K (.ref f) = true) (hb:∀ (kV doc pm:Value) (an:Option Addr) (cdv ct:Value) (us:List Value),us.length = ps.length -> bindArgs (PySem.W.fnOf x x (defArgs st) (defBody st) (defScope st) .none kV doc pm an cdv ct) ⟨us,[]⟩ = pure (ps.zip us)):FnIn K mg x st ps:=⟨⟨f,_,PySem.W.mg_of X G a,fun_mk l c k,(fun_mk l c k).binds hb⟩⟩
abbrev NI (K:PySem.W.Frag) (x:Str) (f:Addr):Prop:=PySem.W.nsIn K mainGlobals x = some (some (.ref f))
abbrev NZ (K:PySem.W.Frag) (x:Str):Prop:=PySem.W.nsIn K mainGlobals x = some none
abbrev LK (K:PySem.W.Frag) (x:Str) (st:Stmt) (f:Addr) (oc:Value) (od:Option Addr) (kV dc pm:Value) (an:Option Addr) (cd ct:Value) (sl:Array (Option Value)):Prop:=K.lookup f = some ⟨oc,od,.func (PySem.W.fnOf x x (defArgs st) (defBody st) (defScope st) .none kV dc pm an cd ct),sl⟩
theorem all_mk {l:PySem.W.OpenLaw} {w:World} {K:PySem.W.Frag} {h:Heap} {mg:Str -> Option Value} {fa:Addr} (X:K.In h) (G:h.Ns mainGlobals mg) (hfa:mg "law" = some (.ref fa))
    {f1 f2 f3 f4 f5 f6 f7 f8 f9 f10 f11 f12 f13 f14 f15:Addr} {od1 an1 od2 an2 od3 an3 od4 an4 od5 an5 od6 an6 od7 an7 od8 an8 od9 an9 od10 an10 od11 an11 od12 an12 od13 an13 od14 an14 od15 an15:Option Addr} {sl1 sl2 sl3 sl4 sl5 sl6 sl7 sl8 sl9 sl10 sl11 sl12 sl13 sl14 sl15:Array (Option Value)} {oc1 kV1 dc1 pm1 cd1 ct1 oc2 kV2 dc2 pm2 cd2 ct2 oc3 kV3 dc3 pm3 cd3 ct3 oc4 kV4 dc4 pm4 cd4 ct4 oc5 kV5 dc5 pm5 cd5 ct5 oc6 kV6 dc6 pm6 cd6 ct6 oc7 kV7 dc7 pm7 cd7 ct7 oc8 kV8 dc8 pm8 cd8 ct8 oc9 kV9 dc9 pm9 cd9 ct9 oc10 kV10 dc10 pm10 cd10 ct10 oc11 kV11 dc11 pm11 cd11 ct11 oc12 kV12 dc12 pm12 cd12 ct12 oc13 kV13 dc13 pm13 cd13 ct13 oc14 kV14 dc14 pm14 cd14 ct14 oc15 kV15 dc15 pm15 cd15 ct15:Value} {xC_NoRoom xB_NoRoom xF_NoRoom x1_NoRoom x2_NoRoom x3_NoRoom x4_NoRoom x5_NoRoom x6_NoRoom x7_NoRoom x8_NoRoom:Addr} {xod_NoRoom xan_NoRoom:Option Addr} {xsl_NoRoom:Array (Option Value)} {xoc_NoRoom xkV_NoRoom xdc_NoRoom xpm_NoRoom xcd_NoRoom xct_NoRoom:Value}
    (a1:NI K "_law_reel" f1) (l1:LK K "_law_reel" (top 17) f1 oc1 od1 kV1 dc1 pm1 an1 cd1 ct1 sl1) (c1:PySem.W.codeIn K cd1 "_law_reel" = true) (k1:PySem.W.keepIn K (.ref f1) = true) (a2:NI K "_law_pick" f2) (l2:LK K "_law_pick" (top 18) f2 oc2 od2 kV2 dc2 pm2 an2 cd2 ct2 sl2) (c2:PySem.W.codeIn K cd2 "_law_pick" = true) (k2:PySem.W.keepIn K (.ref f2) = true) (a3:NI K "is_below" f3) (l3:LK K "is_below" (top 12) f3 oc3 od3 kV3 dc3 pm3 an3 cd3 ct3 sl3) (c3:PySem.W.codeIn K cd3 "is_below" = true) (k3:PySem.W.keepIn K (.ref f3) = true) (a4:NI K "simplest_above_nought" f4) (l4:LK K "simplest_above_nought" (top 15) f4 oc4 od4 kV4 dc4 pm4 an4 cd4 ct4 sl4) (c4:PySem.W.codeIn K cd4 "simplest_above_nought" = true) (k4:PySem.W.keepIn K (.ref f4) = true) (a5:NI K "_law_told" f5) (l5:LK K "_law_told" (top 21) f5 oc5 od5 kV5 dc5 pm5 an5 cd5 ct5 sl5) (c5:PySem.W.codeIn K cd5 "_law_told" = true) (k5:PySem.W.keepIn K (.ref f5) = true) (a6:NI K "_law_below" f6) (l6:LK K "_law_below" (top 20) f6 oc6 od6 kV6 dc6 pm6 an6 cd6 ct6 sl6) (c6:PySem.W.codeIn K cd6 "_law_below" = true) (k6:PySem.W.keepIn K (.ref f6) = true) (a7:NI K "_law_made" f7) (l7:LK K "_law_made" (top 19) f7 oc7 od7 kV7 dc7 pm7 an7 cd7 ct7 sl7) (c7:PySem.W.codeIn K cd7 "_law_made" = true) (k7:PySem.W.keepIn K (.ref f7) = true) (a8:NI K "_law_between" f8) (l8:LK K "_law_between" (top 23) f8 oc8 od8 kV8 dc8 pm8 an8 cd8 ct8 sl8) (c8:PySem.W.codeIn K cd8 "_law_between" = true) (k8:PySem.W.keepIn K (.ref f8) = true) (a9:NI K "_law_turned" f9) (l9:LK K "_law_turned" (top 22) f9 oc9 od9 kV9 dc9 pm9 an9 cd9 ct9 sl9) (c9:PySem.W.codeIn K cd9 "_law_turned" = true) (k9:PySem.W.keepIn K (.ref f9) = true) (a10:NI K "_law_is_simplest" f10) (l10:LK K "_law_is_simplest" (top 24) f10 oc10 od10 kV10 dc10 pm10 an10 cd10 ct10 sl10) (c10:PySem.W.codeIn K cd10 "_law_is_simplest" = true) (k10:PySem.W.keepIn K (.ref f10) = true) (a11:NI K "_law_small" f11) (l11:LK K "_law_small" (top 25) f11 oc11 od11 kV11 dc11 pm11 an11 cd11 ct11 sl11) (c11:PySem.W.codeIn K cd11 "_law_small" = true) (k11:PySem.W.keepIn K (.ref f11) = true) (a12:NI K "_law_near" f12) (l12:LK K "_law_near" (top 26) f12 oc12 od12 kV12 dc12 pm12 an12 cd12 ct12 sl12) (c12:PySem.W.codeIn K cd12 "_law_near" = true) (k12:PySem.W.keepIn K (.ref f12) = true) (a13:NI K "_law_pair" f13) (l13:LK K "_law_pair" (top 27) f13 oc13 od13 kV13 dc13 pm13 an13 cd13 ct13 sl13) (c13:PySem.W.codeIn K cd13 "_law_pair" = true) (k13:PySem.W.keepIn K (.ref f13) = true) (a14:NI K "simplest" f14) (l14:LK K "simplest" (top 14) f14 oc14 od14 kV14 dc14 pm14 an14 cd14 ct14 sl14) (c14:PySem.W.codeIn K cd14 "simplest" = true) (k14:PySem.W.keepIn K (.ref f14) = true) (a15:NI K "law" f15) (l15:LK K "law" (top 28) f15 oc15 od15 kV15 dc15 pm15 an15 cd15 ct15 sl15) (c15:PySem.W.codeIn K cd15 "law" = true) (k15:PySem.W.keepIn K (.ref f15) = true)
    (z_int:NZ K "int") (z_bool:NZ K "bool") (z_str:NZ K "str") (z_list:NZ K "list") (z_tuple:NZ K "tuple") (z_dict:NZ K "dict") (z_isinstance:NZ K "isinstance") (z_len:NZ K "len") (z_abs:NZ K "abs") (z_repr:NZ K "repr") (z_range:NZ K "range") (z_all:NZ K "all") (z_any:NZ K "any") (z_sum:NZ K "sum") (z_min:NZ K "min") (z_max:NZ K "max") (z_sorted:NZ K "sorted") (z_zip:NZ K "zip") (z_enumerate:NZ K "enumerate") (z_reversed:NZ K "reversed") (z_divmod:NZ K "divmod") (z_set:NZ K "set")   (xa_NoRoom:PySem.W.nsIn K mainGlobals "NoRoom" = some (some (.ref xC_NoRoom))) (xb_NoRoom:PySem.W.nsIn K mainGlobals "EvenError" = some (some (.ref xB_NoRoom))) (xi_NoRoom:PySem.W.findIn K (.ref xC_NoRoom) "__init__" = some (some (.ref xF_NoRoom))) (xl_NoRoom:K.lookup xF_NoRoom = some ⟨xoc_NoRoom,xod_NoRoom,.func (PySem.W.fnOf "__init__" "NoRoom.__init__" (defArgs (inClass (top 3) 0)) (defBody (inClass (top 3) 0)) (defScope (inClass (top 3) 0)) .none xkV_NoRoom xdc_NoRoom xpm_NoRoom xan_NoRoom xcd_NoRoom xct_NoRoom),xsl_NoRoom⟩) (xd_NoRoom:PySem.W.codeIn K xcd_NoRoom "NoRoom.__init__" = true) (xk_NoRoom:PySem.W.keepIn K (.ref xF_NoRoom) = true) (xo1_NoRoom:PySem.W.nsIn K mainGlobals "NoDeed" = some (some (.ref x1_NoRoom))) (xo2_NoRoom:PySem.W.nsIn K mainGlobals "NoNet" = some (some (.ref x2_NoRoom))) (xo3_NoRoom:PySem.W.nsIn K mainGlobals "NoPaper" = some (some (.ref x3_NoRoom))) (xo4_NoRoom:PySem.W.nsIn K mainGlobals "Nought" = some (some (.ref x4_NoRoom))) (xo5_NoRoom:PySem.W.nsIn K mainGlobals "NoRow" = some (some (.ref x5_NoRoom))) (xo6_NoRoom:PySem.W.nsIn K mainGlobals "NoText" = some (some (.ref x6_NoRoom))) (xo7_NoRoom:PySem.W.nsIn K mainGlobals "NoUpper" = some (some (.ref x7_NoRoom))) (xo8_NoRoom:PySem.W.nsIn K mainGlobals "TooMany" = some (some (.ref x8_NoRoom))) (xv_NoRoom:NZ K "ValueError") (xx_NoRoom:xAll K xC_NoRoom xB_NoRoom xF_NoRoom "word" [x1_NoRoom,x2_NoRoom,x3_NoRoom,x4_NoRoom,x5_NoRoom,x6_NoRoom,x7_NoRoom,x8_NoRoom] = true) :
    ∃ fd:FuncData,(∀ (s:Shared) (v:Value),BindsTo s fd ⟨[v],[]⟩ [("_law_script", v)]) /\ ∀ base:Heap,K.In base -> base.Ns mainGlobals mg -> FnOk l.prog w K mg base CX0 6 fa fd ["_law_script"] (spLaw2 K):=by
  have e:=hfa.symm.trans (PySem.W.mg_of X G a15)
  cases e
  have B:Bz mg:=⟨PySem.W.mg_none_of X G z_int,PySem.W.mg_none_of X G z_bool,PySem.W.mg_none_of X G z_str,PySem.W.mg_none_of X G z_list,PySem.W.mg_none_of X G z_tuple,PySem.W.mg_none_of X G z_dict,PySem.W.mg_none_of X G z_isinstance,PySem.W.mg_none_of X G z_len,PySem.W.mg_none_of X G z_abs,PySem.W.mg_none_of X G z_repr,PySem.W.mg_none_of X G z_range,PySem.W.mg_none_of X G z_all,PySem.W.mg_none_of X G z_any,PySem.W.mg_none_of X G z_sum,PySem.W.mg_none_of X G z_min,PySem.W.mg_none_of X G z_max,PySem.W.mg_none_of X G z_sorted,PySem.W.mg_none_of X G z_zip,PySem.W.mg_none_of X G z_enumerate,PySem.W.mg_none_of X G z_reversed,PySem.W.mg_none_of X G z_divmod,PySem.W.mg_none_of X G z_set⟩
  have T:Txt K mg:=⟨B,(fin_mk X G a1 l1 c1 k1 fun _ _ _ _ _ _ us hl=>match us,hl with | [_],_=>rfl),(fin_mk X G a2 l2 c2 k2 fun _ _ _ _ _ _ us hl=>match us,hl with | [_,_],_=>rfl),(fin_mk X G a3 l3 c3 k3 fun _ _ _ _ _ _ us hl=>match us,hl with | [_,_],_=>rfl),(fin_mk X G a4 l4 c4 k4 fun _ _ _ _ _ _ us hl=>match us,hl with | [_,_],_=>rfl),(fin_mk X G a5 l5 c5 k5 fun _ _ _ _ _ _ us hl=>match us,hl with | [_,_],_=>rfl),(fin_mk X G a6 l6 c6 k6 fun _ _ _ _ _ _ us hl=>match us,hl with | [_,_],_=>rfl),(fin_mk X G a7 l7 c7 k7 fun _ _ _ _ _ _ us hl=>match us,hl with | [_,_],_=>rfl),(fin_mk X G a8 l8 c8 k8 fun _ _ _ _ _ _ us hl=>match us,hl with | [_,_,_],_=>rfl),(fin_mk X G a9 l9 c9 k9 fun _ _ _ _ _ _ us hl=>match us,hl with | [_,_],_=>rfl),(fin_mk X G a10 l10 c10 k10 fun _ _ _ _ _ _ us hl=>match us,hl with | [_,_,_],_=>rfl),(fin_mk X G a11 l11 c11 k11 fun _ _ _ _ _ _ us hl=>match us,hl with | [_],_=>rfl),(fin_mk X G a12 l12 c12 k12 fun _ _ _ _ _ _ us hl=>match us,hl with | [_],_=>rfl),(fin_mk X G a13 l13 c13 k13 fun _ _ _ _ _ _ us hl=>match us,hl with | [_],_=>rfl),(fin_mk X G a14 l14 c14 k14 fun _ _ _ _ _ _ us hl=>match us,hl with | [_,_],_=>rfl),.mk' xa_NoRoom (PySem.W.mg_of X G xa_NoRoom) (PySem.W.mg_of X G xb_NoRoom) xi_NoRoom (fun_mk (st:=(inClass (top 3) 0)) xl_NoRoom xd_NoRoom xk_NoRoom) ((fun_mk (st:=(inClass (top 3) 0)) xl_NoRoom xd_NoRoom xk_NoRoom).binds (ps:=["self", "word"]) fun _ _ _ _ _ _ us hl=>match us,hl with | [_,_],_=>rfl) (.cons (PySem.W.mg_of X G xo1_NoRoom) (.cons (PySem.W.mg_of X G xo2_NoRoom) (.cons (PySem.W.mg_of X G xo3_NoRoom) (.cons (PySem.W.mg_of X G xo4_NoRoom) (.cons (PySem.W.mg_of X G xo5_NoRoom) (.cons (PySem.W.mg_of X G xo6_NoRoom) (.cons (PySem.W.mg_of X G xo7_NoRoom) (.cons (PySem.W.mg_of X G xo8_NoRoom) .nil)))))))) (PySem.W.mg_none_of X G xv_NoRoom) xx_NoRoom⟩
  have FL:=fun_mk (st:=top 28) l15 c15 k15
  exact ⟨_,fun s v=>.of_eq rfl,fun base _ _=>ok_law FL T ⟩
theorem walk {l:PySem.W.OpenLaw} {q:Program} {loose:List Str} {XP:(Str -> Option Value) -> Heap -> Prop} {YP:World -> Heap -> Prop} {d:DefRec} {K:Params -> PySem.W.Frag} (hn:l.most = some 63) (hdf:d.params.defaults = [])
    (hY:∀ (w:World) (h:Heap),YP w h -> (K w.params).In h)
    (F:∀ (w:World) (mg:Str -> Option Value) (fa:Addr) (h:Heap),(K w.params).In h -> h.Ns mainGlobals mg -> mg d.name = some (.ref fa) ->
      ∃ fd:FuncData,(∀ (s:Shared) (u:Value),BindsTo s fd ⟨[u],[]⟩ [("_law_script", u)]) /\ ∀ base:Heap,(K w.params).In base -> base.Ns mainGlobals mg -> FnOk l.prog w (K w.params) mg base CX0 6 fa fd ["_law_script"] (spLaw2 (K w.params))) :
    PySem.W.WalkO q loose XP YP l.row.toRowW d [] (fun f vs=>PySem.call f vs) :=
  L2.walk_of (n:=63) (k:=6) (x := "_law_script") (CX:=fun _=>CX0) (sp:=fun w=>spLaw2 (K w.params)) hn (by decide) hdf ⟨rfl,by decide,by decide,rfl⟩ hY F (fun _ _ a ns hl _ hS=>⟨a,ns,rfl,hS,hl,fun _=>rfl⟩) fun _ _ _ _ _ z=>z
end K06
def PySem.W.Fast.tw13458603356135922287:PySem.Params -> PySem.W.Frag:=K06.heapK
theorem PySem.W.Fast.te13458603356135922287:K06.heapK = PySem.W.Fast.tw13458603356135922287:=rfl
open PySem PySem.W PyProof.Rows
set_option maxRecDepth 100000 in
set_option maxHeartbeats 0 in
theorem PySem.Challenge.cw_evenpoints_k06_simplest_between_holds : PySem.Challenge.rw_evenpoints_k06_simplest_between.Holds := by
  refine (congrArg PySem.W.OpenLaw.Holds K06.rw_eq).mpr ?_
  w_on; o_law
  refine holds_open (loose:=[]) (XP:=XL K06.zview []) (YP:=Hook.says (kHook K06.heapK K06.heapA K06.heapE)) K06.zleft
    (Hook.of _) (Hook.keeps _) (fun s e=>xl_of s (Bool.and_eq_true_iff.mp e).1)
    XL.keeps (by rfl) (by rfl) (by rfl) (fun s e=>recFacts_of (Bool.and_eq_true_iff.mp e).2) (by rfl)
    (by first | assumption | decide +kernel) (by decide +kernel) ⟨rfl,rfl,rfl,rfl,rfl,by decide +kernel⟩ ?hw ?hc
  (case hw=>w_witness2)
  k_fill
  refine K06.walk (l:=K06.rwN) rfl rfl (fun w h Y=>PySem.W.kIn_of (as:=K06.heapA) (e:=K06.heapE) Y) ?F
  case F =>
    intro w mg fa h KX G hmg
    refine' K06.all_mk KX G hmg ?a1 ?l1 ?c1 ?k1 ?a2 ?l2 ?c2 ?k2 ?a3 ?l3 ?c3 ?k3 ?a4 ?l4 ?c4 ?k4 ?a5 ?l5 ?c5 ?k5 ?a6 ?l6 ?c6 ?k6 ?a7 ?l7 ?c7 ?k7 ?a8 ?l8 ?c8 ?k8 ?a9 ?l9 ?c9 ?k9 ?a10 ?l10 ?c10 ?k10 ?a11 ?l11 ?c11 ?k11 ?a12 ?l12 ?c12 ?k12 ?a13 ?l13 ?c13 ?k13 ?a14 ?l14 ?c14 ?k14 ?a15 ?l15 ?c15 ?k15 ?zint ?zbool ?zstr ?zlist ?ztuple ?zdict ?zisinstance ?zlen ?zabs ?zrepr ?zrange ?zall ?zany ?zsum ?zmin ?zmax ?zsorted ?zzip ?zenumerate ?zreversed ?zdivmod ?zset   ?xa_NoRoom ?xb_NoRoom ?xi_NoRoom ?xl_NoRoom ?xd_NoRoom ?xk_NoRoom ?xo1_NoRoom ?xo2_NoRoom ?xo3_NoRoom ?xo4_NoRoom ?xo5_NoRoom ?xo6_NoRoom ?xo7_NoRoom ?xo8_NoRoom ?xv_NoRoom ?xx_NoRoom
    all_goals (try change _ = _)
    (case a1=>k_is); (case l1=>k_is); (case c1=>k_is); (case k1=>k_is)
    (case a2=>k_is); (case l2=>k_is); (case c2=>k_is); (case k2=>k_is)
    (case a3=>k_is); (case l3=>k_is); (case c3=>k_is); (case k3=>k_is)
    (case a4=>k_is); (case l4=>k_is); (case c4=>k_is); (case k4=>k_is)
    (case a5=>k_is); (case l5=>k_is); (case c5=>k_is); (case k5=>k_is)
    (case a6=>k_is); (case l6=>k_is); (case c6=>k_is); (case k6=>k_is)
    (case a7=>k_is); (case l7=>k_is); (case c7=>k_is); (case k7=>k_is)
    (case a8=>k_is); (case l8=>k_is); (case c8=>k_is); (case k8=>k_is)
    (case a9=>k_is); (case l9=>k_is); (case c9=>k_is); (case k9=>k_is)
    (case a10=>k_is); (case l10=>k_is); (case c10=>k_is); (case k10=>k_is)
    (case a11=>k_is); (case l11=>k_is); (case c11=>k_is); (case k11=>k_is)
    (case a12=>k_is); (case l12=>k_is); (case c12=>k_is); (case k12=>k_is)
    (case a13=>k_is); (case l13=>k_is); (case c13=>k_is); (case k13=>k_is)
    (case a14=>k_is); (case l14=>k_is); (case c14=>k_is); (case k14=>k_is)
    (case a15=>k_is); (case l15=>k_is); (case c15=>k_is); (case k15=>k_is)
    (case zint=>k_is)
    (case zbool=>k_is)
    (case zstr=>k_is)
    (case zlist=>k_is)
    (case ztuple=>k_is)
    (case zdict=>k_is)
    (case zisinstance=>k_is)
    (case zlen=>k_is)
    (case zabs=>k_is)
    (case zrepr=>k_is)
    (case zrange=>k_is)
    (case zall=>k_is)
    (case zany=>k_is)
    (case zsum=>k_is)
    (case zmin=>k_is)
    (case zmax=>k_is)
    (case zsorted=>k_is)
    (case zzip=>k_is)
    (case zenumerate=>k_is)
    (case zreversed=>k_is)
    (case zdivmod=>k_is)
    (case zset=>k_is)
    (case xa_NoRoom=>k_is)
    (case xb_NoRoom=>k_is)
    (case xi_NoRoom=>k_is)
    (case xl_NoRoom=>k_is)
    (case xd_NoRoom=>k_is)
    (case xk_NoRoom=>k_is)
    (case xo1_NoRoom=>k_is)
    (case xo2_NoRoom=>k_is)
    (case xo3_NoRoom=>k_is)
    (case xo4_NoRoom=>k_is)
    (case xo5_NoRoom=>k_is)
    (case xo6_NoRoom=>k_is)
    (case xo7_NoRoom=>k_is)
    (case xo8_NoRoom=>k_is)
    (case xv_NoRoom=>k_is)
    (case xx_NoRoom=>kernel_rfl)

