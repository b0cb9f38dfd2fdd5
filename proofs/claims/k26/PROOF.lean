import PyProof.Rows.All
import Wide.All
import OpenK.AllK
import Wide.FinOn
import Lean
import PyProof.EqAt
import PyProof.EqKinds
import PyProof.TupleCall
import KE.KDictSum
import KE.KMinKey
import PyProof.Rows.CallKwBuiltin
import PyProof.SumWalkG
import PyProof.WalksMore
import PyProof.AutoSeq1
import PySem.Challenge.RW_evenpoints_k26_what_cells_tell
set_option Elab.async false
set_option linter.all false
set_option maxRecDepth 100000
set_option maxHeartbeats 4000000
noncomputable section
namespace L2
open PySem
noncomputable def inClass (s:Stmt) (j:Nat):Stmt:=match s with
  | .ClassDef _ _ _ body _ _ _ _ _ _ _=>body.getD j (.Pass ⟨0,0,0,0⟩)
  | _=>.Pass ⟨0,0,0,0⟩
noncomputable def defArgs (s:Stmt):Arguments:=match s with
  | .FunctionDef _ a _ _ _ _ _ _ _ _=>a
  | _=>{ posonlyargs:=[],args:=[],vararg:=none,kwonlyargs:=[],kw_defaults:=[],kwarg:=none,defaults:=[] }
noncomputable def defBody (s:Stmt):List Stmt:=match s with
  | .FunctionDef _ _ b _ _ _ _ _ _ _=>b
  | _=>[]
noncomputable def defScope (s:Stmt):Scope:=match s with
  | .FunctionDef _ _ _ _ _ _ sc _ _ _=>sc
  | _=>{ kind:=.function,names:=[],isGenerator:=false,isCoroutine:=false }
end L2
namespace L2.TT
open PySem PySem.W
noncomputable def goT (tb:String -> Option Builtin) (p:Program) (w:World) (m:Nat) (ann:Option Value):Nat -> SharedT -> Thread -> Option SharedT
  | 0,_,_=>none
  | n + 1,s,t=>match through t with
    | true=>some s
    | false=>match stepOk m ann t with
      | false=>none
      | true=>match stepT (denote tb) p w s t with
        | some r=>goT tb p w m ann n r.1 r.2
        | none=>none
theorem goT_of {tb:String -> Option Builtin} {p:Program} {w:World} {m:Nat} {ann:Option Value}:∀ {n:Nat} {s s':SharedT} {t:Thread},goT tb p w m ann n s t = some s' -> topRun tb p w m ann n s.abs t = some s'.abs
  | 0,_,_,_,h=>by cases h
  | n + 1,s,s',t,h=>by
    unfold goT at h
    unfold topRun
    cases he:through t with
    | true=>rw [he] at h; cases h; rfl
    | false =>
      rw [he] at h
      cases hk:stepOk m ann t with
      | false=>rw [hk] at h; cases h
      | true =>
        rw [hk] at h
        cases hs:stepT (denote tb) p w s t with
        | none=>rw [hs] at h; cases h
        | some r=>rw [hs] at h; rw [stepT_spec hs]; exact goT_of h
noncomputable def bt (os:List Obj):Nat -> Nat -> Nat -> BT
  | 0,_,_=>.nil
  | f + 1,a,b=>match os[b]? with
    | some o=>.node o (bt os f (2 * a) (a + b)) (bt os f (2 * a) (2 * a + b))
    | none=>.nil
theorem boot_abs (P:Params):absHeap (bt (boot_heap P).objs.toList 12 1 0) (boot_heap P).objs.size (boot_heap P).life = boot_heap P:=by kernel_rfl
abbrev looks (p q:Program) (loose:List Str) (Xt:Shared -> Bool) {α:Type} (Yf:Shared -> α) (h₀:Heap) (s:Shared) :=
  (staticsOk (importedModules p.main.body) h₀ s.heap && namesBound p s.heap && gensDone s && laidKept h₀ s.heap,openSeen q loose (importedModules p.main.body) Xt true s,Yf s)
theorem left_of {p q:Program} {loose:List Str} {Xt:Shared -> Bool} {α:Type} {Yf:Shared -> α} {Ya:World -> α} {N m M:Nat} {ann:Option Value}
    (e:opening p = plainProg p.main.scope.names) (hN:Nat.ble 600 N = true) (f:∀ s,fenceModules? p s = some s) (le:Nat.ble M N = true)
    (size:∀ w:World,((boot_heap w.params).isNs mainGlobals,(boot_heap w.params).objs.size,(boot_heap w.params).nsMap mainGlobals "__annotations__") = (true,m,ann))
    (run:∀ (w:World) (os:OsState),(goT treeTable p w m ann M ⟨bt (boot_heap w.params).objs.toList 12 1 0,(boot_heap w.params).objs.size,(boot_heap w.params).life,Array.mk [],boot_drawn,boot_toks,os⟩ (topStub p)).map (fun s=>looks p q loose Xt Yf (boot_heap w.params) s.abs) = some (true,openGood q loose,Ya w)) :
    LeftO p q loose Xt Yf Ya N:=fun w=>by
  obtain ⟨⟨h,gs,d,k,os⟩,eo,e'⟩:=Option.map_eq_some_iff.mp (boot_open e hN f w)
  obtain ⟨rfl,rfl,rfl,rfl⟩:h = boot_heap w.params /\ gs = Array.mk [] /\ d = boot_drawn /\ k = boot_toks:=by simpa using e'
  obtain ⟨z1,z2,z3⟩:_ /\ _ /\ _:=by simpa only [Prod.mk.injEq] using size w
  obtain ⟨s',r,l⟩:=Option.map_eq_some_iff.mp (run w os)
  obtain ⟨l1,l2,l3⟩:_ /\ _ /\ _:=by simpa only [looks,Prod.mk.injEq] using l
  have r:=goT_of r
  have hb:SharedT.abs ⟨bt (boot_heap w.params).objs.toList 12 1 0,(boot_heap w.params).objs.size,(boot_heap w.params).life,Array.mk [],boot_drawn,boot_toks,os⟩ = ⟨boot_heap w.params,Array.mk [],boot_drawn,boot_toks,os⟩:=by
    show Shared.mk (absHeap _ _ _) _ _ _ _ = _
    rw [boot_abs]
  rw [hb] at r
  have r:=topRun_mono (N - M) _ _ _ _ r
  rw [show M + (N - M) = N by have:=Nat.le_of_ble_eq_true le; omega] at r
  have t:topFrom treeTable p w N ⟨boot_heap w.params,Array.mk [],boot_drawn,boot_toks,os⟩ = some s'.abs:=by
    unfold topFrom
    dsimp only
    rw [z1,z2,z3,r]
    show (match staticsOk (importedModules p.main.body) (boot_heap w.params) s'.abs.heap && namesBound p s'.abs.heap && gensDone s'.abs && laidKept (boot_heap w.params) s'.abs.heap with | true=>_ | false=>_) = _
    rw [l1]
  unfold openEnds
  rw [eo]
  show (topFrom treeTable p w N _).map _ = _
  rw [t]
  exact congrArg some (Prod.ext l2 l3)
end L2.TT
namespace K26
open PySem
def top (i:Nat):Stmt:=PySem.Challenge.pw_evenpoints_k26_what_cells_tell.main.body.getD i (.Pass ⟨0,0,0,0⟩)
end K26
noncomputable def PySem.W.Fast.tw16082580609479327581:PySem.Program:=PySem.Challenge.pw_evenpoints_k26_what_cells_tell
theorem PySem.W.Fast.te16082580609479327581:PySem.Challenge.pw_evenpoints_k26_what_cells_tell = PySem.W.Fast.tw16082580609479327581:=rfl
namespace K26
open PySem PySem.W L2
def zs0:Stmt:=top 0
def zs1:Stmt:=top 1
def zs2:Stmt:=top 2
def zs3:Stmt:=top 3
def zs4:Stmt:=top 4
def zs5:Stmt:=top 5
def zs6:Stmt:=top 6
def zs7:Stmt:=top 7
def zs8:Stmt:=top 8
def zs9:Stmt:=top 9
def zs10:Stmt:=top 10
def zs11:Stmt:=top 11
def zs12:Stmt:=top 12
def zs13:Stmt:=top 13
def zs14:Stmt:=top 14
def zs15:Stmt:=top 15
def zs16:Stmt:=top 16
def zs17:Stmt:=top 17
def zs18:Stmt:=top 18
def zs19:Stmt:=top 19
def zs20:Stmt:=top 20
def zs21:Stmt:=top 21
def zs22:Stmt:=top 22
def zs23:Stmt:=top 23
def zs24:Stmt:=top 24
def zs25:Stmt:=top 25
def zs26:Stmt:=top 26
def zs27:Stmt:=top 27
def zs28:Stmt:=top 28
def zs29:Stmt:=top 29
def zs30:Stmt:=top 30
def zs31:Stmt:=top 31
def zs32:Stmt:=top 32
def zs33:Stmt:=top 33
def zs34:Stmt:=top 34
def zs35:Stmt:=top 35
def zs36:Stmt:=top 36
def zs37:Stmt:=top 37
def zs38:Stmt:=top 38
def zs39:Stmt:=top 39
def zs40:Stmt:=top 40
def zs41:Stmt:=top 41
def zs42:Stmt:=top 42
def zs43:Stmt:=top 43
def pwN:Program:={ PySem.Challenge.pw_evenpoints_k26_what_cells_tell with main:={ PySem.Challenge.pw_evenpoints_k26_what_cells_tell.main with body:=[zs0,zs1,zs2,zs3,zs4,zs5,zs6,zs7,zs8,zs9,zs10,zs11,zs12,zs13,zs14,zs15,zs16,zs17,zs18,zs19,zs20,zs21,zs22,zs23,zs24,zs25,zs26,zs27,zs28,zs29,zs30,zs31,zs32,zs33,zs34,zs35,zs36,zs37,zs38,zs39,zs40,zs41,zs42,zs43] } }
def rwN:OpenLaw:={ PySem.Challenge.rw_evenpoints_k26_what_cells_tell with prog:=pwN }
noncomputable def zview:Program:={ PySem.Challenge.pw_evenpoints_k26_what_cells_tell with main:={ PySem.Challenge.pw_evenpoints_k26_what_cells_tell.main with body:=[zs1,zs2,zs4,zs5,zs6,zs7,zs8,zs9,zs10,zs11,zs12,zs13,zs14,zs16,zs17,zs18,zs19,zs20,zs21,zs23,zs24,zs25,zs27,zs28,zs29,zs30,zs31,zs32,zs33,zs34,zs35,zs36,zs37,zs38,zs39,zs40,zs41,zs42,zs43] } }
theorem rw_eq:PySem.Challenge.rw_evenpoints_k26_what_cells_tell = rwN:=rfl
noncomputable def zen (P:Params) (x:Str) (t:Nat) (v:Value):DictEntry:=⟨PyData.keyHash P x,.str x t,v⟩
noncomputable def zfo (n q:Str) (s:Stmt) (pm cd:Value):Obj:=⟨.type "function", none,.func (fnOf n q (defArgs s) (defBody s) (defScope s) .none .none .none pm none cd .none),#[]⟩
noncomputable def zco (n q:Str) (a b c:Nat) (l x y:Int) (r:Nat) (z:Int) (r2:Nat) (v1 v2 v3:Value) (r3:Nat) (u:Int) (c2:Nat):Obj:=⟨.type "code", none,.fields #[.str n a,.str q b,.str "/claim/cut.py" c,.int l 0,.int x 0,.int 0 0,.int 0 0,.int y 0,.ref r,.bool true,.int z 0,.ref r2,v1,v2,v3,.ref r3,.int u 0,.int l 0,.str "/claim/cut.py" c2],#[]⟩
noncomputable def zm0:Value:=.str "evenpoints.errors" 187
noncomputable def zm1:Value:=.str "evenpoints.fractions" 232
noncomputable def zm2:Value:=.str "evenpoints.boxes" 314
noncomputable def zm3:Value:=.str "evenpoints.cells" 363
noncomputable def zm4:Value:=.str "law_evenpoints_k26_what_cells_tell" 387
abbrev zfp (n:Str):=zfo n n
abbrev zcp (n:Str):=zco n n
noncomputable def heapK (P:Params):Frag :=
  (nat_lit 2,(.mk .none none (.dict #[] 0) #[])) ::
  (nat_lit 3,(.mk (.type "dict") none (.dict #[zen P "__name__" 165 (.str "law_evenpoints_k26_what_cells_tell" 387),zen P "__doc__" 166 .none,zen P "__package__" 167 .none,zen P "__loader__" 168 (.builtin "__main__.__loader__#opaque"),zen P "__spec__" 169 .none,zen P "__annotations__" 170 (.ref 6),zen P "__builtins__" 171 (.ref 4),zen P "__file__" 173 (.str "/claim/cut.py" 172),zen P "__cached__" 174 .none,zen P "EvenError" 206 (.ref 24),zen P "Nought" 231 (.ref 44),zen P "ZERO" 236 (.ref 47),zen P "ONE" 239 (.ref 48),zen P "common_divisor" 247 (.ref 55),zen P "fraction" 256 (.ref 62),zen P "plus" 264 (.ref 69),zen P "less" 272 (.ref 76),zen P "times" 280 (.ref 83),zen P "product_of" 289 (.ref 90),zen P "is_below" 297 (.ref 97),zen P "lesser" 305 (.ref 104),zen P "greater" 313 (.ref 111),zen P "side_size" 324 (.ref 118),zen P "size_of" 330 (.ref 123),zen P "goes_ahead" 339 (.ref 130),zen P "lies" 350 (.ref 137),zen P "lies_in" 356 (.ref 142),zen P "inside" 362 (.ref 147),zen P "least_side" 372 (.ref 154),zen P "most_side" 380 (.ref 161),zen P "cell_told" 386 (.ref 166),zen P "_law_feed" 395 (.ref 173),zen P "_law_draw" 407 (.ref 180),zen P "_law_frac" 417 (.ref 187),zen P "_law_cmp" 427 (.ref 194),zen P "_law_number" 440 (.ref 201),zen P "_law_points" 446 (.ref 206),zen P "_law_lies" 457 (.ref 213),zen P "_law_side_size" 463 (.ref 218),zen P "_law_side_told" 478 (.ref 225),zen P "_law_ends" 490 (.ref 232),zen P "_law_product" 498 (.ref 239),zen P "_law_cell_told" 504 (.ref 244),zen P "_law_range" 510 (.ref 249),zen P "_law_cell" 516 (.ref 254),zen P "_law_box_of" 532 (.ref 261),zen P "_law_between" 538 (.ref 266),zen P "law" 554 (.ref 273)] 48) #[])) ::
  (nat_lit 6,(.mk (.type "dict") none (.dict #[] 0) #[])) ::
  (nat_lit 15,(.mk (.type "tuple") none (.seq #[(.type "ValueError")] 0) #[])) ::
  (nat_lit 22,(.mk (.type "tuple") none (.seq #[] 0) #[])) ::
  (nat_lit 23,(.mk (.type "dict") none (.dict #[zen P "__module__" 196 (.str "evenpoints.errors" 187),zen P "__firstlineno__" 200 (.int 2 199),zen P "__static_attributes__" 201 (.ref 22),zen P "__weakref__" 203 (.ref 25),zen P "__doc__" 204 .none] 3) #[])) ::
  (nat_lit 24,(.mk (.type "type") none (.cls (.mk "EvenError" [(.type "ValueError")] [(.ref 24),(.type "ValueError"),(.type "Exception"),(.type "BaseException"),(.type "object")] 23 "EvenError" true [] [(.ref 44)] false none false)) #[(some (.ref 15)),none,(some (.str "EvenError" 189)),(some (.str "EvenError" 197)),(some (.builtin "ValueError.__new__")),(some (.bool true))])) ::
  (nat_lit 25,(.mk (.type "getset_descriptor") none (.fields #[(.str "__weakref__" 202),(.ref 24),(.builtin "ExceptionGroup.__weakref__"),.none]) #[])) ::
  (nat_lit 28,(.mk (.type "tuple") none (.seq #[(.ref 24)] 0) #[])) ::
  (nat_lit 40,zco "__init__" "Nought.__init__" 219 220 221 6 2 3 35 181 36 .none (.ref 37) (.ref 38) 39 224 225) ::
  (nat_lit 41,zfo "__init__" "Nought.__init__" (inClass (top 2) 0) zm0 (.ref 40)) ::
  (nat_lit 42,(.mk (.type "tuple") none (.seq #[(.str "word" 227)] 0) #[])) ::
  (nat_lit 43,(.mk (.type "dict") none (.dict #[zen P "__module__" 214 (.str "evenpoints.errors" 187),zen P "__firstlineno__" 218 (.int 4 217),zen P "__init__" 226 (.ref 41),zen P "__static_attributes__" 228 (.ref 42),zen P "__doc__" 229 .none] 2) #[])) ::
  (nat_lit 44,(.mk (.type "type") none (.cls (.mk "Nought" [(.ref 24)] [(.ref 44),(.ref 24),(.type "ValueError"),(.type "Exception"),(.type "BaseException"),(.type "object")] 43 "Nought" true [] [] false none false)) #[(some (.ref 28)),none,(some (.str "Nought" 207)),(some (.str "Nought" 215)),(some (.builtin "ValueError.__new__")),(some (.bool true))])) ::
  (nat_lit 47,(.mk (.type "tuple") none (.seq #[(.int 0 234),(.int 1 235)] 0) #[])) ::
  (nat_lit 48,(.mk (.type "tuple") none (.seq #[(.int 1 237),(.int 1 238)] 0) #[])) ::
  (nat_lit 54,zcp "common_divisor" 240 241 242 11 2 3 49 181 50 .none (.ref 51) (.ref 52) 53 245 246) ::
  (nat_lit 55,zfp "common_divisor" (top 6) zm1 (.ref 54)) ::
  (nat_lit 61,zcp "fraction" 248 249 250 15 2 3 56 181 57 .none (.ref 58) (.ref 59) 60 254 255) ::
  (nat_lit 62,zfp "fraction" (top 7) zm1 (.ref 61)) ::
  (nat_lit 68,zcp "plus" 257 258 259 22 2 3 63 181 64 .none (.ref 65) (.ref 66) 67 262 263) ::
  (nat_lit 69,zfp "plus" (top 8) zm1 (.ref 68)) ::
  (nat_lit 75,zcp "less" 265 266 267 24 2 3 70 181 71 .none (.ref 72) (.ref 73) 74 270 271) ::
  (nat_lit 76,zfp "less" (top 9) zm1 (.ref 75)) ::
  (nat_lit 82,zcp "times" 273 274 275 26 2 3 77 181 78 .none (.ref 79) (.ref 80) 81 278 279) ::
  (nat_lit 83,zfp "times" (top 10) zm1 (.ref 82)) ::
  (nat_lit 89,zcp "product_of" 281 282 283 28 1 3 84 181 85 .none (.ref 86) (.ref 87) 88 287 288) ::
  (nat_lit 90,zfp "product_of" (top 11) zm1 (.ref 89)) ::
  (nat_lit 96,zcp "is_below" 290 291 292 33 2 3 91 181 92 .none (.ref 93) (.ref 94) 95 295 296) ::
  (nat_lit 97,zfp "is_below" (top 12) zm1 (.ref 96)) ::
  (nat_lit 103,zcp "lesser" 298 299 300 35 2 3 98 181 99 .none (.ref 100) (.ref 101) 102 303 304) ::
  (nat_lit 104,zfp "lesser" (top 13) zm1 (.ref 103)) ::
  (nat_lit 110,zcp "greater" 306 307 308 37 2 3 105 181 106 .none (.ref 107) (.ref 108) 109 311 312) ::
  (nat_lit 111,zfp "greater" (top 14) zm1 (.ref 110)) ::
  (nat_lit 117,zcp "side_size" 316 317 318 40 1 3 112 181 113 .none (.ref 114) (.ref 115) 116 322 323) ::
  (nat_lit 118,zfp "side_size" (top 16) zm2 (.ref 117)) ::
  (nat_lit 122,zcp "size_of" 325 326 327 48 1 3 119 181 120 .none .none .none 121 328 329) ::
  (nat_lit 123,zfp "size_of" (top 17) zm2 (.ref 122)) ::
  (nat_lit 129,zcp "goes_ahead" 331 332 333 50 3 3 124 181 125 .none (.ref 126) (.ref 127) 128 337 338) ::
  (nat_lit 130,zfp "goes_ahead" (top 18) zm2 (.ref 129)) ::
  (nat_lit 136,zcp "lies" 340 341 342 54 3 3 131 181 132 .none (.ref 133) (.ref 134) 135 348 349) ::
  (nat_lit 137,zfp "lies" (top 19) zm2 (.ref 136)) ::
  (nat_lit 141,zcp "lies_in" 351 352 353 62 3 3 138 181 139 .none .none .none 140 354 355) ::
  (nat_lit 142,zfp "lies_in" (top 20) zm2 (.ref 141)) ::
  (nat_lit 146,zcp "inside" 357 358 359 64 3 3 143 181 144 .none .none .none 145 360 361) ::
  (nat_lit 147,zfp "inside" (top 21) zm2 (.ref 146)) ::
  (nat_lit 153,zcp "least_side" 365 366 367 67 2 3 148 181 149 .none (.ref 150) (.ref 151) 152 370 371) ::
  (nat_lit 154,zfp "least_side" (top 23) zm3 (.ref 153)) ::
  (nat_lit 160,zcp "most_side" 373 374 375 71 2 3 155 181 156 .none (.ref 157) (.ref 158) 159 378 379) ::
  (nat_lit 161,zfp "most_side" (top 24) zm3 (.ref 160)) ::
  (nat_lit 165,zcp "cell_told" 381 382 383 75 2 3 162 181 163 .none .none .none 164 384 385) ::
  (nat_lit 166,zfp "cell_told" (top 25) zm3 (.ref 165)) ::
  (nat_lit 172,zcp "_law_feed" 389 390 391 82 1 3 167 181 168 .none (.ref 169) (.ref 170) 171 393 394) ::
  (nat_lit 173,zfp "_law_feed" (top 27) zm4 (.ref 172)) ::
  (nat_lit 179,zcp "_law_draw" 396 397 398 84 2 3 174 181 175 .none (.ref 176) (.ref 177) 178 405 406) ::
  (nat_lit 180,zfp "_law_draw" (top 28) zm4 (.ref 179)) ::
  (nat_lit 186,zcp "_law_frac" 408 409 410 101 2 3 181 181 182 .none (.ref 183) (.ref 184) 185 415 416) ::
  (nat_lit 187,zfp "_law_frac" (top 29) zm4 (.ref 186)) ::
  (nat_lit 193,zcp "_law_cmp" 418 419 420 106 2 3 188 181 189 .none (.ref 190) (.ref 191) 192 425 426) ::
  (nat_lit 194,zfp "_law_cmp" (top 30) zm4 (.ref 193)) ::
  (nat_lit 200,zcp "_law_number" 428 429 430 110 3 3 195 181 196 .none (.ref 197) (.ref 198) 199 438 439) ::
  (nat_lit 201,zfp "_law_number" (top 31) zm4 (.ref 200)) ::
  (nat_lit 205,zcp "_law_points" 441 442 443 122 3 3 202 181 203 .none .none .none 204 444 445) ::
  (nat_lit 206,zfp "_law_points" (top 32) zm4 (.ref 205)) ::
  (nat_lit 212,zcp "_law_lies" 447 448 449 136 3 3 207 181 208 .none (.ref 209) (.ref 210) 211 455 456) ::
  (nat_lit 213,zfp "_law_lies" (top 33) zm4 (.ref 212)) ::
  (nat_lit 217,zcp "_law_side_size" 458 459 460 142 1 3 214 181 215 .none .none .none 216 461 462) ::
  (nat_lit 218,zfp "_law_side_size" (top 34) zm4 (.ref 217)) ::
  (nat_lit 224,zcp "_law_side_told" 464 465 466 151 3 3 219 181 220 .none (.ref 221) (.ref 222) 223 476 477) ::
  (nat_lit 225,zfp "_law_side_told" (top 35) zm4 (.ref 224)) ::
  (nat_lit 231,zcp "_law_ends" 479 480 481 162 2 3 226 181 227 .none (.ref 228) (.ref 229) 230 488 489) ::
  (nat_lit 232,zfp "_law_ends" (top 36) zm4 (.ref 231)) ::
  (nat_lit 238,zcp "_law_product" 491 492 493 168 2 3 233 181 234 .none (.ref 235) (.ref 236) 237 496 497) ::
  (nat_lit 239,zfp "_law_product" (top 37) zm4 (.ref 238)) ::
  (nat_lit 243,zcp "_law_cell_told" 499 500 501 170 2 3 240 181 241 .none .none .none 242 502 503) ::
  (nat_lit 244,zfp "_law_cell_told" (top 38) zm4 (.ref 243)) ::
  (nat_lit 248,zcp "_law_range" 505 506 507 182 2 3 245 181 246 .none .none .none 247 508 509) ::
  (nat_lit 249,zfp "_law_range" (top 39) zm4 (.ref 248)) ::
  (nat_lit 253,zcp "_law_cell" 511 512 513 189 2 3 250 181 251 .none .none .none 252 514 515) ::
  (nat_lit 254,zfp "_law_cell" (top 40) zm4 (.ref 253)) ::
  (nat_lit 260,zcp "_law_box_of" 517 518 519 196 2 3 255 181 256 .none (.ref 257) (.ref 258) 259 530 531) ::
  (nat_lit 261,zfp "_law_box_of" (top 41) zm4 (.ref 260)) ::
  (nat_lit 265,zcp "_law_between" 533 534 535 206 4 3 262 181 263 .none .none .none 264 536 537) ::
  (nat_lit 266,zfp "_law_between" (top 42) zm4 (.ref 265)) ::
  (nat_lit 272,zcp "law" 539 540 541 218 1 3 267 181 268 .none (.ref 269) (.ref 270) 271 552 553) ::
  (nat_lit 273,zfp "law" (top 43) zm4 (.ref 272)) :: []
noncomputable def heapA:List Addr:=nat_lit 2 :: nat_lit 3 :: nat_lit 6 :: nat_lit 15 :: nat_lit 22 :: nat_lit 23 :: nat_lit 24 :: nat_lit 25 :: nat_lit 28 :: nat_lit 40 :: nat_lit 41 :: nat_lit 42 :: nat_lit 43 :: nat_lit 44 :: nat_lit 47 :: nat_lit 48 :: nat_lit 54 :: nat_lit 55 :: nat_lit 61 :: nat_lit 62 :: nat_lit 68 :: nat_lit 69 :: nat_lit 75 :: nat_lit 76 :: nat_lit 82 :: nat_lit 83 :: nat_lit 89 :: nat_lit 90 :: nat_lit 96 :: nat_lit 97 :: nat_lit 103 :: nat_lit 104 :: nat_lit 110 :: nat_lit 111 :: nat_lit 117 :: nat_lit 118 :: nat_lit 122 :: nat_lit 123 :: nat_lit 129 :: nat_lit 130 :: nat_lit 136 :: nat_lit 137 :: nat_lit 141 :: nat_lit 142 :: nat_lit 146 :: nat_lit 147 :: nat_lit 153 :: nat_lit 154 :: nat_lit 160 :: nat_lit 161 :: nat_lit 165 :: nat_lit 166 :: nat_lit 172 :: nat_lit 173 :: nat_lit 179 :: nat_lit 180 :: nat_lit 186 :: nat_lit 187 :: nat_lit 193 :: nat_lit 194 :: nat_lit 200 :: nat_lit 201 :: nat_lit 205 :: nat_lit 206 :: nat_lit 212 :: nat_lit 213 :: nat_lit 217 :: nat_lit 218 :: nat_lit 224 :: nat_lit 225 :: nat_lit 231 :: nat_lit 232 :: nat_lit 238 :: nat_lit 239 :: nat_lit 243 :: nat_lit 244 :: nat_lit 248 :: nat_lit 249 :: nat_lit 253 :: nat_lit 254 :: nat_lit 260 :: nat_lit 261 :: nat_lit 265 :: nat_lit 266 :: nat_lit 272 :: nat_lit 273 :: []
theorem heapE:∀ P,heapA = (heapK P).map (·.1):=fun _=>rfl
theorem zsize:∀ w:World,((boot_heap w.params).isNs mainGlobals,(boot_heap w.params).objs.size,(boot_heap w.params).nsMap mainGlobals "__annotations__") = (true,11,some (.ref 6)):=fun w=>by kernel_rfl
set_option maxHeartbeats 0 in
theorem zleft:LeftO pwN zview [] (fun s=>xlAt zview [] s && recOk (RowW.records rwN.row.toRowW) s) (Hook.obs (kHook heapK heapA heapE)) (Hook.val (kHook heapK heapA heapE)) 3844 :=
  L2.TT.left_of (M:=3844) (by kernel_rfl) rfl (fun s=>by kernel_rfl) rfl zsize fun w os=>by kernel_rfl
end K26
namespace L2
open PySem PySem.Spec PyProof.Rows

abbrev Key:=Sum Int Str
noncomputable def keyIs:Key -> Value -> Bool
  | .inl k,v=>Value.isInt k v
  | .inr x,v=>Value.isStrOf x v
noncomputable def keyH (w:World):Key -> Int
  | .inl k=>hashInt k
  | .inr x=>hashStr w x
theorem keyIs_shape:∀ {k:Key} {v:Value},keyIs k v = true -> (∃ i t,k = Sum.inl i /\ v = Value.int i t) \/ (∃ x t,k = Sum.inr x /\ v = Value.str x t)
  | .inl i,v,h=>by
    obtain ⟨t,e⟩:=Value.isInt_shape (k:=i) (v:=v) h
    exact .inl ⟨i,t,rfl,e⟩
  | .inr x,v,h=>by
    obtain ⟨t,e⟩:=Value.isStrOf_shape (x:=x) (v:=v) h
    exact .inr ⟨x,t,rfl,e⟩
theorem keyIs_int (i:Int) (t:Tok):keyIs (.inl i) (.int i t) = true:=by simp [keyIs,Value.isInt]
theorem keyIs_str (x:Str) (t:Tok):keyIs (.inr x) (.str x t) = true:=by simp [keyIs,Value.isStrOf]
theorem key_ll (a b:Int):decide ((Sum.inl a:Key) = Sum.inl b) = (a == b):=by
  by_cases e:a = b
  · subst e; simp
  · have h:¬ (Sum.inl a:Key) = Sum.inl b:=fun q=>e (Sum.inl.inj q)
    rw [decide_eq_false h]
    exact (beq_eq_false_iff_ne.mpr e).symm
theorem key_rr (a b:Str):decide ((Sum.inr a:Key) = Sum.inr b) = decide (a = b):=by
  by_cases e:a = b
  · subst e; simp
  · have h:¬ (Sum.inr a:Key) = Sum.inr b:=fun q=>e (Sum.inr.inj q)
    rw [decide_eq_false h,decide_eq_false e]
theorem key_lr (a:Int) (b:Str):decide ((Sum.inl a:Key) = Sum.inr b) = false:=decide_eq_false (fun q=>nomatch q)
theorem key_rl (a:Str) (b:Int):decide ((Sum.inr a:Key) = Sum.inl b) = false:=decide_eq_false (fun q=>nomatch q)

noncomputable def mixKind (prog:Program) (w:World):PySem.KeyKind prog w Key where
  is:=keyIs
  hash:=keyH w
  inj := fun v a b ha hb => by
    rcases keyIs_shape ha with ⟨i,t,rfl,rfl⟩ | ⟨x,t,rfl,rfl⟩
    · rcases keyIs_shape hb with ⟨j,u,rfl,e⟩ | ⟨y,u,rfl,e⟩
      · injection e with e1 _; rw [e1]
      · exact nomatch e
    · rcases keyIs_shape hb with ⟨j,u,rfl,e⟩ | ⟨y,u,rfl,e⟩
      · exact nomatch e
      · injection e with e1 _; rw [e1]
  byValue:=fun k v h=>by
    rcases keyIs_shape h with ⟨i,t,rfl,rfl⟩ | ⟨x,t,rfl,rfl⟩ <;> rfl
  pyHash:=fun hv h=>by
    rcases keyIs_shape hv with ⟨i,t,rfl,rfl⟩ | ⟨x,t,rfl,rfl⟩
    · exact wpAny_pyHash_int h
    · exact wpAny_pyHash_str h
  eqBool:=fun hu hv h=>by
    rcases keyIs_shape hu with ⟨i,t,rfl,rfl⟩ | ⟨x,t,rfl,rfl⟩
    · rcases keyIs_shape hv with ⟨j,u,rfl,rfl⟩ | ⟨y,u,rfl,rfl⟩
      · rw [key_ll] at h; exact wpAny_eqBool_int h
      · rw [key_lr] at h; exact SeqAt.EqAt.int_str i t y u _ _ _ _ h
    · rcases keyIs_shape hv with ⟨j,u,rfl,rfl⟩ | ⟨y,u,rfl,rfl⟩
      · rw [key_rl] at h; exact SeqAt.EqAt.str_int x t j u _ _ _ _ h
      · rw [key_rr] at h; exact wpAny_eqBool_str h
  «strs»:=fun k x t v h=>by
    rcases keyIs_shape h with ⟨i,u,rfl,e⟩ | ⟨y,u,rfl,e⟩
    · exact nomatch e
    · injection e with e1 _
      subst e1
      cases v <;> rfl

theorem mixKind_int (prog:Program) (w:World) (i:Int) (t:Tok):(mixKind prog w).is (.inl i) (.int i t) = true:=keyIs_int i t
theorem mixKind_str (prog:Program) (w:World) (x:Str) (t:Tok):(mixKind prog w).is (.inr x) (.str x t) = true:=keyIs_str x t
end L2

namespace L2
open PySem PySem.Spec PyProof.Rows

inductive V where
  | non | bl (b:Bool) | int (i:Int) | str (x:Str) | byt (b:Array UInt8) | flt (b:UInt64) | ref (a:Addr) | ty (n:String)
  deriving DecidableEq

noncomputable def RelV:V -> Value -> Prop
  | .non,u=>u = Value.none
  | .bl b,u=>u = Value.bool b
  | .int i,u=>∃ t,u = Value.int i t
  | .str x,u=>∃ t,u = Value.str x t
  | .byt b,u=>∃ t,u = Value.bytes b t
  | .flt b,u=>∃ t,u = Value.float b t
  | .ref a,u=>u = Value.ref a
  | .ty n,u=>u = Value.type n

abbrev Vals:List V -> List Value -> Prop:=Paired RelV
theorem Vals.length {xs:List V} {us:List Value} (r:Vals xs us):xs.length = us.length:=Paired.length r
theorem Vals.get:∀ {xs:List V} {us:List Value} {i:Nat} {x:V},Vals xs us -> xs[i]? = some x -> ∃ u,us[i]? = some u /\ RelV x u
  | _,_,_,_,.nil,e=>by simp at e
  | _,_,0,_,.cons r _,e=>by simp at e; subst e; exact ⟨_,rfl,r⟩
  | _,_,i + 1,x,.cons _ t,e=>by
    obtain ⟨u,h1,h2⟩:=Vals.get (i:=i) (x:=x) t (by simpa using e)
    exact ⟨u,by simpa using h1,h2⟩
theorem Vals.append:∀ {xs ys:List V} {us ws:List Value},Vals xs us -> Vals ys ws -> Vals (xs ++ ys) (us ++ ws)
  | _,_,_,_,.nil,s=>s
  | _,_,_,_,.cons r t,s=>.cons r (Vals.append t s)
theorem Vals.take:∀ {xs:List V} {us:List Value} (n:Nat),Vals xs us -> Vals (xs.take n) (us.take n)
  | _,_,0,_=>.nil
  | _,_,_ + 1,.nil=>.nil
  | _,_,n + 1,.cons r t=>.cons r (Vals.take n t)
theorem Vals.drop:∀ {xs:List V} {us:List Value} (n:Nat),Vals xs us -> Vals (xs.drop n) (us.drop n)
  | _,_,0,r=>r
  | _,_,_ + 1,.nil=>.nil
  | _,_,n + 1,.cons _ t=>Vals.drop n t
noncomputable def RelO:Option V -> Option Value -> Prop
  | some v,some u=>RelV v u
  | none,none=>True
  | _,_=>False
noncomputable def KV {κ:Type}:List (κ × V) -> List (κ × Value) -> Prop:=Paired fun (p : κ × V) (q : κ × Value)=>p.1 = q.1 /\ RelV p.2 q.2

noncomputable def kV:Key -> V
  | .inl i=>.int i
  | .inr x=>.str x

inductive HO where
  
  | lst (xs:List V)
  
  | tup (xs:List V)
  
  | dK (kvs:List (Key × V)) | dT (kvs:List (List Key × V))
  
  | set (S:Int -> Bool) (n:Nat)
  
  | ins (C dx:Addr) (fs:List (Str × V))
  
  | own (x:Addr)
  
  | xd (fs:List (Str × V))
  
  | met (f x:Addr)
  
  | rng (lo hi:Int)
  
  | frz (o:Obj) (u:HO)
  
  | tbl (ps:Array Value)
  
  | ext (φ:Heap -> Prop)

abbrev Hp:=Addr -> Option HO
noncomputable def upd (H:Hp) (a:Addr) (o:HO):Hp:=fun b=>if b = a then some o else H b
theorem upd_same {H:Hp} {a:Addr} {o:HO}:upd H a o a = some o:=by unfold upd; rw [if_pos rfl]
theorem upd_ne {H:Hp} {a b:Addr} {o:HO} (h:b ≠ a):upd H a o b = H b:=by unfold upd; rw [if_neg h]
theorem ne_of {H:Hp} {a b:Addr} {o u:HO} (h:H a = some o) (h':H b = some u) (d:o ≠ u):a ≠ b:=by
  intro e; subst e; rw [h] at h'; exact d (Option.some.inj h')
theorem ne_of_none {H:Hp} {a b:Addr} {o:HO} (h:H a = some o) (h':H b = none):a ≠ b:=by
  intro e; subst e; rw [h] at h'; cases h'

section
variable (P:Program) (w:World)
noncomputable def IsTupD (h:Heap) (a:Addr) (items:Array Value):Prop:=∃ o,h.get? a = some o /\ o.cls = .type "tuple" /\ (∃ n,o.data = .seq items n) /\ o.dict = none
theorem IsTupD.tup {h:Heap} {a:Addr} {items:Array Value} (x:IsTupD h a items):IsTup h a items:=let ⟨o,e1,e2,e3,_⟩:=x; ⟨o,e1,e2,e3⟩
theorem IsTupD.new (h:Heap) (items:Array Value):IsTupD (h.push { cls:=.type "tuple", data:=.seq items }) h.objs.size items:=⟨_,Heap.get?_push_size _ rfl,rfl,⟨_,rfl⟩,rfl⟩
noncomputable def ObjOk (H:Hp) (h:Heap) (a:Addr):HO -> Prop
  | .lst xs=>xs.length <= sizeLine /\ ∃ (its:List Value) (n:Nat),Vals xs its /\ h.get? a = some { cls:=.type "list", data:=.seq its.toArray n }
  | .tup xs=>xs.length <= sizeLine /\ ∃ its:List Value,Vals xs its /\ IsTupD h a its.toArray
  | .dK kvs=>kvs.length <= sizeLine /\ (a == sysModules) = false /\ ∃ vs,KV kvs vs /\ h.DictOf (mixKind P w) a vs
  | .dT kvs=>kvs.length <= sizeLine /\ (a == sysModules) = false /\ ∃ xs:List (List Key × Addr × Value),
      Paired (fun (p:List Key × V) (q:List Key × Addr × Value)=>p.1 = q.1 /\ H q.2.1 = some (.tup (p.1.map kV)) /\ RelV p.2 q.2.2) kvs xs /\
      ∃ o es ep,h.get? a = some o /\ o.ExactDict /\ o.data = .dict es ep /\ es.toList = xs.map (entryOfKey (tupleKind (mixKind P w))) /\ (xs.map (·.1)).Nodup
  | .set S n=>h.SetOf (intKind P w) a S n
  | .ins C dx fs=>H dx = some (.own a) /\ fs.length <= 1000 /\ dx ≠ a /\ h.get? a = some (W.instObj C dx) /\
      ∃ mA,h.Ns1 dx mA /\ (∀ f,RelO (fs.lookup f) (mA f)) /\ PySem.Within mA (fs.map (·.1))
  | .own _=>∃ o,h.get? a = some o
  | .xd fs=>∃ mA,h.Ns1 a mA /\ ∀ f,RelO (fs.lookup f) (mA f)
  | .rng lo hi=>∃ t u v,h.get? a = some { cls:=.type "range", data:=.fields #[.int lo t,.int hi u,.int 1 v] }
  | .frz o u=>h.get? a = some o /\ ObjOk H h a u
  | .tbl ps=>h.get? a = some { cls:=.none,data:=.fields ps }
  | .met f x=>h.get? a = some (W.methodObj (.ref f) (.ref x))
  | .ext φ=>φ h /\ (∃ o,h.get? a = some o) /\ ∀ h1 h2:Heap,φ h1 -> (∀ o,h1.get? a = some o -> h2.get? a = some o) -> φ h2
noncomputable def HOk (H:Hp) (h:Heap):Prop:=∀ a o,H a = some o -> ObjOk P w H h a o
end

section
variable {P:Program} {w:World} {H H':Hp} {h h':Heap} {a:Addr} {o:HO}
theorem ObjOk.lt (x:ObjOk P w H h a o):a < h.objs.size:=by
  cases o with
  | lst xs=>obtain ⟨_,_,_,_,e⟩:=x; exact Heap.lt_size e
  | tup xs=>obtain ⟨_,_,_,p⟩:=x; exact p.tup.lt
  | dK kvs=>obtain ⟨_,_,_,_,o,_,_,e,_⟩:=x; exact Heap.lt_size e
  | dT kvs=>obtain ⟨_,_,_,_,o,_,_,e,_⟩:=x; exact Heap.lt_size e
  | set S n=>obtain ⟨o,_,_,_,e,_⟩:=x; exact Heap.lt_size e
  | ins C dx fs=>obtain ⟨_,_,_,e,_⟩:=x; exact Heap.lt_size e
  | own y=>obtain ⟨_,e⟩:=x; exact Heap.lt_size e
  | xd fs=>obtain ⟨_,⟨_,_,_,e,_⟩,_⟩:=x; exact Heap.lt_size e
  | rng lo hi=>obtain ⟨_,_,_,e⟩:=x; exact Heap.lt_size e
  | frz ob u=>obtain ⟨e,_⟩:=x; exact Heap.lt_size e
  | tbl ps=>exact Heap.lt_size (show h.get? a = some _ from x)
  | met f y=>exact Heap.lt_size (show h.get? a = some _ from x)
  | ext φ=>obtain ⟨_,⟨_,e⟩,_⟩:=x; exact Heap.lt_size e
theorem Paired.mapP {α β:Type} {F G : α -> β -> Prop}:∀ {l₁:List α} {l₂:List β},Paired F l₁ l₂ -> (∀ a b,F a b -> G a b) -> Paired G l₁ l₂
  | _,_,.nil,_=>.nil
  | _,_,.cons r t,f=>.cons (f _ _ r) (Paired.mapP t f)
theorem ObjOk.stay (x:ObjOk P w H h a o) (k:∀ b u,(b = a \/ H b = some (.own a)) -> h.get? b = some u -> h'.get? b = some u)
    (ho:∀ b,H b = some (.own a) -> H' b = some (.own a)) (ht:∀ b xs,H b = some (.tup xs) -> H' b = some (.tup xs)):ObjOk P w H' h' a o:=by
  induction o with
  | lst xs=>obtain ⟨z,its,n,r,e⟩:=x; exact ⟨z,its,n,r,k _ _ (.inl rfl) e⟩
  | tup xs=>obtain ⟨z,its,r,ob,e,c⟩:=x; exact ⟨z,its,r,ob,k _ _ (.inl rfl) e,c⟩
  | dK kvs=>obtain ⟨z,y,vs,r,ob,es,ep,e,c⟩:=x; exact ⟨z,y,vs,r,ob,es,ep,k _ _ (.inl rfl) e,c⟩
  | dT kvs =>
    obtain ⟨z,y,xs,r,ob,es,ep,e,c⟩:=x
    exact ⟨z,y,xs,Paired.mapP r fun p q z=>⟨z.1,ht _ _ z.2.1,z.2.2⟩,ob,es,ep,k _ _ (.inl rfl) e,c⟩
  | set S n=>obtain ⟨ob,es,ep,t,e,c⟩:=x; exact ⟨ob,es,ep,t,k _ _ (.inl rfl) e,c⟩
  | ins C dx fs =>
    obtain ⟨d,z,ne,e,mA,⟨od,es,ep,e2,c⟩,r⟩:=x
    exact ⟨ho _ d,z,ne,k _ _ (.inl rfl) e,mA,⟨od,es,ep,k _ _ (.inr d) e2,c⟩,r⟩
  | own y=>obtain ⟨ob,e⟩:=x; exact ⟨ob,k _ _ (.inl rfl) e⟩
  | xd fs=>obtain ⟨mA,⟨od,es,ep,e,c⟩,r⟩:=x; exact ⟨mA,⟨od,es,ep,k _ _ (.inl rfl) e,c⟩,r⟩
  | rng lo hi=>obtain ⟨t,u,v,e⟩:=x; exact ⟨t,u,v,k _ _ (.inl rfl) e⟩
  | frz ob u ih=>obtain ⟨e,q⟩:=x; exact ⟨k _ _ (.inl rfl) e,ih q⟩
  | tbl ps =>
    have e:h.get? a = some { cls:=.none,data:=.fields ps }:=x
    show h'.get? a = some { cls:=.none,data:=.fields ps }
    exact k a _ (.inl rfl) e
  | met f y =>
    have e:h.get? a = some (W.methodObj (.ref f) (.ref y)):=x
    show h'.get? a = some (W.methodObj (.ref f) (.ref y))
    exact k a _ (.inl rfl) e
  | ext φ=>obtain ⟨p,⟨o,e⟩,st⟩:=x; exact ⟨st _ _ p fun o q=>k _ _ (.inl rfl) q,⟨o,k _ _ (.inl rfl) e⟩,st⟩
theorem HOk.lt (x:HOk P w H h) (e:H a = some o):a < h.objs.size:=(x a o e).lt
theorem HOk.fresh (x:HOk P w H h) (e:h.objs.size <= a):H a = none:=by
  cases q:H a with
  | none=>rfl
  | some u=>exact absurd (Nat.lt_of_lt_of_le (x.lt q) e) (Nat.lt_irrefl _)
theorem HOk.kept (x:HOk P w H h) (k:∀ b u,h.get? b = some u -> h'.get? b = some u):HOk P w H h':=fun a o e =>
  (x a o e).stay (fun b u _ q=>k b u q) (fun _ q=>q) fun _ _ q=>q
theorem HOk.laid (x:HOk P w H h) (k:∀ b u,h.get? b = some u -> h'.get? b = some u) (hp:h.objs.size <= a) (new:ObjOk P w (upd H a o) h' a o):HOk P w (upd H a o) h':=fun b u e=>by
  have hn:=x.fresh hp
  by_cases hb:b = a
  · subst hb; rw [upd_same] at e; cases e; exact new
  · rw [upd_ne hb] at e
    exact (x b u e).stay (fun c v _ q=>k c v q) (fun c q=>by rw [upd_ne (ne_of_none q hn)]; exact q) fun c xs q=>by rw [upd_ne (ne_of_none q hn)]; exact q
end

noncomputable def Rd (H:Hp) (a:Addr) (u:HO):Prop:=H a = some u \/ ∃ o,H a = some (.frz o u)
theorem Rd.ok {P:Program} {w:World} {H:Hp} {h:Heap} {a:Addr} {u:HO} (r:Rd H a u) (x:HOk P w H h):ObjOk P w H h a u:=by
  rcases r with r | ⟨o,r⟩
  · exact x a u r
  · obtain ⟨_,q⟩:=x a _ r
    exact q
noncomputable def Mut:Option HO -> Prop
  | some (.lst _)=>True
  | some (.dK _)=>True
  | some (.dT _)=>True
  | some (.set _ _)=>True
  | some (.ins _ _ _)=>True
  | some (.ext _)=>True
  | _=>False
section
variable {P:Program} {w:World} {H:Hp} {h h':Heap} {x e:Addr} {o':HO}
theorem HOk.write (ok:HOk P w H h) (mu:Mut (H x)) (he:e = x \/ H e = some (.own x)) (k:∀ b u,b ≠ e -> h.get? b = some u -> h'.get? b = some u) (heo:∃ u,h'.get? e = some u)
    (new:ObjOk P w (upd H x o') h' x o'):HOk P w (upd H x o') h':=fun b u q=>by
  have nown:∀ c y,H c = some (.own y) -> c ≠ x:=fun c y r z=>by subst z; rw [r] at mu; exact mu
  have ntup:∀ c xs,H c = some (.tup xs) -> c ≠ x:=fun c xs r z=>by subst z; rw [r] at mu; exact mu
  by_cases hb:b = x
  · subst hb; rw [upd_same] at q; cases q; exact new
  · rw [upd_ne hb] at q
    by_cases hbe:b = e
    · have q':H b = some (.own x):=by
        rcases he with z | z
        · exact absurd (hbe.trans z) hb
        · rw [hbe]; exact z
      rw [q] at q'; cases q'
      obtain ⟨v,hv⟩:=heo
      exact ⟨v,by rw [hbe]; exact hv⟩
    · refine (ok b u q).stay (fun c v hc r=>k c v ?_ r) (fun c r=>by rw [upd_ne (nown c b r)]; exact r) fun c xs r=>by rw [upd_ne (ntup c xs r)]; exact r
      rcases hc with rfl | hc
      · exact hbe
      · rintro rfl
        rcases he with z | z
        · exact nown c b hc z
        · rw [hc] at z; cases z; exact hb rfl
end

structure Un (fs ex:List Addr) (H H':Hp) (h h':Heap):Prop where
  keep:∀ b o,h.get? b = some o -> H b = none -> b ∉ fs -> b ∉ ex -> h'.get? b = some o
  slot:∀ b o,h.get? b = some o -> H b = none -> b ∈ fs -> b ∉ ex -> ∃ sl,h'.get? b = some { o with slots:=sl }
  free:∀ b o,h.get? b = some o -> H b = none -> b ∉ ex -> H' b = none
  there:∀ b o,h.get? b = some o -> b ∉ ex -> ∃ o',h'.get? b = some o'
  tups:∀ b xs,H b = some (.tup xs) -> H' b = some (.tup xs)
  frzs:∀ b o u,H b = some (.frz o u) -> H' b = some (.frz o u)
  tbls:∀ b ps,H b = some (.tbl ps) -> ∃ more,H' b = some (.tbl (ps ++ more))
section
variable {fs fs' ex ex':List Addr} {H H1 H2:Hp} {h h1 h2 h':Heap} {a x e:Addr} {o:HO}
theorem Un.any (u:Un fs ex H H1 h h1) {b:Addr} {ob:Obj} (q:h.get? b = some ob) (n:H b = none) (hx:b ∉ ex):∃ sl,h1.get? b = some { ob with slots:=sl }:=by
  by_cases hb:b ∈ fs
  · exact u.slot b ob q n hb hx
  · exact ⟨ob.slots,u.keep b ob q n hb hx⟩
theorem Un.kept (k:∀ b u,h.get? b = some u -> h'.get? b = some u):Un fs ex H H h h' :=
  ⟨fun b ob q _ _ _=>k b ob q,fun b ob q _ _ _=>⟨ob.slots,k b ob q⟩,fun _ _ _ n _=>n,fun b ob q _=>⟨ob,k b ob q⟩,fun _ _ q=>q,fun _ _ _ q=>q,fun _ ps q=>⟨#[],by rw [q]; simp⟩⟩
theorem Un.refl:Un fs ex H H h h:=Un.kept fun _ _ q=>q
theorem Un.laid (k:∀ b u,h.get? b = some u -> h'.get? b = some u) (hp:h.objs.size <= a) (hn:H a = none):Un fs ex H (upd H a o) h h' where
  keep:=fun b u q _ _ _=>k b u q
  slot:=fun b u q _ _ _=>⟨u.slots,k b u q⟩
  free:=fun b u q n _=>by rw [upd_ne (Nat.ne_of_lt (Nat.lt_of_lt_of_le (Heap.lt_size q) hp))]; exact n
  there:=fun b u q _=>⟨u,k b u q⟩
  tups:=fun b xs q=>by rw [upd_ne (ne_of_none q hn)]; exact q
  frzs:=fun b u xs q=>by rw [upd_ne (ne_of_none q hn)]; exact q
  tbls:=fun b ps q=>⟨#[],by rw [upd_ne (ne_of_none q hn),q]; simp⟩
theorem Un.write (mu:Mut (H x)) (he:e = x \/ H e = some (.own x)) (k:∀ b u,b ≠ e -> h.get? b = some u -> h'.get? b = some u) (heo:∃ u,h'.get? e = some u):Un fs ex H (upd H x o) h h':=by
  have hx:∀ b,H b = none -> b ≠ x:=fun b n z=>by subst z; rw [n] at mu; exact mu
  have hb:∀ b,H b = none -> b ≠ e:=fun b n z=>by
    subst z
    rcases he with r | r
    · exact hx b n r
    · rw [n] at r; cases r
  have hm:∀ b u,H b = some u -> ¬ Mut (some u) -> b ≠ x:=fun b u q nm z=>by subst z; rw [q] at mu; exact nm mu
  refine ⟨fun b u q n _ _=>k b u (hb b n) q,fun b u q n _ _=>⟨u.slots,k b u (hb b n) q⟩,fun b u q n _=>by rw [upd_ne (hx b n)]; exact n,fun b u q _=>?_,
    fun b xs q=>by rw [upd_ne (hm b _ q fun z=>z)]; exact q,fun b u xs q=>by rw [upd_ne (hm b _ q fun z=>z)]; exact q,fun b ps q=>⟨#[],by rw [upd_ne (hm b _ q fun z=>z),q]; simp⟩⟩
  by_cases hbe:b = e
  · subst hbe; exact heo
  · exact ⟨u,k b u hbe q⟩
end

noncomputable def trk (h:Heap) (H:Hp):List Addr:=(List.range h.objs.size).filter fun a=>(H a).isSome
noncomputable def hidT (h:Heap) (H:Hp):Heap:=W.hideAll h (trk h H)
theorem hidT_size (h:Heap) (H:Hp):(hidT h H).objs.size = h.objs.size:=W.hideAll_size _ _
theorem hidT_get {h:Heap} {H:Hp} {b:Addr} {o:Obj} (e:h.get? b = some o) (n:H b = none):(hidT h H).get? b = some o :=
  W.hideAll_get _ e fun hm=>by
    have q:(H b).isSome = true:=(List.mem_filter.mp hm).2
    rw [n] at q; simp at q
theorem of_hidT {h:Heap} {H:Hp} {b:Addr} {o:Obj} (e:(hidT h H).get? b = some o):h.get? b = some o /\ H b = none:=by
  have e':h.get? b = some o:=W.of_hideAll (trk h H) e
  refine ⟨e',?_⟩
  cases q:H b with
  | none=>rfl
  | some x =>
    have hm:b ∈ trk h H:=List.mem_filter.mpr ⟨List.mem_range.mpr (Heap.lt_size e'),by simp [q]⟩
    have z:(hidT h H).get? b = none:=W.hideAll_none (trk h H) hm
    rw [z] at e; cases e

noncomputable def allNews (g h:Heap) (L:Addr):List (Addr × Obj):=(List.range h.objs.size).filterMap fun a=>if a = L \/ (g.get? a).isSome = true then none else (h.get? a).map fun o=>(a,o)
noncomputable def rest (g h:Heap) (L d:Addr):List (Addr × Obj):=(allNews g h L).filter fun p=>decide (p.1 ≠ d)
end L2

namespace L2
open PySem PySem.Spec PyProof.Rows

structure Mod (K:W.Frag) (mg:Str -> Option Value) (base:Heap):Prop where
  kin:K.In base
  glob:base.Ns mainGlobals mg
  blt:∃ mb,base.Ns builtinsNs mb /\ ∀ x:Str,x ≠ "__name__" -> mb x = bootBuiltins x
  nolimit:base.NoLimit

structure Cx where
  prog:Program
  w:World
  K:W.Frag
  mg:Str -> Option Value
  base:Heap
  A:Around
  N:List Str
  s₀:Shared
  H₀:Hp
  env:Env
  outer:List Env
  stack:List Env
  ex:List Addr
  fn:Str -> Bool
  calm:Bool
  pn:List (Addr × Obj)
  xe:Value -> Shared -> Prop
noncomputable def frs (l:List Env):List Addr:=l.filterMap (·.frame)
abbrev Cx.fs (X:Cx):List Addr:=frs X.outer

noncomputable def Vis (sc:Scope) (x:Str):Prop:=sc.names.lookup x = some .local \/ sc.names.lookup x = some .cell \/ sc.names.lookup x = some .free
noncomputable def Loc (sc:Scope) (x:Str):Prop:=sc.names.lookup x = some .local \/ sc.names.lookup x = some .cell
noncomputable def Look (env:Env) (h:Heap) (m:Str -> Option Value) (x:Str) (u:Value):Prop :=
  (env.kindOf x = some .local /\ m x = some u) \/ ((env.kindOf x = some .cell \/ env.kindOf x = some .free) /\ ∃ c,env.cells.lookup x = some c /\ h.IsCell c (some u))

structure Cx.Ok (X:Cx):Prop where
  mod:Mod X.K X.mg X.base
  kind:X.env.scope.kind = .function
  glob:X.env.globals = mainGlobals
  blt:X.env.builtins = builtinsNs
  above:X.s₀.heap.objs.size <= X.env.locals
  inj:∀ x y c,X.env.cells.lookup x = some c -> X.env.cells.lookup y = some c -> x = y
  has:∀ x,(X.env.kindOf x = some .cell \/ X.env.kindOf x = some .free) -> ∃ c,X.env.cells.lookup x = some c
  cab:∀ x c,X.fn x = true -> X.env.cells.lookup x = some c -> X.s₀.heap.objs.size <= c
  hd:X.calm = true -> X.A.handled = none
  frames:X.A.frames = some X.stack
  stk:X.stack = X.outer \/ (X.stack = X.env :: X.outer /\ X.env.frame = some X.env.locals)
  exf:∀ b ∈ X.ex,b ≠ X.env.locals /\ ∀ x c,X.env.cells.lookup x = some c -> c ≠ b
  bs:∀ b o,X.base.get? b = some o -> X.s₀.heap.get? b = some o /\ X.H₀ b = none
  bsz:X.base.objs.size <= X.s₀.heap.objs.size
  noex:∀ b o,X.base.get? b = some o -> b ∉ X.ex
  exfs:∀ b ∈ X.ex,b ∉ X.fs
  funs:X.s₀.heap.FunFrames X.base X.outer
  frf:∀ b ∈ X.fs,X.H₀ b = none

structure Inv (X:Cx) (pins:List (Addr × Obj)) (σ:List (Option V)) (H:Hp) (s:Shared):Prop where
  ok:X.Ok
  os:s.os = X.s₀.os
  bare:AllBare s.gens
  base:Un X.fs X.ex X.H₀ H X.s₀.heap s.heap
  loc:∃ m,s.heap.Ns X.env.locals m /\ ∀ (i:Nat) (x:Str) (v:V),X.N[i]? = some x -> σ[i]? = some (some v) -> Vis X.env.scope x -> ∃ u,RelV v u /\ Look X.env s.heap m x u
  cell:∀ x c,X.env.cells.lookup x = some c -> ∃ v,s.heap.IsCell c v
  free:H X.env.locals = none
  freeC:∀ x c,X.env.cells.lookup x = some c -> H c = none
  pin:∀ p ∈ X.pn ++ pins,s.heap.get? p.1 = some p.2 /\ H p.1 = none /\ p.1 ≠ X.env.locals /\ p.1 ∉ X.fs /\ ∀ v,p.2.data ≠ .cell v
  hok:HOk X.prog X.w H s.heap
  len : σ.length = X.N.length

section
variable {X:Cx} {pins:List (Addr × Obj)} {σ:List (Option V)} {H H':Hp} {s:Shared} {h':Heap}

theorem Cx.Ok.nofr (ok:X.Ok) {b:Addr} {o:Obj} (e:X.base.get? b = some o):b ∉ X.fs:=fun hb=>by
  have:=(ok.funs.mem hb).1
  rw [e] at this; cases this
theorem Inv.bs (I:Inv X pins σ H s):∀ b o,X.base.get? b = some o -> s.heap.get? b = some o /\ H b = none:=fun b o e =>
  ⟨I.base.keep b o (I.ok.bs b o e).1 (I.ok.bs b o e).2 (I.ok.nofr e) (I.ok.noex b o e),I.base.free b o (I.ok.bs b o e).1 (I.ok.bs b o e).2 (I.ok.noex b o e)⟩
theorem Inv.bk (I:Inv X pins σ H s):∀ b o,X.base.get? b = some o -> s.heap.get? b = some o:=fun b o e=>(I.bs b o e).1
theorem Inv.mod (I:Inv X pins σ H s):Mod X.K X.mg X.base:=I.ok.mod
theorem Inv.kIn (I:Inv X pins σ H s):X.K.In s.heap:=I.ok.mod.kin.keeps I.bk
theorem Inv.lt (I:Inv X pins σ H s):X.env.locals < s.heap.objs.size:=let ⟨_,hn,_⟩:=I.loc; hn.lt
theorem Inv.sz (I:Inv X pins σ H s):X.s₀.heap.objs.size <= s.heap.objs.size:=Nat.le_trans I.ok.above (Nat.le_of_lt I.lt)
theorem Inv.nofs (I:Inv X pins σ H s) {a:Addr} (h:s.heap.objs.size <= a):a ∉ X.fs:=fun hb=>by
  obtain ⟨_,o,ho,_⟩:=I.ok.funs.mem hb
  exact absurd (Nat.lt_of_lt_of_le (Heap.lt_size ho) (Nat.le_trans I.sz h)) (Nat.lt_irrefl _)
theorem Inv.cne (I:Inv X pins σ H s):∀ x c,X.env.cells.lookup x = some c -> c ≠ X.env.locals:=fun x c e z=>by
  obtain ⟨v,o,ho,hd⟩:=I.cell x c e
  obtain ⟨m,⟨o',es,ep,ho',hd',_⟩,_⟩:=I.loc
  rw [z,ho'] at ho; cases ho; rw [hd'] at hd; cases hd
theorem Inv.funs (I:Inv X pins σ H s):s.heap.FunFrames X.base X.outer:=by
  have all:∀ (l:List Env),(∀ b ∈ frs l,b ∈ X.fs) -> X.s₀.heap.FunFrames X.base l -> s.heap.FunFrames X.base l:=by
    intro l
    induction l with
    | nil=>intro _ _; trivial
    | cons env r ih =>
      intro hs hl
      obtain ⟨hk,⟨L,o,hf,hn,ho,hd⟩,hr⟩:=hl
      have hL:L ∈ X.fs:=hs L (by unfold frs; rw [List.filterMap_cons,hf]; exact List.mem_cons_self)
      obtain ⟨sl,e⟩:=I.base.slot L o ho (I.ok.frf L hL) hL fun z=>I.ok.exfs L z hL
      exact ⟨hk,⟨L,_,hf,hn,e,hd⟩,ih (fun b hb=>hs b (by unfold frs; rw [List.filterMap_cons,hf]; exact List.mem_cons_of_mem _ hb)) hr⟩
  exact all X.outer (fun _ hb=>hb) I.ok.funs

theorem Inv.stack (I:Inv X pins σ H s):s.heap.FunFrames X.base X.stack:=by
  rcases I.ok.stk with e | ⟨e,hf⟩
  · rw [e]; exact I.funs
  · rw [e]
    obtain ⟨m,hn,_⟩:=I.loc
    refine .cons (by rw [I.ok.kind]; decide) hf hn ?_ I.funs
    exact Heap.get?_none_of_le (Nat.le_trans I.ok.bsz I.ok.above)
theorem Inv.stkSub (I:Inv X pins σ H s):∀ b ∈ frs X.stack,b ∈ X.env.locals :: X.fs:=fun b hb=>by
  rcases I.ok.stk with e | ⟨e,hf⟩
  · rw [e] at hb; exact List.mem_cons_of_mem _ hb
  · rw [e] at hb
    unfold frs at hb
    rw [List.filterMap_cons,hf] at hb
    exact hb
theorem Inv.stkFree (I:Inv X pins σ H s):∀ b ∈ frs X.stack,H b = none:=fun b hb=>by
  rcases List.mem_cons.mp (I.stkSub b hb) with e | hb
  · rw [e]; exact I.free
  · obtain ⟨_,o,ho,_⟩:=I.ok.funs.mem hb
    exact I.base.free b o ho (I.ok.frf b hb) fun z=>I.ok.exfs b z hb

theorem Inv.step {g':Array GenState} {t':Nat} {d':Drawn} {ch:List Addr} (I:Inv X pins σ H s)
    (hch:∀ b ∈ ch,(b ∈ X.ex \/ X.s₀.heap.objs.size <= b) /\ b ≠ X.env.locals /\ (∀ x c,X.env.cells.lookup x = some c -> c ≠ b) /\ ∀ p ∈ X.pn ++ pins,p.1 ≠ b)
    (keep:∀ b o,b ≠ X.env.locals -> b ∉ X.fs -> b ∉ ch -> s.heap.get? b = some o -> H b = none -> h'.get? b = some o)
    (slot:∀ b o,b ≠ X.env.locals -> b ∈ X.fs -> b ∉ ch -> s.heap.get? b = some o -> H b = none -> ∃ sl,h'.get? b = some { o with slots:=sl }) (free:∀ b o,b ∉ ch -> s.heap.get? b = some o -> H b = none -> H' b = none)
    (there:∀ b o,b ∉ ch -> s.heap.get? b = some o -> ∃ o',h'.get? b = some o')
    (tups:∀ b xs,H b = some (.tup xs) -> H' b = some (.tup xs)) (frzs:∀ b o u,H b = some (.frz o u) -> H' b = some (.frz o u)) (tbls:∀ b ps,H b = some (.tbl ps) -> ∃ more,H' b = some (.tbl (ps ++ more)))
    (ns:∀ m,s.heap.Ns X.env.locals m -> h'.Ns X.env.locals m) (hok:HOk X.prog X.w H' h') (hg:AllBare g') :
    Inv X pins σ H' { s with heap:=h',gens:=g',drawn:=d',toks:=t' }:=by
  have neL:∀ b o,X.s₀.heap.get? b = some o -> b ≠ X.env.locals:=fun b o e=>Nat.ne_of_lt (Nat.lt_of_lt_of_le (Heap.lt_size e) I.ok.above)
  have neC:∀ b o,X.s₀.heap.get? b = some o -> b ∉ X.ex -> b ∉ ch:=fun b o e hx hb=>by
    rcases (hch b hb).1 with z | z
    · exact hx z
    · exact absurd (Nat.lt_of_lt_of_le (Heap.lt_size e) z) (Nat.lt_irrefl _)
  have cellK:∀ x c,X.env.cells.lookup x = some c -> ∀ v,s.heap.IsCell c v -> h'.IsCell c v:=fun x c e v ⟨o,ho,hd⟩=>by
    have nch:c ∉ ch:=fun z=>(hch c z).2.2.1 x c e rfl
    by_cases hc:c ∈ X.fs
    · obtain ⟨sl,q⟩:=slot c o (I.cne x c e) hc nch ho (I.freeC x c e)
      exact ⟨_,q,hd⟩
    · exact ⟨o,keep c o (I.cne x c e) hc nch ho (I.freeC x c e),hd⟩
  refine ⟨I.ok,I.os,hg,⟨fun b o e n hb hx=>?_,fun b o e n hb hx=>?_,fun b o e n hx=>?_,fun b o e hx=>?_,fun b xs e=>tups b xs (I.base.tups b xs e),fun b o xs e=>frzs b o xs (I.base.frzs b o xs e),fun b ps e=>?_⟩,?_,fun x c e=>?_,?_,fun x c e=>?_,fun p hp=>?_,hok,I.len⟩
  · exact keep b o (neL b o e) hb (neC b o e hx) (I.base.keep b o e n hb hx) (I.base.free b o e n hx)
  · obtain ⟨sl,e1⟩:=I.base.slot b o e n hb hx
    obtain ⟨sl',e2⟩:=slot b _ (neL b o e) hb (neC b o e hx) e1 (I.base.free b o e n hx)
    exact ⟨sl',e2⟩
  · obtain ⟨o',e1⟩:=I.base.there b o e hx
    exact free b o' (neC b o e hx) e1 (I.base.free b o e n hx)
  · obtain ⟨o',e1⟩:=I.base.there b o e hx
    exact there b o' (neC b o e hx) e1
  · obtain ⟨m1,e1⟩:=I.base.tbls b ps e
    obtain ⟨m2,e2⟩:=tbls b _ e1
    exact ⟨m1 ++ m2,by rw [e2,Array.append_assoc]⟩
  · obtain ⟨m,hn,hl⟩:=I.loc
    refine ⟨m,ns m hn,fun i x v e1 e2 e3=>?_⟩
    obtain ⟨u,r,l⟩:=hl i x v e1 e2 e3
    refine ⟨u,r,?_⟩
    rcases l with l | ⟨k,c,e,z⟩
    · exact .inl l
    · exact .inr ⟨k,c,e,cellK x c e _ z⟩
  · obtain ⟨v,z⟩:=I.cell x c e
    exact ⟨v,cellK x c e v z⟩
  · obtain ⟨m,⟨o,_,_,ho,_⟩,_⟩:=I.loc
    exact free _ o (fun z=>(hch _ z).2.1 rfl) ho I.free
  · obtain ⟨v,o,ho,hd⟩:=I.cell x c e
    exact free c o (fun z=>(hch c z).2.2.1 x c e rfl) ho (I.freeC x c e)
  · obtain ⟨e,n,ne,nf,d⟩:=I.pin p hp
    have nch:p.1 ∉ ch:=fun z=>(hch p.1 z).2.2.2 p hp rfl
    exact ⟨keep p.1 p.2 ne nf nch e n,free p.1 p.2 nch e n,ne,nf,d⟩
theorem Inv.un {t':Nat} (I:Inv X pins σ H s) (u:Un X.fs [] H H' s.heap h') (hok:HOk X.prog X.w H' h'):Inv X pins σ H' { s with heap:=h',toks:=t' }:=by
  obtain ⟨m,⟨o,es,ep,ho,r⟩,_⟩:=id I.loc
  obtain ⟨sl,hL⟩:=u.any ho I.free (by simp)
  exact I.step (g':=s.gens) (d':=s.drawn) (ch:=[]) (fun _ z=>nomatch z) (fun b o _ hb _ e n=>u.keep b o e n hb (by simp)) (fun b o _ hb _ e n=>u.slot b o e n hb (by simp)) (fun b o _ e n=>u.free b o e n (by simp)) (fun b o _ e=>u.there b o e (by simp)) u.tups u.frzs u.tbls (fun m' hm=>by
    obtain ⟨o',es',ep',ho',r'⟩:=hm
    rw [ho] at ho'; cases ho'
    exact ⟨_,es',ep',hL,r'⟩) hok I.bare
theorem Inv.call {g':Array GenState} {t':Nat} {d':Drawn} {ch:List Addr} (I:Inv X pins σ H s) (u:Un (frs X.stack) ch H H' s.heap h') (hok:HOk X.prog X.w H' h') (hg:AllBare g')
    (hch:∀ b ∈ ch,(b ∈ X.ex \/ X.s₀.heap.objs.size <= b) /\ b ≠ X.env.locals /\ (∀ x c,X.env.cells.lookup x = some c -> c ≠ b) /\ ∀ p ∈ X.pn ++ pins,p.1 ≠ b) :
    Inv X pins σ H' { s with heap:=h',gens:=g',drawn:=d',toks:=t' }:=by
  obtain ⟨m,⟨o,es,ep,ho,r⟩,_⟩:=id I.loc
  obtain ⟨sl,hL⟩:=u.any ho I.free fun z=>(hch _ z).2.1 rfl
  exact I.step (ch:=ch) hch (fun b o hL hb hc e n=>u.keep b o e n (fun z=>(List.mem_cons.mp (I.stkSub b z)).elim hL hb) hc) (fun b o _ _ hc e n=>u.any e n hc) (fun b o hc e n=>u.free b o e n hc) (fun b o hc e=>u.there b o e hc) u.tups u.frzs u.tbls (fun m' hm=>by
    obtain ⟨o',es',ep',ho',r'⟩:=hm
    rw [ho] at ho'; cases ho'
    exact ⟨_,es',ep',hL,r'⟩) hok hg
theorem Inv.turned {t':Nat} {it:Addr} (I:Inv X pins σ H s) (k:∀ b o,b ≠ it -> s.heap.get? b = some o -> h'.get? b = some o) (hn:H it = none) (hL:it ≠ X.env.locals)
    (h1:it ∈ X.ex \/ X.s₀.heap.objs.size <= it) (h2:∀ x c,X.env.cells.lookup x = some c -> c ≠ it) (h3:∀ p ∈ X.pn ++ pins,p.1 ≠ it):Inv X pins σ H { s with heap:=h',toks:=t' }:=by
  have nit:∀ b u,H b = some u -> b ≠ it:=fun b u e z=>by rw [z,hn] at e; cases e
  refine I.step (g':=s.gens) (d':=s.drawn) (ch:=[it]) (fun b hb=>?_) (fun b o _ _ hc e _=>k b o (fun z=>hc (by simp [z])) e) (fun b o _ _ hc e _=>⟨o.slots,k b o (fun z=>hc (by simp [z])) e⟩) (fun _ _ _ _ n=>n)
    (fun b o hc e=>⟨o,k b o (fun z=>hc (by simp [z])) e⟩) (fun _ _ e=>e) (fun _ _ _ e=>e) (fun b ps e=>⟨#[],by rw [e]; simp⟩) (fun m hm=>?_) (fun b u e=>?_) I.bare
  · have e:b = it:=by simpa using hb
    subst e
    exact ⟨h1,hL,h2,h3⟩
  · obtain ⟨o,es,ep,ho,r⟩:=hm
    exact ⟨o,es,ep,k _ o (Ne.symm hL) ho,r⟩
  · refine (I.hok b u e).stay (fun c v hc q=>k c v ?_ q) (fun _ q=>q) fun _ _ q=>q
    rcases hc with z | z
    · rw [z]; exact nit b u e
    · exact nit c _ z
theorem Inv.tok (I:Inv X pins σ H s) (t:Nat):Inv X pins σ H { s with toks:=t }:=I.un (h':=s.heap) (t':=t) Un.refl I.hok
theorem Inv.kept {t':Nat} (I:Inv X pins σ H s) (k:∀ b u,s.heap.get? b = some u -> h'.get? b = some u):Inv X pins σ H { s with heap:=h',toks:=t' }:=I.un (Un.kept k) (I.hok.kept k)
theorem Inv.laid {a:Addr} {o:HO} {t':Nat} (I:Inv X pins σ H s) (k:∀ b u,s.heap.get? b = some u -> h'.get? b = some u) (hp:s.heap.objs.size <= a) (new:ObjOk X.prog X.w (upd H a o) h' a o) :
    Inv X pins σ (upd H a o) { s with heap:=h',toks:=t' }:=I.un (Un.laid k hp (I.hok.fresh hp)) (I.hok.laid k hp new)
theorem Inv.write {x e:Addr} {o:HO} {t':Nat} (I:Inv X pins σ H s) (mu:Mut (H x)) (he:e = x \/ H e = some (.own x)) (k:∀ b u,b ≠ e -> s.heap.get? b = some u -> h'.get? b = some u) (heo:∃ u,h'.get? e = some u)
    (new:ObjOk X.prog X.w (upd H x o) h' x o):Inv X pins σ (upd H x o) { s with heap:=h',toks:=t' }:=I.un (Un.write mu he k heo) (I.hok.write mu he k heo new)
theorem Inv.pins_of {pins':List (Addr × Obj)} (I:Inv X pins σ H s) (h:∀ p ∈ pins',s.heap.get? p.1 = some p.2 /\ H p.1 = none /\ p.1 ≠ X.env.locals /\ p.1 ∉ X.fs /\ ∀ v,p.2.data ≠ .cell v):Inv X pins' σ H s :=
  ⟨I.ok,I.os,I.bare,I.base,I.loc,I.cell,I.free,I.freeC,fun p hp=>(List.mem_append.mp hp).elim (fun z=>I.pin p (List.mem_append_left _ z)) (h p),I.hok,I.len⟩

theorem nodup_ix {N:List Str} (hN:N.Nodup) {i j:Nat} {x:Str} (a:N[i]? = some x) (b:N[j]? = some x):i = j:=by
  obtain ⟨h1,e1⟩:=List.getElem?_eq_some_iff.mp a
  obtain ⟨h2,e2⟩:=List.getElem?_eq_some_iff.mp b
  exact (List.getElem_inj hN).mp (e1.trans e2.symm)

theorem store_ok2 {M:Model} {A:Around} {E:Value -> Shared -> Prop} {i:Nat} {x:Str} {v:V} {u:Value} {Q:Unit -> Shared -> Prop} (I:Inv X pins σ H s) (hN:X.N.Nodup) (hi:X.N[i]? = some x) (hx:Loc X.env.scope x) (r:RelV v u)
    (h:∀ s',Inv X pins (σ.set i (some v)) H s' -> (∃ a,Heap.SameBut a s.heap s'.heap /\ (a = X.env.locals \/ X.env.cells.lookup x = some a)) -> Q () s') (hf:X.fn x = true \/ X.env.scope.names.lookup x = some .local:=by first | exact .inl rfl | exact .inr rfl | assumption):wpAny M A (storeName X.env x u) Q E s:=by
  obtain ⟨m,hn,hl⟩:=id I.loc
  have hcls:(X.env.scope.kind == .class || (X.env.scope.kind == .module && X.env.locals != X.env.globals)) = false:=by rw [I.ok.kind]; rfl
  have hiσ:i < σ.length:=by rw [I.len]; exact (List.getElem?_eq_some_iff.mp hi).1
  have cne:=I.cne
  have tracked:∀ {a:Addr} {h':Heap},(∃ o,s.heap.get? a = some o /\ H a = none) -> Heap.SameBut a s.heap h' -> HOk X.prog X.w H h':=fun {a h'} ha hs b ob e=>by
    obtain ⟨_,_,hfree⟩:=ha
    refine (I.hok b ob e).stay (fun c w' hc q=>(hs.2 c ?_).trans q) (fun _ q=>q) fun _ _ q=>q
    rintro rfl
    rcases hc with rfl | hc
    · rw [hfree] at e; cases e
    · rw [hfree] at hc; cases hc
  rcases hx with hk | hk
  · refine wpAny_storeName_local hk hn (fun h' hn' hs=>?_) hcls
    obtain ⟨oL,_,_,hoL,_⟩:=id hn
    refine h _ ⟨I.ok,I.os,I.bare,⟨fun b o e n hb hx=>?_,fun b o e n hb hx=>?_,I.base.free,fun b o e hx=>?_,I.base.tups,I.base.frzs,I.base.tbls⟩,⟨_,hn',fun j y v' e1 e2 e3=>?_⟩,fun y c e=>?_,I.free,I.freeC,fun p hp=>?_,tracked ⟨oL,hoL,I.free⟩ hs,by simpa using I.len⟩ ⟨_,hs,.inl rfl⟩
    · exact (hs.2 b (Nat.ne_of_lt (Nat.lt_of_lt_of_le (Heap.lt_size e) I.ok.above))).trans (I.base.keep b o e n hb hx)
    · obtain ⟨sl,e1⟩:=I.base.slot b o e n hb hx
      exact ⟨sl,(hs.2 b (Nat.ne_of_lt (Nat.lt_of_lt_of_le (Heap.lt_size e) I.ok.above))).trans e1⟩
    · obtain ⟨o',e1⟩:=I.base.there b o e hx
      exact ⟨o',(hs.2 b (Nat.ne_of_lt (Nat.lt_of_lt_of_le (Heap.lt_size e) I.ok.above))).trans e1⟩
    · by_cases hj:j = i
      · subst hj
        rw [hi] at e1; cases e1
        rw [List.getElem?_set_self hiσ] at e2
        cases e2
        exact ⟨u,r,.inl ⟨hk,by simp⟩⟩
      · rw [List.getElem?_set_ne (Ne.symm hj)] at e2
        obtain ⟨u',r',q⟩:=hl j y v' e1 e2 e3
        refine ⟨u',r',?_⟩
        rcases q with ⟨k,e⟩ | ⟨k,c,e,z⟩
        · refine .inl ⟨k,?_⟩
          have:y ≠ x:=fun e=>hj (nodup_ix hN e1 (e ▸ hi))
          simp [this,e]
        · exact .inr ⟨k,c,e,z.sameBut hs (cne y c e)⟩
    · obtain ⟨w',z⟩:=I.cell y c e
      exact ⟨w',z.sameBut hs (cne y c e)⟩
    · obtain ⟨e,n,ne,nf,d⟩:=I.pin p hp
      exact ⟨(hs.2 p.1 ne).trans e,n,ne,nf,d⟩
  · have hfn:X.fn x = true:=by
      rcases hf with z | z
      · exact z
      · rw [z] at hk; cases hk
    obtain ⟨c,hc⟩:=I.ok.has x (.inl hk)
    obtain ⟨w',z⟩:=I.cell x c hc
    refine wpAny_storeName_cell I.ok.kind hk hc z (fun h' hc' hs=>?_)
    obtain ⟨oc,hoc,hocd⟩:=id z
    refine h { s with heap:=h' } ⟨I.ok,I.os,I.bare,⟨fun b o e n hb hx=>?_,fun b o e n hb hx=>?_,I.base.free,fun b o e hx=>?_,I.base.tups,I.base.frzs,I.base.tbls⟩,⟨m,hn.sameBut hs (Ne.symm (cne x c hc)),fun j y v' e1 e2 e3=>?_⟩,fun y c' e=>?_,I.free,I.freeC,fun p hp=>?_,tracked ⟨oc,hoc,I.freeC x c hc⟩ hs,by simpa using I.len⟩ ⟨c,hs,.inr hc⟩
    · exact (hs.2 b (Nat.ne_of_lt (Nat.lt_of_lt_of_le (Heap.lt_size e) (I.ok.cab x c hfn hc)))).trans (I.base.keep b o e n hb hx)
    · obtain ⟨sl,e1⟩:=I.base.slot b o e n hb hx
      exact ⟨sl,(hs.2 b (Nat.ne_of_lt (Nat.lt_of_lt_of_le (Heap.lt_size e) (I.ok.cab x c hfn hc)))).trans e1⟩
    · obtain ⟨o',e1⟩:=I.base.there b o e hx
      exact ⟨o',(hs.2 b (Nat.ne_of_lt (Nat.lt_of_lt_of_le (Heap.lt_size e) (I.ok.cab x c hfn hc)))).trans e1⟩
    · by_cases hj:j = i
      · subst hj
        rw [hi] at e1; cases e1
        rw [List.getElem?_set_self hiσ] at e2
        cases e2
        exact ⟨u,r,.inr ⟨.inl hk,c,hc,hc'⟩⟩
      · rw [List.getElem?_set_ne (Ne.symm hj)] at e2
        obtain ⟨u',r',q⟩:=hl j y v' e1 e2 e3
        refine ⟨u',r',?_⟩
        rcases q with q | ⟨k,c',e,z'⟩
        · exact .inl q
        · refine .inr ⟨k,c',e,z'.sameBut hs ?_⟩
          rintro rfl
          exact hj (nodup_ix hN e1 (I.ok.inj _ _ _ e hc ▸ hi))
    · by_cases hcc:c' = c
      · subst hcc; exact ⟨_,hc'⟩
      · obtain ⟨w2,z2⟩:=I.cell y c' e
        exact ⟨w2,z2.sameBut hs hcc⟩
    · obtain ⟨e,n,ne,nf,d⟩:=I.pin p hp
      refine ⟨(hs.2 p.1 ?_).trans e,n,ne,nf,d⟩
      intro q
      rw [q,hoc] at e
      have q':oc = p.2:=Option.some.inj e
      exact d w' (by rw [<- q']; exact hocd)
theorem store_ok {M:Model} {A:Around} {E:Value -> Shared -> Prop} {i:Nat} {x:Str} {v:V} {u:Value} {Q:Unit -> Shared -> Prop} (I:Inv X pins σ H s) (hN:X.N.Nodup) (hi:X.N[i]? = some x) (hx:Loc X.env.scope x) (r:RelV v u)
    (h:∀ s',Inv X pins (σ.set i (some v)) H s' -> Q () s') (hf:X.fn x = true \/ X.env.scope.names.lookup x = some .local:=by first | exact .inl rfl | exact .inr rfl | assumption):wpAny M A (storeName X.env x u) Q E s :=
  store_ok2 I hN hi hx r (fun s' I' _=>h s' I') hf
end

abbrev XK:=Value -> Option Addr -> Hp -> Prop
abbrev St:=List (Option V)
abbrev VK:=V -> Hp -> Prop
abbrev TE:=St -> Hp -> VK -> Prop
abbrev TT:=St -> Hp -> (Bool -> Hp -> Prop) -> Prop
abbrev TA:=St -> Hp -> (List V -> Hp -> Prop) -> Prop
structure Ends where
  nx:St -> Hp -> Prop
  rt:VK
  bk:St -> Hp -> Prop:=fun _ _=>False
  ct:St -> Hp -> Prop:=fun _ _=>False
abbrev TS:=Ends -> St -> Hp -> Prop

noncomputable def EP (X:Cx) (pins:List (Addr × Obj)) (σ:St) (Q:VK) (u:Value) (s':Shared):Prop:=∃ v H',Inv X pins σ H' s' /\ RelV v u /\ Q v H'
noncomputable def TP (X:Cx) (pins:List (Addr × Obj)) (σ:St) (Q:Bool -> Hp -> Prop) (b:Bool) (s':Shared):Prop:=∃ H',Inv X pins σ H' s' /\ Q b H'
noncomputable def AP (X:Cx) (pins:List (Addr × Obj)) (σ:St) (Q:List V -> Hp -> Prop) (us:List Value) (s':Shared):Prop:=∃ vs H',Inv X pins σ H' s' /\ Vals vs us /\ Q vs H'
noncomputable def SP (X:Cx) (pins:List (Addr × Obj)) (D:Ends) (f:Flow) (s':Shared):Prop :=
  match f with
  | .next=>∃ σ' H',Inv X pins σ' H' s' /\ D.nx σ' H'
  | .brk=>∃ σ' H',Inv X pins σ' H' s' /\ D.bk σ' H'
  | .cont=>∃ σ' H',Inv X pins σ' H' s' /\ D.ct σ' H'
  | .ret u=>∃ v σ' H',Inv X pins σ' H' s' /\ RelV v u /\ D.rt v H'

noncomputable def PE (X:Cx) (e:Expr) (t:TE):Prop :=
  ∀ (pins:List (Addr × Obj)) (s:Shared) (σ:St) (H:Hp) (Q:VK),Inv X pins σ H s -> t σ H Q -> wpAny (model X.prog X.w) X.A (eval e X.env) (EP X pins σ Q) X.xe s
noncomputable def PT (X:Cx) (e:Expr) (t:TT):Prop :=
  ∀ (pins:List (Addr × Obj)) (s:Shared) (σ:St) (H:Hp) (Q:Bool -> Hp -> Prop),Inv X pins σ H s -> t σ H Q -> wpAny (model X.prog X.w) X.A (isTrue e X.env (eval e X.env)) (TP X pins σ Q) X.xe s
noncomputable def PW (X:Cx) (e:Expr) (t:TT):Prop :=
  ∀ (whole:Sem Value) (pins:List (Addr × Obj)) (s:Shared) (σ:St) (H:Hp) (Q:Bool -> Hp -> Prop),Inv X pins σ H s -> t σ H Q -> wpAny (model X.prog X.w) X.A (isTrue e X.env whole) (TP X pins σ Q) X.xe s
theorem PW.pt {X:Cx} {e:Expr} {t:TT} (h:PW X e t):PT X e t:=h _
noncomputable def PA (X:Cx) (es:List Expr) (t:TA):Prop :=
  ∀ (pos:Pos) (pins:List (Addr × Obj)) (s:Shared) (σ:St) (H:Hp) (Q:List V -> Hp -> Prop),Inv X pins σ H s -> t σ H Q -> wpAny (model X.prog X.w) X.A (spliced (backTo pos (starEach es X.env))) (AP X pins σ Q) X.xe s
noncomputable def PS (X:Cx) (st:Stmt) (t:TS):Prop :=
  ∀ (pins:List (Addr × Obj)) (s:Shared) (σ:St) (H:Hp) (D:Ends),Inv X pins σ H s -> t D σ H -> wpAny (model X.prog X.w) X.A (exec st X.env) (SP X pins D) X.xe s
noncomputable def PSs (X:Cx) (st:List Stmt) (t:TS):Prop :=
  ∀ (pins:List (Addr × Obj)) (s:Shared) (σ:St) (H:Hp) (D:Ends),Inv X pins σ H s -> t D σ H -> wpAny (model X.prog X.w) X.A (execs st X.env) (SP X pins D) X.xe s
theorem thn {α:Type} {t:Sem α} {Q Q' : α -> Shared -> Prop} {M:Model} {A:Around} {E:Value -> Shared -> Prop} {s:Shared} (h:wpAny M A t Q E s) (hQ:∀ a s,Q a s -> Q' a s):wpAny M A t Q' E s:=wpAny_mono h hQ fun _ _ x=>x
end L2

namespace L2
open PySem PySem.Spec PyProof.Rows
section
variable {X:Cx}

noncomputable def tVar (i:Nat):TE:=fun σ H Q=>∃ v,σ[i]? = some (some v) /\ Q v H
noncomputable def tC (v:V):TE:=fun _ H Q=>Q v H
theorem pe_var {i:Nat} {x:Str} {pos:Pos} (hN:X.N[i]? = some x) (hv:Vis X.env.scope x) (hd:(x == ("__debug__" : Str)) = false:=by decide) (hcd:(x == ("__classdict__" : Str)) = false:=by decide):PE X (.Name x pos) (tVar i):=by
  intro pins s σ H Q I h
  obtain ⟨v,e,h⟩:=h
  obtain ⟨m,hn,hl⟩:=I.loc
  obtain ⟨u,r,l⟩:=hl i x v hN e hv
  have fin:EP X pins σ Q u s:=⟨v,H,I,r,h⟩
  rcases l with ⟨hk,hm⟩ | ⟨hk,c,hc,hcell⟩
  · exact wpAny_Name (wpAny_loadName_local I.ok.kind hk hn hm fin) hd
  · rcases hk with hk | hk
    · exact wpAny_Name (wpAny_loadName_cell I.ok.kind hk hc hcell fin) hd
    · exact wpAny_Name (wpAny_loadName_free I.ok.kind hk hc hcell fin hcd) hd
theorem pe_int {i j pos}:PE X (.Constant (.int i) j pos) (tC (.int i)):=fun _ _ _ H _ I h=>wpAny_Constant_int ⟨.int i,H,I.tok _,⟨_,rfl⟩,h⟩
theorem pe_bl {b j pos}:PE X (.Constant (.bool b) j pos) (tC (.bl b)):=fun _ _ _ H _ I h=>Constant_bool ⟨.bl b,H,I,rfl,h⟩
theorem pe_str {x j pos}:PE X (.Constant (.str x) j pos) (tC (.str x)):=fun _ _ _ H _ I h=>Calls.Constant_str ⟨.str x,H,I.tok _,⟨_,rfl⟩,h⟩

noncomputable def Gl (X:Cx) (x:Str):Prop:=X.env.kindOf x = some .globalImplicit
theorem ld_glob {E:Value -> Shared -> Prop} {pins:List (Addr × Obj)} {s:Shared} {σ:St} {H:Hp} {x:Str} {u:Value} {pos:Pos} {Q:Value -> Shared -> Prop} (I:Inv X pins σ H s) (hg:Gl X x) (hm:X.mg x = some u) (h:Q u s)
    (hd:(x == ("__debug__" : Str)) = false:=by decide):wpAny (model X.prog X.w) X.A (eval (.Name x pos) X.env) Q E s :=
  Calls.Name_function_global I.ok.kind hg (Calls.loadGlobal_global (by rw [I.ok.glob]; exact I.mod.glob.keeps I.bk) hm h) hd
theorem ld_blt {E:Value -> Shared -> Prop} {pins:List (Addr × Obj)} {s:Shared} {σ:St} {H:Hp} {x:Str} {u:Value} {pos:Pos} {Q:Value -> Shared -> Prop} (I:Inv X pins σ H s) (hg:Gl X x) (hm:X.mg x = none) (hv:bootBuiltins x = some u) (h:Q u s)
    (hn:x ≠ "__name__" := by decide) (hd:(x == ("__debug__" : Str)) = false:=by decide):wpAny (model X.prog X.w) X.A (eval (.Name x pos) X.env) Q E s:=by
  obtain ⟨mb,h1,h2⟩:=I.mod.blt
  exact Calls.Name_function_global I.ok.kind hg (Calls.loadGlobal_builtin (by rw [I.ok.glob]; exact I.mod.glob.keeps I.bk) hm (by rw [I.ok.blt]; exact h1.keeps I.bk) ((h2 x hn).trans hv) h) hd
theorem pe_glob {x:Str} {v:V} {u:Value} {pos:Pos} (hg:Gl X x) (hm:X.mg x = some u) (r:RelV v u) (hd:(x == ("__debug__" : Str)) = false:=by decide):PE X (.Name x pos) (tC v) :=
  fun _ _ _ H _ I h=>ld_glob I hg hm ⟨v,H,I,r,h⟩ hd
variable {a b:Expr} {ta tb:TE} {pos:Pos}
noncomputable def tB (t:TE):TT:=fun σ H Q=>t σ H fun x H1=>∃ c,x = .bl c /\ Q c H1
theorem pt_val {e:Expr} {t:TE} (h:PE X e t) (he:∀ whole,isTrue e X.env whole = (do let v <- whole; standAt e.pos; holding [v] (truthy v)):=by intro _; rfl):PT X e (tB t):=by
  intro pins s σ H Q I hw
  refine isTrue_plain (thn (h pins s σ H _ I hw) fun v s1 ⟨x,H1,I1,r1,q1⟩=>?_) (he _)
  obtain ⟨d,rfl,q⟩:=q1
  cases r1
  exact wpAny_truthy_bool ⟨H1,I1,q⟩

variable {tA tB':TT} {rest:List Expr}
noncomputable def tAnd (t u:TT):TT:=fun σ H Q=>t σ H fun c H1=>if c = true then u σ H1 Q else Q false H1
noncomputable def tOr (t u:TT):TT:=fun σ H Q=>t σ H fun c H1=>if c = true then Q true H1 else u σ H1 Q
noncomputable def tNot (t:TT):TT:=fun σ H Q=>t σ H fun c H1=>Q (!c) H1
theorem pw_and1 (ha:PT X a tA):PW X (.BoolOp .And [a] pos) tA:=by
  intro wh pins s σ H Q I h
  refine isTrue_and (thn (ha pins s σ H Q I h) fun c s1 e=>?_)
  cases c with
  | true=>exact isTrue_and_nil e
  | false=>exact e
theorem pw_or1 (ha:PT X a tA):PW X (.BoolOp .Or [a] pos) tA:=by
  intro wh pins s σ H Q I h
  refine isTrue_or (thn (ha pins s σ H Q I h) fun c s1 e=>?_)
  cases c with
  | false=>exact isTrue_or_nil e
  | true=>exact e
theorem pw_and (ha:PT X a tA) (hb:PW X (.BoolOp .And (b :: rest) pos) tB'):PW X (.BoolOp .And (a :: b :: rest) pos) (tAnd tA tB'):=by
  intro wh pins s σ H Q I h
  refine isTrue_and (thn (ha pins s σ H _ I h) fun c s1 ⟨H1,I1,q1⟩=>?_)
  cases c with
  | true=>exact hb wh pins s1 σ H1 Q I1 q1
  | false=>exact ⟨H1,I1,q1⟩
theorem pw_or (ha:PT X a tA) (hb:PW X (.BoolOp .Or (b :: rest) pos) tB'):PW X (.BoolOp .Or (a :: b :: rest) pos) (tOr tA tB'):=by
  intro wh pins s σ H Q I h
  refine isTrue_or (thn (ha pins s σ H _ I h) fun c s1 ⟨H1,I1,q1⟩=>?_)
  cases c with
  | true=>exact ⟨H1,I1,q1⟩
  | false=>exact hb wh pins s1 σ H1 Q I1 q1
theorem pt_not (ha:PT X a tA):PT X (.UnaryOp .Not a pos) (tNot tA):=by
  intro pins s σ H Q I h
  exact isTrue_not (ha pins s σ H (fun c H1=>Q (!c) H1) I h)
noncomputable def tAndV (ta tb:TE):TE:=fun σ H Q=>ta σ H fun x H1=>∃ c,x = .bl c /\ if c = true then tb σ H1 Q else Q (.bl false) H1
noncomputable def tOrV (ta tb:TE):TE:=fun σ H Q=>ta σ H fun x H1=>∃ c,x = .bl c /\ if c = true then Q (.bl true) H1 else tb σ H1 Q
noncomputable def tNotV (ta:TE):TE:=fun σ H Q=>ta σ H fun x H1=>∃ c,x = .bl c /\ Q (.bl (!c)) H1
theorem pe_one {op} {t:TE} (h:PE X a t):PE X (.BoolOp op [a] pos) t:=fun pins s σ H Q I hw=>BoolOp_one (h pins s σ H Q I hw)
theorem pe_and (ha:PE X a ta) (hb:PE X (.BoolOp .And (b :: rest) pos) tb):PE X (.BoolOp .And (a :: b :: rest) pos) (tAndV ta tb):=by
  intro pins s σ H Q I h
  refine BoolOp_and (thn (ha pins s σ H _ I h) fun v s1 ⟨x,H1,I1,r1,q1⟩=>?_)
  obtain ⟨c,rfl,q1⟩:=q1
  cases r1
  refine wpAny_truthy_bool ?_
  cases c with
  | true=>exact hb pins s1 σ H1 Q I1 q1
  | false=>exact ⟨.bl false,H1,I1,rfl,q1⟩
theorem pe_or (ha:PE X a ta) (hb:PE X (.BoolOp .Or (b :: rest) pos) tb):PE X (.BoolOp .Or (a :: b :: rest) pos) (tOrV ta tb):=by
  intro pins s σ H Q I h
  refine BoolOp_or (thn (ha pins s σ H _ I h) fun v s1 ⟨x,H1,I1,r1,q1⟩=>?_)
  obtain ⟨c,rfl,q1⟩:=q1
  cases r1
  refine wpAny_truthy_bool ?_
  cases c with
  | false=>exact hb pins s1 σ H1 Q I1 q1
  | true=>exact ⟨.bl true,H1,I1,rfl,q1⟩
theorem pe_not (ha:PE X a ta):PE X (.UnaryOp .Not a pos) (tNotV ta):=by
  intro pins s σ H Q I h
  refine UnaryOp_ (thn (ha pins s σ H _ I h) fun v s1 ⟨x,H1,I1,r1,q1⟩=>?_)
  obtain ⟨c,rfl,q1⟩:=q1
  cases r1
  exact not_of (wpAny_truthy_bool ⟨.bl (!c),H1,I1,rfl,q1⟩)
noncomputable def tIf (t:TT) (ta tb:TE):TE:=fun σ H Q=>t σ H fun c H1=>if c = true then ta σ H1 Q else tb σ H1 Q
theorem pe_ifExp {c:Expr} (hc:PT X c tA) (ha:PE X a ta) (hb:PE X b tb):PE X (.IfExp c a b pos) (tIf tA ta tb):=by
  intro pins s σ H Q I h
  refine wpAny_IfExp (thn (hc pins s σ H _ I h) fun d s1 ⟨H1,I1,q1⟩=>?_)
  cases d with
  | true=>exact ha pins s1 σ H1 Q I1 q1
  | false=>exact hb pins s1 σ H1 Q I1 q1
end
end L2

namespace L2
open PySem PySem.Spec PyProof.Rows

noncomputable def SqL (K:W.Frag) (H:Hp) (a:Addr) (xs:List V):Prop :=
  Rd H a (.lst xs) \/
    ∃ (o:Obj) (its:Array Value) (n:Nat),K.lookup a = some o /\ o.cls = .type "list" /\ o.dict = none /\ o.data = .seq its n /\ its.size <= sizeLine /\ Vals xs its.toList
noncomputable def SqT (K:W.Frag) (H:Hp) (a:Addr) (xs:List V):Prop :=
  Rd H a (.tup xs) \/
    ∃ (o:Obj) (its:Array Value) (n:Nat),K.lookup a = some o /\ o.cls = .type "tuple" /\ o.data = .seq its n /\ its.size <= sizeLine /\ Vals xs its.toList /\ o.dict = none
noncomputable def absV:Value -> Option V
  | .none=>some .non
  | .bool b=>some (.bl b)
  | .int i _=>some (.int i)
  | .str x _=>some (.str x)
  | .bytes b _=>some (.byt b)
  | .float b _=>some (.flt b)
  | .ref a=>some (.ref a)
  | .type n=>some (.ty n)
  | _=>none
theorem RelV.abs {x:V} {u:Value} (r:RelV x u):absV u = some x:=by
  cases x with
  | non=>cases r; rfl
  | bl _=>cases r; rfl
  | int _=>obtain ⟨t,rfl⟩:=r; rfl
  | str _=>obtain ⟨t,rfl⟩:=r; rfl
  | byt _=>obtain ⟨t,rfl⟩:=r; rfl
  | flt _=>obtain ⟨t,rfl⟩:=r; rfl
  | ref _=>cases r; rfl
  | ty _=>cases r; rfl
theorem RelV.inj {x y:V} {u:Value} (r:RelV x u) (q:RelV y u):x = y:=Option.some.inj (r.abs.symm.trans q.abs)
theorem Vals.inj:∀ {xs ys:List V} {us:List Value},Vals xs us -> Vals ys us -> xs = ys
  | _,_,_,.nil,.nil=>rfl
  | _,_,_,.cons r t,.cons r' t'=>by rw [r.inj r',Vals.inj t t']
section
variable {X:Cx} {pins:List (Addr × Obj)} {σ:St} {H:Hp} {s:Shared} {a:Addr} {xs ys:List V}
theorem Inv.list (I:Inv X pins σ H s) (h:SqL X.K H a xs):∃ its:List Value,Vals xs its /\ PlainL s.heap a its.toArray /\ xs.length <= sizeLine:=by
  rcases h with h | ⟨o,its,n,hk,hc,hd,hs,hz,r⟩
  · obtain ⟨z,its,n,r,e⟩:=h.ok I.hok
    exact ⟨its,r,⟨_,n,e,rfl,rfl,rfl⟩,z⟩
  · refine ⟨its.toList,r,⟨o,n,I.kIn a o hk,hc,hd,by simpa using hs⟩,?_⟩
    have e:=r.length
    simp only [Array.length_toList] at e
    omega
theorem Inv.tuple (I:Inv X pins σ H s) (h:SqT X.K H a xs):∃ its:List Value,Vals xs its /\ IsTup s.heap a its.toArray /\ xs.length <= sizeLine:=by
  rcases h with h | ⟨o,its,n,hk,hc,hs,hz,r,hd⟩
  · obtain ⟨z,its,r,p⟩:=h.ok I.hok
    exact ⟨its,r,p.tup,z⟩
  · refine ⟨its.toList,r,⟨o,I.kIn a o hk,hc,n,by simpa using hs⟩,?_⟩
    have e:=r.length
    simp only [Array.length_toList] at e
    omega
theorem Inv.list_inj (I:Inv X pins σ H s) (h:SqL X.K H a xs) (h':SqL X.K H a ys):xs = ys:=by
  obtain ⟨its,r,⟨o,n,e,_,_,d⟩,_⟩:=I.list h
  obtain ⟨its',r',⟨o',n',e',_,_,d'⟩,_⟩:=I.list h'
  rw [e] at e'; cases e'
  rw [d] at d'
  injection d' with d1 _
  have:its = its':=by simpa using congrArg Array.toList d1
  subst this
  exact r.inj r'
theorem Inv.tupleD (I:Inv X pins σ H s) (h:SqT X.K H a xs):∃ ob,s.heap.get? a = some ob /\ ob.cls = .type "tuple" /\ ob.dict = none:=by
  rcases h with h | ⟨o,its,n,hk,hc,hs,hz,r,hd⟩
  · obtain ⟨z,its,r,⟨o,e1,e2,_,e3⟩⟩:=h.ok I.hok
    exact ⟨o,e1,e2,e3⟩
  · exact ⟨o,I.kIn a o hk,hc,hd⟩
theorem Inv.tuple_inj (I:Inv X pins σ H s) (h:SqT X.K H a xs) (h':SqT X.K H a ys):xs = ys:=by
  obtain ⟨its,r,⟨o,e,_,n,d⟩,_⟩:=I.tuple h
  obtain ⟨its',r',⟨o',e',_,n',d'⟩,_⟩:=I.tuple h'
  rw [e] at e'; cases e'
  rw [d] at d'
  injection d' with d1 _
  have:its = its':=by simpa using congrArg Array.toList d1
  subst this
  exact r.inj r'
end

abbrev Cx.wish (X:Cx) (E:Value -> Shared -> Prop):Cx:={ X with xe:=E }
abbrev Cx.nox (X:Cx):Cx:=X.wish fun _ _=>False
theorem Cx.Ok.wish {X:Cx} (ok:X.Ok) (E:Value -> Shared -> Prop):(X.wish E).Ok :=
  ⟨ok.mod,ok.kind,ok.glob,ok.blt,ok.above,ok.inj,ok.has,ok.cab,ok.hd,ok.frames,ok.stk,ok.exf,ok.bs,ok.bsz,ok.noex,ok.exfs,ok.funs,ok.frf⟩
theorem Cx.Ok.unwish {X:Cx} {E:Value -> Shared -> Prop} (ok:(X.wish E).Ok):X.Ok :=
  ⟨ok.mod,ok.kind,ok.glob,ok.blt,ok.above,ok.inj,ok.has,ok.cab,ok.hd,ok.frames,ok.stk,ok.exf,ok.bs,ok.bsz,ok.noex,ok.exfs,ok.funs,ok.frf⟩
section
variable {X:Cx} {pins:List (Addr × Obj)} {σ:St} {H:Hp} {s:Shared} {E:Value -> Shared -> Prop}
theorem Inv.wish (I:Inv X pins σ H s) (E:Value -> Shared -> Prop):Inv (X.wish E) pins σ H s:=⟨I.ok.wish E,I.os,I.bare,I.base,I.loc,I.cell,I.free,I.freeC,I.pin,I.hok,I.len⟩
theorem Inv.unwish (I:Inv (X.wish E) pins σ H s):Inv X pins σ H s:=⟨I.ok.unwish,I.os,I.bare,I.base,I.loc,I.cell,I.free,I.freeC,I.pin,I.hok,I.len⟩
theorem SP.unwish {D:Ends} {f:Flow} {s':Shared} (h:SP (X.wish E) pins D f s'):SP X pins D f s':=by
  cases f with
  | next=>obtain ⟨σ',H',I,q⟩:=h; exact ⟨σ',H',I.unwish,q⟩
  | brk=>obtain ⟨σ',H',I,q⟩:=h; exact ⟨σ',H',I.unwish,q⟩
  | cont=>obtain ⟨σ',H',I,q⟩:=h; exact ⟨σ',H',I.unwish,q⟩
  | ret u=>obtain ⟨v,σ',H',I,r,q⟩:=h; exact ⟨v,σ',H',I.unwish,r,q⟩
theorem PSs.nox {st:List Stmt} {t:TS} (h:PSs X.nox st t):PSs X st t:=fun pins s σ H D I hw =>
  wpAny_mono (h pins s σ H D (I.wish _) hw) (fun _ _ q=>q.unwish) fun _ _ z=>False.elim z
end

section
variable {X:Cx} {st:Stmt} {rest:List Stmt} {t u:TS} {e:Expr} {te:TE} {pos:Pos}
noncomputable def tNext:TS:=fun D σ H=>D.nx σ H
noncomputable def tSeq (t u:TS):TS:=fun D σ H=>t { D with nx:=u D } σ H
theorem pss_nil:PSs X [] tNext:=fun _ _ σ H _ I h=>wpAny_execs_nil ⟨σ,H,I,h⟩
theorem pss_cons (h1:PS X st t) (h2:PSs X rest u):PSs X (st :: rest) (tSeq t u):=by
  intro pins s σ H D I h
  refine wpAny_execs_cons (thn (h1 pins s σ H { D with nx:=u D } I h) fun f s1 q=>?_)
  cases f with
  | next =>
    obtain ⟨σ',H',I',q⟩:=q
    exact h2 pins s1 σ' H' D I' q
  | ret v=>exact q
  | brk=>exact q
  | cont=>exact q
theorem pss_one (h1:PS X st t):PSs X [st] t:=by
  intro pins s σ H D I h
  refine wpAny_execs_cons (thn (h1 pins s σ H D I h) fun f s1 q=>?_)
  cases f with
  | next=>exact wpAny_execs_nil q
  | ret v=>exact q
  | brk=>exact q
  | cont=>exact q
theorem Inv.quiet {pins:List (Addr × Obj)} {σ:St} {H:Hp} {s:Shared} (I:Inv X pins σ H s):interactive X.env = false:=by simp [interactive,I.ok.kind]
noncomputable def tDrop (te:TE):TS:=fun D σ H=>te σ H fun _ H1=>D.nx σ H1
theorem ps_expr (he:PE X e te) (hs:swapsWith e none pos.line X.env = pure false:=by rfl):PS X (.Expr e pos) (tDrop te):=by
  intro pins s σ H D I h
  exact wpAny_Expr_any (thn (he pins s σ H _ I h) fun v s1 ⟨x,H1,I1,r1,q1⟩=>⟨σ,H1,I1,q1⟩) I.quiet hs
noncomputable def tRet (te:TE):TS:=fun D σ H=>te σ H D.rt
theorem ps_ret (he:PE X e te):PS X (.Return (some e) pos) (tRet te):=by
  intro pins s σ H D I h
  exact wpAny_Return_some (thn (he pins s σ H _ I h) fun v s1 ⟨x,H1,I1,r1,q1⟩=>⟨x,σ,H1,I1,r1,q1⟩)
noncomputable def tIfS (c:TT) (t u:TS):TS:=fun D σ H=>c σ H fun b H1=>if b = true then t D σ H1 else u D σ H1
theorem ps_if {c:Expr} {a b:List Stmt} {tc:TT} (hc:PT X c tc) (ha:PSs X a t) (hb:PSs X b u):PS X (.If c a b pos) (tIfS tc t u):=by
  intro pins s σ H D I h
  refine wpAny_If (thn (hc pins s σ H _ I h) fun d s1 ⟨H1,I1,q1⟩=>?_)
  cases d with
  | true=>exact ha pins s1 σ H1 D I1 q1
  | false=>exact hb pins s1 σ H1 D I1 q1
noncomputable def tNever:TS:=fun _ _ _=>False
theorem ps_never:PS X st tNever:=fun _ _ _ _ _ _ h=>h.elim
end

abbrev TG:=V -> St -> Hp -> (St -> Hp -> Prop) -> Prop
abbrev TGs:=List V -> St -> Hp -> (St -> Hp -> Prop) -> Prop
noncomputable def PG (X:Cx) (target:Expr) (t:TG):Prop :=
  ∀ (pins:List (Addr × Obj)) (s:Shared) (σ:St) (H:Hp) (v:V) (u:Value) (Q:St -> Hp -> Prop),Inv X pins σ H s -> RelV v u -> t v σ H Q ->
    wpAny (model X.prog X.w) X.A (assign target X.env u) (fun _ s'=>∃ σ' H',Inv X pins σ' H' s' /\ Q σ' H') X.xe s
noncomputable def PGs (X:Cx) (ts:List Expr) (t:TGs):Prop :=
  ∀ (pins:List (Addr × Obj)) (s:Shared) (σ:St) (H:Hp) (vs:List V) (us:List Value) (Q:St -> Hp -> Prop),Inv X pins σ H s -> Vals vs us -> t vs σ H Q ->
    wpAny (model X.prog X.w) X.A (assignInOrder ((assignEach ts X.env).map (·.2)) us) (fun _ s'=>∃ σ' H',Inv X pins σ' H' s' /\ Q σ' H') X.xe s
section
variable {X:Cx} {pos:Pos}
noncomputable def gName (i:Nat):TG:=fun v σ H Q=>Q (σ.set i (some v)) H
theorem pg_name {i:Nat} {x:Str} (hN:X.N.Nodup) (hi:X.N[i]? = some x) (hx:Loc X.env.scope x) (hf:X.fn x = true \/ X.env.scope.names.lookup x = some .local:=by first | exact .inl rfl | exact .inr rfl | assumption):PG X (.Name x pos) (gName i):=by
  intro pins s σ H v u Q I r h
  exact wpAny_assign_Name (store_ok I hN hi hx r (fun s' I'=>⟨_,H,I',h⟩) hf)
noncomputable def gNil:TGs:=fun vs σ H Q=>vs = [] /\ Q σ H
noncomputable def gCons (t:TG) (u:TGs):TGs:=fun vs σ H Q=>∃ v r,vs = v :: r /\ t v σ H fun σ' H'=>u r σ' H' Q
theorem pgs_nil:PGs X [] gNil:=by
  intro pins s σ H vs us Q I r h
  obtain ⟨e,h⟩:=h
  subst e
  cases r
  exact assignInOrder_nil ⟨σ,H,I,h⟩
theorem pgs_cons {e:Expr} {es:List Expr} {t:TG} {u:TGs} (h1:PG X e t) (h2:PGs X es u)
    (hs:(assignEach (e :: es) X.env).map (·.2) = assign e X.env :: (assignEach es X.env).map (·.2):=by rfl):PGs X (e :: es) (gCons t u):=by
  intro pins s σ H vs us Q I r h
  obtain ⟨v,vr,e1,h⟩:=h
  subst e1
  cases r with
  | cons r rr =>
    rw [hs]
    refine assignInOrder_cons (thn (h1 pins s σ H _ _ _ I r h) fun _ s1 ⟨σ1,H1,I1,q1⟩=>?_)
    exact h2 pins s1 σ1 H1 _ _ Q I1 rr q1
noncomputable def gTup (K:W.Frag) (n:Nat) (t:TGs):TG:=fun v σ H Q=>∃ a xs,v = .ref a /\ SqT K H a xs /\ xs.length = n /\ t xs σ H Q
theorem pg_tup {es:List Expr} {k:Nat} {t:TGs} {n:Nat} (hc:X.calm = true) (h:PGs X es t)
    (hn:(assignEach es X.env).length = n:=by rfl) (hst:(assignEach es X.env).findIdx? (·.1) = none:=by rfl):PG X (.Tuple es k pos) (gTup X.K n t):=by
  intro pins s σ H v u Q I r hw
  obtain ⟨a,xs,e1,hq,hl,hw⟩:=hw
  subst e1
  cases r
  obtain ⟨its,rv,ht,hz⟩:=I.tuple hq
  refine assign_Tuple_tuple (I.ok.hd hc) ht (by simp [hn,<- hl,rv.length]) hst fun h' hx=>?_
  have I1:Inv X pins σ H { s with heap:=h' }:=I.kept (t':=s.toks) fun b o e=>hx b o (Nat.ne_of_lt (Heap.lt_size e)) e
  exact h pins _ σ H xs _ Q I1 (by simpa using rv) hw
noncomputable def tAsg (te:TE) (g:TG):TS:=fun D σ H=>te σ H fun x H1=>g x σ H1 D.nx
theorem ps_asg {tg e:Expr} {te:TE} {g:TG} (he:PE X e te) (hg:PG X tg g) (hs:swapsWithSole [tg] e pos.line X.env = pure false:=by rfl) (hw:swappedStores [tg] e X.env = pure none:=by rfl)
    (h1:(assignEach [tg] X.env).map (·.2) = [assign tg X.env]:=by rfl):PS X (.Assign [tg] e pos) (tAsg te g):=by
  intro pins s σ H D I h
  refine wpAny_Assign_stores (thn (he pins s σ H _ I h) fun v s1 ⟨x,H1,I1,r1,q1⟩=>?_) hs hw
  rw [h1]
  exact thn (hg pins s1 σ H1 x v _ I1 r1 q1) fun _ s2 q=>q
theorem ps_set {i:Nat} {x:Str} {e:Expr} {te:TE} {pos':Pos} (hN:X.N.Nodup) (hi:X.N[i]? = some x) (hx:Loc X.env.scope x) (he:PE X e te) (hs:swapsWith e (some (.Name x pos')) pos.line X.env = pure false:=by rfl) (hf:X.fn x = true \/ X.env.scope.names.lookup x = some .local:=by first | exact .inl rfl | exact .inr rfl | assumption) :
    PS X (.Assign [.Name x pos'] e pos) (tAsg te (gName i)):=by
  intro pins s σ H D I h
  refine wpAny_Assign_Name (thn (he pins s σ H _ I h) fun v s1 ⟨y,H1,I1,r1,q1⟩=>?_) hs
  exact store_ok I1 hN hi hx r1 (fun s2 I2=>⟨_,H1,I2,q1⟩) hf
noncomputable def tPar (i j:Nat) (ta:TA):TS:=fun D σ H=>ta σ H fun vs H1=>∃ v w,vs = [v,w] /\ D.nx ((σ.set i (some v)).set j (some w)) H1
theorem ps_par {i j:Nat} {x y:Str} {a b:Expr} {ta:TA} {px py pt:Pos} {kt k2 pt2} (hc:X.calm = true) (hN:X.N.Nodup) (hi:X.N[i]? = some x) (hj:X.N[j]? = some y) (hij:i ≠ j)
    (hx:X.env.scope.names.lookup x = some .local) (hy:X.env.scope.names.lookup y = some .local) (ha:PA X [a,b] ta)
    (hw:swappedStores [.Tuple [.Name x px,.Name y py] kt pt] (.Tuple [a,b] k2 pt2) X.env = pure (some [x,y]))
    (hs:swapsWithSole [.Tuple [.Name x px,.Name y py] kt pt] (.Tuple [a,b] k2 pt2) pos.line X.env = pure false:=by rfl) :
    PS X (.Assign [.Tuple [.Name x px,.Name y py] kt pt] (.Tuple [a,b] k2 pt2) pos) (tPar i j ta):=by
  intro pins s σ H D I h
  rw [exec_Assign_arm]
  refine wpAny_bind (wpAny_standAt ?_)
  rw [hs]
  refine wpAny_bind (wpAny_pure ?_)
  rw [if_neg (by decide)]
  refine wpAny_bind (Tuple_ (thn (ha _ pins s σ H _ I h) fun us s1 ⟨vs,H1,I1,r1,q1⟩=>?_))
  obtain ⟨v,w,e1,q1⟩:=q1
  subst e1
  obtain ⟨u1,u2,rfl,rv,rw'⟩:∃ u1 u2,us = [u1,u2] /\ RelV v u1 /\ RelV w u2:=by
    cases r1 with
    | cons p q =>
      cases q with
      | cons p' q' =>
        cases q'
        exact ⟨_,_,rfl,p,p'⟩
  refine wpAny_newObj_type ?_ (by show 2 <= sizeLine; decide)
  have I2:Inv X pins σ H1 { s1 with heap:=s1.heap.push { cls:=.type "tuple", data:=.seq [u1,u2].toArray } }:=I1.kept (t':=s1.toks) fun b o e=>Heap.get?_push_of_some _ e
  rw [hw]
  refine wpAny_bind (wpAny_pure ?_)
  show wpAny (model X.prog X.w) X.A (do rule "assign.swapped-stores"; let items <- unpackItems (.ref s1.heap.objs.size) 2 none; assignInOrder [fun v=>bindName X.env y v,fun v=>bindName X.env x v] items.reverse; pure Flow.next) _ _ _
  refine wpAny_bind (wpAny_rule (wpAny_bind (unpackItems_tuple (items:=#[u1,u2]) (I.ok.hd hc) (IsTup.new s1.heap _) fun h' hx'=>?_)))
  have I3:=I2.kept (h':=h') (t':=s1.toks) fun b o e=>hx' b o (Nat.ne_of_lt (Heap.lt_size e)) e
  show wpAny _ _ (assignInOrder [fun v=>bindName X.env y v,fun v=>bindName X.env x v] [u2,u1] >>= fun _=>pure Flow.next) _ _ _
  refine wpAny_bind (assignInOrder_cons (wpAny_bindName (store_ok I3 hN hj (.inl hy) rw' (fun s2 I4=>?_) (.inr hy))))
  refine assignInOrder_cons (wpAny_bindName (store_ok I4 hN hi (.inl hx) rv (fun s3 I5=>assignInOrder_nil (wpAny_pure ?_)) (.inr hx)))
  rw [List.set_comm _ _ (Ne.symm hij)] at I5
  exact ⟨_,H1,I5,q1⟩
end

section
variable {X:Cx} {pos:Pos}
noncomputable def tWhile (c:TT) (tb:TS):TS:=fun D σ H=>∃ W:Nat -> St -> Hp -> Prop,(∃ m,W m σ H) /\ ∀ m σ H,W m σ H ->
  c σ H fun b H1=>if b = true then ∃ N:St -> Hp -> Prop,(∀ σ' H',N σ' H' -> ∃ m',m' < m /\ W m' σ' H') /\ tb { D with nx:=N,ct:=N,bk:=D.nx } σ H1 else D.nx σ H1
theorem ps_while {c:Expr} {body:List Stmt} {tc:TT} {tb:TS} (hp:PassesOwn (model X.prog X.w) X.A X.env X.xe) (hc:PT X c tc) (hb:PSs X body tb):PS X (.While c body [] pos) (tWhile tc tb):=by
  intro pins s σ H D I h
  obtain ⟨W,⟨m0,w0⟩,turn⟩:=h
  refine wpAny_While (codeAny_whileLoop (fun n s'=>∃ σ' H',Inv X pins σ' H' s' /\ W n σ' H') ?_ m0 ⟨σ,H,I,w0⟩)
  rintro n s1 ⟨σ1,H1,I1,w1⟩
  refine wpAny_passesOwn hp (thn (hc pins s1 σ1 H1 _ I1 (turn n σ1 H1 w1)) fun b s2 ⟨H2,I2,q2⟩=>?_)
  cases b with
  | true =>
    obtain ⟨N,hN,q2⟩:=q2
    rw [if_pos rfl]
    refine wpAny_passesOwn hp (thn (hb pins s2 σ1 H2 _ I2 q2) fun f s3 q3=>?_)
    cases f with
    | next =>
      obtain ⟨σ3,H3,I3,n3⟩:=q3
      obtain ⟨m',hm,w3⟩:=hN σ3 H3 n3
      exact ⟨m',hm,σ3,H3,I3,w3⟩
    | cont =>
      obtain ⟨σ3,H3,I3,n3⟩:=q3
      obtain ⟨m',hm,w3⟩:=hN σ3 H3 n3
      exact ⟨m',hm,σ3,H3,I3,w3⟩
    | brk=>exact q3
    | ret v=>exact q3
  | false =>
    rw [if_neg Bool.false_ne_true]
    exact wpAny_execs_nil ⟨σ1,H2,I2,q2⟩
end

structure It where
  go:Nat -> Hp -> Prop
  yld:Nat -> Hp -> V -> Hp -> Prop
  stop:Nat -> Hp -> Prop
noncomputable def FpOk (X:Cx) (pins:List (Addr × Obj)) (H:Hp) (b:Addr):Prop :=
  H b = none /\ b ≠ X.env.locals /\ b ∉ X.fs /\ (b ∈ X.ex \/ X.s₀.heap.objs.size <= b) /\ (∀ x c,X.env.cells.lookup x = some c -> c ≠ b) /\ ∀ p ∈ X.pn ++ pins,p.1 ≠ b
theorem Inv.fpOk {X:Cx} {pins:List (Addr × Obj)} {σ:St} {H H':Hp} {s:Shared} {b:Addr} (I:Inv X pins σ H s) (hb:s.heap.objs.size <= b) (hn:H' b = none):FpOk X pins H' b:=by
  refine ⟨hn,Nat.ne_of_gt (Nat.lt_of_lt_of_le I.lt hb),I.nofs hb,.inr (Nat.le_trans I.sz hb),fun x c e z=>?_,fun p hp z=>?_⟩
  · obtain ⟨v,q⟩:=I.cell x c e
    exact absurd (Nat.lt_of_lt_of_le q.lt (by rw [z]; exact hb)) (Nat.lt_irrefl _)
  · exact absurd (Nat.lt_of_lt_of_le (Heap.lt_size (I.pin p hp).1) (by rw [z]; exact hb)) (Nat.lt_irrefl _)
structure Turn (P:Program) (w:World) (K:W.Frag) (tg:Expr) (J:It) (fp:List Addr) (it:Addr) (tn:Nat -> Heap -> Prop):Prop where
  mem:it ∈ fp
  obj:∀ i h,tn i h -> ∀ b ∈ fp,∃ o,h.get? b = some o /\ ∀ v,o.data ≠ .cell v
  keep:∀ i h h',tn i h -> (∀ b ∈ fp,∀ o,h.get? b = some o -> h'.get? b = some o) -> tn i h'
  item:∀ (X:Cx),X.prog = P -> X.w = w -> X.K = K -> X.calm = true -> ∀ (i:Nat) (pins:List (Addr × Obj)) (s:Shared) (σ:St) (H:Hp) (E:Value -> Shared -> Prop),Inv X pins σ H s -> (∀ b ∈ fp,FpOk X pins H b) -> tn i s.heap -> J.go i H ->
    wpAny (model P w) X.A (pyNext (.ref it)) (fun r s1=>∃ u,r = some u /\
      wpAny (model P w) X.A (letOwnedTupleGo tg (.ref it) u) (fun _ s2=>∃ x H',Inv X pins σ H' s2 /\ RelV x u /\ J.yld i H x H' /\ tn (i + 1) s2.heap /\ ∀ b ∈ fp,H' b = none) E s1) E s
  done:∀ (X:Cx),X.prog = P -> X.w = w -> X.K = K -> X.calm = true -> ∀ (i:Nat) (pins:List (Addr × Obj)) (s:Shared) (σ:St) (H:Hp) (E:Value -> Shared -> Prop),Inv X pins σ H s -> (∀ b ∈ fp,FpOk X pins H b) -> tn i s.heap -> J.stop i H ->
    wpAny (model P w) X.A (pyNext (.ref it)) (fun r s1=>r = none /\ Inv X pins σ H s1) E s
  self:∀ (A:Around) (i:Nat) (s:Shared) (Q:Value -> Shared -> Prop) (E:Value -> Shared -> Prop),tn i s.heap -> Q (.ref it) s -> wpAny (model P w) A (pyIter (.ref it)) Q E s
abbrev TI:=St -> Hp -> (It -> Hp -> Prop) -> Prop
noncomputable def PIE (X:Cx) (pins:List (Addr × Obj)) (σ:St) (tg:Expr) (R:It -> Hp -> Prop) (itv:Value) (s2:Shared):Prop :=
  ∃ (it:Addr) (fp:List Addr) (tn:Nat -> Heap -> Prop) (J:It) (H':Hp),itv = .ref it /\ Inv X pins σ H' s2 /\ Turn X.prog X.w X.K tg J fp it tn /\ tn 0 s2.heap /\ (∀ b ∈ fp,FpOk X pins H' b) /\ R J H'
noncomputable def PI (X:Cx) (tg iter:Expr) (wi:TI):Prop :=
  ∀ (pins:List (Addr × Obj)) (s:Shared) (σ:St) (H:Hp) (R:It -> Hp -> Prop),Inv X pins σ H s -> wi σ H R ->
    wpAny (model X.prog X.w) X.A (eval iter X.env) (fun v s1=>wpAny (model X.prog X.w) X.A (pyIter v) (PIE X pins σ tg R) X.xe s1) X.xe s

theorem go_of {M:Model} {A:Around} {E:Value -> Shared -> Prop} {s:Shared} {tg:Expr} {it:Addr} {u:Value} {o:Obj} {n:String} {vs:Array Value} {Q:Unit -> Shared -> Prop} (ho:s.heap.get? it = some o) (hc:o.cls = .type n) (hd:o.data = .fields vs)
    (hn:["enumerate", "zip", "dict_itemiterator", "dict_reverseitemiterator", "odict_iterator", "itertools.zip_longest", "itertools.pairwise"].contains n = false) (hQ:Q () s):wpAny M A (letOwnedTupleGo tg (.ref it) u) Q E s:=by
  unfold letOwnedTupleGo
  cases tg <;> first
    | exact wpAny_pure hQ
    | (cases u <;> first
        | exact wpAny_pure hQ
        | (refine wpAny_bind (wpAny_load ho ?_)
           rw [hc,hd]
           show wpAny M A (if (["enumerate", "zip", "dict_itemiterator", "dict_reverseitemiterator", "odict_iterator", "itertools.zip_longest", "itertools.pairwise"].contains n && vs[0]? == some (rawInt _)) = true then _ else _) Q E s
           rw [if_neg (by intro h; rw [hn,Bool.false_and] at h; cases h)]
           exact wpAny_pure hQ))

noncomputable def Itl (K:W.Frag) (a:Addr):It :=
  ⟨fun i H=>∃ xs x,SqL K H a xs /\ xs[i]? = some x,fun i H x H'=>H' = H /\ ∀ xs,SqL K H a xs -> xs[i]? = some x,fun i H=>∃ xs,SqL K H a xs /\ xs.length <= i⟩
noncomputable def Itt (K:W.Frag) (a:Addr):It :=
  ⟨fun i H=>∃ xs x,SqT K H a xs /\ xs[i]? = some x,fun i H x H'=>H' = H /\ ∀ xs,SqT K H a xs -> xs[i]? = some x,fun i H=>∃ xs,SqT K H a xs /\ xs.length <= i⟩
noncomputable def Itr (lo:Int) (n:Nat):It:=⟨fun i _=>i < n,fun i H x H'=>H' = H /\ x = .int (lo + i),fun i _=>n <= i⟩
theorem turn_list {P:Program} {w:World} {K:W.Frag} {tg:Expr} (a it:Addr):Turn P w K tg (Itl K a) [it] it (fun i h=>h.IsListIter it a i) where
  mem:=by simp
  obj:=fun i h st b hb=>by
    have e:b = it:=by simpa using hb
    subst e
    obtain ⟨o,e,c,d⟩:=st
    exact ⟨o,e,fun v z=>by rw [d] at z; cases z⟩
  keep:=fun i h h' st k=>st.at fun o e=>k it (by simp) o e
  item:=by
    intro X hP hw hK hc i pins s σ H E I hf st hg
    subst hP hw hK
    obtain ⟨xs,x,hq,hx⟩:=hg
    obtain ⟨its,rv,p,hz⟩:=I.list hq
    obtain ⟨u,hu,ru⟩:=rv.get hx
    obtain ⟨f0,f1,f2,f3,f4,f5⟩:=hf it (by simp)
    refine wpAny_pyNext_list_item st p.isList (x:=u) (by simpa using hu) fun h' st' sb=>?_
    have I1:Inv X pins σ H { s with heap:=h' }:=I.turned (t':=s.toks) (fun b o hb e=>(sb.2 b hb).trans e) f0 f1 f3 f4 f5
    obtain ⟨o,e,c,d⟩:=id st'
    exact ⟨u,rfl,go_of (s:={ s with heap:=h' }) e c d (by decide) ⟨x,H,I1,ru,⟨rfl,fun ys hy=>by rw [I.list_inj hy hq]; exact hx⟩,st',fun b hb=>(hf b hb).1⟩⟩
  done:=by
    intro X hP hw hK hc i pins s σ H E I hf st hg
    subst hP hw hK
    obtain ⟨xs,hq,hx⟩:=hg
    obtain ⟨its,rv,p,hz⟩:=I.list hq
    obtain ⟨f0,f1,f2,f3,f4,f5⟩:=hf it (by simp)
    have hl:=rv.length
    exact wpAny_pyNext_list_end (I.ok.hd hc) st p.isList (by simp; omega) fun h' eb=>⟨rfl,I.turned (t':=s.toks) (fun b o hb e=>eb b o hb e) f0 f1 f3 f4 f5⟩
  self:=fun _ _ _ _ _ st h=>wpAny_pyIter_listiter st h
theorem turn_tuple {P:Program} {w:World} {K:W.Frag} {tg:Expr} (a it:Addr):Turn P w K tg (Itt K a) [it] it (fun i h=>h.IsTupleIter it a i) where
  mem:=by simp
  obj:=fun i h st b hb=>by
    have e:b = it:=by simpa using hb
    subst e
    obtain ⟨o,e,c,d⟩:=st
    exact ⟨o,e,fun v z=>by rw [d] at z; cases z⟩
  keep:=fun i h h' st k=>st.at fun o e=>k it (by simp) o e
  item:=by
    intro X hP hw hK hc i pins s σ H E I hf st hg
    subst hP hw hK
    obtain ⟨xs,x,hq,hx⟩:=hg
    obtain ⟨its,rv,p,hz⟩:=I.tuple hq
    obtain ⟨u,hu,ru⟩:=rv.get hx
    obtain ⟨f0,f1,f2,f3,f4,f5⟩:=hf it (by simp)
    refine wpAny_pyNext_tuple_item st (show s.heap.IsTuple a its.toArray from p) (x:=u) (by simpa using hu) fun h' st' sb=>?_
    have I1:Inv X pins σ H { s with heap:=h' }:=I.turned (t':=s.toks) (fun b o hb e=>(sb.2 b hb).trans e) f0 f1 f3 f4 f5
    obtain ⟨o,e,c,d⟩:=id st'
    exact ⟨u,rfl,go_of (s:={ s with heap:=h' }) e c d (by decide) ⟨x,H,I1,ru,⟨rfl,fun ys hy=>by rw [I.tuple_inj hy hq]; exact hx⟩,st',fun b hb=>(hf b hb).1⟩⟩
  done:=by
    intro X hP hw hK hc i pins s σ H E I hf st hg
    subst hP hw hK
    obtain ⟨xs,hq,hx⟩:=hg
    obtain ⟨its,rv,p,hz⟩:=I.tuple hq
    obtain ⟨f0,f1,f2,f3,f4,f5⟩:=hf it (by simp)
    have hl:=rv.length
    exact wpAny_pyNext_tuple_end (I.ok.hd hc) st (show s.heap.IsTuple a its.toArray from p) (by simp; omega) fun h' eb=>⟨rfl,I.turned (t':=s.toks) (fun b o hb e=>eb b o hb e) f0 f1 f3 f4 f5⟩
  self:=fun _ _ _ _ _ st h=>wpAny_pyIter_tupleiter st h
theorem turn_range {P:Program} {w:World} {K:W.Frag} {tg:Expr} (it:Addr) (lo:Int) (n:Nat):Turn P w K tg (Itr lo n) [it] it (fun i h=>IsRangeIter h it (lo + (i:Nat) * 1) ((n:Int) - (i:Nat)) 1) where
  mem:=by simp
  obj:=fun i h st b hb=>by
    have e:b = it:=by simpa using hb
    subst e
    exact ⟨_,st,fun v z=>by
      have z':Data.fields _ = Data.cell v:=z
      cases z'⟩
  keep:=fun i h h' st k=>k it (by simp) _ st
  item:=by
    intro X hP hw hK hc i pins s σ H E I hf st hg
    subst hP hw hK
    obtain ⟨f0,f1,f2,f3,f4,f5⟩:=hf it (by simp)
    have W:=Walks.range (prog:=X.prog) (w:=X.w) (I.ok.hd hc) it lo 1 n
    refine W.item i s _ _ hg st fun v h' tk hv st' kk=>?_
    obtain ⟨t,rfl⟩:=hv
    have I1:Inv X pins σ H { s with heap:=h',toks:=tk }:=I.turned (fun b o hb e=>kk b o (by simpa using hb) e) f0 f1 f3 f4 f5
    refine ⟨_,rfl,go_of (s:={ s with heap:=h',toks:=tk }) (n := "range_iterator") st' rfl rfl (by decide) ⟨.int (lo + i),H,I1,⟨t,?_⟩,⟨rfl,rfl⟩,st',fun b hb=>(hf b hb).1⟩⟩
    rw [Int.mul_one]
  done:=by
    intro X hP hw hK hc i pins s σ H E I hf st hg
    subst hP hw hK
    obtain ⟨f0,f1,f2,f3,f4,f5⟩:=hf it (by simp)
    exact wpAny_pyNext_range_end (I.ok.hd hc) st (by have:n <= i:=hg; omega) fun h' eb=>⟨rfl,I.turned (t':=s.toks) (fun b o hb e=>eb b o hb e) f0 f1 f3 f4 f5⟩
  self:=fun _ _ _ _ _ st h=>wpAny_pyIter_rangeiter st h
end L2

namespace L2
open PySem PySem.Spec PyProof.Rows
section
variable {X:Cx} {tg:Expr}
noncomputable def iList (K:W.Frag) (tl:TE):TI:=fun σ H R=>tl σ H fun x H1=>∃ a,x = .ref a /\ (∃ xs,SqL K H1 a xs) /\ R (Itl K a) H1
noncomputable def iTup (K:W.Frag) (tl:TE):TI:=fun σ H R=>tl σ H fun x H1=>∃ a,x = .ref a /\ (∃ xs,SqT K H1 a xs) /\ R (Itt K a) H1
theorem pi_list {l:Expr} {tl:TE} (hl:PE X l tl):PI X tg l (iList X.K tl):=by
  intro pins s σ H R I h
  refine thn (hl pins s σ H _ I h) fun v s1 ⟨x,H1,I1,r1,q1⟩=>?_
  obtain ⟨a,e,⟨xs,hq⟩,q⟩:=q1
  subst e
  cases r1
  obtain ⟨its,rv,p,hz⟩:=I1.list hq
  refine wpAny_pyIter_list p.isList ?_
  refine ⟨s1.heap.objs.size,[s1.heap.objs.size],_,_,H1,rfl,I1.kept (t':=s1.toks) fun b o e=>Heap.get?_push_of_some _ e,turn_list a _,⟨_,Heap.get?_push_size _ rfl,rfl,rfl⟩,fun b hb=>?_,q⟩
  have e:b = s1.heap.objs.size:=by simpa using hb
  subst e
  exact I1.fpOk (Nat.le_refl _) (I1.hok.fresh (Nat.le_refl _))
theorem pi_tup {l:Expr} {tl:TE} (hl:PE X l tl):PI X tg l (iTup X.K tl):=by
  intro pins s σ H R I h
  refine thn (hl pins s σ H _ I h) fun v s1 ⟨x,H1,I1,r1,q1⟩=>?_
  obtain ⟨a,e,⟨xs,hq⟩,q⟩:=q1
  subst e
  cases r1
  obtain ⟨its,rv,p,hz⟩:=I1.tuple hq
  refine wpAny_pyIter_tuple (show s1.heap.IsTuple a its.toArray from p) ?_
  refine ⟨s1.heap.objs.size,[s1.heap.objs.size],_,_,H1,rfl,I1.kept (t':=s1.toks) fun b o e=>Heap.get?_push_of_some _ e,turn_tuple a _,⟨_,Heap.get?_push_size _ rfl,rfl,rfl⟩,fun b hb=>?_,q⟩
  have e:b = s1.heap.objs.size:=by simpa using hb
  subst e
  exact I1.fpOk (Nat.le_refl _) (I1.hok.fresh (Nat.le_refl _))
theorem range_it {pins:List (Addr × Obj)} {σ:St} {H:Hp} {s:Shared} {R:It -> Hp -> Prop} {E:Value -> Shared -> Prop} {lo hi:Int} {t u v:Tok} {tk:Nat} (I:Inv X pins σ H s) (h1 : -(2 ^ 62) <= lo) (h2:lo < 2 ^ 62) (h3 : -(2 ^ 62) <= hi) (h4:hi < 2 ^ 62)
    (q:R (Itr lo (hi - lo).toNat) H):wpAny (model X.prog X.w) X.A (pyIter (.ref s.heap.objs.size)) (PIE X pins σ tg R) E { s with heap:=s.heap.push { cls:=.type "range", data:=.fields #[.int lo t,.int hi u,.int 1 v] },toks:=tk }:=by
  refine wpAny_pyIter_range (IsRange.new ..) (small_one h1 h2 h3 h4) ?_
  have I1:Inv X pins σ H { s with heap:=s.heap.push { cls:=.type "range", data:=.fields #[.int lo t,.int hi u,.int 1 v] },toks:=tk }:=I.kept fun b o e=>Heap.get?_push_of_some _ e
  refine ⟨(s.heap.push { cls:=.type "range", data:=.fields #[.int lo t,.int hi u,.int 1 v] }).objs.size,[(s.heap.push { cls:=.type "range", data:=.fields #[.int lo t,.int hi u,.int 1 v] }).objs.size],_,_,H,rfl,
    I1.kept (t':=tk) fun b o e=>Heap.get?_push_of_some _ e,turn_range _ lo (hi - lo).toNat,?_,fun b hb=>?_,q⟩
  · have e1:lo + ((0:Nat):Int) * 1 = lo:=by simp
    have e2:(((hi - lo).toNat:Nat):Int) - ((0:Nat):Int) = Builtin.Range.rangeSize lo hi 1:=by rw [rangeSize_one]; split <;> omega
    show IsRangeIter _ _ (lo + ((0:Nat):Int) * 1) ((((hi - lo).toNat:Nat):Int) - ((0:Nat):Int)) 1
    rw [e1,e2]
    exact Heap.get?_push_size _ rfl
  · have e:b = (s.heap.push { cls:=.type "range", data:=.fields #[.int lo t,.int hi u,.int 1 v] }).objs.size:=by simpa using hb
    subst e
    exact I1.fpOk (Nat.le_refl _) (I1.hok.fresh (Nat.le_refl _))
noncomputable def iRng1 (ta:TA):TI:=fun σ H R=>ta σ H fun vs H1=>∃ j:Int,vs = [.int j] /\ -(2 ^ 62) <= j /\ j < 2 ^ 62 /\ R (Itr 0 j.toNat) H1
theorem pi_range1 {a:Expr} {ta:TA} {p pos:Pos} (hg:Gl X "range") (hm:X.mg "range" = none) (ha:PA X [a] ta) (hs:starEach [a] X.env = [(false,eval a X.env)]:=by rfl):PI X tg (.Call (.Name "range" p) [a] [] pos) (iRng1 ta):=by
  intro pins s σ H R I h
  refine Call_ (ld_blt I hg hm boot_range (PyProof.Rows.callWith_type1 (thn (ha pos pins s σ H _ I h) fun us s1 ⟨vs,H1,I1,r1,q1⟩=>?_) hs rfl))
  obtain ⟨j,e,q1,q2,q⟩:=q1
  subst e
  cases r1 with
  | cons r rr =>
    cases rr
    obtain ⟨t,rfl⟩:=r
    exact call_range_1 (range_it I1 (by omega) (by omega) q1 q2 (by simpa using q))
noncomputable def tFor (wi:TI) (g:TG) (tb:TS):TS:=fun D σ H=>wi σ H fun J H1=>∃ W:Nat -> Nat -> St -> Hp -> Prop,(∃ m,W 0 m σ H1) /\ ∀ i m σ H,W i m σ H ->
  (J.stop i H /\ D.nx σ H) \/ (J.go i H /\ ∃ N:St -> Hp -> Prop,(∀ σ' H',N σ' H' -> ∃ m',m' < m /\ W (i + 1) m' σ' H') /\ ∀ x H',J.yld i H x H' -> g x σ H' fun σ2 H2=>tb { D with nx:=N,ct:=N,bk:=D.nx } σ2 H2)
noncomputable def pinsAt (fp:List Addr) (h:Heap):List (Addr × Obj):=fp.filterMap fun b=>(h.get? b).map fun o=>(b,o)
theorem mem_pinsAt {fp:List Addr} {h:Heap} {b:Addr} {o:Obj} (hb:b ∈ fp) (e:h.get? b = some o):(b,o) ∈ pinsAt fp h:=List.mem_filterMap.mpr ⟨b,hb,by rw [e]; rfl⟩
theorem of_pinsAt {fp:List Addr} {h:Heap} {p:Addr × Obj} (hp:p ∈ pinsAt fp h):p.1 ∈ fp /\ h.get? p.1 = some p.2:=by
  obtain ⟨b,hb,e⟩:=List.mem_filterMap.mp hp
  cases q:h.get? b with
  | none=>rw [q] at e; cases e
  | some o =>
    rw [q] at e
    have e':(b,o) = p:=Option.some.inj e
    subst e'
    exact ⟨hb,q⟩
theorem Inv.pinned {pins:List (Addr × Obj)} {σ:St} {H:Hp} {s:Shared} {fp:List Addr} (I:Inv X pins σ H s) (hf:∀ b ∈ fp,FpOk X pins H b) (ho:∀ b ∈ fp,∃ o,s.heap.get? b = some o /\ ∀ v,o.data ≠ .cell v):Inv X (pins ++ pinsAt fp s.heap) σ H s :=
  I.pins_of fun p hp=>(List.mem_append.mp hp).elim (fun z=>I.pin p (List.mem_append_right _ z)) fun z=>by
    obtain ⟨hb,e⟩:=of_pinsAt z
    obtain ⟨f0,f1,f2,_⟩:=hf p.1 hb
    obtain ⟨o,e',d⟩:=ho p.1 hb
    rw [e] at e'; cases e'
    exact ⟨e,f0,f1,f2,d⟩
theorem Inv.unpinned {pins pl:List (Addr × Obj)} {σ:St} {H:Hp} {s:Shared} (I:Inv X (pins ++ pl) σ H s):Inv X pins σ H s:=I.pins_of fun p hp=>I.pin p (List.mem_append_right _ (List.mem_append_left _ hp))
theorem ps_for {iter:Expr} {body:List Stmt} {wi:TI} {g:TG} {tb:TS} {pos:Pos} (hp:PassesOwn (model X.prog X.w) X.A X.env X.xe) (hc:X.calm = true) (hi:PI X tg iter wi) (hg:PG X tg g) (hb:PSs X body tb)
    (hs:∀ x,foldedSetIterable iter X.env x = pure x:=by intro _; rfl):PS X (.For tg iter body [] pos) (tFor wi g tb):=by
  intro pins s σ H D I h
  refine wpAny_For (thn (hi pins s σ H _ I h) fun v s1 h1=>thn h1 fun itv s2 h2=>?_) hs
  obtain ⟨it,fp,tn,J,H2,e,I2,T,st2,f2,W,⟨m0,w0⟩,turn⟩:=h2
  subst e
  have stat:∀ {H':Hp},(∀ b ∈ fp,H' b = none) -> ∀ b ∈ fp,FpOk X pins H' b:=fun hn b hb=>⟨hn b hb,(f2 b hb).2⟩
  refine codeAny_forLoop_any (fun n s'=>∃ i σ' H',Inv X pins σ' H' s' /\ tn i s'.heap /\ (∀ b ∈ fp,H' b = none) /\ W i n σ' H') ?_ m0 ⟨0,σ,H2,I2,st2,fun b hb=>(f2 b hb).1,w0⟩
  rintro n s3 ⟨i,σ3,H3,I3,st3,fr3,w3⟩
  rcases turn i n σ3 H3 w3 with ⟨stop,qn⟩ | ⟨go,N,hN,step⟩
  · refine wpAny_passesOwn hp (thn (T.done X rfl rfl rfl hc i pins s3 σ3 H3 X.xe I3 (stat fr3) st3 stop) fun r s4 ⟨hr,I4⟩=>?_)
    subst hr
    exact wpAny_execs_nil ⟨σ3,H3,I4,qn⟩
  · refine wpAny_passesOwn hp (thn (T.item X rfl rfl rfl hc i pins s3 σ3 H3 X.xe I3 (stat fr3) st3 go) fun r s4 ⟨u,hr,h4⟩=>?_)
    subst hr
    refine wpAny_passesOwn hp (thn h4 fun _ s5 ⟨x,H5,I5,r5,y5,st5,fr5⟩=>?_)
    have I5':=I5.pinned (stat fr5) (T.obj _ _ st5)
    refine wpAny_passesOwn hp (thn (hg _ s5 σ3 H5 x u _ I5' r5 (step x H5 y5)) fun _ s6 ⟨σ6,H6,I6,q6⟩=>?_)
    refine wpAny_passesOwn hp (thn (hb _ s6 σ6 H6 _ I6 q6) fun f s7 q7=>?_)
    have again:∀ {σ7:St} {H7:Hp},Inv X (pins ++ pinsAt fp s5.heap) σ7 H7 s7 -> N σ7 H7 -> ∃ m,m < n /\ ∃ i σ' H',Inv X pins σ' H' s7 /\ tn i s7.heap /\ (∀ b ∈ fp,H' b = none) /\ W i m σ' H':=fun {σ7 H7} I7 n7=>by
      obtain ⟨m',hm,w7⟩:=hN σ7 H7 n7
      refine ⟨m',hm,i + 1,σ7,H7,I7.unpinned,T.keep _ _ _ st5 fun b hb o e=>(I7.pin (b,o) (List.mem_append_right _ (List.mem_append_right _ (mem_pinsAt hb e)))).1,fun b hb=>?_,w7⟩
      obtain ⟨o,e,d⟩:=T.obj _ _ st5 b hb
      exact (I7.pin (b,o) (List.mem_append_right _ (List.mem_append_right _ (mem_pinsAt hb e)))).2.1
    cases f with
    | next=>obtain ⟨σ7,H7,I7,n7⟩:=q7; exact again I7 n7
    | cont=>obtain ⟨σ7,H7,I7,n7⟩:=q7; exact again I7 n7
    | brk=>obtain ⟨σ7,H7,I7,q7⟩:=q7; exact ⟨σ7,H7,I7.unpinned,q7⟩
    | ret v=>obtain ⟨x7,σ7,H7,I7,r7,q7⟩:=q7; exact ⟨x7,σ7,H7,I7.unpinned,r7,q7⟩
end

end L2

namespace L2
open PySem PySem.Spec PyProof.Rows

abbrev R2:=V -> V -> Hp -> VK -> Prop
noncomputable def OpR (X:Cx) (f:Value -> Value -> Sem Value) (r:R2):Prop :=
  ∀ (pins:List (Addr × Obj)) (s:Shared) (σ:St) (H:Hp) (x y:V) (v u:Value) (Q:VK),Inv X pins σ H s -> RelV x v -> RelV y u -> r x y H Q ->
    wpAny (model X.prog X.w) X.A (f v u) (EP X pins σ Q) X.xe s
noncomputable def UnR (X:Cx) (f:Value -> Sem Value) (r:V -> Hp -> VK -> Prop):Prop :=
  ∀ (pins:List (Addr × Obj)) (s:Shared) (σ:St) (H:Hp) (x:V) (v:Value) (Q:VK),Inv X pins σ H s -> RelV x v -> r x H Q ->
    wpAny (model X.prog X.w) X.A (f v) (EP X pins σ Q) X.xe s
noncomputable def CallR (X:Cx) (f:Value) (r:List V -> Hp -> VK -> Prop):Prop :=
  ∀ (pins:List (Addr × Obj)) (s:Shared) (σ:St) (H:Hp) (xs:List V) (us:List Value) (Q:VK),Inv X pins σ H s -> Vals xs us -> r xs H Q ->
    wpAny (model X.prog X.w) X.A (call f us) (EP X pins σ Q) X.xe s
noncomputable def tOp (r:R2) (ta tb:TE):TE:=fun σ H Q=>ta σ H fun x H1=>tb σ H1 fun y H2=>r x y H2 Q
noncomputable def tUn (r:V -> Hp -> VK -> Prop) (ta:TE):TE:=fun σ H Q=>ta σ H fun x H1=>r x H1 Q
noncomputable def rI (C:Int -> Int -> Prop) (g:Int -> Int -> V):R2:=fun x y H Q=>∃ i j,x = .int i /\ y = .int j /\ C i j /\ Q (g i j) H
noncomputable def rI0 (g:Int -> Int -> V):R2:=fun x y H Q=>∃ i j,x = .int i /\ y = .int j /\ Q (g i j) H
noncomputable def rU (g:Int -> V):V -> Hp -> VK -> Prop:=fun x H Q=>∃ i,x = .int i /\ Q (g i) H

section
variable {X:Cx} {a b c:Expr} {ta tb tc:TE} {pos:Pos}

theorem binT (ha:PE X a ta) (hb:PE X b tb) {pins:List (Addr × Obj)} {s:Shared} {σ:St} {H:Hp} {R:V -> V -> Hp -> Prop} (I:Inv X pins σ H s)
    (h:ta σ H fun x H1=>tb σ H1 fun y H2=>R x y H2) {Q:Value -> Shared -> Prop} {f:Value -> Value -> Sem Value}
    (hf:∀ v u s2 x y H2,Inv X pins σ H2 s2 -> RelV x v -> RelV y u -> R x y H2 -> wpAny (model X.prog X.w) X.A (f v u) Q X.xe s2) :
    wpAny (model X.prog X.w) X.A (eval a X.env) (fun v s₁=>wpAny (model X.prog X.w) X.A (eval b X.env) (fun u s₂=>wpAny (model X.prog X.w) X.A (f v u) Q X.xe s₂) X.xe s₁) X.xe s:=by
  refine thn (ha pins s σ H _ I h) fun v s1 ⟨x,H1,I1,r1,q1⟩=>?_
  refine thn (hb pins s1 σ H1 _ I1 q1) fun u s2 ⟨y,H2,I2,r2,q2⟩=>?_
  exact hf v u s2 x y H2 I2 r1 r2 q2

theorem pe_op {op:Operator} {r:R2} (ho:OpR X (binaryOp op) r) (ha:PE X a ta) (hb:PE X b tb):PE X (.BinOp a op b pos) (tOp r ta tb):=by
  intro pins s σ H Q I h
  exact wpAny_BinOp (binT ha hb I h fun v u s2 x y H2 I2 rx ry q=>ho pins s2 σ H2 x y v u Q I2 rx ry q)
theorem pe_un {op:UnaryOp} {r:V -> Hp -> VK -> Prop} (ho:UnR X (unaryOp op) r) (ha:PE X a ta):PE X (.UnaryOp op a pos) (tUn r ta):=by
  intro pins s σ H Q I h
  exact UnaryOp_ (thn (ha pins s σ H _ I h) fun v s1 ⟨x,H1,I1,r1,q1⟩=>ho pins s1 σ H1 x v Q I1 r1 q1)
theorem opI {f:Value -> Value -> Sem Value} {C:Int -> Int -> Prop} {g:Int -> Int -> Int}
    (rule:∀ (i j:Int) (t u:Tok) (s:Shared) (Q:Value -> Shared -> Prop) (E:Value -> Shared -> Prop),C i j -> Q (.int (g i j) s.toks) { s with toks:=s.toks + 1 } -> wpAny (model X.prog X.w) X.A (f (.int i t) (.int j u)) Q E s) :
    OpR X f (rI C fun i j=>.int (g i j)):=by
  intro pins s σ H x y v u Q I rx ry h
  obtain ⟨i,j,rfl,rfl,hc,q⟩:=h
  obtain ⟨t,rfl⟩:=rx
  obtain ⟨t',rfl⟩:=ry
  exact rule i j t t' s _ _ hc ⟨.int (g i j),H,I.tok _,⟨_,rfl⟩,q⟩
theorem opI0 {f:Value -> Value -> Sem Value} {g:Int -> Int -> Int}
    (rule:∀ (i j:Int) (t u:Tok) (s:Shared) (Q:Value -> Shared -> Prop) (E:Value -> Shared -> Prop),Q (.int (g i j) s.toks) { s with toks:=s.toks + 1 } -> wpAny (model X.prog X.w) X.A (f (.int i t) (.int j u)) Q E s) :
    OpR X f (rI0 fun i j=>.int (g i j)):=by
  intro pins s σ H x y v u Q I rx ry h
  obtain ⟨i,j,rfl,rfl,q⟩:=h
  obtain ⟨t,rfl⟩:=rx
  obtain ⟨t',rfl⟩:=ry
  exact rule i j t t' s _ _ ⟨.int (g i j),H,I.tok _,⟨_,rfl⟩,q⟩
theorem opB0 {f:Value -> Value -> Sem Value} {g:Int -> Int -> Bool}
    (rule:∀ (i j:Int) (t u:Tok) (s:Shared) (Q:Value -> Shared -> Prop) (E:Value -> Shared -> Prop),Q (.bool (g i j)) s -> wpAny (model X.prog X.w) X.A (f (.int i t) (.int j u)) Q E s) :
    OpR X f (rI0 fun i j=>.bl (g i j)):=by
  intro pins s σ H x y v u Q I rx ry h
  obtain ⟨i,j,rfl,rfl,q⟩:=h
  obtain ⟨t,rfl⟩:=rx
  obtain ⟨t',rfl⟩:=ry
  exact rule i j t t' s _ _ ⟨.bl (g i j),H,I,rfl,q⟩

noncomputable def CPow (i j:Int):Prop:=0 <= j /\ j <= 1000000 /\ i.natAbs < 2 ^ 64
theorem op_add:OpR X (binaryOp .Add) (rI0 fun i j=>.int (i + j)):=opI0 fun _ _ _ _ _ _ _ q=>add_int q
theorem op_sub:OpR X (binaryOp .Sub) (rI0 fun i j=>.int (i - j)):=opI0 fun _ _ _ _ _ _ _ q=>sub_int q
theorem op_modN:OpR X (binaryOp .Mod) (rI (fun _ j=>j ≠ 0) fun i j=>.int (i.fmod j)):=opI fun _ _ _ _ _ _ _ hc q=>mod_int' hc q
theorem op_pow:OpR X (binaryOp .Pow) (rI CPow fun i j=>.int (i ^ j.toNat)):=opI fun _ _ _ _ _ _ _ hc q=>pow_int_small hc.1 hc.2.1 hc.2.2 q
theorem unI {f:Value -> Sem Value} {g:Int -> Int}
    (rule:∀ (i:Int) (t:Tok) (s:Shared) (Q:Value -> Shared -> Prop) (E:Value -> Shared -> Prop),Q (.int (g i) s.toks) { s with toks:=s.toks + 1 } -> wpAny (model X.prog X.w) X.A (f (.int i t)) Q E s) :
    UnR X f (rU fun i=>.int (g i)):=by
  intro pins s σ H x v Q I rx h
  obtain ⟨i,rfl,q⟩:=h
  obtain ⟨t,rfl⟩:=rx
  exact rule i t s _ _ ⟨.int (g i),H,I.tok _,⟨_,rfl⟩,q⟩
theorem un_neg:UnR X (unaryOp .USub) (rU fun i=>.int (-i)):=unI fun _ _ _ _ _ q=>neg_int q
end

noncomputable def scal:V -> V -> Bool
  | .non,.non=>true | .non,.int _=>true | .int _,.non=>true | .non,.bl _=>true | .bl _,.non=>true | .non,.str _=>true | .str _,.non=>true
  | .int _,.int _=>true | .bl _,.bl _=>true | .str _,.str _=>true | .byt _,.byt _=>true
  | .int _,.str _=>true | .str _,.int _=>true | .bl _,.str _=>true | .str _,.bl _=>true
  | _,_=>false
noncomputable def rEq:R2:=fun x y H Q=>scal x y = true /\ Q (.bl (decide (x = y))) H
noncomputable def rNe:R2:=fun x y H Q=>scal x y = true /\ Q (.bl (!decide (x = y))) H

theorem dec_int {i j:Int}:decide (V.int i = V.int j) = (i == j):=by
  rw [Bool.eq_iff_iff]
  simp
theorem dec_bl {i j:Bool}:decide (V.bl i = V.bl j) = (i == j):=by
  rw [Bool.eq_iff_iff]
  simp
theorem dec_str {i j:Str}:decide (V.str i = V.str j) = (i == j):=by
  rw [Bool.eq_iff_iff]
  simp
theorem dec_byt {i j:Array UInt8}:decide (V.byt i = V.byt j) = (i.toList == j.toList):=by
  rw [Bool.eq_iff_iff]
  cases i
  cases j
  simp

section
variable {X:Cx} {a b c:Expr} {ta tb tc:TE} {pos:Pos}
theorem fin_bl {pins:List (Addr × Obj)} {σ:St} {H:Hp} {s:Shared} {Q:VK} {k k':Bool} (I:Inv X pins σ H s) (q:Q (.bl k) H) (e:k = k'):EP X pins σ Q (.bool k') s:=by
  subst e
  exact ⟨.bl k,H,I,rfl,q⟩
theorem op_eq:OpR X (compareOp .Eq) rEq:=by
  intro pins s σ H x y v u Q I rx ry h
  obtain ⟨hs,q⟩:=h
  cases x with
  | non =>
    cases rx
    cases y with
    | non=>cases ry; exact PySem.EqNone.eq_none_none (fin_bl I q (by simp))
    | bl j=>cases ry; exact PySem.EqNone.eq_none_bool (fin_bl I q (by simp))
    | int j=>obtain ⟨t',rfl⟩:=ry; exact PySem.EqNone.eq_none_int (fin_bl I q (by simp))
    | str j=>obtain ⟨t',rfl⟩:=ry; exact PySem.EqNone.eq_none_str (fin_bl I q (by simp))
    | _=>exact absurd (show false = true from hs) Bool.false_ne_true
  | bl i =>
    cases rx
    cases y with
    | non=>cases ry; exact PySem.EqNone.eq_bool_none (fin_bl I q (by simp))
    | bl j=>cases ry; exact eq_bool (fin_bl I q dec_bl)
    | str j=>obtain ⟨t',rfl⟩:=ry; exact PySem.EqMixed.eq_bool_str (fin_bl I q (by simp))
    | _=>exact absurd (show false = true from hs) Bool.false_ne_true
  | int i =>
    obtain ⟨t,rfl⟩:=rx
    cases y with
    | non=>cases ry; exact PySem.EqNone.eq_int_none (fin_bl I q (by simp))
    | int j=>obtain ⟨t',rfl⟩:=ry; exact eq_int (fin_bl I q dec_int)
    | str j=>obtain ⟨t',rfl⟩:=ry; exact PySem.EqMixed.eq_int_str (fin_bl I q (by simp))
    | _=>exact absurd (show false = true from hs) Bool.false_ne_true
  | str i =>
    obtain ⟨t,rfl⟩:=rx
    cases y with
    | non=>cases ry; exact PySem.EqNone.eq_str_none (fin_bl I q (by simp))
    | bl j=>cases ry; exact PySem.EqMixed.eq_str_bool (fin_bl I q (by simp))
    | int j=>obtain ⟨t',rfl⟩:=ry; exact PySem.EqMixed.eq_str_int (fin_bl I q (by simp))
    | str j=>obtain ⟨t',rfl⟩:=ry; exact eq_str (fin_bl I q dec_str)
    | _=>exact absurd (show false = true from hs) Bool.false_ne_true
  | byt i =>
    obtain ⟨t,rfl⟩:=rx
    cases y with
    | byt j=>obtain ⟨t',rfl⟩:=ry; exact W.eq_bytes (fin_bl I q dec_byt)
    | _=>exact absurd (show false = true from hs) Bool.false_ne_true
  | _=>cases y <;> exact absurd (show false = true from hs) Bool.false_ne_true
theorem op_ne:OpR X (compareOp .NotEq) rNe:=by
  intro pins s σ H x y v u Q I rx ry h
  obtain ⟨hs,q⟩:=h
  cases x with
  | non =>
    cases rx
    cases y with
    | non=>cases ry; exact PySem.EqNone.ne_none_none (fin_bl I q (by simp))
    | bl j=>cases ry; exact PySem.EqNone.ne_none_bool (fin_bl I q (by simp))
    | int j=>obtain ⟨t',rfl⟩:=ry; exact PySem.EqNone.ne_none_int (fin_bl I q (by simp))
    | str j=>obtain ⟨t',rfl⟩:=ry; exact PySem.EqNone.ne_none_str (fin_bl I q (by simp))
    | _=>exact absurd (show false = true from hs) Bool.false_ne_true
  | bl i =>
    cases rx
    cases y with
    | non=>cases ry; exact PySem.EqNone.ne_bool_none (fin_bl I q (by simp))
    | bl j=>cases ry; exact ne_bool (fin_bl I q (congrArg not dec_bl))
    | str j=>obtain ⟨t',rfl⟩:=ry; exact PySem.EqMixed.ne_bool_str (fin_bl I q (by simp))
    | _=>exact absurd (show false = true from hs) Bool.false_ne_true
  | int i =>
    obtain ⟨t,rfl⟩:=rx
    cases y with
    | non=>cases ry; exact PySem.EqNone.ne_int_none (fin_bl I q (by simp))
    | int j=>obtain ⟨t',rfl⟩:=ry; exact ne_int (fin_bl I q (congrArg not dec_int))
    | str j=>obtain ⟨t',rfl⟩:=ry; exact PySem.EqMixed.ne_int_str (fin_bl I q (by simp))
    | _=>exact absurd (show false = true from hs) Bool.false_ne_true
  | str i =>
    obtain ⟨t,rfl⟩:=rx
    cases y with
    | non=>cases ry; exact PySem.EqNone.ne_str_none (fin_bl I q (by simp))
    | bl j=>cases ry; exact PySem.EqMixed.ne_str_bool (fin_bl I q (by simp))
    | int j=>obtain ⟨t',rfl⟩:=ry; exact PySem.EqMixed.ne_str_int (fin_bl I q (by simp))
    | str j=>obtain ⟨t',rfl⟩:=ry; exact ne_str (fin_bl I q (congrArg not dec_str))
    | _=>exact absurd (show false = true from hs) Bool.false_ne_true
  | byt i =>
    obtain ⟨t,rfl⟩:=rx
    cases y with
    | byt j=>obtain ⟨t',rfl⟩:=ry; exact W.ne_bytes (fin_bl I q (congrArg not dec_byt))
    | _=>exact absurd (show false = true from hs) Bool.false_ne_true
  | _=>cases y <;> exact absurd (show false = true from hs) Bool.false_ne_true

theorem op_lt:OpR X (compareOp .Lt) (rI0 fun i j=>.bl (decide (i < j))):=opB0 fun _ _ _ _ _ _ _ q=>lt_int q
theorem op_le:OpR X (compareOp .LtE) (rI0 fun i j=>.bl (decide (i <= j))):=opB0 fun _ _ _ _ _ _ _ q=>le_int q
theorem op_gt:OpR X (compareOp .Gt) (rI0 fun i j=>.bl (decide (j < i))):=opB0 fun _ _ _ _ _ _ _ q=>gt_int q
theorem op_ge:OpR X (compareOp .GtE) (rI0 fun i j=>.bl (decide (j <= i))):=opB0 fun _ _ _ _ _ _ _ q=>ge_int q
theorem nomark (b:Expr) {op:CmpOp} (h:op ≠ .In:=by decide) (h2:op ≠ .NotIn:=by decide):behindInMarks op b = false:=by
  have e1:(op == CmpOp.In) = false:=by cases op <;> first | rfl | exact absurd rfl h
  have e2:(op == CmpOp.NotIn) = false:=by cases op <;> first | rfl | exact absurd rfl h2
  cases b <;> simp [behindInMarks,e1,e2]
theorem pe_cmpR {op:CmpOp} {r:R2} (ho:OpR X (compareOp op) r) (ha:PE X a ta) (hb:PE X b tb) (hm:behindInMarks op b = false):PE X (.Compare a [op] [b] pos) (tOp r ta tb):=by
  intro pins s σ H Q I h
  exact wpAny_Compare1 (binT ha hb I h fun v u s2 x y H2 I2 rx ry q=>ho pins s2 σ H2 x y v u Q I2 rx ry q) hm
noncomputable def tTest (t:TE):TT:=fun σ H Q=>t σ H fun x H'=>∃ k,x = .bl k /\ Q k H'
theorem pt_cmpR {op:CmpOp} {r:R2} (ho:OpR X (compareOp op) r) (ha:PE X a ta) (hb:PE X b tb) (hm:behindInMarks op b = false):PT X (.Compare a [op] [b] pos) (tTest (tOp r ta tb)):=by
  intro pins s σ H Q I h
  refine wpAny_isTrue_Compare1 (thn (ha pins s σ H _ I h) fun v s1 ⟨x,H1,I1,r1,q1⟩=>thn (hb pins s1 σ H1 _ I1 q1) fun u s2 ⟨y,H2,I2,r2,q2⟩ =>
    thn (ho pins s2 σ H2 x y v u _ I2 r1 r2 q2) fun c s3 ⟨z,H3,I3,r3,k,e,q3⟩=>?_) hm
  subst e
  cases r3
  exact wpAny_truthy_bool ⟨H3,I3,q3⟩
noncomputable def tChain (r r':R2) (ta tb tc:TE):TE:=fun σ H Q=>ta σ H fun x H1=>tb σ H1 fun y H2=>r x y H2 fun z H3=>∃ k,z = .bl k /\
  (if k = true then tc σ H3 fun w' H4=>r' y w' H4 Q else Q (.bl false) H3)
theorem pt_chain {op op':CmpOp} {r r':R2} (ho:OpR X (compareOp op) r) (ho':OpR X (compareOp op') r') (ha:PE X a ta) (hb:PE X b tb) (hc:PE X c tc)
    (hm:lastMarks [op,op'] [b,c] = false:=by with_unfolding_all rfl):PT X (.Compare a [op,op'] [b,c] pos) (tTest (tChain r r' ta tb tc)):=by
  intro pins s σ H Q I h
  refine isTrue_chain (thn (ha pins s σ H _ I h) fun v s1 ⟨x,H1,I1,r1,q1⟩=>test_link (thn (hb pins s1 σ H1 _ I1 q1) fun u s2 ⟨y,H2,I2,r2,q2⟩ =>
    thn (ho pins s2 σ H2 x y v u _ I2 r1 r2 q2) fun d s3 ⟨z,H3,I3,r3,k,e,q3⟩=>?_)) hm
  subst e
  cases r3
  refine wpAny_truthy_bool ?_
  cases k with
  | false =>
    obtain ⟨k',e',q'⟩:=q3
    cases e'
    exact ite_ff ⟨H3,I3,q'⟩
  | true =>
    refine ite_tt (test_last (thn (hc pins s3 σ H3 _ I3 q3) fun w' s4 ⟨z',H4,I4,r4,q4⟩=>thn (ho' pins s4 σ H4 y z' u w' _ I4 r2 r4 q4) fun d' s5 ⟨z2,H5,I5,r5,k2,e2,q5⟩=>?_))
    subst e2
    cases r5
    exact wpAny_truthy_bool ⟨H5,I5,q5⟩

theorem line63:(sizeLine:Nat) < 2 ^ 63:=by rw [sizeLine_eq]; decide
theorem vals1 {x:V} {us:List Value} (r:Vals [x] us):∃ u,us = [u] /\ RelV x u:=by
  cases r with
  | cons r1 r2=>cases r2; exact ⟨_,rfl,r1⟩
theorem vals2 {x y:V} {us:List Value} (r:Vals [x,y] us):∃ u w',us = [u,w'] /\ RelV x u /\ RelV y w':=by
  cases r with
  | cons r1 r2 =>
    cases r2 with
    | cons r3 r4=>cases r4; exact ⟨_,_,rfl,r1,r3⟩
theorem call_abs:CallR X (.builtin "abs") (fun xs H Q=>∃ i,xs = [.int i] /\ Q (.int (if i < 0 then -i else i)) H):=by
  intro pins s σ H xs us Q I r h
  obtain ⟨i,rfl,q⟩:=h
  obtain ⟨u,rfl,t,rfl⟩:=vals1 r
  exact call_abs_int fun u tk=>⟨.int (if i < 0 then -i else i),H,I.tok _,⟨_,rfl⟩,q⟩
theorem call_max2 (hc:X.calm = true):CallR X (.builtin "max") (fun xs H Q=>∃ i j,xs = [.int i,.int j] /\ Q (.int (if j > i then j else i)) H):=by
  intro pins s σ H xs us Q I r h
  obtain ⟨i,j,rfl,q⟩:=h
  obtain ⟨u,w',rfl,⟨t,rfl⟩,⟨t',rfl⟩⟩:=vals2 r
  refine max_two_ints (I.ok.hd hc) fun h' tk k=>⟨_,H,I.kept k,?_,q⟩
  by_cases hj:j > i
  · rw [if_pos hj,if_pos hj]; exact ⟨_,rfl⟩
  · rw [if_neg hj,if_neg hj]; exact ⟨_,rfl⟩
theorem call_min2 (hc:X.calm = true):CallR X (.builtin "min") (fun xs H Q=>∃ i j,xs = [.int i,.int j] /\ Q (.int (if j < i then j else i)) H):=by
  intro pins s σ H xs us Q I r h
  obtain ⟨i,j,rfl,q⟩:=h
  obtain ⟨u,w',rfl,⟨t,rfl⟩,⟨t',rfl⟩⟩:=vals2 r
  refine min_two_ints (I.ok.hd hc) fun h' tk k=>⟨_,H,I.kept k,?_,q⟩
  by_cases hj:j < i
  · rw [if_pos hj,if_pos hj]; exact ⟨_,rfl⟩
  · rw [if_neg hj,if_neg hj]; exact ⟨_,rfl⟩
theorem call_int1:CallR X (.type "int") (fun xs H Q=>(∃ i,xs = [.int i] /\ Q (.int i) H) \/ ∃ k,xs = [.bl k] /\ Q (.int (if k then 1 else 0)) H):=by
  intro pins s σ H xs us Q I r h
  rcases h with ⟨i,rfl,q⟩ | ⟨k,rfl,q⟩
  · obtain ⟨u,rfl,t,rfl⟩:=vals1 r
    exact call_int_int ⟨.int i,H,I,⟨_,rfl⟩,q⟩
  · obtain ⟨u,rfl,r1⟩:=vals1 r
    cases r1
    exact call_int_bool ⟨.int (if k then 1 else 0),H,I.tok _,⟨_,rfl⟩,q⟩
end
end L2

namespace L2
open PySem PySem.Spec PyProof.Rows

section
variable {prog:Program} {w:World} {A:Around} {E:Value -> Shared -> Prop} {s:Shared} {K:W.Frag} {x dx C f:Addr} {mA:Str -> Option Value} {name:Str} {v:Value}

end

theorem RelO.some_of {v:V} {o:Option Value} (r:RelO (some v) o):∃ u,o = some u /\ RelV v u:=by
  cases o with
  | none=>exact (show False from r).elim
  | some u=>exact ⟨u,rfl,r⟩
section
variable {P:Program} {w:World} {H H':Hp} {h h':Heap} {a C dx:Addr} {fs fs':List (Str × V)}
end

section
variable {X:Cx} {pins:List (Addr × Obj)} {σ:St} {H:Hp} {s:Shared} {a C dx:Addr} {fs:List (Str × V)} {f:Str} {v:V} {A:Around} {E:Value -> Shared -> Prop}

end

section
variable {X:Cx} {o e value:Expr} {f:Str} {pos pos' tpos:Pos} {ta tv:TE}
end

section
variable {X:Cx} {pins:List (Addr × Obj)} {σ:St} {H:Hp} {s:Shared} {A:Around} {E:Value -> Shared -> Prop} {Q:Value -> Shared -> Prop} {c:Value} {b:Bool}
end
end L2

namespace L2
open PySem PySem.Spec PyProof.Rows

structure Room (k:Nat) (A:Around):Prop where
  hd:A.handled = none
  dp:A.depth + 3 * k + 5 < recursionLimit
  un:A.units + 16 * k + 200 < cLine
  gd:A.guards = some []
theorem Room.mono {j k:Nat} {A:Around} (r:Room k A) (h:j <= k):Room j A:=⟨r.hd,by have:=r.dp; omega,by have:=r.un; omega,r.gd⟩
theorem Room.deeper {k:Nat} {A:Around} (r:Room (k + 1) A) (env:Env):Room k (A.deeper env) :=
  ⟨r.hd,by have:=r.dp; show A.depth + 1 + 3 * k + 5 < _; omega,by have:=r.un; show A.units + 3 + 16 * k + 200 < _; omega,r.gd⟩
theorem Room.depth {k:Nat} {A:Around} (r:Room k A):A.depth < recursionLimit:=by have:=r.dp; omega
theorem Room.units {k:Nat} {A:Around} (r:Room k A):A.units + 64 < cLine:=by have:=r.un; omega
noncomputable def tNil:TA:=fun _ H Q=>Q [] H
noncomputable def tCons (ta:TE) (tr:TA):TA:=fun σ H Q=>ta σ H fun x H1=>tr σ H1 fun xs H2=>Q (x :: xs) H2
section
variable {X:Cx} {e:Expr} {es:List Expr} {te:TE} {t:TA} {pos:Pos}
theorem pa_nil:PA X [] tNil:=fun _ _ _ _ H Q I h=>Calls.spliced_nil ⟨[],H,I,.nil,h⟩
theorem pa_cons (ha:PE X e te) (hr:PA X es t) (hs:starEach (e :: es) X.env = (false,eval e X.env) :: starEach es X.env:=by rfl):PA X (e :: es) (tCons te t):=by
  intro pos pins s σ H Q I h
  rw [hs]
  show wpAny _ _ (spliced ((false,eval e X.env) :: backTo pos (starEach es X.env))) _ _ s
  refine Calls.spliced_cons (thn (ha pins s σ H _ I h) fun u s1 ⟨x,H1,I1,r1,q1⟩=>?_)
  exact thn (hr pos pins s1 σ H1 _ I1 q1) fun us s2 ⟨xs,H2,I2,r2,q2⟩=>⟨x :: xs,H2,I2,.cons r1 r2,q2⟩

noncomputable def tTup (t:TA):TE:=fun σ H Q=>t σ H fun xs H1=>xs.length <= sizeLine /\ ∀ p,H1 p = none -> Q (.ref p) (upd H1 p (.tup xs))
noncomputable def tLst (t:TA):TE:=fun σ H Q=>t σ H fun xs H1=>xs.length <= sizeLine /\ ∀ p,H1 p = none -> Q (.ref p) (upd H1 p (.lst xs))
theorem pe_tup {x1} (h:PA X es t):PE X (.Tuple es x1 pos) (tTup t):=by
  intro pins s σ H Q I hq
  refine wpAny_Tuple_spliced (thn (h pos pins s σ H _ I hq) fun us s1 ⟨xs,H1,I1,r,z,q⟩=>⟨by rw [<- r.length]; exact z,?_⟩)
  have hf:H1 s1.heap.objs.size = none:=I1.hok.fresh (Nat.le_refl _)
  refine ⟨.ref s1.heap.objs.size,upd H1 s1.heap.objs.size (.tup xs),I1.laid (t':=s1.toks) (fun b u e=>Heap.get?_push_of_some _ e) (Nat.le_refl _) ?_,rfl,q _ hf⟩
  exact ⟨z,us,r,IsTupD.new _ _⟩
theorem pe_lst (h:PA X es t):PE X (.List es pos) (tLst t):=by
  intro pins s σ H Q I hq
  refine wpAny_List_spliced (thn (h pos pins s σ H _ I hq) fun us s1 ⟨xs,H1,I1,r,z,q⟩=>⟨by rw [<- r.length]; exact z,?_⟩)
  have hf:H1 s1.heap.objs.size = none:=I1.hok.fresh (Nat.le_refl _)
  refine ⟨.ref s1.heap.objs.size,upd H1 s1.heap.objs.size (.lst xs),I1.laid (t':=s1.toks) (fun b u e=>Heap.get?_push_of_some _ e) (Nat.le_refl _) ?_,rfl,q _ hf⟩
  exact ⟨z,us,0,r,Heap.get?_push_size _ rfl⟩
end

abbrev Sp:=List V -> Hp -> VK -> XK -> Prop
abbrev CXT:=List Env -> Hp -> Shared -> XK -> Value -> Shared -> Prop

structure Env0 (P:Program) (w:World) (K:W.Frag) (mg:Str -> Option Value) (base:Heap) (A:Around) (outer:List Env) (s:Shared) (H:Hp):Prop where
  frames:A.frames = some outer
  mod:Mod K mg base
  bs:∀ b o,base.get? b = some o -> s.heap.get? b = some o /\ H b = none
  bsz:base.objs.size <= s.heap.objs.size
  funs:s.heap.FunFrames base outer
  frf:∀ b ∈ frs outer,H b = none
  hok:HOk P w H s.heap
  bare:AllBare s.gens
noncomputable def CE (outer:List Env) (P:Program) (w:World) (H:Hp) (s:Shared) (Q:VK) (u:Value) (s':Shared):Prop :=
  ∃ v H',s'.os = s.os /\ AllBare s'.gens /\ Un (frs outer) [] H H' s.heap s'.heap /\ HOk P w H' s'.heap /\ RelV v u /\ Q v H'
noncomputable def CR (CX:CXT) (outer:List Env) (P:Program) (w:World) (H:Hp) (s:Shared) (Q:VK) (E:XK) (r:Result) (s':Shared):Prop :=
  match r with
  | .ok (.ret u)=>CE outer P w H s Q u s'
  | .ok _=>False
  | .error e=>CX outer H s E e s'
structure FnOk (P:Program) (w:World) (K:W.Frag) (mg:Str -> Option Value) (base:Heap) (CX:CXT) (k:Nat) (f:Addr) (fd:FuncData) (ps:List Str) (sp:Sp):Prop where
  len:∀ vs H Q E,sp vs H Q E -> vs.length = ps.length
  run:∀ (A:Around) (outer:List Env) (s:Shared) (H:Hp) (args:Args) (us:List Value) (vs:List V) (Q:VK) (E:XK),Room k A -> Env0 P w K mg base A outer s H -> BindsTo s fd args (ps.zip us) -> Vals vs us -> sp vs H Q E ->
    codeAny (model P w) A (.call (.ref f) args) (CR CX outer P w H s Q E) s
section
variable {X:Cx} {pins:List (Addr × Obj)} {σ:St} {H:Hp} {s s':Shared}
theorem Inv.env0 (I:Inv X pins σ H s):Env0 X.prog X.w X.K X.mg X.base X.A X.stack s H :=
  ⟨I.ok.frames,I.ok.mod,I.bs,Nat.le_trans I.ok.bsz I.sz,I.stack,I.stkFree,I.hok,I.bare⟩
theorem Inv.after {Q:VK} {u:Value} (I:Inv X pins σ H s) (h:CE X.stack X.prog X.w H s Q u s'):EP X pins σ Q u s':=by
  obtain ⟨v,H',os,bare,un,hok,r,q⟩:=h
  obtain ⟨hh,g,d,t,os'⟩:=s'
  obtain rfl:os' = s.os:=os
  exact ⟨v,H',I.call (h':=hh) (g':=g) (d':=d) (t':=t) (ch:=[]) un hok bare (fun b z=>absurd z (by simp)),r,q⟩
end

noncomputable def tCall (sp:Sp) (dvs:List V) (E:XK) (t:TA):TE:=fun σ H Q=>t σ H fun vs H1=>sp (vs ++ dvs) H1 Q E
noncomputable def Binds (K:W.Frag) (fd:FuncData) (ps:List Str) (ds:List Value):Prop :=
  ∀ (s:Shared) (us:List Value),K.In s.heap -> (us ++ ds).length = ps.length -> BindsTo s fd ⟨us,[]⟩ (ps.zip (us ++ ds))
theorem Binds.all {K:W.Frag} {fd:FuncData} {ps:List Str} (h:∀ us:List Value,us.length = ps.length -> bindArgs fd ⟨us,[]⟩ = pure (ps.zip us)):Binds K fd ps []:=fun s us _ hl=>by
  rw [List.append_nil] at hl ⊢
  exact .of_eq (h us hl)

noncomputable def Passes (CX:CXT) (X:Cx) (E:XK):Prop:=∀ (pins:List (Addr × Obj)) (σ:St) (H:Hp) (s:Shared) (e:Value) (s':Shared),Inv X pins σ H s -> CX X.stack H s E e s' -> X.xe e s'

section
variable {X:Cx} {CX:CXT} {k:Nat} {f C:Addr} {fd:FuncData} {ps:List Str} {sp:Sp} {dvs:List V} {ds:List Value} {E:XK} {x m:Str} {p pos apos:Pos} {e o:Expr} {es:List Expr} {ta:TE} {t:TA}

theorem run_fn {pins:List (Addr × Obj)} {σ:St} {H:Hp} {s:Shared} {Q:VK} {us:List Value} {vs:List V} (F:FnOk X.prog X.w X.K X.mg X.base CX k f fd ps sp) (hr:Room k X.A) (hb:Binds X.K fd ps ds) (hd:Vals dvs ds) (hx:Passes CX X E)
    (I:Inv X pins σ H s) (r:Vals vs us) (h:sp (vs ++ dvs) H Q E):wpAny (model X.prog X.w) X.A (call (.ref f) us) (EP X pins σ Q) X.xe s:=by
  have r2:Vals (vs ++ dvs) (us ++ ds):=r.append hd
  have hl:(us ++ ds).length = ps.length:=by rw [<- r2.length]; exact F.len _ _ _ _ h
  refine wpAny_call (codeAny_mono (F.run X.A X.stack s H ⟨us,[]⟩ (us ++ ds) (vs ++ dvs) Q E hr I.env0 (hb s us I.kIn hl) r2 h) fun r s' hq=>?_)
  cases r with
  | error e=>exact hx pins σ H s e s' I hq
  | ok fl =>
    cases fl with
    | ret u=>exact I.after hq
    | next=>exact False.elim hq
    | brk=>exact False.elim hq
    | cont=>exact False.elim hq

theorem pe_call (F:FnOk X.prog X.w X.K X.mg X.base CX k f fd ps sp) (hr:Room k X.A) (hg:Gl X x) (hm:X.mg x = some (.ref f)) (hk:W.keepIn X.K (.ref f) = true) (hb:Binds X.K fd ps ds) (hd:Vals dvs ds) (hx:Passes CX X E)
    (ha:PA X (e :: es) t) (hdb:(x == ("__debug__" : Str)) = false:=by decide) (he:starEach (e :: es) X.env = (false,eval e X.env) :: starEach es X.env:=by rfl) (hpl:(backTo pos (starEach es X.env)).any (·.1) = false:=by rfl) :
    PE X (.Call (.Name x p) (e :: es) [] pos) (tCall sp dvs E t):=by
  intro pins s σ H Q I h
  refine wpAny_Call_Name_kw (ld_glob I hg hm ?_ hdb)
  refine W.callWith_K (h₀:=X.base) I.ok.mod.kin hk (thn (ha pos pins s σ H _ I h) fun us s1 ⟨vs,H1,I1,r,q⟩=>⟨I1.kIn,?_⟩) he hpl
  exact run_fn F hr hb hd hx I1 r q
end

section
variable {X:Cx} {CX:CXT} {k:Nat} {f C:Addr} {fd:FuncData} {ps ks:List Str} {sp:Sp} {E:XK} {x m:Str} {p pos apos kpos:Pos} {e o:Expr} {es:List Expr} {kws:List Keyword} {te ta:TE} {t tk:TA} {nm:Option Str}
variable {g:List Value -> List Value -> List Value} {gV:List V -> List V -> List V}
end

structure FnScope (N P:List Str) (sc:Scope):Prop where
  kind:sc.kind = .function
  co:sc.isCoroutine = false
  gen:sc.isGenerator = false
  nd:N.Nodup
  pre:N.take P.length = P
  par:∀ x ∈ P,sc.names.lookup x = some .local \/ sc.names.lookup x = some .cell
  nofree:∀ y ∈ sc.names,y.2 ≠ .free

theorem bindL_out {kindOf:Str -> Option NameKind} {x:Str}:∀ {binds:List (Str × Value)} {m:Str -> Option Value},(∀ v,(x,v) ∉ binds) -> bindL kindOf binds m x = m x
  | [],_,_=>rfl
  | (n,v) :: r,m,h=>by
    unfold bindL
    rw [bindL_out fun w hw=>h w (List.mem_cons_of_mem _ hw)]
    split
    · have:x ≠ n:=by rintro rfl; exact h v List.mem_cons_self
      simp [this]
    · rfl
theorem bindC_out {kindOf:Str -> Option NameKind} {x:Str}:∀ {binds:List (Str × Value)} {m:Str -> Option Value},(∀ v,(x,v) ∉ binds) -> bindC kindOf binds m x = m x
  | [],_,_=>rfl
  | (n,v) :: r,m,h=>by
    unfold bindC
    rw [bindC_out fun w hw=>h w (List.mem_cons_of_mem _ hw)]
    split
    · rfl
    · have:x ≠ n:=by rintro rfl; exact h v List.mem_cons_self
      simp [this]
theorem bindL_get {kindOf:Str -> Option NameKind} {x:Str} {v:Value}:∀ {P:List Str} {vs:List Value} {i:Nat} {m:Str -> Option Value},P.Nodup -> P[i]? = some x -> vs[i]? = some v -> kindOf x = some .local ->
    bindL kindOf (P.zip vs) m x = some v
  | [],_,_,_,_,h,_,_=>by simp at h
  | _ :: _,[],_,_,_,_,h,_=>by simp at h
  | p :: P,w :: vs,0,m,nd,h1,h2,hk=>by
    simp at h1 h2; subst h1; subst h2
    show bindL kindOf ((p,w) :: P.zip vs) m p = _
    unfold bindL
    rw [bindL_out fun v hv=>(List.nodup_cons.mp nd).1 (List.of_mem_zip hv).1,if_pos hk]
    simp
  | p :: P,w :: vs,i + 1,m,nd,h1,h2,hk=>by
    show bindL kindOf ((p,w) :: P.zip vs) m x = _
    unfold bindL
    exact bindL_get (i:=i) (List.nodup_cons.mp nd).2 (by simpa using h1) (by simpa using h2) hk
theorem bindC_get {kindOf:Str -> Option NameKind} {x:Str} {v:Value}:∀ {P:List Str} {vs:List Value} {i:Nat} {m:Str -> Option Value},P.Nodup -> P[i]? = some x -> vs[i]? = some v -> kindOf x ≠ some .local ->
    bindC kindOf (P.zip vs) m x = some v
  | [],_,_,_,_,h,_,_=>by simp at h
  | _ :: _,[],_,_,_,_,h,_=>by simp at h
  | p :: P,w :: vs,0,m,nd,h1,h2,hk=>by
    simp at h1 h2; subst h1; subst h2
    show bindC kindOf ((p,w) :: P.zip vs) m p = _
    unfold bindC
    rw [bindC_out fun v hv=>(List.nodup_cons.mp nd).1 (List.of_mem_zip hv).1,if_neg hk]
    simp
  | p :: P,w :: vs,i + 1,m,nd,h1,h2,hk=>by
    show bindC kindOf ((p,w) :: P.zip vs) m x = _
    unfold bindC
    exact bindC_get (i:=i) (List.nodup_cons.mp nd).2 (by simpa using h1) (by simpa using h2) hk

noncomputable def start (N:List Str) (vs:List V):St:=vs.map some ++ List.replicate (N.length - vs.length) none

noncomputable def cxOf (CX:CXT) (P:Program) (w:World) (K:W.Frag) (mg:Str -> Option Value) (base:Heap) (N:List Str) (qual:Str) (scope:Scope) (f:Addr) (cd:Value) (A:Around) (outer:List Env) (s:Shared) (H:Hp) (E:XK):Cx where
  prog:=P
  w:=w
  K:=K
  mg:=mg
  base:=base
  A:=A.deeper (envOfC qual scope s.heap.objs.size f cd)
  N:=N
  s₀:=s
  H₀:=H
  env:=envOfC qual scope s.heap.objs.size f cd
  outer:=outer
  stack:=envOfC qual scope s.heap.objs.size f cd :: outer
  ex:=[]
  calm:=true
  fn:=fun _=>true
  pn:=[]
  xe:=fun e s'=>wpAny (model P w) (A.deeper (envOfC qual scope s.heap.objs.size f cd)) (leaving (envOfC qual scope s.heap.objs.size f cd) e) (fun _ s''=>CX outer H s E e s'') (fun e' s''=>CX outer H s E e' s'') s'

theorem cell_has {sc:Scope} {n:Nat} {x:Str} (h:sc.names.lookup x = some .cell):∃ c,(cellsFrom n sc.names []).lookup x = some c:=by
  have q:=W.cellsFrom_some sc.names n [] (.inl h)
  exact Option.isSome_iff_exists.mp q

theorem inv_start {CX:CXT} {P:Program} {w:World} {K:W.Frag} {mg:Str -> Option Value} {base:Heap} {N ps:List Str} {qual:Str} {scope:Scope} {f:Addr} {cd:Value} {A:Around} {outer:List Env} {s s1:Shared} {H:Hp} {E:XK} {us:List Value} {vs:List V}
    (S:FnScope N ps scope) (hd:A.handled = none) (e0:Env0 P w K mg base A outer s H) (hl:vs.length = ps.length) (r:Vals vs us)
    (x:InCallC s s.heap.objs.size (bindL (envOfC qual scope s.heap.objs.size f cd).kindOf (ps.zip us) fun _=>none) (cellsFrom (s.heap.objs.size + 1) scope.names []) (bindC (envOfC qual scope s.heap.objs.size f cd).kindOf (ps.zip us) fun _=>none) s1) :
    Inv (cxOf CX P w K mg base N qual scope f cd A outer s H E) [] (start N vs) H s1:=by
  have hpl:ps.length <= N.length:=by have:=congrArg List.length S.pre; rw [List.length_take] at this; omega
  obtain ⟨h1,tk,rfl,hk⟩:=x.done
  have noA:∀ b:Addr,b ∉ (cxOf CX P w K mg base N qual scope f cd A outer s H E).ex:=fun b z=>absurd (show b ∈ ([]:List Addr) from z) (by simp)
  refine ⟨⟨e0.mod,S.kind,rfl,rfl,Nat.le_refl _,fun y z c h1 h2=>?_,fun y hy=>?_,fun y c _ h=>?_,fun _=>hd,Around.frames_deeper e0.frames,.inr ⟨rfl,rfl⟩,fun b z=>absurd z (noA b),e0.bs,e0.bsz,fun b _ _=>noA b,fun b z=>absurd z (noA b),e0.funs,e0.frf⟩,
    rfl,e0.bare,Un.kept hk,⟨_,x.toInCall.ns,fun i y v h1 h2 h3=>?_⟩,fun y c h=>⟨_,x.cell y c h⟩,e0.hok.fresh (Nat.le_refl _),fun y c h=>?_,fun p hp=>absurd (show p ∈ ([]:List (Addr × Obj)) from hp) (by simp),e0.hok.kept hk,?_⟩
  · exact name_of_addr x.apart (PySem.mem_of_lookup h1) (PySem.mem_of_lookup h2)
  · have hy:scope.names.lookup y = some .cell \/ scope.names.lookup y = some .free:=hy
    rcases hy with hy | hy
    · exact cell_has hy
    · exact absurd rfl (S.nofree _ (PySem.mem_of_lookup hy))
  · exact Nat.le_of_lt (x.above y c (PySem.mem_of_lookup h))
  · have hi:i < vs.length:=by
      unfold start at h2
      by_cases hi:i < vs.length
      · exact hi
      · rw [List.getElem?_append_right (by simpa using hi)] at h2
        rw [List.getElem?_replicate] at h2
        split at h2 <;> cases h2
    have ha:vs[i]? = some v:=by
      unfold start at h2
      rw [List.getElem?_append_left (by simpa using hi),List.getElem?_map] at h2
      cases e:vs[i]? with
      | none=>rw [e] at h2; cases h2
      | some a=>rw [e] at h2; cases h2; rfl
    obtain ⟨u,hu,rv⟩:=r.get ha
    have hp:ps[i]? = some y:=by
      rw [<- S.pre,List.getElem?_take_of_lt (by omega)]; exact h1
    have ndP:ps.Nodup:=by rw [<- S.pre]; exact S.nd.sublist (List.take_sublist _ _)
    refine ⟨u,rv,?_⟩
    rcases S.par y (List.mem_of_getElem? hp) with k | k
    · exact .inl ⟨k,bindL_get ndP hp hu k⟩
    · obtain ⟨c,e⟩:=cell_has (n:=s.heap.objs.size + 1) k
      refine .inr ⟨.inl k,c,e,?_⟩
      have q:=x.cell y c e
      rw [bindC_get ndP hp hu (by show scope.names.lookup y ≠ _; rw [k]; decide)] at q
      exact q
  · exact e0.hok.fresh (Nat.le_of_lt (x.above y c (PySem.mem_of_lookup h)))
  · unfold start
    show _ = N.length
    rw [List.length_append,List.length_map,List.length_replicate]
    omega

theorem fn_of {CX:CXT} {P:Program} {w:World} {K:W.Frag} {mg:Str -> Option Value} {base:Heap} {k:Nat} {f:Addr} {name qual:Str} {params:Arguments} {body:List Stmt} {scope:Scope} {dV kV doc pm cdv ct oc:Value} {an od:Option Addr}
    {osl:Array (Option Value)} {N ps:List Str} {sp:Sp} (lk:K.lookup f = some ⟨oc,od,.func (W.fnOf name qual params body scope dV kV doc pm an cdv ct),osl⟩) (hcd:W.codeIn K cdv qual = true) (S:FnScope N ps scope)
    (len:∀ vs H Q E,sp vs H Q E -> vs.length = ps.length)
    (hbody:∀ (A:Around) (outer:List Env) (s:Shared) (H:Hp) (vs:List V) (Q:VK) (E:XK),Room k (A.deeper (envOfC qual scope s.heap.objs.size f cdv)) -> sp vs H Q E ->
      ∃ t,PSs (cxOf CX P w K mg base N qual scope f cdv A outer s H E) body t /\ t { nx:=fun _ H'=>Q .non H',rt:=Q } (start N vs) H) :
    FnOk P w K mg base CX (k + 1) f (W.fnOf name qual params body scope dV kV doc pm an cdv ct) ps sp:=by
  refine ⟨len,fun A outer s H args us vs Q E hr e0 hb r hsp=>?_⟩
  have hl:=len _ _ _ _ hsp
  have KX:K.In s.heap:=e0.mod.kin.keeps fun b o e=>(e0.bs b o e).1
  have lim:s.heap.NoLimit:=e0.mod.nolimit.keeps fun b o e=>(e0.bs b o e).1
  have hkind:∀ y ∈ ps.zip us,scope.names.lookup y.1 = some .local \/ (scope.names.lookup y.1 = some .cell /\ ((cellsFrom (s.heap.objs.size + 1) scope.names []).lookup y.1).isSome = true):=fun ⟨n,v⟩ hy=>by
    rcases S.par n (List.of_mem_zip hy).1 with q | q
    · exact .inl q
    · exact .inr ⟨q,W.cellsFrom_some _ _ _ (.inl q)⟩
  refine codeAny_call_function hr.depth (KX _ _ lk) rfl S.co S.gen rfl (W.codeRec_of KX hcd) (hb _ _ _ _ ?_)
  refine wpAny_newFunctionEnv_cells S.kind hkind fun env he s1 x=>?_
  subst he
  refine ⟨lim.keeps x.toInCall.keep,codeAny_func ?_⟩
  obtain ⟨t,ht,hq⟩:=hbody A outer s H vs Q E (hr.deeper _) hsp
  have I:Inv (cxOf CX P w K mg base N qual scope f cdv A outer s H E) [] (start N vs) H s1:=inv_start S hr.hd e0 hl r x
  refine wpAny_mono (ht [] s1 (start N vs) H _ I hq) (fun fl s' hs=>?_) fun e s' hs=>hs
  have fin:∀ {σ':St} {H':Hp} {v:V} {u:Value},Inv (cxOf CX P w K mg base N qual scope f cdv A outer s H E) [] σ' H' s' -> RelV v u -> Q v H' -> CE outer P w H s Q u s' :=
    fun {σ' H' v u} J rv q=>⟨v,H',J.os,J.bare,J.base,J.hok,rv,q⟩
  cases fl with
  | ret u =>
    obtain ⟨v,σ',H',J,rv,q⟩:=hs
    exact fin J rv q
  | next =>
    obtain ⟨σ',H',J,q⟩:=hs
    exact fin (v:=V.non) (u:=Value.none) J rfl q
  | brk =>
    obtain ⟨_,_,_,q⟩:=hs
    exact False.elim q
  | cont =>
    obtain ⟨_,_,_,q⟩:=hs
    exact False.elim q
end L2

namespace L2
open PySem PySem.Spec PyProof.Rows
section
variable {X:Cx} {x:Str} {p pos:Pos} {e:Expr} {es:List Expr} {t:TA} {id T:String} {r:List V -> Hp -> VK -> Prop}

noncomputable def tCB (r:List V -> Hp -> VK -> Prop) (t:TA):TE:=fun σ H Q=>t σ H fun vs H1=>r vs H1 Q
theorem pe_callB (hc:CallR X (.builtin id) r) (hg:Gl X x) (hm:X.mg x = none) (hv:bootBuiltins x = some (.builtin id)) (ha:PA X (e :: es) t) (hn:x ≠ "__name__" := by decide) (hdb:(x == ("__debug__" : Str)) = false:=by decide)
    (he:starEach (e :: es) X.env = (false,eval e X.env) :: starEach es X.env:=by rfl) (hpl:(backTo pos (starEach es X.env)).any (·.1) = false:=by rfl):PE X (.Call (.Name x p) (e :: es) [] pos) (tCB r t):=by
  intro pins s σ H Q I h
  refine wpAny_Call_Name_kw (ld_blt I hg hm hv ?_ hn hdb)
  exact PyProof.Rows.callWith_builtin1 (thn (ha pos pins s σ H _ I h) fun us s1 ⟨vs,H1,I1,r1,q1⟩=>hc pins s1 σ H1 vs us Q I1 r1 q1) he hpl
theorem pe_callTy (hc:CallR X (.type T) r) (hg:Gl X x) (hm:X.mg x = none) (hv:bootBuiltins x = some (.type T)) (ha:PA X (e :: es) t) (hn:x ≠ "__name__" := by decide) (hdb:(x == ("__debug__" : Str)) = false:=by decide)
    (he:starEach (e :: es) X.env = (false,eval e X.env) :: starEach es X.env:=by rfl) (hpl:(backTo pos (starEach es X.env)).any (·.1) = false:=by rfl):PE X (.Call (.Name x p) (e :: es) [] pos) (tCB r t):=by
  intro pins s σ H Q I h
  refine wpAny_Call_Name_kw (ld_blt I hg hm hv ?_ hn hdb)
  exact PyProof.Rows.callWith_type1 (thn (ha pos pins s σ H _ I h) fun us s1 ⟨vs,H1,I1,r1,q1⟩=>hc pins s1 σ H1 vs us Q I1 r1 q1) he hpl
end
end L2

namespace HT
open PySem PyProof.Rows

section
open PySem.SeqAt
open PySem.AutoSeq1 (wpAny_loadPart')
open PySem.MeetsSeq PySem.MeetsSeq2 PySem.MeetsSeq3

end

section
variable {prog:Program} {w:World} {A:Around} {E:Value -> Shared -> Prop} {s:Shared}

theorem cat_tup {t b:Addr} {vs ws:List Value} {Q:Value -> Shared -> Prop} (ht:IsTup s.heap t vs.toArray) (hb:IsTup s.heap b ws.toArray) (hv:vs ≠ [])
    (h1:ws = [] -> Q (.ref t) s) (h2:ws ≠ [] -> Q (.ref s.heap.objs.size) { s with heap:=s.heap.push { cls:=.type "tuple", data:=.seq (vs ++ ws).toArray } })
    (hsz:vs.length + ws.length <= sizeLine):wpAny (model prog w) A (binaryOp .Add (.ref t) (.ref b)) Q E s:=by
  obtain ⟨⟨cls,dd,data,sl⟩,ho,hc,n,hd⟩:=id ht
  obtain ⟨⟨cls2,dd2,data2,sl2⟩,ho2,hc2,n2,hd2⟩:=id hb
  simp only at hc hd hc2 hd2
  subst hc hd hc2 hd2
  have e:vs.toArray ++ ws.toArray = (vs ++ ws).toArray:=by simp
  by_cases hw:ws = []
  · exact concat_meets ⟨_,ho,rfl⟩ ⟨_,ho2,rfl⟩ noFill_tuple_add seq_tuple_add PySem.F.slot_tuple_add PySem.F.entry_tuple_add (PySem.F.args_tuple_add_2 _ _)
      (tuple_addW1 t b vs.toArray ws.toArray n n2 dd dd2 sl sl2 (by simpa using hv) (by simp [hw])) ⟨ho,ho2,h1 hw⟩
  · refine concat_meets ⟨_,ho,rfl⟩ ⟨_,ho2,rfl⟩ noFill_tuple_add seq_tuple_add PySem.F.slot_tuple_add PySem.F.entry_tuple_add (PySem.F.args_tuple_add_2 _ _)
      (tuple_addW2 t b vs.toArray ws.toArray n n2 dd dd2 sl sl2 (by simpa using hv) (by simpa using hw) (by rw [List.size_toArray,List.size_toArray]; exact hsz)) ⟨ho,ho2,?_⟩
    rw [e]
    exact h2 hw

noncomputable def sIx (n d:Nat):Option Int -> Nat
  | none=>d
  | some v=>if v < 0 then (v + (n:Int)).toNat else min v.toNat n
theorem sIx_none (n d:Nat):sIx n d none = d:=rfl
theorem sIx_nat (n d k:Nat):sIx n d (some (k:Int)) = min k n:=by
  show (if (k:Int) < 0 then ((k:Int) + (n:Int)).toNat else min (k:Int).toNat n) = min k n
  rw [if_neg (by omega),Int.toNat_natCast]
theorem sIx_le (n d:Nat) (hd:d <= n) (o:Option Int):sIx n d o <= n:=by
  cases o with
  | none=>exact hd
  | some v =>
    show (if v < 0 then (v + (n:Int)).toNat else min v.toNat n) <= n
    by_cases hv:v < 0
    · rw [if_pos hv]; omega
    · rw [if_neg hv]; exact Nat.min_le_right _ _
theorem clip_eq (v:Int) (n d:Nat):(if v < 0 then max (v + (n:Int)) 0 else min v (n:Int)) = ((sIx n d (some v):Nat):Int):=by
  show (if v < 0 then max (v + (n:Int)) 0 else min v (n:Int)) = (((if v < 0 then (v + (n:Int)).toNat else min v.toNat n):Nat):Int)
  by_cases hv:v < 0
  · simp only [if_pos hv]; omega
  · simp only [if_neg hv]; omega
theorem adjust_gen (lo hi:Option Int) (n:Nat):Builtin.Slice.sliceAdjust lo hi 1 (n:Int) = (((sIx n 0 lo:Nat):Int),((sIx n n hi:Nat):Int)):=by
  have h1:¬ ((1:Int) < 0):=by omega
  unfold Builtin.Slice.sliceAdjust
  simp only [h1,if_false]
  refine Prod.ext ?_ ?_
  · cases lo with
    | none=>rfl
    | some v=>exact clip_eq v n 0
  · cases hi with
    | none=>rfl
    | some v=>exact clip_eq v n n
theorem places_gen (i j:Nat):Builtin.Slice.slicePlaces (i:Int) (j:Int) 1 = j - i:=by
  unfold Builtin.Slice.slicePlaces
  have h1:(1:Int) > 0:=by omega
  simp only [h1,if_true,Int.ediv_one]
  split <;> omega
theorem slicePart_ {v:Value} {o:Option Int} {Q:Option Int -> Shared -> Prop} (p:IsPart v o) (h:Q o s):wpAny (model prog w) A (Builtin.Slice.slicePartIndex v) Q E s:=by
  cases p with
  | none=>exact slicePart_none h
  | int i t=>exact slicePart_int h
theorem sliceApplied_gen {sl:Addr} {vl vu:Value} {lo hi:Option Int} {n:Nat} {Q:Int × Int × Nat -> Shared -> Prop} (hs:s.heap.IsSliceOf sl vl vu .none) (pl:IsPart vl lo) (pu:IsPart vu hi)
    (h:Q (((sIx n 0 lo:Nat):Int),1,sIx n n hi - sIx n 0 lo) s):wpAny (model prog w) A (Builtin.Slice.sliceApplied (.ref sl) (pure (n:Int))) Q E s:=by
  obtain ⟨os,hos,hcs,hds⟩:=id hs
  unfold Builtin.Slice.sliceApplied Builtin.Slice.sliceFields
  refine wpAny_bind (wpAny_bind (wpAny_field hos hds (x:=vl) rfl (wpAny_bind (wpAny_field hos hds (x:=vu) rfl (wpAny_bind (wpAny_field hos hds (x:=.none) rfl (wpAny_pure ?_)))))))
  refine wpAny_bind (slicePart_none ?_)
  show wpAny _ _ (if ((1:Int) == 0) = true then _ else _) _ _ s
  rw [if_neg (by decide)]
  refine wpAny_bind (slicePart_ pl (wpAny_bind (slicePart_ pu (wpAny_bind (wpAny_pure ?_)))))
  show wpAny _ _ (match Builtin.Slice.sliceAdjust lo hi 1 (n:Int) with | (lo,hi)=>pure (lo,(1:Int),Builtin.Slice.slicePlaces lo hi 1)) _ _ s
  rw [adjust_gen lo hi n]
  show wpAny _ _ (pure (((sIx n 0 lo:Nat):Int),(1:Int),Builtin.Slice.slicePlaces ((sIx n 0 lo:Nat):Int) ((sIx n n hi:Nat):Int) 1)) _ _ s
  rw [places_gen]
  exact wpAny_pure h
theorem pick_gen (xs:Array Value) (i k:Nat):((List.range k).filterMap fun (m:Nat)=>xs[((i:Int) + (m:Int) * 1).toNat]?).toArray = ((xs.toList.drop i).take k).toArray:=by
  have e:(fun (m:Nat)=>xs[((i:Int) + (m:Int) * 1).toNat]?) = fun m=>xs[i + m]?:=by
    funext m
    have:((i:Int) + (m:Int) * 1).toNat = i + m:=by omega
    rw [this]
  rw [e]
  have:=pick_run xs i k
  rw [List.filterMap_map] at this
  have e2:((fun x=>xs[x]?) ∘ fun x=>i + x) = fun m=>xs[i + m]?:=rfl
  rw [e2] at this
  rw [this]

theorem getItem_tuple_cut {t sl:Addr} {items:Array Value} {vl vu:Value} {lo hi:Option Int} {Q:Value -> Shared -> Prop} (ht:IsTup s.heap t items) (hs:s.heap.IsSliceOf sl vl vu .none) (pl:IsPart vl lo) (pu:IsPart vu hi)
    (hw:¬ (sIx items.size 0 lo = 0 /\ sIx items.size items.size hi = items.size))
    (h:Q (.ref s.heap.objs.size) { s with heap:=s.heap.push { cls:=.type "tuple", data:=.seq ((items.toList.drop (sIx items.size 0 lo)).take (sIx items.size items.size hi - sIx items.size 0 lo)).toArray } })
    (hsz:items.size <= sizeLine):wpAny (model prog w) A (getItem (.ref t) (.ref sl)) Q E s:=by
  have htake:sizeOk (.seq ((items.toList.drop (sIx items.size 0 lo)).take (sIx items.size items.size hi - sIx items.size 0 lo)).toArray):=by
    show ((items.toList.drop (sIx items.size 0 lo)).take (sIx items.size items.size hi - sIx items.size 0 lo)).toArray.size <= sizeLine
    rw [List.size_toArray,List.length_take,List.length_drop,Array.length_toList]
    omega
  have hj:sIx items.size items.size hi <= items.size:=sIx_le _ _ (Nat.le_refl _) hi
  obtain ⟨os,hos,hcs,hds⟩:=id hs
  have hTs:s.TypeIs (.ref sl) "slice" := ⟨os,hos,hcs⟩
  unfold getItem
  try with_reducible refine wpAny_holding ?_
  first | refine wpAny_bind (wpAny_pure ?_) | skip
  refine wpAny_bind (wpAny_sequenceKey ht.typeIs (by decide) ?_)
  refine wpAny_bind (wpAny_callSpecial?_slot (name:=Str.ofString "__getitem__") ht.typeIs PyProof.Rows.slot_tuple_getitem
    (wpAny_call_entry PyProof.Rows.slot_tuple_getitem ht.typeIs entry_tuple_getitem ?_ (args_tuple_getitem _ _)))
  show wpAny _ _ (Builtin.Tuple.tupleItemsOf (.ref t) >>= _) _ _ s
  refine wpAny_bind (tupleItemsOf_ ht ?_)
  refine wpAny_bind (wpAny_typeOf hTs ?_)
  rw [if_pos (by decide)]
  refine wpAny_bind (sliceApplied_gen hs pl pu ?_)
  have hno:¬ ((((sIx items.size 0 lo:Nat):Int) == 0 && (1:Int) == 1 && (sIx items.size items.size hi - sIx items.size 0 lo) == items.size) = true):=by
    intro q
    rw [Bool.and_eq_true,Bool.and_eq_true] at q
    have q1:((sIx items.size 0 lo:Nat):Int) = 0:=eq_of_beq q.1.1
    have q2:sIx items.size items.size hi - sIx items.size 0 lo = items.size:=eq_of_beq q.2
    exact hw ⟨by omega,by omega⟩
  show wpAny _ _ (if (((sIx items.size 0 lo:Nat):Int) == 0 && (1:Int) == 1 && (sIx items.size items.size hi - sIx items.size 0 lo) == items.size) = true then _ else _) _ _ s
  rw [if_neg hno,pick_gen]
  first
    | exact wpAny_bind (m:=Builtin.Tuple.tupleExact _) (wpAny_newObj_type (wpAny_pure ⟨_,rfl,wpAny_pure h⟩) htake)
    | exact wpAny_bind (m:=Builtin.Tuple.tupleExact _) (wpAny_newObj_type (wpAny_bind (wpAny_pure (wpAny_pure ⟨_,rfl,wpAny_pure h⟩))) htake)
    | exact wpAny_bind (wpAny_bind (m:=Builtin.Tuple.tupleExact _) (wpAny_newObj_type (wpAny_pure (wpAny_pure ⟨_,rfl,wpAny_pure h⟩)) htake))
    | exact wpAny_bind (wpAny_bind (m:=Builtin.Tuple.tupleExact _) (wpAny_newObj_type (wpAny_pure ⟨_,rfl,wpAny_pure h⟩) htake))
end
end HT

namespace L2
open PySem PySem.Spec PyProof.Rows

abbrev TO:=St -> Hp -> (Option Int -> Hp -> Prop) -> Prop
noncomputable def PO (X:Cx) (e:Option Expr) (t:TO):Prop :=
  ∀ (pins:List (Addr × Obj)) (s:Shared) (σ:St) (H:Hp) (Q:Option Int -> Hp -> Prop),Inv X pins σ H s -> t σ H Q ->
    wpAny (model X.prog X.w) X.A (evalPart e X.env) (fun u s'=>∃ o H',Inv X pins σ H' s' /\ IsPart u o /\ Q o H') X.xe s
noncomputable def tNoPart:TO:=fun _ H Q=>Q none H
noncomputable def tPart (t:TE):TO:=fun σ H Q=>t σ H fun x H1=>∃ i,x = .int i /\ Q (some i) H1

section
variable {X:Cx} {e:Expr} {te:TE} {lo hi:Option Expr} {tl th:TO} {pos p2:Pos}

theorem po_none:PO X none tNoPart:=by
  intro pins s σ H Q I h
  rw [evalPart_none]
  exact wpAny_pure ⟨none,H,I,.none,h⟩
theorem po_some (h:PE X e te):PO X (some e) (tPart te):=by
  intro pins s σ H Q I hw
  rw [evalPart_some]
  refine thn (h pins s σ H _ I hw) fun u s1 ⟨x,H1,I1,r1,q1⟩=>?_
  obtain ⟨i,rfl,q⟩:=q1
  obtain ⟨t,rfl⟩:=r1
  exact ⟨some i,H1,I1,.int i t,q⟩

noncomputable def SlR (X:Cx) (r:V -> Option Int -> Option Int -> Hp -> VK -> Prop):Prop :=
  ∀ (pins:List (Addr × Obj)) (s:Shared) (σ:St) (H:Hp) (x:V) (v vl vu:Value) (lo hi:Option Int) (sl:Addr) (Q:VK),Inv X pins σ H s -> RelV x v -> s.heap.IsSliceOf sl vl vu .none -> IsPart vl lo -> IsPart vu hi -> r x lo hi H Q ->
    ∃ T id,typeLookup (.type T) "__getitem__" = pure (some (.builtin id)) /\ s.TypeIs v T /\ wpAny (model X.prog X.w) X.A (getItem v (.ref sl)) (EP X pins σ Q) X.xe s
noncomputable def tSl (r:V -> Option Int -> Option Int -> Hp -> VK -> Prop) (te:TE) (tl th:TO):TE:=fun σ H Q=>te σ H fun x H1=>tl σ H1 fun l H2=>th σ H2 fun u H3=>r x l u H3 Q
theorem pe_slice {r:V -> Option Int -> Option Int -> Hp -> VK -> Prop} (hr:SlR X r) (he:PE X e te) (hl:PO X lo tl) (hu:PO X hi th):PE X (.Subscript e (.Slice lo hi none p2) pos) (tSl r te tl th):=by
  intro pins s σ H Q I h
  refine Subscript_ (thn (he pins s σ H _ I h) fun v s1 ⟨x,H1,I1,r1,q1⟩=>?_)
  refine wpAny_Slice (thn (hl pins s1 σ H1 _ I1 q1) fun vl s2 ⟨l,H2,I2,pl,q2⟩=>thn (hu pins s2 σ H2 _ I2 q2) fun vu s3 ⟨u,H3,I3,pu,q3⟩=>?_)
  rw [evalPart_none]
  refine wpAny_pure ?_
  have I4:Inv X pins σ H3 { s3 with heap:=s3.heap.push { cls:=.type "slice", data:=.fields #[vl,vu,.none] } }:=I3.kept (t':=s3.toks) fun b ob q=>Heap.get?_push_of_some _ q
  obtain ⟨T,id,hT,ht,hg⟩:=hr pins { s3 with heap:=s3.heap.push { cls:=.type "slice", data:=.fields #[vl,vu,.none] } } σ H3 x v vl vu l u s3.heap.objs.size Q I4 r1 (Heap.IsSliceOf.new ..) pl pu q3
  show wpAny (model X.prog X.w) X.A (subscriptTail e (.Slice lo hi none p2) v (.ref s3.heap.objs.size)) (EP X pins σ Q) X.xe { s3 with heap:=s3.heap.push { cls:=.type "slice", data:=.fields #[vl,vu,.none] } }
  exact tail_any (ops:=[.ref s3.heap.objs.size,v]) ht hT hg (by with_unfolding_all rfl)

noncomputable def cutV (xs:List V) (lo hi:Option Int):List V:=(xs.drop (HT.sIx xs.length 0 lo)).take (HT.sIx xs.length xs.length hi - HT.sIx xs.length 0 lo)
theorem cutV_length (xs:List V) (lo hi:Option Int):(cutV xs lo hi).length <= xs.length:=by
  unfold cutV
  rw [List.length_take,List.length_drop]
  omega
noncomputable def rSlT (K:W.Frag):V -> Option Int -> Option Int -> Hp -> VK -> Prop:=fun x lo hi H Q=>∃ a xs,x = .ref a /\ SqT K H a xs /\
  ¬ (HT.sIx xs.length 0 lo = 0 /\ HT.sIx xs.length xs.length hi = xs.length) /\ ∀ p,H p = none -> Q (.ref p) (upd H p (.tup (cutV xs lo hi)))
theorem sl_tup:SlR X (rSlT X.K):=by
  intro pins s σ H x v vl vu lo hi sl Q I rx hs pl pu h
  obtain ⟨a,xs,rfl,hx,hw,q⟩:=h
  cases rx
  obtain ⟨its,r,ht,hz⟩:=I.tuple hx
  have hlen:its.toArray.size = xs.length:=by rw [List.size_toArray]; exact r.length.symm
  refine ⟨"tuple", _,PyProof.Rows.slot_tuple_getitem.lookup,ht.typeIs,?_⟩
  refine HT.getItem_tuple_cut ht hs pl pu (by rw [hlen]; exact hw) ?_ (by rw [hlen]; exact hz)
  rw [hlen]
  refine ⟨.ref s.heap.objs.size,_,I.laid (t':=s.toks) (o:=.tup (cutV xs lo hi)) (fun b ob q=>Heap.get?_push_of_some _ q) (Nat.le_refl _) ?_,rfl,q _ (I.hok.fresh (Nat.le_refl _))⟩
  exact ⟨Nat.le_trans (cutV_length xs lo hi) hz,_,(r.drop (HT.sIx xs.length 0 lo)).take (HT.sIx xs.length xs.length hi - HT.sIx xs.length 0 lo),IsTupD.new _ _⟩

noncomputable def rCatT (K:W.Frag):R2:=fun x y H Q=>∃ a b xs ys,x = .ref a /\ y = .ref b /\ SqT K H a xs /\ SqT K H b ys /\ xs ≠ [] /\ xs.length + ys.length <= sizeLine /\
  (ys = [] -> Q (.ref a) H) /\ (ys ≠ [] -> ∀ p,H p = none -> Q (.ref p) (upd H p (.tup (xs ++ ys))))
theorem Vals.nil_iff {xs:List V} {us:List Value} (r:Vals xs us):us = [] ↔ xs = []:=by
  cases r with
  | nil=>simp
  | cons _ _=>simp
theorem op_catT:OpR X (binaryOp .Add) (rCatT X.K):=by
  intro pins s σ H x y v u Q I rx ry h
  obtain ⟨a,b,xs,ys,rfl,rfl,ha,hb,hx,hz,q1,q2⟩:=h
  cases rx
  cases ry
  obtain ⟨its,r1,p1,_⟩:=I.tuple ha
  obtain ⟨its2,r2,p2,_⟩:=I.tuple hb
  refine HT.cat_tup p1 p2 (fun z=>hx (r1.nil_iff.mp z)) (fun z=>⟨.ref a,H,I,rfl,q1 (r2.nil_iff.mp z)⟩) (fun z=>?_) (by rw [<- r1.length,<- r2.length]; exact hz)
  refine ⟨.ref s.heap.objs.size,_,I.laid (t':=s.toks) (o:=.tup (xs ++ ys)) (fun b ob q=>Heap.get?_push_of_some _ q) (Nat.le_refl _) ?_,rfl,q2 (fun w=>z (r2.nil_iff.mpr w)) _ (I.hok.fresh (Nat.le_refl _))⟩
  exact ⟨by rw [List.length_append]; exact hz,_,r1.append r2,IsTupD.new _ _⟩
end
end L2

namespace L2
open PySem PySem.Spec PyProof.Rows

noncomputable def ixN (n:Nat) (i:Int):Option Nat:=if 0 <= i then (if i < n then some i.toNat else none) else if -(n:Int) <= i then some (i + n).toNat else none
noncomputable def atI {α:Type} (xs:List α) (i:Int):Option α:=(ixN xs.length i).bind fun j=>xs[j]?
theorem ixN_seq {n:Nat} {i:Int} {j:Nat} (h:ixN n i = some j):seqIndex? i n = some j /\ j < n /\ -(n:Int) <= i /\ i < n:=by
  unfold ixN at h
  by_cases h0 : 0 <= i
  · rw [if_pos h0] at h
    by_cases h1:i < n
    · rw [if_pos h1] at h
      have e:i.toNat = j:=Option.some.inj h
      exact ⟨by rw [seqIndex_of h0 h1,e],by omega,by omega,h1⟩
    · rw [if_neg h1] at h; cases h
  · rw [if_neg h0] at h
    by_cases h1 : -(n:Int) <= i
    · rw [if_pos h1] at h
      have e:(i + n).toNat = j:=Option.some.inj h
      exact ⟨by rw [seqIndex_neg (by omega) h1,e],by omega,h1,by omega⟩
    · rw [if_neg h1] at h; cases h
theorem atI_get {α:Type} {xs:List α} {i:Int} {v : α} (h:atI xs i = some v):∃ j,seqIndex? i xs.length = some j /\ xs[j]? = some v /\ j < xs.length /\ -(xs.length:Int) <= i /\ i < xs.length:=by
  unfold atI at h
  cases e:ixN xs.length i with
  | none=>rw [e] at h; cases h
  | some j =>
    rw [e] at h
    obtain ⟨h1,h2,h3,h4⟩:=ixN_seq e
    exact ⟨j,h1,h,h2,h3,h4⟩
theorem atI_nat {α:Type} {xs:List α} {j:Nat} {v : α} (h:xs[j]? = some v):atI xs (j:Int) = some v:=by
  have hj:j < xs.length:=(List.getElem?_eq_some_iff.mp h).1
  have e:ixN xs.length (j:Int) = some j:=by
    unfold ixN
    rw [if_pos (by omega),if_pos (by omega)]; simp
  unfold atI; rw [e]; exact h
noncomputable def PlainIx (b:Expr):Prop:=∀ o i,subscripted b false o i = operate [o,i] (getItem o i)
noncomputable def IxR (X:Cx) (r:R2):Prop :=
  ∀ (value slice:Expr) (pins:List (Addr × Obj)) (s:Shared) (σ:St) (H:Hp) (x y:V) (v u:Value) (Q:VK),Inv X pins σ H s -> RelV x v -> RelV y u -> r x y H Q ->
    subscripted slice false v u = operate [v,u] (getItem v u) -> wpAny (model X.prog X.w) X.A (subscriptTail value slice v u) (EP X pins σ Q) X.xe s
noncomputable def MtR (X:Cx) (id:String) (r:V -> List V -> Hp -> VK -> Prop):Prop :=
  ∀ (pins:List (Addr × Obj)) (s:Shared) (σ:St) (H:Hp) (x:V) (xs:List V) (v:Value) (us:List Value) (Q:VK),Inv X pins σ H s -> RelV x v -> Vals xs us -> r x xs H Q ->
    wpAny (model X.prog X.w) X.A (call (.builtin id) (v :: us)) (EP X pins σ Q) X.xe s
section
variable {X:Cx} {a b:Expr} {ta tb:TE} {pos:Pos}
theorem IxR.or {r r':R2} (h:IxR X r) (h':IxR X r'):IxR X (fun x y H Q=>r x y H Q \/ r' x y H Q):=by
  intro value slice pins s σ H x y v u Q I rx ry q hs
  rcases q with q | q
  · exact h value slice pins s σ H x y v u Q I rx ry q hs
  · exact h' value slice pins s σ H x y v u Q I rx ry q hs
theorem pe_ix {r:R2} (hr:IxR X r) (ha:PE X a ta) (hb:PE X b tb) (hs:PlainIx b):PE X (.Subscript a b pos) (tOp r ta tb):=by
  intro pins s σ H Q I h
  exact Subscript_ (binT ha hb I h fun v u s2 x y H2 I2 rx ry q=>hr a b pins s2 σ H2 x y v u Q I2 rx ry q (hs _ _))

noncomputable def rIxL (K:W.Frag):R2:=fun x y H Q=>∃ p xs i v,x = .ref p /\ y = .int i /\ SqL K H p xs /\ atI xs i = some v /\ Q v H
noncomputable def rIxT (K:W.Frag):R2:=fun x y H Q=>∃ p xs i v,x = .ref p /\ y = .int i /\ SqT K H p xs /\ atI xs i = some v /\ Q v H
noncomputable def rIxS:R2:=fun x y H Q=>∃ z i c,x = .str z /\ y = .int i /\ z.length <= sizeLine /\ atI z.cps.toList i = some c /\ Q (.str ⟨#[c]⟩) H
theorem ix_list:IxR X (rIxL X.K):=by
  intro value slice pins s σ H x y v u Q I rx ry h hs
  obtain ⟨p,xs,i,z,rfl,rfl,hq,he,q⟩:=h
  cases rx
  obtain ⟨t,rfl⟩:=ry
  obtain ⟨its,r,pl,hz⟩:=I.list hq
  obtain ⟨j,h1,h2,h3,h4,h5⟩:=atI_get he
  obtain ⟨w,ew,rw'⟩:=r.get h2
  have hl:=r.length
  have hn:=line63
  have fin:EP X pins σ Q w s:=⟨z,H,I,rw',q⟩
  by_cases h0 : 0 <= i
  · have hj:i.toNat = j:=by
      rw [seqIndex_of h0 h5] at h1
      exact Option.some.inj h1
    exact item_listR pl.isList h0 (by omega) (by rw [hj]; simpa using ew) fin hs
  · have hj:(i + (its.toArray.size:Int)).toNat = j:=by
      rw [seqIndex_neg (by omega) h4] at h1
      rw [List.size_toArray,<- hl]
      exact Option.some.inj h1
    exact subscriptTail_builtinR (x:=w) pl.isList.typeIs slot_list_getitem.lookup
      (wpAny_getItem_list_neg (Q:=fun r s'=>r = w /\ EP X pins σ Q r s') pl.isList (by omega) (by rw [List.size_toArray] <;> omega) (by omega) (by rw [hj]; simpa using ew) ⟨rfl,fin⟩) hs
theorem ix_tup:IxR X (rIxT X.K):=by
  intro value slice pins s σ H x y v u Q I rx ry h hs
  obtain ⟨p,xs,i,z,rfl,rfl,hq,he,q⟩:=h
  cases rx
  obtain ⟨t,rfl⟩:=ry
  obtain ⟨its,r,pl,hz⟩:=I.tuple hq
  obtain ⟨j,h1,h2,h3,h4,h5⟩:=atI_get he
  obtain ⟨w,ew,rw'⟩:=r.get h2
  have hl:=r.length
  have hn:=line63
  have fin:EP X pins σ Q w s:=⟨z,H,I,rw',q⟩
  exact subscriptTail_builtinR (x:=w) pl.typeIs slot_tuple_getitem.lookup
    (getItem_tuple (j:=j) (Q:=fun r s'=>r = w /\ EP X pins σ Q r s') pl (by omega) (by omega) (by rw [List.size_toArray,<- hl]; exact h1) (by simpa using ew) ⟨rfl,fin⟩) hs
theorem ix_str:IxR X rIxS:=by
  intro value slice pins s σ H x y v u Q I rx ry h hs
  obtain ⟨z,i,c,rfl,rfl,hz,he,q⟩:=h
  obtain ⟨t,rfl⟩:=rx
  obtain ⟨t',rfl⟩:=ry
  obtain ⟨j,h1,h2,h3,h4,h5⟩:=atI_get he
  have hl:z.cps.toList.length = z.length:=by simp [Str.length]
  rw [hl] at h1 h4 h5
  have hn:=line63
  exact tail_any (typeIs_str s z t) slot_str_getitem.lookup (getItem_str (c:=c) (by
    have e1:decide (i < -(2 ^ 63:Int)) = false:=decide_eq_false (by omega)
    have e2:decide (i ≥ 2 ^ 63) = false:=decide_eq_false (by omega)
    rw [e1,e2,Bool.or_false]) (by rw [h1]; simpa using h2) ⟨.str ⟨#[c]⟩,H,I.tok _,⟨_,rfl⟩,q⟩) hs
noncomputable def rIx (K:W.Frag):R2:=fun x y H Q=>rIxL K x y H Q \/ rIxT K x y H Q \/ rIxS x y H Q
theorem ix_seq:IxR X (rIx X.K):=ix_list.or (ix_tup.or ix_str)

theorem slice_bounds (lo hi:Option Int) (n:Nat):(sliceBounds lo hi none n).1 = ((HT.sIx n 0 lo:Nat):Int) /\ (sliceBounds lo hi none n).2.1 = ((HT.sIx n n hi:Nat):Int) /\ (sliceBounds lo hi none n).2.2 = 1:=by
  refine ⟨?_,?_,rfl⟩
  · cases lo with
    | none=>simp [sliceBounds,HT.sIx]
    | some i =>
      simp only [sliceBounds,HT.sIx,Option.getD_none,show (1:Int) > 0 by decide,if_true]
      by_cases h:i < 0
      · simp only [h,if_true] <;> omega
      · simp only [h,if_false] <;> omega
  · cases hi with
    | none=>simp [sliceBounds,HT.sIx]
    | some i =>
      simp only [sliceBounds,HT.sIx,Option.getD_none,show (1:Int) > 0 by decide,if_true]
      by_cases h:i < 0
      · simp only [h,if_true] <;> omega
      · simp only [h,if_false] <;> omega
theorem slicePick_cut (its:List Value) (lo hi:Option Int):slicePick its.toArray lo hi none = ((its.drop (HT.sIx its.length 0 lo)).take (HT.sIx its.length its.length hi - HT.sIx its.length 0 lo)).toArray:=by
  obtain ⟨h1,h2,h3⟩:=slice_bounds lo hi its.toArray.size
  unfold slicePick
  rw [h1,h2,h3]
  simp only [sliceRange_one,pick_run,List.size_toArray] <;> rfl
noncomputable def rSlL (K:W.Frag):V -> Option Int -> Option Int -> Hp -> VK -> Prop:=fun x lo hi H Q=>∃ a xs,x = .ref a /\ SqL K H a xs /\ ∀ p,H p = none -> Q (.ref p) (upd H p (.lst (cutV xs lo hi)))
theorem sl_list:SlR X (rSlL X.K):=by
  intro pins s σ H x v vl vu lo hi sl Q I rx hs pl pu h
  obtain ⟨a,xs,rfl,hx,q⟩:=h
  cases rx
  obtain ⟨its,r,ht,hz⟩:=I.list hx
  have hlen:=r.length
  refine ⟨"list", _,slot_list_getitem.lookup,ht.isList.typeIs,?_⟩
  refine wpAny_getItem_list_slice ht.isList hs pl pu .none (by simp) ?_ (by rw [List.size_toArray] <;> omega)
  rw [slicePick_cut,<- hlen]
  refine ⟨.ref s.heap.objs.size,_,I.laid (t':=s.toks) (o:=.lst (cutV xs lo hi)) (fun b ob q=>Heap.get?_push_of_some _ q) (Nat.le_refl _) ?_,rfl,q _ (I.hok.fresh (Nat.le_refl _))⟩
  exact ⟨Nat.le_trans (cutV_length xs lo hi) hz,_,0,(r.drop (HT.sIx xs.length 0 lo)).take (HT.sIx xs.length xs.length hi - HT.sIx xs.length 0 lo),Heap.get?_push_size _ rfl⟩

theorem call_len_seq:CallR X (.builtin "len") (fun xs H Q=>∃ p ys,xs = [.ref p] /\ (SqL X.K H p ys \/ SqT X.K H p ys) /\ Q (.int ys.length) H):=by
  intro pins s σ H xs us Q I r h
  obtain ⟨p,ys,rfl,hq,q⟩:=h
  obtain ⟨u,rfl,rx⟩:=vals1 r
  cases rx
  have hn:=line63
  rcases hq with hq | hq
  · obtain ⟨its,r',pl,hz⟩:=I.list hq
    have hlen:=r'.length
    exact Calls.call_len_list pl.isList (by simp only [List.size_toArray] <;> omega) ⟨.int ys.length,H,I.tok _,⟨s.toks + 1,by rw [List.size_toArray,hlen]⟩,q⟩
  · obtain ⟨its,r',pl,hz⟩:=I.tuple hq
    have hlen:=r'.length
    exact len_tuple pl (by simp only [List.size_toArray] <;> omega) ⟨.int ys.length,H,I.tok _,⟨s.toks + 1,by rw [List.size_toArray,hlen]⟩,q⟩
theorem call_list_of:CallR X (.type "list") (fun xs H Q=>∃ p ys,xs = [.ref p] /\ (SqL X.K H p ys \/ SqT X.K H p ys) /\ ∀ l,H l = none -> Q (.ref l) (upd H l (.lst ys))):=by
  intro pins s σ H xs us Q I r h
  obtain ⟨p,ys,rfl,hq,q⟩:=h
  obtain ⟨u,rfl,rx⟩:=vals1 r
  cases rx
  have fin:∀ (its:List Value),Vals ys its -> ys.length <= sizeLine -> ∀ (h':Heap) (c':Nat),(∀ b o',s.heap.get? b = some o' -> h'.get? b = some o') ->
      h'.get? s.heap.objs.size = some { cls:=.type "list", dict:=none,data:=.seq its.toArray c',slots:=#[] } -> EP X pins σ Q (.ref s.heap.objs.size) { s with heap:=h' }:=fun its r' hz h' c' kp e =>
    ⟨.ref s.heap.objs.size,_,I.laid (t':=s.toks) kp (Nat.le_refl _) (show ObjOk X.prog X.w _ h' _ (.lst ys) from ⟨hz,its,c',r',e⟩),rfl,q _ (I.hok.fresh (Nat.le_refl _))⟩
  rcases hq with hq | hq
  · obtain ⟨its,r',pl,hz⟩:=I.list hq
    have hlen:=r'.length
    obtain ⟨o,ho,hc,n,hd⟩:=pl.isList
    exact call_list_seq p (.inl rfl) ho hc hd (fun h' c' kp e=>fin its r' hz h' c' kp e) (by simp only [List.size_toArray] <;> omega)
  · obtain ⟨its,r',pl,hz⟩:=I.tuple hq
    have hlen:=r'.length
    obtain ⟨o,ho,hc,n,hd⟩:=pl
    exact call_list_seq p (.inr rfl) ho hc hd (fun h' c' kp e=>fin its r' hz h' c' kp e) (by simp only [List.size_toArray] <;> omega)
theorem call_tuple_of:CallR X (.type "tuple") (fun xs H Q=>∃ p ys,xs = [.ref p] /\ ((SqL X.K H p ys /\ ∀ l,H l = none -> Q (.ref l) (upd H l (.tup ys))) \/ (SqT X.K H p ys /\ Q (.ref p) H))):=by
  intro pins s σ H xs us Q I r h
  obtain ⟨p,ys,rfl,h⟩:=h
  obtain ⟨u,rfl,rx⟩:=vals1 r
  cases rx
  rcases h with ⟨hq,q⟩ | ⟨hq,q⟩
  · obtain ⟨its,r',pl,hz⟩:=I.list hq
    have hlen:=r'.length
    refine call_tuple_list pl.isList (fun h' kp=>?_) (by simp only [List.size_toArray] <;> omega)
    have I1:Inv X pins σ H { s with heap:=h' }:=I.kept (t':=s.toks) kp
    have I2:Inv X pins σ (upd H h'.objs.size (.tup ys)) { s with heap:=h'.push { cls:=.type "tuple", data:=.seq its.toArray } } :=
      I1.laid (t':=s.toks) (fun b o e=>Heap.get?_push_of_some _ e) (Nat.le_refl _) (show ObjOk X.prog X.w _ _ _ (.tup ys) from ⟨hz,its,r',IsTupD.new _ _⟩)
    exact ⟨.ref h'.objs.size,_,I2,rfl,q _ (I1.hok.fresh (Nat.le_refl _))⟩
  · obtain ⟨its,r',pl,hz⟩:=I.tuple hq
    exact call_tuple_same pl ⟨.ref p,H,I,rfl,q⟩

noncomputable def tyV (K:W.Frag) (T:String) (x:V) (H:Hp):Prop:=match x with
  | .str _=>T = "str"
  | .int _=>T = "int"
  | .ref p=>(T = "list" /\ ∃ xs,SqL K H p xs) \/ (T = "tuple" /\ ∃ xs,SqT K H p xs) \/
      (T = "dict" /\ ((∃ kvs,H p = some (.dK kvs)) \/ ∃ kvs,H p = some (.dT kvs))) \/ (T = "set" /\ ∃ S n,H p = some (.set S n))
  | _=>False
theorem tyV_is {pins:List (Addr × Obj)} {σ:St} {H:Hp} {s:Shared} {T:String} {x:V} {v:Value} (I:Inv X pins σ H s) (r:RelV x v) (ty:tyV X.K T x H) :
    s.TypeIs v T /\ ∀ a,v = .ref a -> ∃ ob,s.heap.get? a = some ob /\ ob.dict = none:=by
  cases x with
  | str z =>
    obtain ⟨t,rfl⟩:=r
    cases (show T = "str" from ty)
    exact ⟨typeIs_str s z t,fun _ e=>nomatch e⟩
  | int i =>
    obtain ⟨t,rfl⟩:=r
    cases (show T = "int" from ty)
    exact ⟨typeIs_int s i t,fun _ e=>nomatch e⟩
  | ref p =>
    cases r
    rcases ty with ⟨rfl,xs,hq⟩ | ⟨rfl,xs,hq⟩ | ⟨rfl,hk⟩ | ⟨rfl,S,n,hk⟩
    · obtain ⟨its,_,pl,_⟩:=I.list hq
      refine ⟨pl.isList.typeIs,fun a e=>?_⟩
      cases e
      obtain ⟨o,n,e,c,hd,_⟩:=pl
      exact ⟨o,e,hd⟩
    · obtain ⟨o,e1,e2,e3⟩:=I.tupleD hq
      refine ⟨⟨o,e1,e2⟩,fun a e=>?_⟩
      cases e
      exact ⟨o,e1,e3⟩
    · have z:∃ o,s.heap.get? p = some o /\ o.ExactDict:=by
        rcases hk with ⟨kvs,hk⟩ | ⟨kvs,hk⟩
        · obtain ⟨_,_,_,_,o,_,_,e,ex,_⟩:=I.hok p _ hk
          exact ⟨o,e,ex⟩
        · obtain ⟨_,_,_,_,o,_,_,e,ex,_⟩:=I.hok p _ hk
          exact ⟨o,e,ex⟩
      obtain ⟨o,e,ex⟩:=z
      refine ⟨⟨o,e,ex.1⟩,fun a e2=>?_⟩
      cases e2
      exact ⟨o,e,ex.2.1⟩
    · obtain ⟨o,_,_,_,e,ex,_⟩:=I.hok p _ hk
      refine ⟨⟨o,e,ex.1⟩,fun a e2=>?_⟩
      cases e2
      exact ⟨o,e,ex.2.1⟩
  | _=>exact False.elim ty
noncomputable def tBM (K:W.Frag) (T:String) (r:V -> List V -> Hp -> VK -> Prop) (to:TE) (t:TA):TE:=fun σ H Q=>to σ H fun x H1=>tyV K T x H1 /\ t σ H1 fun xs H2=>r x xs H2 Q
variable {o e:Expr} {es:List Expr} {to:TE} {t:TA} {name:Str} {apos cpos:Pos} {T id:String} {r:V -> List V -> Hp -> VK -> Prop}
theorem pe_bm (pa:PlainAttrs T) (slot:Slot T name id) (hty:typeOf (.builtin id) = pure (.type "method_descriptor")) (hm:MtR X id r) (ho:PE X o to) (ha:PA X (e :: es) t)
    (hbase:attributeBase o name X.env (eval o X.env) = eval o X.env:=by rfl)
    (hfew:((backTo cpos (starEach (e :: es) X.env)).all (fun x=>!x.1) && (backToKw cpos (keywordEach [] X.env)).all (fun x=>x.1.isSome)
      && decide ((e :: es).length + ([]:List Keyword).length + (if ([]:List Keyword).isEmpty then 0 else 1) < 30)) = true:=by rfl)
    (hline:(apos.endLine == cpos.line) = true:=by rfl) (hs:starEach (e :: es) X.env = (false,eval e X.env) :: starEach es X.env:=by rfl) (hplain:(backTo cpos (starEach es X.env)).any (·.1) = false:=by rfl) :
    PE X (.Call (.Attribute o name apos) (e :: es) [] cpos) (tBM X.K T r to t):=by
  intro pins s σ H Q I h
  refine wpAny_Call_method_late hbase hfew hline rfl (thn (ho pins s σ H _ I h) fun v s1 ⟨x,H1,I1,r1,ty,q1⟩=>?_)
  obtain ⟨h1,h2⟩:=tyV_is I1 r1 ty
  refine ⟨T,id,pa,slot,hty,h1,h2,?_⟩
  have hA:=ha cpos pins s1 σ H1 _ I1 q1
  rw [hs] at hA ⊢
  refine Calls.callWith_builtin (by show (false || (backTo cpos (starEach es X.env)).any (·.1)) = false; rw [hplain] <;> rfl) (Calls.evalArgs_plain ?_)
  exact thn hA fun us s2 ⟨vs,H2,I2,r2,q2⟩=>hm pins s2 σ H2 x vs v us Q I2 r1 r2 q2

end
end L2

namespace L2
open PySem PySem.Spec PyProof.Rows

noncomputable def MtM (X:Cx) (id:String) (r:V -> List V -> Hp -> VK -> Prop):Prop :=
  ∀ (pins:List (Addr × Obj)) (s:Shared) (σ:St) (H:Hp) (x:V) (xs:List V) (v:Value) (us:List Value) (Q:VK),Inv X pins σ H s -> RelV x v -> Vals xs us -> r x xs H Q ->
    wpAny (model X.prog X.w) X.A (call (.builtin id) (v :: us)) (EP X pins σ Q) X.xe s

theorem Vals.one:∀ {x:V} {us:List Value},Vals [x] us -> ∃ u,us = [u] /\ RelV x u
  | _,_,.cons r .nil=>⟨_,rfl,r⟩
theorem Vals.rep {xs:List V} {us:List Value} (h:Vals xs us):∀ k:Nat,Vals (List.replicate k xs).flatten (List.replicate k us).flatten
  | 0=>.nil
  | k + 1=>by
    rw [List.replicate_succ,List.replicate_succ,List.flatten_cons,List.flatten_cons]
    exact Vals.append h (Vals.rep h k)
theorem foldl_rep (its:List Value):∀ (k:Nat) (acc:List Value),
    List.foldl (fun x1 x2=>x1 ++ x2) acc.toArray (List.replicate k its.toArray) = (acc ++ (List.replicate k its).flatten).toArray
  | 0,acc=>by simp
  | k + 1,acc=>by
    have e:acc.toArray ++ its.toArray = (acc ++ its).toArray:=by simp
    have e2:(acc ++ its) ++ (List.replicate k its).flatten = acc ++ (List.replicate (k + 1) its).flatten:=by
      rw [List.replicate_succ,List.flatten_cons,List.append_assoc]
    rw [<- e2,<- foldl_rep its k (acc ++ its),<- e,List.replicate_succ,List.foldl_cons]

section
variable {X:Cx} {pins:List (Addr × Obj)} {σ:St} {H:Hp} {s:Shared} {l b:Addr} {xs ys zs:List V}

theorem Inv.lset {its its':List Value} {n:Nat} {f:Array Value -> Array Value} {t':Nat} (I:Inv X pins σ H s) (hH:H l = some (.lst xs))
    (e:s.heap.get? l = some { cls:=.type "list", data:=.seq its.toArray n }) (hf:f its.toArray = its'.toArray) (hv:Vals ys its') (hz:ys.length <= sizeLine) :
    Inv X pins σ (upd H l (.lst ys)) { s with heap:=s.heap.update l (Obj.mapSeq f),toks:=t' }:=by
  have q:=PySem.IsL.update e f
  rw [hf] at q
  refine I.write (x:=l) (e:=l) (by rw [hH]; exact trivial) (.inl rfl) (fun b' u hb hu=>(Heap.get?_update_other s.heap (Obj.mapSeq f) (Ne.symm hb)).trans hu) ⟨_,q⟩ ?_
  exact ⟨hz,its',_,hv,q⟩
theorem Inv.lnew {its:List Value} {t':Nat} (I:Inv X pins σ H s) (hv:Vals ys its) (hz:ys.length <= sizeLine) :
    Inv X pins σ (upd H s.heap.objs.size (.lst ys)) { s with heap:=s.heap.push { cls:=.type "list", data:=.seq its.toArray },toks:=t' } :=
  I.laid (fun _ _ q=>Heap.get?_push_of_some _ q) (Nat.le_refl _) ⟨hz,its,0,hv,Heap.get?_push_size _ rfl⟩
theorem Inv.fresh (I:Inv X pins σ H s):H s.heap.objs.size = none:=I.hok.fresh (Nat.le_refl _)
theorem Inv.lstM (I:Inv X pins σ H s) (hH:H l = some (.lst xs)):xs.length <= sizeLine /\ ∃ (its:List Value) (n:Nat),Vals xs its /\ xs.length = its.length /\ s.heap.get? l = some { cls:=.type "list", data:=.seq its.toArray n }:=by
  obtain ⟨z,its,n,r,e⟩:=I.hok l _ hH
  exact ⟨z,its,n,r,r.length,e⟩

theorem notLongL {n:Nat} (h:n <= sizeLine):Builtin.List.listTooLong n = false:=by
  unfold Builtin.List.listTooLong
  exact decide_eq_false (by omega)
end

section
variable {X:Cx}

noncomputable def rAppend:V -> List V -> Hp -> VK -> Prop:=fun x vs H Q=>∃ l xs y,x = .ref l /\ vs = [y] /\ H l = some (.lst xs) /\ xs.length < sizeLine /\ Q .non (upd H l (.lst (xs ++ [y])))
theorem mt_append:MtM X "list.append" rAppend:=by
  intro pins s σ H x vs v us Q I rx rv h
  obtain ⟨l,xs,y,rfl,rfl,hH,hz,q⟩:=h
  cases rx
  obtain ⟨u,rfl,ru⟩:=rv.one
  obtain ⟨z,its,n,r,hl,e⟩:=I.lstM hH
  refine call_meets F.slot_list_append ⟨_,e,rfl⟩ F.entry_list_append (F.args_list_append_2 _ _) (PySem.list_append l its.toArray n u (by rw [List.size_toArray]; omega)) ⟨e,?_⟩
  refine ⟨.non,_,I.lset (its':=its ++ [u]) hH e (by simp) (r.append (.cons ru .nil)) ?_,rfl,q⟩
  rw [List.length_append,List.length_singleton]
  omega

noncomputable def rCat:R2:=fun x y H Q=>∃ l b xs zs,x = .ref l /\ y = .ref b /\ H l = some (.lst xs) /\ H b = some (.lst zs) /\ xs.length + zs.length <= sizeLine /\ ∀ p,H p = none -> Q (.ref p) (upd H p (.lst (xs ++ zs)))
theorem op_cat:OpR X (binaryOp .Add) rCat:=by
  intro pins s σ H x y v u Q I rx ry h
  obtain ⟨l,b,xs,zs,rfl,rfl,hH,hB,hz,q⟩:=h
  cases rx
  cases ry
  obtain ⟨z,its,n,r,hl,e⟩:=I.lstM hH
  obtain ⟨z2,its2,n2,r2,hl2,e2⟩:=I.lstM hB
  refine PySem.P.add_list e e2 ?_ (by rw [List.size_toArray,List.size_toArray]; omega)
  have ea:its.toArray ++ its2.toArray = (its ++ its2).toArray:=by simp
  rw [ea]
  exact ⟨.ref _,_,I.lnew (t':=s.toks) (r.append r2) (by rw [List.length_append]; omega),rfl,q _ I.fresh⟩
noncomputable def rRep:R2:=fun x y H Q=>∃ l k xs,x = .ref l /\ y = .int k /\ H l = some (.lst xs) /\ -(2 ^ 63) <= k /\ k < 2 ^ 63 /\ xs.length * k.toNat <= sizeLine /\
  ∀ p,H p = none -> Q (.ref p) (upd H p (.lst (List.replicate k.toNat xs).flatten))
theorem len_rep {α:Type} (xs:List α) (k:Nat):(List.replicate k xs).flatten.length = k * xs.length:=by
  induction k with
  | zero=>simp
  | succ k ih=>rw [List.replicate_succ,List.flatten_cons,List.length_append,ih,Nat.succ_mul,Nat.add_comm]
theorem op_rep:OpR X (binaryOp .Mult) rRep:=by
  intro pins s σ H x y v u Q I rx ry h
  obtain ⟨l,k,xs,rfl,rfl,hH,h1,h2,hz,q⟩:=h
  cases rx
  obtain ⟨t,rfl⟩:=ry
  obtain ⟨z,its,n,r,hl,e⟩:=I.lstM hH
  have hlen:its.toArray.size * k.toNat <= sizeLine:=by rw [List.size_toArray,<- hl]; exact hz
  have hcap:¬ its.toArray.size * k.toNat > (2 ^ 63 - 1) / 8:=by
    have:(sizeLine:Nat) <= (2 ^ 63 - 1) / 8:=by decide
    omega
  have hfit:¬ (!Builtin.List.listFitsIndex k) = true:=by
    rw [fitsIndex_both h1 h2]
    exact Bool.false_ne_true
  have hlong:¬ Builtin.List.listTooLong (its.toArray.size * k.toNat) = true:=by
    rw [notLongL hlen]
    exact Bool.false_ne_true
  have hnew:List.foldl (fun x1 x2=>x1 ++ x2) #[] (List.replicate (if its.toArray.isEmpty = true then 0 else k.toNat) its.toArray) = (List.replicate k.toNat its).flatten.toArray:=by
    have f0:∀ m:Nat,List.foldl (fun x1 x2=>x1 ++ x2) #[] (List.replicate m its.toArray) = (List.replicate m its).flatten.toArray:=fun m=>by
      have:=foldl_rep its m []
      rw [List.nil_append] at this
      exact this
    rw [f0]
    cases its with
    | nil=>simp
    | cons a r'=>rw [if_neg (by simp)]
  refine wpAny_binaryOp_repeat_ref (T := "list") (U := "int") (by decide) ⟨_,e,rfl⟩ (fun s'=>typeIs_int s' k t) noFill_list_mul F.fills_int_mul F.slot_int_rmul repeat_list F.slot_int_index.lookup
    (call_meets F.slot_int_rmul (typeIs_int s k t) F.entry_int_rmul (F.args_int_rmul_2 _ _) (int___rmul___int_list k t l its.toArray n)
      ⟨e,rfl,⟨_,e,rfl⟩,call_meets F.slot_list_mul ⟨_,e,rfl⟩ F.entry_list_mul (F.args_list_mul_2 _ _) (AutoListH.list___mul___list_int_3 l its.toArray n k t hfit hcap hlong) ⟨e,?_⟩⟩)
  rw [hnew]
  exact ⟨.ref _,_,I.lnew (t':=s.toks) (r.rep k.toNat) (by rw [len_rep,Nat.mul_comm]; exact hz),rfl,q _ I.fresh⟩

end

section
variable {prog:Program} {w:World} {A:Around} {E:Value -> Shared -> Prop} {s:Shared}
end

section
variable {X:Cx}
end
end L2

namespace L2
open PySem PySem.Spec PyProof.Rows

section
variable {κ:Type} [DecidableEq κ]
noncomputable def valV (kvs:List (κ × V)) (k : κ):Option V:=(kvs.find? fun kv=>decide (kv.1 = k)).map (·.2)
noncomputable def putK (kvs:List (κ × V)) (k : κ) (v:V):List (κ × V) :=
  if (kvs.any fun kv=>decide (kv.1 = k)) = true then kvs.map (fun kv=>if kv.1 = k then (kv.1,v) else kv) else kvs ++ [(k,v)]
theorem valV_pos {p : κ × V} {r:List (κ × V)} {k : κ} (e:p.1 = k):valV (p :: r) k = some p.2:=by simp [valV,List.find?_cons,e]
theorem valV_neg {p : κ × V} {r:List (κ × V)} {k : κ} (e:¬ p.1 = k):valV (p :: r) k = valV r k:=by simp [valV,List.find?_cons,e]
theorem valV_any (k : κ):∀ kvs:List (κ × V),(kvs.any fun kv=>decide (kv.1 = k)) = (valV kvs k).isSome
  | []=>rfl
  | p :: r=>by
    rw [List.any_cons]
    by_cases e:p.1 = k
    · simp only [valV_pos e,decide_eq_true e,Bool.true_or,Option.isSome_some]
    · rw [valV_neg e,decide_eq_false e,Bool.false_or]; exact valV_any k r
theorem length_putK (kvs:List (κ × V)) (k : κ) (v:V):(putK kvs k v).length <= kvs.length + 1:=by
  unfold putK
  split
  · rw [List.length_map]; omega
  · rw [List.length_append,List.length_cons,List.length_nil]; omega
theorem RelO.isSome_eq {o:Option V} {u:Option Value} (r:RelO o u):o.isSome = u.isSome:=by
  cases o with
  | none=>cases u with
    | none=>rfl
    | some _=>exact (show False from r).elim
  | some _=>cases u with
    | none=>exact (show False from r).elim
    | some _=>rfl
theorem KV.val {kvs:List (κ × V)} {vs:List (κ × Value)} (r:KV kvs vs) (k : κ):RelO (valV kvs k) (valueAt vs k):=by
  unfold KV at r
  induction r with
  | nil=>exact True.intro
  | @cons p q ps qs h t ih =>
    obtain ⟨h1,h2⟩:=h
    by_cases e:p.1 = k
    · have e':q.1 = k:=h1.symm.trans e
      have b:valueAt (q :: qs) k = some q.2:=by simp [valueAt,List.find?_cons,e']
      rw [valV_pos e,b]; exact h2
    · have e':¬ q.1 = k:=fun z=>e (h1.trans z)
      have b:valueAt (q :: qs) k = valueAt qs k:=by simp [valueAt,List.find?_cons,e']
      rw [valV_neg e,b]; exact ih
theorem KV.any {kvs:List (κ × V)} {vs:List (κ × Value)} (r:KV kvs vs) (k : κ):(kvs.any fun kv=>decide (kv.1 = k)) = vs.any fun kv=>decide (kv.1 = k):=by
  unfold KV at r
  induction r with
  | nil=>rfl
  | cons h t ih=>rw [List.any_cons,List.any_cons,ih,h.1]
theorem KV.repl {kvs:List (κ × V)} {vs:List (κ × Value)} (r:KV kvs vs) (k : κ) {y:V} {u:Value} (ry:RelV y u) :
    KV (kvs.map fun kv=>if kv.1 = k then (kv.1,y) else kv) (vs.map fun kv=>if kv.1 = k then (kv.1,u) else kv):=by
  unfold KV at r ⊢
  induction r with
  | nil=>exact .nil
  | @cons p q ps qs h t ih =>
    rw [List.map_cons,List.map_cons]
    refine .cons ?_ ih
    obtain ⟨h1,h2⟩:=h
    by_cases e:p.1 = k
    · rw [if_pos e,if_pos (h1.symm.trans e)]; exact ⟨h1,ry⟩
    · rw [if_neg e,if_neg (fun z=>e (h1.trans z))]; exact ⟨h1,h2⟩
theorem KV.put {kvs:List (κ × V)} {vs:List (κ × Value)} (r:KV kvs vs) (k : κ) {y:V} {u:Value} (ry:RelV y u):KV (putK kvs k y) (stored vs k u):=by
  unfold putK stored
  rw [r.any k]
  by_cases e:(vs.any fun kv=>decide (kv.1 = k)) = true
  · rw [if_pos e,if_pos e]; exact r.repl k ry
  · rw [if_neg e,if_neg e]; exact Paired.snoc r ⟨rfl,ry⟩
theorem KV.length {kvs:List (κ × V)} {vs:List (κ × Value)} (r:KV kvs vs):kvs.length = vs.length:=Paired.length r
end

theorem kV_is {P:Program} {w:World} {k:Key} {u:Value} (r:RelV (kV k) u):(mixKind P w).is k u = true:=by
  cases k with
  | inl i=>obtain ⟨t,e⟩:=(show ∃ t,u = Value.int i t from r); subst e; exact mixKind_int P w i t
  | inr x=>obtain ⟨t,e⟩:=(show ∃ t,u = Value.str x t from r); subst e; exact mixKind_str P w x t
theorem items_are {P:Program} {w:World}:∀ {ks:List Key} {us:List Value},Vals (ks.map kV) us -> ItemsAre (mixKind P w) ks us
  | [],_,r=>by rw [List.map_nil] at r; cases r; exact .nil
  | k :: ks,_,r=>by
    rw [List.map_cons] at r
    cases r with
    | cons h t=>exact .cons (kV_is h) (items_are t)

abbrev KT (H:Hp):List (List Key × V) -> List (List Key × Addr × Value) -> Prop:=Paired fun p q=>p.1 = q.1 /\ H q.2.1 = some (.tup (p.1.map kV)) /\ RelV p.2 q.2.2
theorem KT.val {H:Hp} {kvs:List (List Key × V)} {xs:List (List Key × Addr × Value)} (r:KT H kvs xs) (k:List Key):RelO (valV kvs k) ((atKey xs k).map (·.2)):=by
  induction r with
  | nil=>exact True.intro
  | @cons p q ps qs h t ih =>
    obtain ⟨h1,_,h2⟩:=h
    by_cases e:p.1 = k
    · have e':q.1 = k:=h1.symm.trans e
      have b:atKey (q :: qs) k = some q.2:=by simp [atKey,List.find?_cons,e']
      rw [valV_pos e,b]; exact h2
    · have e':¬ q.1 = k:=fun z=>e (h1.trans z)
      have b:atKey (q :: qs) k = atKey qs k:=by simp [atKey,List.find?_cons,e']
      rw [valV_neg e,b]; exact ih
theorem KT.repl {H:Hp} {kvs:List (List Key × V)} {xs:List (List Key × Addr × Value)} (r:KT H kvs xs) (k:List Key) {y:V} {u:Value} (ry:RelV y u) :
    KT H (kvs.map fun kv=>if kv.1 = k then (kv.1,y) else kv) (xs.map (putAt k u)):=by
  induction r with
  | nil=>exact .nil
  | @cons p q ps qs h t ih =>
    rw [List.map_cons,List.map_cons]
    refine .cons ?_ ih
    obtain ⟨h1,h2,h3⟩:=h
    unfold putAt
    by_cases e:p.1 = k
    · rw [if_pos e,if_pos (h1.symm.trans e)]; exact ⟨h1,h2,ry⟩
    · rw [if_neg e,if_neg (fun z=>e (h1.trans z))]; exact ⟨h1,h2,h3⟩
theorem KT.put {H:Hp} {kvs:List (List Key × V)} {xs:List (List Key × Addr × Value)} (r:KT H kvs xs) (k:List Key) {b:Addr} {y:V} {u:Value} (hb:H b = some (.tup (k.map kV))) (ry:RelV y u) :
    KT H (putK kvs k y) (storedH xs k b u):=by
  have e:(kvs.any fun kv=>decide (kv.1 = k)) = (atKey xs k).isSome:=by
    rw [valV_any,(r.val k).isSome_eq,Option.isSome_map]
  unfold putK storedH
  rw [e]
  by_cases q:(atKey xs k).isSome = true
  · rw [if_pos q,if_pos q]; exact r.repl k ry
  · rw [if_neg q,if_neg q]; exact Paired.snoc r ⟨rfl,hb,ry⟩
theorem KT.keeps {H H':Hp} {kvs:List (List Key × V)} {xs:List (List Key × Addr × Value)} (r:KT H kvs xs) (ht:∀ b ys,H b = some (.tup ys) -> H' b = some (.tup ys)):KT H' kvs xs :=
  Paired.mapP r fun _ _ z=>⟨z.1,ht _ _ z.2.1,z.2.2⟩

section
variable {P:Program} {w:World} {H:Hp} {h:Heap} {a:Addr}
theorem rd_of {u:HO} (ok:HOk P w H h) (e:Rd H a u):ObjOk P w H h a u:=e.ok ok
theorem dk_rd {kvs:List (Key × V)} (ok:HOk P w H h) (e:Rd H a (.dK kvs)):kvs.length <= sizeLine /\ (a == sysModules) = false /\ ∃ vs,KV kvs vs /\ h.DictOf (mixKind P w) a vs :=
  show ObjOk P w H h a (.dK kvs) from rd_of ok e
theorem dk_of {kvs:List (Key × V)} (ok:HOk P w H h) (e:H a = some (.dK kvs)):kvs.length <= sizeLine /\ (a == sysModules) = false /\ ∃ vs,KV kvs vs /\ h.DictOf (mixKind P w) a vs:=dk_rd ok (.inl e)
theorem key_of {ks:List Key} (ok:HOk P w H h) (e:H a = some (.tup (ks.map kV))):(tupleKind (mixKind P w)).is h ks a:=by
  obtain ⟨_,its,r,o,h1,h2,⟨n,h3⟩,_⟩:=(show ObjOk P w H h a (.tup (ks.map kV)) from ok a _ e)
  exact ⟨o,its.toArray,n,h1,h2,h3,by simpa using items_are r⟩
theorem dt_rd {kvs:List (List Key × V)} (ok:HOk P w H h) (e:Rd H a (.dT kvs)):kvs.length <= sizeLine /\ (a == sysModules) = false /\
    ∃ xs,KT H kvs xs /\ h.DictOfH (tupleKind (mixKind P w)) a xs:=by
  obtain ⟨z,y,xs,r,o,es,ep,h1,h2,h3,h4,h5⟩:=(show ObjOk P w H h a (.dT kvs) from rd_of ok e)
  refine ⟨z,y,xs,r,o,es,ep,h1,h2,h3,h4,fun x hx=>?_,h5⟩
  have all:∀ {l:List (List Key × V)} {m:List (List Key × Addr × Value)},KT H l m -> ∀ x ∈ m,(tupleKind (mixKind P w)).is h x.1 x.2.1:=by
    intro l m q
    induction q with
    | nil=>intro x hx; exact nomatch hx
    | @cons p q ps qs hq t ih =>
      intro x hx
      rcases List.mem_cons.mp hx with e | hx
      · subst e
        exact key_of ok (by rw [<- hq.1]; exact hq.2.1)
      · exact ih x hx
  exact all r x hx
theorem dt_of {kvs:List (List Key × V)} (ok:HOk P w H h) (e:H a = some (.dT kvs)):kvs.length <= sizeLine /\ (a == sysModules) = false /\
    ∃ xs,KT H kvs xs /\ h.DictOfH (tupleKind (mixKind P w)) a xs:=dt_rd ok (.inl e)
end

noncomputable def DGet (H:Hp) (a:Addr) (y:V) (r:Option V):Prop :=
  (∃ kvs k,Rd H a (.dK kvs) /\ y = kV k /\ r = valV kvs k) \/ ∃ kvs k b,Rd H a (.dT kvs) /\ y = .ref b /\ H b = some (.tup (k.map kV)) /\ r = valV kvs k
noncomputable def DPut (H:Hp) (a:Addr) (y v:V) (H':Hp):Prop :=
  (∃ kvs k,H a = some (.dK kvs) /\ y = kV k /\ kvs.length < sizeLine /\ H' = upd H a (.dK (putK kvs k v))) \/
  ∃ kvs k b,H a = some (.dT kvs) /\ y = .ref b /\ H b = some (.tup (k.map kV)) /\ kvs.length < sizeLine /\ H' = upd H a (.dT (putK kvs k v))
theorem DGet.k {H:Hp} {a:Addr} {kvs:List (Key × V)} {k:Key} (e:H a = some (.dK kvs)):DGet H a (kV k) (valV kvs k):=.inl ⟨kvs,k,.inl e,rfl,rfl⟩
theorem DPut.k {H:Hp} {a:Addr} {kvs:List (Key × V)} {k:Key} {v:V} (e:H a = some (.dK kvs)) (hl:kvs.length < sizeLine):DPut H a (kV k) v (upd H a (.dK (putK kvs k v))):=.inl ⟨kvs,k,e,rfl,hl,rfl⟩
section
variable {X:Cx} {pins:List (Addr × Obj)} {σ:St} {H:Hp} {s:Shared} {a:Addr} {y v:V} {u r:Value} {o:Option V} {A:Around} {E:Value -> Shared -> Prop}

theorem Inv.big (I:Inv X pins σ H s):sysModules < s.heap.objs.size:=by
  have h:mainGlobals < s.heap.objs.size:=(I.mod.glob.keeps I.bk).lt
  exact Nat.lt_trans (by decide) h

theorem d_getItem {Q:Value -> Shared -> Prop} (hu:A.units + 1 < cLine) (I:Inv X pins σ H s) (g:DGet H a y (some v)) (ry:RelV y u) (h:∀ w' s',Inv X pins σ H s' -> RelV v w' -> Q w' s') :
    wpAny (model X.prog X.w) A (getItem (.ref a) u) Q E s:=by
  rcases g with ⟨kvs,k,e,ey,l⟩ | ⟨kvs,k,b,e,ey,eb,l⟩
  · subst ey
    obtain ⟨z,hd,vs,rel,dd⟩:=dk_rd I.hok e
    obtain ⟨w',hw,rw'⟩:=RelO.some_of (v:=v) (o:=valueAt vs k) (by rw [l]; exact rel.val k)
    exact wpAny_getItem_of (kV_is ry) dd.mapOf hw (h w' _ (I.tok _) rw')
  · subst ey
    cases (show u = Value.ref b from ry)
    obtain ⟨z,hd,xs,rel,dd⟩:=dt_rd I.hok e
    obtain ⟨w',hw,rw'⟩:=RelO.some_of (v:=v) (o:=(atKey xs k).map (·.2)) (by rw [l]; exact rel.val k)
    obtain ⟨p,hp,hp2⟩:=Option.map_eq_some_iff.mp hw
    refine wpAny_getItem_heap (tupleKind_room_in1 hu) (key_of I.hok eb) dd hp ?_
    rw [hp2]
    exact h w' _ (I.tok _) rw'
theorem d_write {h':Heap} {t':Nat} {ob:HO} (I:Inv X pins σ H s) (mu:Mut (H a)) (hs:Heap.SameBut a s.heap h') (he:∃ q,h'.get? a = some q) (new:ObjOk X.prog X.w (upd H a ob) h' a ob) :
    Inv X pins σ (upd H a ob) { s with heap:=h',toks:=t' } :=
  I.write (x:=a) (e:=a) mu (.inl rfl) (fun b q hb z=>(hs.2 b hb).trans z) he new
theorem dk_new {P:Program} {w:World} {H':Hp} {h':Heap} {kvs:List (Key × V)} {vs:List (Key × Value)} (z:kvs.length <= sizeLine) (hd:(a == sysModules) = false) (rel:KV kvs vs) (dd:h'.DictOf (mixKind P w) a vs) :
    ObjOk P w H' h' a (.dK kvs):=⟨z,hd,vs,rel,dd⟩
theorem d_setItem {H':Hp} {Q:Unit -> Shared -> Prop} (hu:A.units + 1 < cLine) (I:Inv X pins σ H s) (g:DPut H a y v H') (ry:RelV y u) (rv:RelV v r) (h:∀ s',Inv X pins σ H' s' -> Q () s') :
    wpAny (model X.prog X.w) A (setItem (.ref a) u r) Q E s:=by
  rcases g with ⟨kvs,k,e,ey,l,eH⟩ | ⟨kvs,k,b,e,ey,eb,l,eH⟩
  · subst ey eH
    obtain ⟨z,hd,vs,rel,dd⟩:=dk_of I.hok e
    have hz:vs.length <= sizeLine:=by rw [<- rel.length]; exact z
    have hl:(putK kvs k v).length <= sizeLine:=by have:=length_putK kvs k v; omega
    refine wpAny_setItem_pairs (hsz:=hz) (kV_is ry) dd fun h' dd' hs=>h _ ?_
    have he:∃ q,h'.get? a = some q:=let ⟨q,_,_,hq,_⟩:=dd'; ⟨q,hq⟩
    exact d_write I (by rw [e]; exact True.intro) hs he (dk_new hl hd (rel.put k rv) dd')
  · subst ey eH
    cases (show u = Value.ref b from ry)
    obtain ⟨z,hd,xs,rel,dd⟩:=dt_of I.hok e
    have hz:xs.length <= sizeLine:=by rw [<- Paired.length rel]; exact z
    have hl:(putK kvs k v).length <= sizeLine:=by have:=length_putK kvs k v; omega
    refine wpAny_setItem_heap (hsz:=hz) (tupleKind_room_in1 hu) (key_of I.hok eb) dd fun h' dd' hs=>h _ ?_
    obtain ⟨q,es,ep,hq,h2,h3,h4,_,h5⟩:=dd'
    refine d_write I (by rw [e]; exact True.intro) hs ⟨q,hq⟩ ⟨hl,hd,_,(rel.put k eb rv).keeps fun c ys ec=>?_,q,es,ep,hq,h2,h3,h4,h5⟩
    rw [upd_ne (ne_of ec e (fun z=>nomatch z))]
    exact ec
end

section
variable {X:Cx} {pins:List (Addr × Obj)} {σ:St} {H:Hp} {s:Shared} {a:Addr} {kvs:List (Key × V)} {k:Key} {u:Value} {A:Around} {E:Value -> Shared -> Prop}
end

noncomputable def NoSl (i:Expr):Prop:=∀ ov iv,subscripted i false ov iv = operate [ov,iv] (getItem ov iv)
theorem subD_of {prog:Program} {w:World} {A:Around} {E:Value -> Shared -> Prop} {s:Shared} {env:Env} {value slice:Expr} {pos:Pos} {T id:String} {Q:Value -> Shared -> Prop}
    (hl:typeLookup (.type T) "__getitem__" = pure (some (.builtin id))) (hs:NoSl slice)
    (h:wpAny (model prog w) A (eval value env) (fun o s₁=>wpAny (model prog w) A (eval slice env) (fun i s₂=>s₂.TypeIs o T /\ wpAny (model prog w) A (getItem o i) Q E s₂) E s₁) E s) :
    wpAny (model prog w) A (eval (.Subscript value slice pos) env) Q E s:=by
  refine Subscript_ (wpAny_mono h (fun o s₁ h₁=>wpAny_mono h₁ (fun i s₂ h₂=>?_) fun _ _ x=>x) fun _ _ x=>x)
  obtain ⟨hT,h₂⟩:=h₂
  unfold subscriptTail
  refine wpAny_bind ?_
  rw [getitemInPython_of_ne hT.not_modules]
  refine wpAny_bind (wpAny_specialOf hT hl ?_)
  have fin:wpAny (model prog w) A (subscripted slice false o i) (fun r s₃=>wpAny (model prog w) A (letTemporaryGo value o r >>= fun _=>pure r) Q E s₃) E s₂:=by
    rw [hs o i]
    exact wpAny_operating (wpAny_mono h₂ (fun r s₃ h₃=>wpAny_bind (wpAny_letTemporaryGo (wpAny_pure h₃))) fun _ _ x=>x)
  first
    | exact wpAny_pure (wpAny_bind fin)
    | exact wpAny_bind (wpAny_pure (wpAny_bind fin))
    | exact wpAny_bind fin

theorem dict_typeIs {X:Cx} {pins:List (Addr × Obj)} {σ:St} {H:Hp} {s:Shared} {a:Addr} {y:V} {o:Option V} (I:Inv X pins σ H s) (g:DGet H a y o):s.TypeIs (.ref a) "dict" := by
  rcases g with ⟨kvs,k,e,_,_⟩ | ⟨kvs,k,b,e,_,_,_⟩
  · obtain ⟨_,_,vs,_,dd⟩:=dk_rd I.hok e
    exact dd.typeIs
  · obtain ⟨_,_,xs,_,dd⟩:=dt_rd I.hok e
    exact dd.typeIs
noncomputable def tDGet (td ty:TE):TE:=fun σ H Q=>td σ H fun x H1=>ty σ H1 fun y H2=>∃ a v,x = .ref a /\ DGet H2 a y (some v) /\ Q v H2
noncomputable def sDPut (td ty tv:TE):TS:=fun D σ H=>tv σ H fun v H1=>td σ H1 fun x H2=>ty σ H2 fun y H3=>∃ a H4,x = .ref a /\ DPut H3 a y v H4 /\ D.nx σ H4
section
variable {X:Cx} {o i e value:Expr} {pos pos' tpos:Pos} {td ty tv:TE}
theorem pe_dget (hu:X.A.units + 1 < cLine) (ho:PE X o td) (hi:PE X i ty) (hs:NoSl i):PE X (.Subscript o i pos) (tDGet td ty):=by
  intro pins s σ H Q I h
  refine subD_of PySem.F.slot_dict_getitem.lookup hs (thn (ho pins s σ H _ I h) fun u s1 ⟨x,H1,I1,rx,q1⟩=>thn (hi pins s1 σ H1 _ I1 q1) fun iv s2 ⟨y,H2,I2,ry,a,v,ex,g,q2⟩=>?_)
  subst ex
  obtain rfl:u = Value.ref a:=rx
  exact ⟨dict_typeIs I2 g,d_getItem hu I2 g ry fun w' s3 I3 rw'=>⟨v,H2,I3,rw',q2⟩⟩
theorem ps_dput (hu:X.A.units + 1 < cLine) (ho:PE X o td) (hi:PE X i ty) (hv:PE X value tv) (hs:swapsWith value (some (.Subscript o i pos')) pos.line X.env = pure false) :
    PS X (.Assign [.Subscript o i pos'] value pos) (sDPut td ty tv):=by
  intro pins s σ H D I h
  refine wpAny_Assign_Subscript (thn (hv pins s σ H _ I h) fun r s1 ⟨v,H1,I1,rv,q1⟩=>thn (ho pins s1 σ H1 _ I1 q1) fun u s2 ⟨x,H2,I2,rx,q2⟩=>thn (hi pins s2 σ H2 _ I2 q2) fun iv s3 ⟨y,H3,I3,ry,a,H4,ex,g,q3⟩=>?_) hs
  subst ex
  obtain rfl:u = Value.ref a:=rx
  exact d_setItem hu I3 g ry rv fun s4 I4=>⟨σ,H4,I4,q3⟩
end

theorem dk_empty {P:Program} {w:World} {H:Hp} (h:Heap) (hb:sysModules < h.objs.size):ObjOk P w H (h.push { cls:=.type "dict", data:=.dict #[] }) h.objs.size (.dK []) :=
  ⟨Nat.zero_le _,beq_eq_false_iff_ne.mpr (Ne.symm (Nat.ne_of_lt hb)),[],.nil,Heap.DictOf.new h⟩
section
variable {X:Cx} {pos:Pos}
end

noncomputable def tPairs:List (TE × TE) -> St -> Hp -> (List (V × V) -> Hp -> Prop) -> Prop
  | [],_,H,Q=>Q [] H
  | (tk,tv) :: r,σ,H,Q=>tk σ H fun x H1=>tv σ H1 fun y H2=>tPairs r σ H2 fun ps H3=>Q ((x,y) :: ps) H3
abbrev VV:List (V × V) -> List (Value × Value) -> Prop:=Paired fun p q=>RelV p.1 q.1 /\ RelV p.2 q.2
noncomputable def PPs (X:Cx) (pos:Pos) (keys:List (Option Expr)) (values:List Expr) (trs:List (TE × TE)):Prop :=
  ∀ (pins:List (Addr × Obj)) (s:Shared) (σ:St) (H:Hp) (Q:List (V × V) -> Hp -> Prop),Inv X pins σ H s -> tPairs trs σ H Q ->
    wpAny (model X.prog X.w) X.A (evalPairs (pairTrees keys values X.env pos)) (fun vs s'=>∃ ps H',Inv X pins σ H' s' /\ VV ps vs /\ Q ps H') X.xe s
theorem pps_nil {X:Cx} {pos:Pos}:PPs X pos [] [] []:=fun pins s σ H Q I h=>pairTrees_nil_walk ⟨[],H,I,.nil,h⟩
theorem pps_cons {X:Cx} {pos:Pos} {k v:Expr} {ks:List (Option Expr)} {vs:List Expr} {tk tv:TE} {trs:List (TE × TE)} (hk:PE X k tk) (hv:PE X v tv) (hr:PPs X pos ks vs trs) :
    PPs X pos (some k :: ks) (v :: vs) ((tk,tv) :: trs):=fun pins s σ H Q I h =>
  pairTrees_cons_walk (thn (hk pins s σ H _ I h) fun u s1 ⟨x,H1,I1,rx,q1⟩=>thn (hv pins s1 σ H1 _ I1 q1) fun w2 s2 ⟨y,H2,I2,ry,q2⟩ =>
    thn (hr pins s2 σ H2 _ I2 q2) fun ws s3 ⟨ps,H3,I3,rel,q3⟩=>⟨(x,y) :: ps,H3,I3,.cons ⟨rx,ry⟩ rel,q3⟩)

noncomputable def mergeK (kvs more:List (Key × V)):List (Key × V):=more.foldl (fun acc kv=>putK acc kv.1 kv.2) kvs
theorem KV.merge:∀ {more:List (Key × V)} {rs:List (Key × Value)} {kvs:List (Key × V)} {vs:List (Key × Value)},KV more rs -> KV kvs vs -> KV (mergeK kvs more) (merged vs rs):=by
  intro more rs kvs vs r
  unfold KV at r
  induction r generalizing kvs vs with
  | nil=>intro q; exact q
  | @cons p q ps qs h t ih =>
    intro r0
    have e:KV (putK kvs p.1 p.2) (stored vs q.1 q.2):=by
      have:=r0.put p.1 h.2
      rw [<- h.1]; exact this
    exact ih e
theorem length_mergeK:∀ (more kvs:List (Key × V)),(mergeK kvs more).length <= kvs.length + more.length
  | [],kvs=>by show kvs.length <= kvs.length + 0; omega
  | p :: r,kvs=>by
    have h1:=length_mergeK r (putK kvs p.1 p.2)
    have h2:=length_putK kvs p.1 p.2
    show (mergeK (putK kvs p.1 p.2) r).length <= _
    rw [List.length_cons]; omega
theorem carries_of {P:Program} {w:World}:∀ {kvs:List (Key × V)} {ws:List (Value × Value)},VV (kvs.map fun kv=>(kV kv.1,kv.2)) ws -> ∃ rs,Carries (mixKind P w) ws rs /\ KV kvs rs
  | [],_,r=>by rw [List.map_nil] at r; cases r; exact ⟨[],True.intro,.nil⟩
  | p :: kvs,_,r=>by
    rw [List.map_cons] at r
    cases r with
    | @cons a b as bs h t =>
      obtain ⟨rs,c,q⟩:=carries_of (P:=P) (w:=w) t
      obtain ⟨b1,b2⟩:=b
      exact ⟨(p.1,b2) :: rs,⟨kV_is h.1,rfl,c⟩,.cons ⟨rfl,h.2⟩ q⟩
noncomputable def tDisp (trs:List (TE × TE)):TE:=fun σ H Q=>∀ p,H p = none -> tPairs trs σ (upd H p (.dK [])) fun ps H2=>H2 p = some (.dK []) /\ ∃ kvs:List (Key × V),ps = kvs.map (fun kv=>(kV kv.1,kv.2)) /\ kvs.length <= 15 /\ Q (.ref p) (upd H2 p (.dK (mergeK [] kvs)))
theorem pe_disp {X:Cx} {pos:Pos} {keys:List (Option Expr)} {values:List Expr} {trs:List (TE × TE)} (h:PPs X pos keys values trs) (hall:keys.all (·.isSome) = true) (hl:keys.length = values.length) (h0:keys ≠ [])
    (h15:keys.length <= 15):PE X (.Dict keys values pos) (tDisp trs):=by
  intro pins s σ H Q I q
  have hn:=I.hok.fresh (Nat.le_refl s.heap.objs.size)
  have I1:=I.laid (a:=s.heap.objs.size) (o:=.dK []) (h':=s.heap.push { cls:=.type "dict", data:=.dict #[] }) (t':=s.toks) (fun _ _ q=>Heap.get?_push_of_some _ q) (Nat.le_refl _) (dk_empty s.heap I.big)
  refine wpAny_Dict_walk (knd:=mixKind X.prog X.w) hall hl h0 h15 (thn (h pins _ σ _ _ I1 (q _ hn)) fun ws s2 ⟨ps,H2,I2,rel,e,kvs,ep,lk,q2⟩=>?_)
  subst ep
  obtain ⟨rs,c,rk⟩:=carries_of (P:=X.prog) (w:=X.w) rel
  obtain ⟨z,hd,vs0,r0,dd⟩:=dk_of I2.hok e
  cases r0
  refine ⟨rs,c,dd,fun h' dd' hs=>⟨.ref s.heap.objs.size,_,?_,rfl,q2⟩⟩
  have hz:(mergeK [] kvs).length <= sizeLine:=by
    have h1:=length_mergeK kvs []
    rw [List.length_nil] at h1
    rw [sizeLine_eq]; omega
  have he:∃ q,h'.get? s.heap.objs.size = some q:=let ⟨q,_,_,hq,_⟩:=dd'; ⟨q,hq⟩
  exact d_write I2 (by rw [e]; exact True.intro) hs he (dk_new hz hd (rk.merge .nil) dd')

section
variable {X:Cx} {pins:List (Addr × Obj)} {σ:St} {H:Hp} {s:Shared} {a:Addr} {y d:V} {u r:Value} {o:Option V} {A:Around} {E:Value -> Shared -> Prop}
end

section
variable {X:Cx} {o e f:Expr} {apos cpos:Pos} {td ty tx:TE}
end

section
variable {X:Cx} {pins:List (Addr × Obj)} {σ:St} {H:Hp} {s:Shared} {a:Addr} {kvs:List (Key × V)} {A:Around} {E:Value -> Shared -> Prop}
end

section
variable {X:Cx} {pins:List (Addr × Obj)} {σ:St} {H:Hp} {s:Shared} {a:Addr} {y:V} {u:Value} {A:Around} {E:Value -> Shared -> Prop}
end
end L2

namespace Att
open PySem PySem.W PySem.Calls PyProof.Rows

theorem ints_of_wellAll {P:Params} {h:Heap}:∀ (ns:List Int) (vs:List Value),WellAll P h vs (ns.map WData.int) -> IntsAre vs ns:=by
  intro ns
  induction ns with
  | nil =>
    intro vs w
    rw [List.map_nil] at w
    cases w
    exact .nil
  | cons n ns ih =>
    intro vs w
    rw [List.map_cons] at w
    cases w with
    | cons a b =>
      cases a
      exact .cons _ _ (ih _ b)

theorem script_of {l:OpenLaw} {n:Nat} (hn:l.most = some n) {P:Params} {h:Heap} {args:List WData} {vals:List Value}
    (hpre:l.row.toRowW.claim.pre args = true) (hwl:WellAll P h vals args) :
    ∃ a vs ns,vals = [Value.ref a] /\ args = [WData.list (ns.map WData.int)] /\ h.get? a = some { cls:=.type "list", data:=.seq vs.toArray } /\ IntsAre vs ns /\ ns.length <= n:=by
  have hsh:WShape.hasAll [] args [.list .int] = true:=(pre_splitW hpre).1
  have hc:l.pre.holds [] { args:=args } = true:=(pre_splitW hpre).2
  obtain ⟨d,r,rfl,h1,h2⟩:=hasAllW_cons hsh
  obtain rfl:=hasAllW_nil h2
  obtain ⟨xs,rfl,h3⟩:=hasW_list h1
  obtain ⟨ns,rfl⟩:=items_int h3
  have hlen:ns.length <= n:=by
    unfold OpenLaw.pre at hc
    have h4:(WTm.not (.lt (.lit (.int (n:Int))) (.len (.arg 0)))).holds [] { args:=[.list (ns.map .int)] } = true:=by
      have h4:=(holds_andW hc).1
      rw [hn] at h4
      exact h4
    have h5:=condW_of h4 (w_not (w_lt w_lit (w_len_list (w_arg rfl))))
    rw [List.length_map] at h5
    refine Nat.le_of_not_lt fun q=>?_
    have q':(n:Int) < ((ns.length:Nat):Int):=by omega
    first
      | (rw [decide_eq_true q'] at h5; exact absurd h5 (by decide))
      | (simp at h5; omega)
  cases hwl with
  | cons w1 w2 =>
    cases w2
    cases w1 with
    | list ho hall=>exact ⟨_,_,ns,rfl,rfl,ho,ints_of_wellAll ns _ hall,hlen⟩

theorem post_true (l:OpenLaw) (args:List WData):l.row.toRowW.claim.post args (.bool true) args = true :=
  postW_of (r:=l.row.toRowW) (X:=(true == true))
    (show WShape.has [] (.bool true) .bool = true by first | rfl | decide | simp [WShape.has,WShape.arms,WShape.armsAll])
    (show (WTm.eq .res (.lit (.bool true))).value [] { args:=args,res:=some (.bool true),after:=args } = some (.bool (true == true)) from w_eq_bool (w_res rfl) w_lit) rfl

theorem attach_call {l:OpenLaw} {n:Nat} {q:Program} {loose:List Str} {XP:(Str -> Option Value) -> Heap -> Prop} {YP:World -> Heap -> Prop} {d:DefRec}
    (hn:l.most = some n) (hdf:d.params.defaults = [])
    (call:∀ (w:World) (s₀ s₁:Shared) (mg mb:Str -> Option Value) (fa:Addr) (o:Obj) (pm cd doc:Value) (a:Addr) (vs:List Value) (ns:List Int),
      Ground q loose [] XP w s₀ mg mb s₁.heap -> YP w s₁.heap ->
      s₁.heap.get? fa = some o -> o.data = .func (docDef d.name d.params d.body d.scope pm cd doc) -> s₁.heap.CodeRec cd d.name -> mg d.name = some (.ref fa) ->
      s₁.heap.get? a = some { cls:=.type "list", data:=.seq vs.toArray } -> IntsAre vs ns -> ns.length <= n -> s₁.gens = #[] ->
      codeAny (model l.prog w) callerA (.call (.ref fa) ⟨[.ref a],[]⟩) (fun r s'=>r = .ok (.ret (.bool true)) /\ OldK s₁.heap s'.heap /\ s'.os = s₁.os /\ AllBare s'.gens) s₁) :
    WalkO q loose XP YP l.row.toRowW d [] (fun f vs=>PySem.call f vs):=by
  intro w s₀ s₁ mg mb G Y fa o pm cd doc dV kV ho hd hcd hD hmg hg args vals as hpre hlay hrd hwl hlo
  obtain rfl:dV = .none:=Dflts.none hD hdf
  obtain rfl:kV = .none:=Dflts.noKw hD
  obtain ⟨a,vs,ns,rfl,rfl,hobj,hints,hlen⟩:=script_of hn hpre hwl
  refine enter_call (codeAny_mono (call w s₀ s₁ mg mb fa o pm cd doc a vs ns G Y ho (fd_plain hd) hcd hmg hobj hints hlen hg) fun r s' hq=>?_)
  obtain ⟨rfl,h2,h3,h4⟩:=hq
  exact ⟨.inl ⟨.bool true,.bool true,[],rfl,fun _=>rfl,.bool true,post_true l _,fun _=>⟨List.Pairwise.nil,fun _ hm=>(nomatch hm)⟩⟩,h2,h3,h4⟩

section
variable {prog:Program} {w:World} {A:Around} {E:Value -> Shared -> Prop} {s:Shared} {K:Frag}

end
end Att

namespace L2
open PySem PySem.Spec PyProof.Rows

theorem vals_ints:∀ {vs:List Value} {ns:List Int},IntsAre vs ns -> Vals (ns.map V.int) vs
  | _,_,.nil=>.nil
  | _,_,.cons n t h=>.cons ⟨t,rfl⟩ (vals_ints h)

noncomputable def Only (H:Hp):Prop:=∀ b,H b = none \/ ∃ o xs,H b = some (.frz o (.lst xs))

theorem law_call {P:Program} {w:World} {K:W.Frag} {mg mb:Str -> Option Value} {CX:CXT} {k:Nat} {fa a:Addr} {fd:FuncData} {x:Str} {sp:Sp} {s₁:Shared} {vs:List Value} {ns:List Int}
    (KX:K.In s₁.heap) (hns:s₁.heap.Ns mainGlobals mg) (hb:s₁.heap.Ns builtinsNs mb) (hbb:∀ x:Str,x ≠ "__name__" -> mb x = bootBuiltins x) (hlim:s₁.heap.NoLimit) (hg:s₁.gens = #[])
    (ha:s₁.heap.get? a = some { cls:=.type "list", data:=.seq vs.toArray }) (hi:IntsAre vs ns) (hl:ns.length <= sizeLine) (hr:Room k callerA)
    (F:∀ base:Heap,K.In base -> base.Ns mainGlobals mg -> FnOk P w K mg base CX k fa fd [x] sp) (hbind:∀ (s:Shared) (u:Value),BindsTo s fd ⟨[u],[]⟩ [(x,u)])
    (hsp:∀ H:Hp,Only H -> SqL K H a (ns.map V.int) -> sp [.ref a] H (fun v _=>v = .bl true) fun _ _ _=>False)
    (hCX:∀ H e s',CX [] H s₁ (fun _ _ _=>False) e s' -> False) :
    codeAny (model P w) callerA (.call (.ref fa) ⟨[.ref a],[]⟩) (fun r s'=>r = .ok (.ret (.bool true)) /\ OldK s₁.heap s'.heap /\ s'.os = s₁.os /\ AllBare s'.gens) s₁:=by
  have rv:=vals_ints hi
  have lenV:=hi.length
  have core:∀ H:Hp,Only H -> SqL K H a (ns.map V.int) -> HOk P w H s₁.heap -> (∀ b,H b ≠ none -> b = a) -> (H a ≠ none -> K.lookup a = none) ->
      codeAny (model P w) callerA (.call (.ref fa) ⟨[.ref a],[]⟩) (fun r s'=>r = .ok (.ret (.bool true)) /\ OldK s₁.heap s'.heap /\ s'.os = s₁.os /\ AllBare s'.gens) s₁:=by
    intro H hO hS hok hA hK
    have base_of:∀ {b:Addr} {o:Obj},s₁.heap.get? b = some o -> H b = none -> (hidT s₁.heap H).get? b = some o:=fun e n=>hidT_get e n
    have noA:∀ {b:Addr} {o:Obj} {es:Array DictEntry} {ep:Nat},s₁.heap.get? b = some o -> o.data = .dict es ep -> H b = none:=fun {b o es ep} e d=>by
      cases q:H b with
      | none=>rfl
      | some u =>
        have e':b = a:=hA b (by rw [q]; simp)
        subst e'
        rw [ha] at e; cases e
        have d':Data.seq vs.toArray _ = Data.dict es ep:=d
        cases d'
    have nsK:∀ {b:Addr} {m:Str -> Option Value},s₁.heap.Ns b m -> (hidT s₁.heap H).Ns b m:=fun {b m} ⟨o,es,ep,e,d,r⟩=>⟨o,es,ep,base_of e (noA e d),d,r⟩
    have hKb:K.In (hidT s₁.heap H):=fun b o e=>base_of (KX b o e) (by
      cases q:H b with
      | none=>rfl
      | some u =>
        have e':b = a:=hA b (by rw [q]; simp)
        subst e'
        rw [hK (by rw [q]; simp)] at e; cases e)
    have hM:Mod K mg (hidT s₁.heap H):=⟨hKb,nsK hns,⟨mb,nsK hb,hbb⟩,let ⟨mc,h1,h2⟩:=hlim; ⟨mc,nsK h1,h2⟩⟩
    have e0:Env0 P w K mg (hidT s₁.heap H) callerA [] s₁ H:=⟨rfl,hM,fun b o e=>of_hidT e,Nat.le_of_eq (hidT_size _ _),trivial,fun b hb=>absurd (show b ∈ ([]:List Addr) from hb) (by simp),hok,.of_eq hg⟩
    refine codeAny_mono ((F _ hKb (nsK hns)).run callerA [] s₁ H ⟨[.ref a],[]⟩ [.ref a] [.ref a] _ _ hr e0 (hbind s₁ (.ref a)) (.cons rfl .nil) (hsp H hO hS)) fun r s' h=>?_
    cases r with
    | error e=>exact (hCX H e s' h).elim
    | ok fl =>
      cases fl with
      | next=>exact False.elim h
      | brk=>exact False.elim h
      | cont=>exact False.elim h
      | ret u =>
        obtain ⟨v,H',os,bare,un,hok',r',q⟩:=h
        have q':v = .bl true:=q
        subst q'
        obtain rfl:u = Value.bool true:=r'
        refine ⟨rfl,OldK.of_keep fun b o e=>?_,os,bare⟩
        cases q:H b with
        | none=>exact un.keep b o e q (by intro z; exact absurd (show b ∈ ([]:List Addr) from z) (by simp)) (by simp)
        | some u =>
          rcases hO b with z | ⟨ob,xs,z⟩
          · rw [q] at z; cases z
          · have z2:=un.frzs b ob _ z
            obtain ⟨e1,_⟩:=hok b _ z
            obtain ⟨e2,_⟩:=hok' b _ z2
            rw [e] at e1; cases e1
            exact e2
  cases hk:K.lookup a with
  | some o =>
    have e:=KX a o hk
    rw [ha] at e
    cases e
    refine core (fun _=>none) (fun _=>.inl rfl) (.inr ⟨_,vs.toArray,_,hk,rfl,rfl,rfl,by rw [List.size_toArray,lenV]; exact hl,by simpa using rv⟩) (fun b u z=>by have z':(none:Option HO) = some u:=z; cases z') (fun b z=>absurd rfl z) fun z=>absurd rfl z
  | none =>
    refine core (fun b=>if b = a then some (.frz { cls:=.type "list", data:=.seq vs.toArray } (.lst (ns.map V.int))) else none) (fun b=>?_) (.inl (.inr ⟨{ cls:=.type "list", data:=.seq vs.toArray },if_pos rfl⟩)) (fun b u z=>?_) (fun b z=>?_) fun _=>hk
    · by_cases hb:b = a
      · exact .inr ⟨_,_,if_pos hb⟩
      · exact .inl (if_neg hb)
    · by_cases hb:b = a
      · have z':=(if_pos hb).symm.trans z
        cases z'
        subst hb
        exact ⟨ha,by rw [List.length_map]; exact hl,vs,_,rv,ha⟩
      · have z':=(if_neg hb).symm.trans z
        cases z'
    · by_cases hb:b = a
      · exact hb
      · exact absurd (if_neg hb) z
end L2

namespace L2
open PySem PySem.Spec PyProof.Rows

theorem walk_of {l:W.OpenLaw} {n k:Nat} {q:Program} {loose:List Str} {XP:(Str -> Option Value) -> Heap -> Prop} {YP:World -> Heap -> Prop} {d:DefRec} {K:Params -> W.Frag} {CX:World -> CXT} {sp:World -> Sp} {x:Str}
    (hn:l.most = some n) (hn2:n <= sizeLine) (hdf:d.params.defaults = []) (hr:Room k callerA)
    (hY:∀ (w:World) (h:Heap),YP w h -> (K w.params).In h)
    (F:∀ (w:World) (mg:Str -> Option Value) (fa:Addr) (h:Heap),(K w.params).In h -> h.Ns mainGlobals mg -> mg d.name = some (.ref fa) ->
      ∃ fd:FuncData,(∀ (s:Shared) (u:Value),BindsTo s fd ⟨[u],[]⟩ [(x,u)]) /\
        ∀ base:Heap,(K w.params).In base -> base.Ns mainGlobals mg -> FnOk l.prog w (K w.params) mg base (CX w) k fa fd [x] (sp w))
    (hsp:∀ (w:World) (H:Hp) (a:Addr) (ns:List Int),ns.length <= n -> Only H -> SqL (K w.params) H a (ns.map V.int) -> sp w [.ref a] H (fun v _=>v = .bl true) fun _ _ _=>False)
    (hCX:∀ (w:World) (H:Hp) (s:Shared) (e:Value) (s':Shared),CX w [] H s (fun _ _ _=>False) e s' -> False) :
    W.WalkO q loose XP YP l.row.toRowW d [] (fun f vs=>PySem.call f vs):=by
  refine Att.attach_call hn hdf fun w s₀ s₁ mg mb fa o pm cd doc a vs ns G Y ho hd hcd hmg hobj hints hlen hg=>?_
  have KX:=hY w _ Y
  obtain ⟨fd,hb,hF⟩:=F w mg fa _ KX G.T.g hmg
  exact law_call KX G.T.g G.T.b G.T.builtins G.T.nolimit hg hobj hints (Nat.le_trans hlen hn2) hr hF hb (fun H hO hS=>hsp w H a ns hlen hO hS) fun H e s'=>hCX w H s₁ e s'
end L2

namespace L2
open PySem PySem.Spec PyProof.Rows


abbrev CX0:CXT:=fun _ _ _ _ _ _=>False
abbrev E0:XK:=fun _ _ _=>False
theorem pass0 {X:Cx}:Passes CX0 X E0:=fun _ _ _ _ _ _ _ h=>h.elim

structure Fun (K:W.Frag) (x qual:Str) (st:Stmt) (f:Addr) (fd:FuncData):Prop where
  ex:∃ (oc:Value) (od:Option Addr) (kV doc pm:Value) (an:Option Addr) (cdv ct:Value) (osl:Array (Option Value)),
    fd = W.fnOf x qual (defArgs st) (defBody st) (defScope st) .none kV doc pm an cdv ct /\ K.lookup f = some ⟨oc,od,.func fd,osl⟩ /\ W.codeIn K cdv qual = true
  kp:W.keepIn K (.ref f) = true
section
variable {P:Program} {w:World} {K:W.Frag} {mg:Str -> Option Value} {base:Heap}
theorem Fun.ok {x qual:Str} {st:Stmt} {f:Addr} {fd:FuncData} {N ps:List Str} {k:Nat} {sp:Sp} (F:Fun K x qual st f fd) (S:FnScope N ps (defScope st)) (len:∀ vs H Q E,sp vs H Q E -> vs.length = ps.length)
    (hbody:∀ (cdv:Value) (A:Around) (outer:List Env) (s:Shared) (H:Hp) (vs:List V) (Q:VK) (E:XK),Room k (A.deeper (envOfC qual (defScope st) s.heap.objs.size f cdv)) -> sp vs H Q E ->
      ∃ t,PSs (cxOf CX0 P w K mg base N qual (defScope st) f cdv A outer s H E).nox (defBody st) t /\ t { nx:=fun _ H'=>Q .non H',rt:=Q } (start N vs) H):FnOk P w K mg base CX0 (k + 1) f fd ps sp:=by
  obtain ⟨oc,od,kV,doc,pm,an,cdv,ct,osl,rfl,lk,hcd⟩:=F.ex
  refine fn_of lk hcd S len fun A outer s H vs Q E hr hsp=>?_
  obtain ⟨t,h,q⟩:=hbody cdv A outer s H vs Q E hr hsp
  exact ⟨t,h.nox,q⟩
theorem Fun.binds {x qual:Str} {st:Stmt} {f:Addr} {fd:FuncData} {ps:List Str} (F:Fun K x qual st f fd)
    (h:∀ (kV doc pm:Value) (an:Option Addr) (cdv ct:Value) (us:List Value),us.length = ps.length -> bindArgs (W.fnOf x qual (defArgs st) (defBody st) (defScope st) .none kV doc pm an cdv ct) ⟨us,[]⟩ = pure (ps.zip us)):Binds K fd ps []:=by
  obtain ⟨oc,od,kV,doc,pm,an,cdv,ct,osl,rfl,lk,hcd⟩:=F.ex
  exact .all (h kV doc pm an cdv ct)
theorem fun_mk {x qual:Str} {st:Stmt} {f:Addr} {oc:Value} {od an:Option Addr} {osl:Array (Option Value)} {kV doc pm cdv ct:Value} (l:K.lookup f = some ⟨oc,od,.func (W.fnOf x qual (defArgs st) (defBody st) (defScope st) .none kV doc pm an cdv ct),osl⟩)
    (c:W.codeIn K cdv qual = true) (k:W.keepIn K (.ref f) = true):Fun K x qual st f (W.fnOf x qual (defArgs st) (defBody st) (defScope st) .none kV doc pm an cdv ct):=⟨⟨oc,od,kV,doc,pm,an,cdv,ct,osl,rfl,l,c⟩,k⟩
end
theorem hu_of {A:Around} {k:Nat} (hr:Room k A):A.units + 1 < cLine:=Nat.lt_of_le_of_lt (Nat.add_le_add_left (by decide : 1 <= 64) _) hr.units
theorem small1000 {n:Nat} (h:n <= 1000):n < sizeLine:=Nat.lt_of_le_of_lt h (by decide)

section
variable {X:Cx}
end

noncomputable def Same (H H':Hp):Prop:=∀ b o,H b = some o -> H' b = some o
theorem Same.refl (H:Hp):Same H H:=fun _ _ h=>h
theorem Same.trans {H H1 H2:Hp} (a:Same H H1) (b:Same H1 H2):Same H H2:=fun c o h=>b c o (a c o h)
theorem Same.free {H H':Hp} (e:Same H H') {l:Addr} (h:H' l = Option.none):H l = Option.none:=by
  cases q:H l with
  | none=>rfl
  | some o =>
    rw [e l o q] at h
    cases h
end L2

namespace L2
open PySem PySem.Spec PyProof.Rows
section
variable {X:Cx}
end
section
variable {κ:Type} [DecidableEq κ]
end
end L2


namespace L2.VL
open PySem PySem.Spec PyProof.Rows
structure RlT where
  a:Option Addr
  b:Nat × List Int
abbrev RlT.no:RlT:=⟨none,(0,[])⟩
abbrev RlT.at' (r:Addr) (b:Nat × List Int):RlT:=⟨some r,b⟩
noncomputable def RO (c:Nat × List Int) (F:Hp) (o:HO):Prop:=∃ (a l t:Int),o = .dK [(Sum.inr "cells", .ref c.1),(Sum.inr "at", .int a),(Sum.inr "left", .int l),(Sum.inr "turn", .int t)] /\ F c.1 = some (.lst (c.2.map V.int)) /\ c.2.length <= 63 /\ 0 <= a /\ 0 <= l /\ 0 <= t
theorem RO.mono {c:Nat × List Int} {F F':Hp} {o:HO} (s:Same F F') (h:RO c F o):RO c F' o:=by
  obtain ⟨a,l,t,e,q,r⟩:=h
  exact ⟨a,l,t,e,s _ _ q,r⟩
end L2.VL

namespace L2.VL
open PySem PySem.Spec PyProof.Rows

mutual
inductive Rep (K:W.Frag) (F:Hp):V -> PyData -> Prop
  | non:Rep K F .non .none
  | bl (b:Bool):Rep K F (.bl b) (.bool b)
  | int (i:Int):Rep K F (.int i) (.int i)
  | str (x:Str):Rep K F (.str x) (.str x)
  | tup {a:Addr} {vs:List V} {ds:List PyData}:SqT K F a vs -> Reps K F vs ds -> Rep K F (.ref a) (.tuple ds)
  | lst {a:Addr} {vs:List V} {ds:List PyData}:F a = some (.lst vs) -> Reps K F vs ds -> Rep K F (.ref a) (.list ds)
inductive Reps (K:W.Frag) (F:Hp):List V -> List PyData -> Prop
  | nil:Reps K F [] []
  | cons {v:V} {d:PyData} {vs:List V} {ds:List PyData}:Rep K F v d -> Reps K F vs ds -> Reps K F (v :: vs) (d :: ds)
end

theorem sameT {K:W.Frag} {H H':Hp} {a:Addr} {xs:List V} (e:Same H H') (h:SqT K H a xs):SqT K H' a xs:=by
  rcases h with (h | ⟨o,h⟩) | h
  · exact .inl (.inl (e _ _ h))
  · exact .inl (.inr ⟨o,e _ _ h⟩)
  · exact .inr h
theorem sameL {K:W.Frag} {H H':Hp} {a:Addr} {xs:List V} (e:Same H H') (h:SqL K H a xs):SqL K H' a xs:=by
  rcases h with (h | ⟨o,h⟩) | h
  · exact .inl (.inl (e _ _ h))
  · exact .inl (.inr ⟨o,e _ _ h⟩)
  · exact .inr h
mutual
theorem Rep.mono {K:W.Frag} {F F':Hp} (s:Same F F'):∀ {v:V} {d:PyData},Rep K F v d -> Rep K F' v d
  | _,_,.non=>.non
  | _,_,.bl b=>.bl b
  | _,_,.int i=>.int i
  | _,_,.str x=>.str x
  | _,_,.tup h r=>.tup (sameT s h) (Reps.mono s r)
  | _,_,.lst h r=>.lst (s _ _ h) (Reps.mono s r)
theorem Reps.mono {K:W.Frag} {F F':Hp} (s:Same F F'):∀ {vs:List V} {ds:List PyData},Reps K F vs ds -> Reps K F' vs ds
  | _,_,.nil=>.nil
  | _,_,.cons h r=>.cons (Rep.mono s h) (Reps.mono s r)
end
theorem Reps.length {K:W.Frag} {F:Hp}:∀ {vs:List V} {ds:List PyData},Reps K F vs ds -> vs.length = ds.length
  | _,_,.nil=>rfl
  | _,_,.cons _ r=>by simp [Reps.length r]
theorem Reps.get {K:W.Frag} {F:Hp}:∀ {vs:List V} {ds:List PyData} {i:Nat} {d:PyData},Reps K F vs ds -> ds[i]? = some d -> ∃ v,vs[i]? = some v /\ Rep K F v d
  | _,_,_,_,.nil,e=>by simp at e
  | _,_,0,_,.cons h _,e=>by simp at e; subst e; exact ⟨_,rfl,h⟩
  | _,_,i + 1,d,.cons _ r,e=>by
    obtain ⟨v,h1,h2⟩:=Reps.get (i:=i) (d:=d) r (by simpa using e)
    exact ⟨v,by simpa using h1,h2⟩
theorem Reps.append {K:W.Frag} {F:Hp}:∀ {vs us:List V} {ds es:List PyData},Reps K F vs ds -> Reps K F us es -> Reps K F (vs ++ us) (ds ++ es)
  | _,_,_,_,.nil,s=>s
  | _,_,_,_,.cons h r,s=>.cons h (Reps.append r s)
theorem Reps.snoc {K:W.Frag} {F:Hp} {vs:List V} {ds:List PyData} {v:V} {d:PyData} (r:Reps K F vs ds) (h:Rep K F v d):Reps K F (vs ++ [v]) (ds ++ [d]):=r.append (.cons h .nil)
theorem Reps.take {K:W.Frag} {F:Hp}:∀ {vs:List V} {ds:List PyData} (n:Nat),Reps K F vs ds -> Reps K F (vs.take n) (ds.take n)
  | _,_,0,_=>.nil
  | _,_,_ + 1,.nil=>.nil
  | _,_,n + 1,.cons h r=>.cons h (Reps.take n r)
theorem Reps.drop {K:W.Frag} {F:Hp}:∀ {vs:List V} {ds:List PyData} (n:Nat),Reps K F vs ds -> Reps K F (vs.drop n) (ds.drop n)
  | _,_,0,r=>r
  | _,_,_ + 1,.nil=>.nil
  | _,_,n + 1,.cons _ r=>Reps.drop n r
theorem Reps.nil_iff {K:W.Frag} {F:Hp} {vs:List V} (h:Reps K F vs []):vs = []:=by cases h; rfl

mutual
theorem Rep.reads {X:Cx} {pins:List (Addr × Obj)} {σ:St} {H F:Hp} {s:Shared} (I:Inv X pins σ H s) (sub:Same F H):∀ {v:V} {d:PyData},Rep X.K F v d -> ∀ u,RelV v u -> ∃ as,Reads s.heap u d as
  | _,_,.non,u,r=>by cases (show u = Value.none from r); exact ⟨_,.none⟩
  | _,_,.bl b,u,r=>by cases (show u = Value.bool b from r); exact ⟨_,.bool b⟩
  | _,_,.int i,u,r=>by obtain ⟨t,q⟩:=(show ∃ t,u = Value.int i t from r); cases q; exact ⟨_,.int i t⟩
  | _,_,.str x,u,r=>by obtain ⟨t,q⟩:=(show ∃ t,u = Value.str x t from r); cases q; exact ⟨_,.str x t⟩
  | _,_,.tup (a:=a) h q,u,r=>by
    cases (show u = Value.ref a from r)
    obtain ⟨its,rv,⟨o,h1,h2,n,h3⟩,hz⟩:=I.tuple (sameT sub h)
    obtain ⟨as,ra⟩:=Reps.reads I sub q its rv
    exact ⟨_,.tuple h1 h2 h3 (by simpa using ra)⟩
  | _,_,.lst (a:=a) h q,u,r=>by
    cases (show u = Value.ref a from r)
    obtain ⟨its,rv,p,hz⟩:=I.list (.inl (.inl (sub _ _ h)))
    obtain ⟨o,h1,h2,n,h3⟩:=p.isList
    obtain ⟨as,ra⟩:=Reps.reads I sub q its rv
    exact ⟨_,.list h1 h2 h3 (by simpa using ra)⟩
theorem Reps.reads {X:Cx} {pins:List (Addr × Obj)} {σ:St} {H F:Hp} {s:Shared} (I:Inv X pins σ H s) (sub:Same F H):∀ {vs:List V} {ds:List PyData},Reps X.K F vs ds -> ∀ us,Vals vs us -> ∃ as,ReadsAll s.heap us ds as
  | _,_,.nil,us,r=>by cases r; exact ⟨_,.nil⟩
  | _,_,.cons h q,us,r=>by
    cases r with
    | cons r1 r2 =>
      obtain ⟨as,a1⟩:=Rep.reads I sub h _ r1
      obtain ⟨bs,a2⟩:=Reps.reads I sub q _ r2
      exact ⟨_,.cons a1 a2⟩
end

structure ReelOk (b:Nat × List Int) (F H:Hp) (r:Addr):Prop where
  ex:∃ o,H r = some o /\ RO b F o
noncomputable def RAt (rl:RlT) (F H:Hp):Prop:=∀ r,rl.a = some r -> F r = none /\ ReelOk rl.b F H r
theorem RAt.live {rl:RlT} {F H:Hp} (h:RAt rl F H) {r:Addr} (e:rl.a = some r):∃ o,H r = some o:=by
  obtain ⟨_,⟨o,q,_⟩⟩:=h r e
  exact ⟨_,q⟩

structure Grow (rl:RlT) (F H F' H':Hp):Prop where
  same:∀ b o,H b = some o -> rl.a ≠ some b -> H' b = some o
  fs:Same F F'
  sub:Same F' H'
  old:∀ b o,H b = some o -> F' b = F b
  reel:RAt rl F' H'
theorem Grow.refl {rl:RlT} {F H:Hp} (s:Same F H) (r:RAt rl F H):Grow rl F H F H:=⟨fun _ _ e _=>e,.refl F,s,fun _ _ _=>rfl,r⟩
theorem Grow.live {rl:RlT} {F H F' H':Hp} (g:Grow rl F H F' H') {b:Addr} {o:HO} (e:H b = some o):∃ o',H' b = some o':=by
  by_cases h:rl.a = some b
  · exact g.reel.live h
  · exact ⟨o,g.same b o e h⟩
theorem Grow.trans {rl:RlT} {F H F1 H1 F2 H2:Hp} (a:Grow rl F H F1 H1) (b:Grow rl F1 H1 F2 H2):Grow rl F H F2 H2 :=
  ⟨fun c o e n=>b.same c o (a.same c o e n) n,a.fs.trans b.fs,b.sub,fun c o e=>by obtain ⟨o',e'⟩:=a.live e; rw [b.old c o' e',a.old c o e],b.reel⟩
theorem Grow.freeB {rl:RlT} {F H F' H':Hp} (g:Grow rl F H F' H') {b:Addr} (e:H' b = none):H b = none:=by
  cases q:H b with
  | none=>rfl
  | some o=>obtain ⟨o',e'⟩:=g.live q; rw [e] at e'; cases e'
theorem Grow.laid {rl:RlT} {F H:Hp} {a:Addr} {o:HO} (s:Same F H) (r:RAt rl F H) (n:H a = none):Grow rl F H F (upd H a o):=by
  have ne:∀ b u,H b = some u -> b ≠ a:=fun b u e=>ne_of_none e n
  refine ⟨fun b u e _=>by rw [upd_ne (ne b u e)]; exact e,.refl F,fun b u e=>by rw [upd_ne (ne b u (s b u e))]; exact s b u e,fun _ _ _=>rfl,fun q e=>?_⟩
  obtain ⟨z,⟨u,h1,h2⟩⟩:=r q e
  exact ⟨z,⟨u,by rw [upd_ne (ne _ _ h1)]; exact h1,h2⟩⟩
theorem Grow.data {rl:RlT} {F H:Hp} {a:Addr} {o:HO} (s:Same F H) (r:RAt rl F H) (n:H a = none):Grow rl F H (upd F a o) (upd H a o):=by
  have ne:∀ b u,H b = some u -> b ≠ a:=fun b u e=>ne_of_none e n
  have neF:∀ b u,F b = some u -> b ≠ a:=fun b u e=>ne b u (s b u e)
  refine ⟨fun b u e _=>by rw [upd_ne (ne b u e)]; exact e,fun b u e=>by rw [upd_ne (neF b u e)]; exact e,fun b u e=>?_,fun b u e=>by rw [upd_ne (ne b u e)],fun q e=>?_⟩
  · by_cases hb:b = a
    · subst hb; rw [upd_same] at e ⊢; exact e
    · rw [upd_ne hb] at e ⊢; exact s b u e
  · obtain ⟨z,⟨u,h1,h2⟩⟩:=r q e
    exact ⟨by rw [upd_ne (ne _ _ h1)]; exact z,⟨u,by rw [upd_ne (ne _ _ h1)]; exact h1,RO.mono (fun b u e=>by rw [upd_ne (neF b u e)]; exact e) h2⟩⟩
theorem Grow.freeze {rl:RlT} {F H F1 H1:Hp} {a:Addr} {o:HO} (g:Grow rl F H F1 H1) (n:H a = none) (e:H1 a = some o) (f:F1 a = none) (hr:rl.a ≠ some a):Grow rl F H (upd F1 a o) H1:=by
  have neF:∀ b u,F1 b = some u -> b ≠ a:=fun b u q z=>by subst z; rw [f] at q; cases q
  refine ⟨g.same,fun b u q=>by rw [upd_ne (neF b u (g.fs b u q))]; exact g.fs b u q,fun b u q=>?_,fun b u q=>by rw [upd_ne (ne_of_none q n)]; exact g.old b u q,fun q z=>?_⟩
  · by_cases hb:b = a
    · subst hb; rw [upd_same] at q; rw [e]; exact q
    · rw [upd_ne hb] at q; exact g.sub b u q
  · obtain ⟨z1,⟨u,h1,h2⟩⟩:=g.reel q z
    exact ⟨by rw [upd_ne (fun y=>hr (by rw [<- y]; exact z))]; exact z1,⟨u,h1,RO.mono (fun b u e=>by rw [upd_ne (neF b u e)]; exact e) h2⟩⟩

inductive W where
  | d (x:PyData)
  
  | ml (xs:List PyData)
  
  | pk (xs:List PyData)
  | reel
  
  | vv (v:V)
  
  | md (kvs:List (List Key × PyData))
  
  | mk (kvs:List (Key × PyData))
  
  | nt (ds:List PyData)
  
  | lk
  
  | sc (ns:List Int)
  
  | fd (kvs:List (Key × PyData))
  
  | fw (kvs:List (Key × PyData))
  
  | ft (kvs:List (List Key × PyData))
  
  | xc (x:Str) (fs:List (Str × PyData))
  
  | dp (kvs:List (Key × PyData)) (x:PyData)
noncomputable def W.dat:W -> Option PyData
  | .d x=>some x
  | .ml xs=>some (.list xs)
  | .pk xs=>some (.list xs)
  | .nt ds=>some (.tuple ds)
  | _=>none
noncomputable def W.peek:W -> W
  | .ml xs=>.pk xs
  | .md _=>.lk
  | .mk _=>.lk
  | w=>w
noncomputable def W.own:W -> Bool
  | .ml _=>true
  | .md _=>true
  | .mk _=>true
  | _=>false
abbrev KD (K:W.Frag) (F:Hp):List (List Key × V) -> List (List Key × PyData) -> Prop:=Paired fun p q=>p.1 = q.1 /\ Rep K F p.2 q.2
abbrev KDk (K:W.Frag) (F:Hp):List (Key × V) -> List (Key × PyData) -> Prop:=Paired fun p q=>p.1 = q.1 /\ Rep K F p.2 q.2
abbrev KDs (K:W.Frag) (F:Hp):List (Str × V) -> List (Str × PyData) -> Prop:=Paired fun p q=>p.1 = q.1 /\ Rep K F p.2 q.2
noncomputable def ExcAt (e C dx:Addr):Heap -> Prop:=fun h=>∃ oe vs,h.get? e = some oe /\ oe.cls = .ref C /\ oe.dict = some dx /\ oe.data = .fields vs
noncomputable def OwnD (K:W.Frag) (rl:RlT) (F H:Hp) (v:V) (kvs:List (List Key × PyData)):Prop:=∃ a us,v = .ref a /\ F a = none /\ rl.a ≠ some a /\ H a = some (.dT us) /\ KD K F us kvs
noncomputable def OwnK (K:W.Frag) (rl:RlT) (F H:Hp) (v:V) (kvs:List (Key × PyData)):Prop:=∃ a us,v = .ref a /\ F a = none /\ rl.a ≠ some a /\ H a = some (.dK us) /\ KDk K F us kvs
noncomputable def OwnL (K:W.Frag) (rl:RlT) (F H:Hp) (v:V) (xs:List PyData):Prop:=∃ a vs,v = .ref a /\ F a = none /\ rl.a ≠ some a /\ H a = some (.lst vs) /\ Reps K F vs xs
noncomputable def RelW (K:W.Frag) (rl:RlT) (F H:Hp) (v:V):W -> Prop
  | .d x=>Rep K F v x
  | .ml xs=>OwnL K rl F H v xs
  | .pk xs=>OwnL K rl F H v xs
  | .reel=>∃ r,rl.a = some r /\ v = .ref r
  | .vv u=>v = u
  | .md kvs=>OwnD K rl F H v kvs
  | .mk kvs=>OwnK K rl F H v kvs
  | .nt ds=>∃ a vs,v = .ref a /\ F a = some (.tup vs) /\ Reps K F vs ds
  | .lk=>True
  | .sc ns=>∃ a,v = .ref a /\ SqL K F a (ns.map V.int)
  | .fd kvs=>∃ a us,v = .ref a /\ F a = some (.dK us) /\ KDk K F us kvs
  | .fw kvs=>∃ a us o,v = .ref a /\ F a = some (.frz o (.dK us)) /\ KDk K F us kvs
  | .ft kvs=>∃ a us o,v = .ref a /\ F a = some (.frz o (.dT us)) /\ KD K F us kvs
  | .xc x fs=>∃ e dx us C,v = .ref e /\ W.nsIn K mainGlobals x = some (some (.ref C)) /\ F e = some (.ext (ExcAt e C dx)) /\ F dx = some (.xd us) /\ KDs K F us fs
  | .dp kvs x=>∃ a b us u o,v = .ref a /\ F a = some (.tup [.ref b,u]) /\ F b = some (.frz o (.dK us)) /\ KDk K F us kvs /\ Rep K F u x
theorem OwnD.grow {K:W.Frag} {rl:RlT} {F H F' H':Hp} {v:V} {kvs:List (List Key × PyData)} (g:Grow rl F H F' H') (r:OwnD K rl F H v kvs):OwnD K rl F' H' v kvs:=by
  obtain ⟨a,us,rfl,h1,h2,h3,h4⟩:=r
  exact ⟨a,us,rfl,by rw [g.old a _ h3]; exact h1,h2,g.same a _ h3 h2,Paired.mapP h4 fun _ _ z=>⟨z.1,z.2.mono g.fs⟩⟩
theorem OwnK.grow {K:W.Frag} {rl:RlT} {F H F' H':Hp} {v:V} {kvs:List (Key × PyData)} (g:Grow rl F H F' H') (r:OwnK K rl F H v kvs):OwnK K rl F' H' v kvs:=by
  obtain ⟨a,us,rfl,h1,h2,h3,h4⟩:=r
  exact ⟨a,us,rfl,by rw [g.old a _ h3]; exact h1,h2,g.same a _ h3 h2,Paired.mapP h4 fun _ _ z=>⟨z.1,z.2.mono g.fs⟩⟩
theorem OwnL.grow {K:W.Frag} {rl:RlT} {F H F' H':Hp} {v:V} {xs:List PyData} (g:Grow rl F H F' H') (r:OwnL K rl F H v xs):OwnL K rl F' H' v xs:=by
  obtain ⟨a,vs,rfl,h1,h2,h3,h4⟩:=r
  exact ⟨a,vs,rfl,by rw [g.old a _ h3]; exact h1,h2,g.same a _ h3 h2,h4.mono g.fs⟩
theorem RelW.grow {K:W.Frag} {rl:RlT} {F H F' H':Hp} {v:V} {w:W} (g:Grow rl F H F' H') (r:RelW K rl F H v w):RelW K rl F' H' v w:=by
  cases w with
  | d x=>exact Rep.mono g.fs r
  | ml xs=>exact OwnL.grow g r
  | pk xs=>exact OwnL.grow g r
  | reel=>exact r
  | vv u=>exact r
  | md kvs=>exact OwnD.grow g r
  | mk kvs=>exact OwnK.grow g r
  | nt ds=>obtain ⟨a,vs,e,h,q⟩:=r; exact ⟨a,vs,e,g.fs _ _ h,q.mono g.fs⟩
  | lk=>trivial
  | sc ns=>obtain ⟨a,e,h⟩:=r; exact ⟨a,e,sameL g.fs h⟩
  | fd kvs=>obtain ⟨a,us,e,h,q⟩:=r; exact ⟨a,us,e,g.fs _ _ h,Paired.mapP q fun _ _ z=>⟨z.1,z.2.mono g.fs⟩⟩
  | fw kvs=>obtain ⟨a,us,o,e,h,q⟩:=r; exact ⟨a,us,o,e,g.fs _ _ h,Paired.mapP q fun _ _ z=>⟨z.1,z.2.mono g.fs⟩⟩
  | ft kvs=>obtain ⟨a,us,o,e,h,q⟩:=r; exact ⟨a,us,o,e,g.fs _ _ h,Paired.mapP q fun _ _ z=>⟨z.1,z.2.mono g.fs⟩⟩
  | xc _ _=>obtain ⟨a,dx,us,C,e,n,h1,h2,q⟩:=r; exact ⟨a,dx,us,C,e,n,g.fs _ _ h1,g.fs _ _ h2,Paired.mapP q fun _ _ z=>⟨z.1,z.2.mono g.fs⟩⟩
  | dp _ _=>obtain ⟨a,b,us,u,o,e,h1,h2,q,z⟩:=r; exact ⟨a,b,us,u,o,e,g.fs _ _ h1,g.fs _ _ h2,Paired.mapP q fun _ _ z=>⟨z.1,z.2.mono g.fs⟩,z.mono g.fs⟩
theorem RelW.peek {K:W.Frag} {rl:RlT} {F H:Hp} {v:V} {w:W} (r:RelW K rl F H v w):RelW K rl F H v w.peek:=by cases w <;> first | exact r | trivial
theorem OwnL.rep {K:W.Frag} {rl:RlT} {F H:Hp} {v:V} {xs:List PyData} (s:Same F H) (r:OwnL K rl F H v xs):Rep K H v (.list xs):=by
  obtain ⟨a,vs,rfl,h1,h2,h3,h4⟩:=r
  exact .lst h3 (h4.mono s)
theorem RelW.dat {K:W.Frag} {rl:RlT} {F H:Hp} {v:V} {w:W} {x:PyData} (s:Same F H) (r:RelW K rl F H v w) (e:w.dat = some x):Rep K H v x:=by
  cases w with
  | d y=>cases e; exact Rep.mono s r
  | ml xs=>cases e; exact OwnL.rep s r
  | pk xs=>cases e; exact OwnL.rep s r
  | reel=>cases e
  | vv u=>cases e
  | md kvs=>cases e
  | mk kvs=>cases e
  | nt ds=>cases e; obtain ⟨a,vs,rfl,h,q⟩:=r; exact .tup (.inl (.inl (s _ _ h))) (q.mono s)
  | lk=>cases e
  | sc _=>cases e
  | fd _=>cases e
  | fw _=>cases e
  | ft _=>cases e
  | xc _ _=>cases e
  | dp _ _=>cases e
theorem RelW.items {K:W.Frag} {rl:RlT} {F H:Hp} {v:V} {w:W} {xs:List PyData} (s:Same F H) (r:RelW K rl F H v w) (e:w.dat = some (.list xs)):∃ a vs,v = .ref a /\ SqL K H a vs /\ Reps K F vs xs:=by
  have own:OwnL K rl F H v xs -> ∃ a vs,v = .ref a /\ SqL K H a vs /\ Reps K F vs xs:=fun ⟨a,vs,e1,_,_,e2,e3⟩=>⟨a,vs,e1,.inl (.inl e2),e3⟩
  cases w with
  | d y =>
    cases e
    cases (show Rep K F v (.list xs) from r) with
    | lst h q=>exact ⟨_,_,rfl,.inl (.inl (s _ _ h)),q⟩
  | ml ys=>cases e; exact own r
  | pk ys=>cases e; exact own r
  | reel=>cases e
  | vv u=>cases e
  | md kvs=>cases e
  | mk kvs=>cases e
  | nt ds=>cases e
  | lk=>cases e
  | sc _=>cases e
  | fd _=>cases e
  | fw _=>cases e
  | ft _=>cases e
  | xc _ _=>cases e
  | dp _ _=>cases e
theorem RelW.itemsT {K:W.Frag} {rl:RlT} {F H:Hp} {v:V} {w:W} {xs:List PyData} (s:Same F H) (r:RelW K rl F H v w) (e:w.dat = some (.tuple xs)):∃ a vs,v = .ref a /\ SqT K H a vs /\ Reps K F vs xs:=by
  cases w with
  | d y =>
    cases e
    cases (show Rep K F v (.tuple xs) from r) with
    | tup h q=>exact ⟨_,_,rfl,sameT s h,q⟩
  | ml ys=>cases e
  | pk ys=>cases e
  | reel=>cases e
  | vv u=>cases e
  | md kvs=>cases e
  | mk kvs=>cases e
  | nt ds=>cases e; obtain ⟨a,vs,rfl,h,q⟩:=r; exact ⟨a,vs,rfl,.inl (.inl (s _ _ h)),q⟩
  | lk=>cases e
  | sc _=>cases e
  | fd _=>cases e
  | fw _=>cases e
  | ft _=>cases e
  | xc _ _=>cases e
  | dp _ _=>cases e
noncomputable def NewIn (H:Hp) (v:V):W -> Prop
  | .ml _=>∀ a,v = .ref a -> H a = none
  | .md _=>∀ a,v = .ref a -> H a = none
  | .mk _=>∀ a,v = .ref a -> H a = none
  | _=>True
theorem RelW.live {K:W.Frag} {rl:RlT} {F H:Hp} {v:V} {w:W} (r:RelW K rl F H v w) (h:w.own = true):∃ a o,v = .ref a /\ H a = some o:=by
  cases w with
  | ml xs=>obtain ⟨a,vs,e,_,_,hh,_⟩:=r; exact ⟨a,_,e,hh⟩
  | md xs=>obtain ⟨a,vs,e,_,_,hh,_⟩:=r; exact ⟨a,_,e,hh⟩
  | mk xs=>obtain ⟨a,vs,e,_,_,hh,_⟩:=r; exact ⟨a,_,e,hh⟩
  | _=>cases h
theorem NewIn.none {H:Hp} {v:V} {w:W} (n:NewIn H v w) (h:w.own = true) {a:Addr} (e:v = .ref a):H a = none:=by
  cases w with
  | ml xs=>exact n a e
  | md xs=>exact n a e
  | mk xs=>exact n a e
  | _=>cases h

abbrev En:=List (Option W)
structure VR (K:W.Frag) (rl:RlT) (F₀ H₀ F H:Hp) (σ:St) (ρ:En):Prop where
  g:Grow rl F₀ H₀ F H
  sl:∀ (i:Nat) w,ρ[i]? = some (some w) -> ∃ v,σ[i]? = some (some v) /\ RelW K rl F H v w /\ NewIn H₀ v w
  ap:∀ (i j:Nat) (x y:W) v,i ≠ j -> ρ[i]? = some (some x) -> ρ[j]? = some (some y) -> x.own = true -> y.own = true -> σ[i]? = some (some v) -> σ[j]? = some (some v) -> False
  np:∀ (i:Nat) xs,ρ[i]? ≠ some (some (W.pk xs))
  len : ρ.length = σ.length
section
variable {K:W.Frag} {rl:RlT} {F₀ H₀ F H F' H':Hp} {σ:St} {ρ:En}
theorem VR.sub (r:VR K rl F₀ H₀ F H σ ρ):Same F H:=r.g.sub
theorem VR.reel (r:VR K rl F₀ H₀ F H σ ρ):RAt rl F H:=r.g.reel
theorem VR.grow (r:VR K rl F₀ H₀ F H σ ρ) (g:Grow rl F H F' H'):VR K rl F₀ H₀ F' H' σ ρ :=
  ⟨r.g.trans g,fun i w e=>let ⟨v,e1,e2,e3⟩:=r.sl i w e; ⟨v,e1,e2.grow g,e3⟩,r.ap,r.np,r.len⟩
theorem VR.set (r:VR K rl F₀ H₀ F H σ ρ) {H1 F1:Hp} (g:Grow rl F H F1 H1) {v:V} {w:W} (rw':RelW K rl F1 H1 v w) (hn:NewIn H v w) (hp:∀ xs,w ≠ .pk xs) (i:Nat):VR K rl F₀ H₀ F1 H1 (σ.set i (some v)) (ρ.set i (some w)):=by
  have r1:=r.grow g
  refine ⟨r1.g,fun j w' e=>?_,fun j k xs ys u hjk e1 e2 w1 w2 s1 s2=>?_,fun j xs z=>?_,by simp [r.len]⟩
  · by_cases hj:i = j
    · subst hj
      have hi:i < ρ.length:=by
        rw [List.getElem?_set] at e
        by_cases hi:i < ρ.length
        · exact hi
        · simp [hi] at e
      rw [List.getElem?_set_self hi] at e
      cases e
      refine ⟨v,by rw [List.getElem?_set_self (by rw [<- r.len]; exact hi)],rw',?_⟩
      cases w with
      | ml xs=>exact fun a ea=>r.g.freeB (hn a ea)
      | d x=>trivial
      | pk xs=>trivial
      | reel=>trivial
      | vv u=>trivial
      | md xs=>exact fun a ea=>r.g.freeB (hn a ea)
      | mk xs=>exact fun a ea=>r.g.freeB (hn a ea)
      | nt ds=>trivial
      | lk=>trivial
      | sc _=>trivial
      | fd _=>trivial
      | fw _=>trivial
      | ft _=>trivial
      | xc _ _=>trivial
      | dp _ _=>trivial
    · rw [List.getElem?_set_ne hj] at e
      obtain ⟨u,h1,h2,h3⟩:=r1.sl j w' e
      exact ⟨u,by rw [List.getElem?_set_ne hj]; exact h1,h2,h3⟩
  · have key:∀ (k:Nat) (x y:W),ρ[k]? = some (some y) -> some (some w) = some (some x) -> x.own = true -> y.own = true -> σ[k]? = some (some v) -> False:=fun k x y d2 e1 o1 o2 s2=>by
      cases e1
      obtain ⟨u',h1,h2,h3⟩:=r.sl k _ d2
      rw [s2] at h1
      cases h1
      obtain ⟨a,o,ea,hh⟩:=h2.live o2
      rw [hn.none o1 ea] at hh
      cases hh
    by_cases hj:i = j
    · subst hj
      have hk:i ≠ k:=hjk
      have hi:i < ρ.length:=by
        rw [List.getElem?_set] at e1
        by_cases hi:i < ρ.length
        · exact hi
        · simp [hi] at e1
      rw [List.getElem?_set_self hi] at e1
      rw [List.getElem?_set_ne hk] at e2 s2
      rw [List.getElem?_set_self (by rw [<- r.len]; exact hi)] at s1
      cases s1
      exact key k xs ys e2 e1 w1 w2 s2
    · by_cases hk:i = k
      · subst hk
        have hi:i < ρ.length:=by
          rw [List.getElem?_set] at e2
          by_cases hi:i < ρ.length
          · exact hi
          · simp [hi] at e2
        rw [List.getElem?_set_self hi] at e2
        rw [List.getElem?_set_ne hj] at e1 s1
        rw [List.getElem?_set_self (by rw [<- r.len]; exact hi)] at s2
        cases s2
        exact key j ys xs e1 e2 w2 w1 s1
      · rw [List.getElem?_set_ne hj] at e1 s1
        rw [List.getElem?_set_ne hk] at e2 s2
        exact r.ap j k xs ys u hjk e1 e2 w1 w2 s1 s2
  · rw [List.getElem?_set] at z
    split at z
    · split at z
      · exact hp xs (Option.some.inj (Option.some.inj z))
      · cases z
    · exact r.np j xs z
end
end L2.VL

namespace L2.VL
open PySem PySem.Spec PyProof.Rows

abbrev TV:=En -> (W -> Prop) -> Prop
abbrev TB:=En -> (Bool -> Prop) -> Prop
abbrev TVs:=En -> (List W -> Prop) -> Prop
abbrev RelWs (K:W.Frag) (rl:RlT) (F H:Hp):List V -> List W -> Prop:=Paired (RelW K rl F H)

noncomputable def PV (X:Cx) (rl:RlT) (e:Expr) (f:TV):Prop:=∃ t,PE X e t /\ ∀ {F₀ H₀ F H:Hp} {σ:St} {ρ:En},VR X.K rl F₀ H₀ F H σ ρ -> ∀ (Qd:W -> Prop) (Q:VK),f ρ Qd ->
  (∀ v w F' H',Grow rl F H F' H' -> RelW X.K rl F' H' v w -> NewIn H v w -> Qd w -> Q v H') -> t σ H Q
noncomputable def PB (X:Cx) (rl:RlT) (e:Expr) (f:TB):Prop:=∃ t,PT X e t /\ ∀ {F₀ H₀ F H:Hp} {σ:St} {ρ:En},VR X.K rl F₀ H₀ F H σ ρ -> ∀ (Qd:Bool -> Prop) (Q:Bool -> Hp -> Prop),f ρ Qd ->
  (∀ b F' H',Grow rl F H F' H' -> Qd b -> Q b H') -> t σ H Q
noncomputable def PVs (X:Cx) (rl:RlT) (es:List Expr) (f:TVs):Prop:=∃ t,PA X es t /\ ∀ {F₀ H₀ F H:Hp} {σ:St} {ρ:En},VR X.K rl F₀ H₀ F H σ ρ -> ∀ (Qd:List W -> Prop) (Q:List V -> Hp -> Prop),f ρ Qd ->
  (∀ vs ws F' H',Grow rl F H F' H' -> RelWs X.K rl F' H' vs ws -> Qd ws -> Q vs H') -> t σ H Q

noncomputable def W.fz:W -> W
  | .ml xs=>.d (.list xs)
  | .nt ds=>.d (.tuple ds)
  | w=>w
theorem RelW.fz {K:W.Frag} {rl:RlT} {F H F1 H1:Hp} {v:V} {w:W} (g:Grow rl F H F1 H1) (r:RelW K rl F1 H1 v w) (n:NewIn H v w):∃ F2,Grow rl F H F2 H1 /\ Same F1 F2 /\ RelW K rl F2 H1 v w.fz:=by
  cases w with
  | d x=>exact ⟨F1,g,.refl _,r⟩
  | pk xs=>exact ⟨F1,g,.refl _,r⟩
  | reel=>exact ⟨F1,g,.refl _,r⟩
  | vv u=>exact ⟨F1,g,.refl _,r⟩
  | md u=>exact ⟨F1,g,.refl _,r⟩
  | mk u=>exact ⟨F1,g,.refl _,r⟩
  | lk=>exact ⟨F1,g,.refl _,r⟩
  | sc _=>exact ⟨F1,g,.refl _,r⟩
  | fd _=>exact ⟨F1,g,.refl _,r⟩
  | fw _=>exact ⟨F1,g,.refl _,r⟩
  | ft _=>exact ⟨F1,g,.refl _,r⟩
  | xc _ _=>exact ⟨F1,g,.refl _,r⟩
  | dp _ _=>exact ⟨F1,g,.refl _,r⟩
  | nt ds=>obtain ⟨a,vs,rfl,h,q⟩:=r; exact ⟨F1,g,.refl _,.tup (.inl (.inl h)) q⟩
  | ml xs =>
    obtain ⟨a,vs,rfl,f,hr,hh,q⟩:=(show OwnL K rl F1 H1 v xs from r)
    have neF:∀ b u,F1 b = some u -> b ≠ a:=fun b u q z=>by subst z; rw [f] at q; cases q
    have fsm:Same F1 (upd F1 a (.lst vs)):=fun b u z=>by rw [upd_ne (neF b u z)]; exact z
    exact ⟨upd F1 a (.lst vs),g.freeze (n a rfl) hh f hr,fsm,.lst upd_same (q.mono fsm)⟩

section
variable {X:Cx} {rl:RlT} {a b e:Expr} {es:List Expr} {fa fb fc:TV} {fs:TVs} {pos p:Pos}

noncomputable def vC (x:PyData):TV:=fun _ Q=>Q (.d x)
theorem pv_const {v:V} {x:PyData} (h:PE X e (tC v)) (r:∀ F,Rep X.K F v x):PV X rl e (vC x) :=
  ⟨_,h,fun R Qd Q q k=>k v (.d x) _ _ (Grow.refl R.sub R.reel) (r _) trivial q⟩
theorem pv_int {i:Int} {j pos}:PV X rl (.Constant (.int i) j pos) (vC (.int i)):=pv_const pe_int fun _=>.int i
theorem pv_bl {i:Bool} {j pos}:PV X rl (.Constant (.bool i) j pos) (vC (.bool i)):=pv_const pe_bl fun _=>.bl i
theorem pv_str {x:Str} {j pos}:PV X rl (.Constant (.str x) j pos) (vC (.str x)):=pv_const pe_str fun _=>.str x
theorem pv_glob {x:Str} {v:V} {u:Value} {d:PyData} {pos:Pos} (hm:X.mg x = some u) (r:RelV v u) (h:∀ F,Rep X.K F v d) (hg:Gl X x:=by rfl) (hd:(x == ("__debug__" : Str)) = false:=by decide):PV X rl (.Name x pos) (vC d) :=
  pv_const (pe_glob hg hm r hd) h
noncomputable def vVar (i:Nat):TV:=fun ρ Q=>∃ w,ρ[i]? = some (some w) /\ Q w.peek
theorem vn (i:Nat) {x:Str} {pos:Pos} (hN:X.N[i]? = some x:=by rfl) (hv:Vis X.env.scope x:=by first | exact Or.inl rfl | exact Or.inr (Or.inl rfl) | exact Or.inr (Or.inr rfl)) (hd:(x == ("__debug__" : Str)) = false:=by decide)
    (hcd:(x == ("__classdict__" : Str)) = false:=by decide):PV X rl (.Name x pos) (vVar i) :=
  ⟨_,pe_var hN hv hd hcd,fun R Qd Q ⟨w,e,q⟩ k=>by
    obtain ⟨v,e1,r,_⟩:=R.sl i w e
    refine ⟨v,e1,k v w.peek _ _ (Grow.refl R.sub R.reel) r.peek ?_ q⟩
    cases w <;> trivial⟩

noncomputable def vNil:TVs:=fun _ Q=>Q []
noncomputable def vCons (f:TV) (fs:TVs):TVs:=fun ρ Q=>f ρ fun w=>fs ρ fun ws=>Q (w.fz :: ws)
theorem pvs_nil:PVs X rl [] vNil:=⟨_,pa_nil,fun R Qd Q q k=>k [] [] _ _ (Grow.refl R.sub R.reel) .nil q⟩
theorem pvs_cons (h1:PV X rl e fa) (h2:PVs X rl es fs) (hs:starEach (e :: es) X.env = (false,eval e X.env) :: starEach es X.env:=by rfl):PVs X rl (e :: es) (vCons fa fs):=by
  obtain ⟨t,p1,k1⟩:=h1
  obtain ⟨ts,p2,k2⟩:=h2
  refine ⟨_,pa_cons p1 p2 hs,fun R Qd Q q k=>?_⟩
  refine k1 R _ _ q fun v w F1 H1 g1 r1 n1 q1=>?_
  obtain ⟨F2,g2,s2,r2⟩:=RelW.fz g1 r1 n1
  refine k2 (R.grow g2) _ _ q1 fun vs ws F3 H3 g3 r3 q3=>?_
  exact k (v :: vs) (w.fz :: ws) F3 H3 (g2.trans g3) (.cons (r2.grow g3) r3) q3

noncomputable def VOp (X:Cx) (rl:RlT) (r:R2) (g:W -> W -> (W -> Prop) -> Prop):Prop:=∀ {F H:Hp} {x y:V} {wx wy:W} (Qd:W -> Prop) (Q:VK),Same F H -> RAt rl F H -> RelW X.K rl F H x wx -> RelW X.K rl F H y wy -> g wx wy Qd ->
  (∀ v w F' H',Grow rl F H F' H' -> RelW X.K rl F' H' v w -> NewIn H v w -> Qd w -> Q v H') -> r x y H Q
noncomputable def vOp (g:W -> W -> (W -> Prop) -> Prop) (fa fb:TV):TV:=fun ρ Q=>fa ρ fun x=>fb ρ fun y=>g x y Q
theorem vop_of {r:R2} {g:W -> W -> (W -> Prop) -> Prop} (vo:VOp X rl r g) (ha:PV X rl a fa) (hb:PV X rl b fb) {e:Expr} (hp:∀ ta tb,PE X a ta -> PE X b tb -> PE X e (tOp r ta tb)):PV X rl e (vOp g fa fb):=by
  obtain ⟨ta,p1,k1⟩:=ha
  obtain ⟨tb,p2,k2⟩:=hb
  refine ⟨_,hp ta tb p1 p2,fun R Qd Q q k=>?_⟩
  refine k1 R _ _ q fun v w F1 H1 g1 r1 n1 q1=>?_
  refine k2 (R.grow g1) _ _ q1 fun v2 w2 F2 H2 g2 r2 n2 q2=>?_
  exact vo Qd Q g2.sub g2.reel (r1.grow g2) r2 q2 fun v3 w3 F3 H3 g3 r3 n3 q3=>k v3 w3 F3 H3 ((g1.trans g2).trans g3) r3 (by
    cases w3 with
    | ml xs=>exact fun a ea=>g1.freeB (g2.freeB (n3 a ea))
    | md xs=>exact fun a ea=>g1.freeB (g2.freeB (n3 a ea))
    | mk xs=>exact fun a ea=>g1.freeB (g2.freeB (n3 a ea))
    | nt _=>trivial
    | lk=>trivial
    | sc _=>trivial
    | fd _=>trivial
    | fw _=>trivial
    | ft _=>trivial
    | xc _ _=>trivial
    | dp _ _=>trivial
    | d _=>trivial
    | pk _=>trivial
    | reel=>trivial
    | vv _=>trivial) q3
theorem pv_op {op:Operator} {r:R2} {g:W -> W -> (W -> Prop) -> Prop} (ho:OpR X (binaryOp op) r) (vo:VOp X rl r g) (ha:PV X rl a fa) (hb:PV X rl b fb):PV X rl (.BinOp a op b pos) (vOp g fa fb) :=
  vop_of vo ha hb fun _ _ p1 p2=>pe_op ho p1 p2
noncomputable def gI (C:Int -> Int -> Prop) (g:Int -> Int -> PyData):W -> W -> (W -> Prop) -> Prop:=fun x y Q=>∃ i j,x = .d (.int i) /\ y = .d (.int j) /\ C i j /\ Q (.d (g i j))
theorem rep_int {K:W.Frag} {F:Hp} {v:V} {i:Int} (h:Rep K F v (.int i)):v = .int i:=by cases h; rfl
theorem vop_int {C:Int -> Int -> Prop} {g:Int -> Int -> V} {gd:Int -> Int -> PyData} (h:∀ K F i j,Rep K F (g i j) (gd i j)):VOp X rl (rI C g) (gI C gd):=fun {F H x y wx wy} Qd Q s ra r1 r2 q k=>by
  obtain ⟨i,j,rfl,rfl,c,q⟩:=q
  exact ⟨i,j,rep_int r1,rep_int r2,c,k _ (.d _) _ _ (Grow.refl s ra) (h _ _ i j) trivial q⟩
noncomputable def gI0 (g:Int -> Int -> PyData):W -> W -> (W -> Prop) -> Prop:=fun x y Q=>∃ i j,x = .d (.int i) /\ y = .d (.int j) /\ Q (.d (g i j))
theorem vop_int0 {g:Int -> Int -> V} {gd:Int -> Int -> PyData} (h:∀ K F i j,Rep K F (g i j) (gd i j)):VOp X rl (rI0 g) (gI0 gd):=fun {F H x y wx wy} Qd Q s ra r1 r2 q k=>by
  obtain ⟨i,j,rfl,rfl,q⟩:=q
  exact ⟨i,j,rep_int r1,rep_int r2,k _ (.d _) _ _ (Grow.refl s ra) (h _ _ i j) trivial q⟩
theorem v_add (ha:PV X rl a fa) (hb:PV X rl b fb):PV X rl (.BinOp a .Add b pos) (vOp (gI0 fun i j=>.int (i + j)) fa fb):=pv_op op_add (vop_int0 fun _ _ _ _=>.int _) ha hb
theorem v_sub (ha:PV X rl a fa) (hb:PV X rl b fb):PV X rl (.BinOp a .Sub b pos) (vOp (gI0 fun i j=>.int (i - j)) fa fb):=pv_op op_sub (vop_int0 fun _ _ _ _=>.int _) ha hb
noncomputable def Big (i:Int):Prop:=i.natAbs < 2 ^ 60000
theorem Big.bits {i:Int} (h:Big i):Builtin.Int.intBits i <= 60000:=intBits_le_iff.mpr h
noncomputable def CMulB (i j:Int):Prop:=i.natAbs < 2 ^ 64 \/ j.natAbs < 2 ^ 64 \/ (Big i /\ Big j)
theorem CMulB.lt {i j:Int} (h:i.natAbs < 2 ^ 64):CMulB i j:=.inl h
theorem CMulB.rt {i j:Int} (h:j.natAbs < 2 ^ 64):CMulB i j:=.inr (.inl h)
theorem CMulB.bb {i j:Int} (h:Big i) (h':Big j):CMulB i j:=.inr (.inr ⟨h,h'⟩)
theorem CMulB.ok {i j:Int} (h:CMulB i j):IntMulOk i j:=by
  rcases h with h | h | h
  · exact .of_left (intBits_le_iff.mpr h)
  · exact .of_right (intBits_le_iff.mpr h)
  · exact IntMulOk.of_le h.1.bits h.2.bits (by decide)
theorem op_mulB:OpR X (binaryOp .Mult) (rI CMulB fun i j=>.int (i * j)):=opI fun _ _ _ _ _ _ _ hc q=>mul_int q hc.ok
theorem v_mul (ha:PV X rl a fa) (hb:PV X rl b fb):PV X rl (.BinOp a .Mult b pos) (vOp (gI CMulB fun i j=>.int (i * j)) fa fb):=pv_op op_mulB (vop_int fun _ _ _ _=>.int _) ha hb
noncomputable def CDivB (_ j:Int):Prop:=j ≠ 0 /\ j.natAbs < 2 ^ 9000
theorem op_fdivB:OpR X (binaryOp .FloorDiv) (rI CDivB fun i j=>.int (i.fdiv j)):=opI fun _ j _ _ _ _ _ hc q=>floordiv_int hc.1 q (.inl (PyProof.noPylong_of_log2 ((Nat.log2_lt (by have:=hc.1; omega)).mpr hc.2)))
theorem v_div (ha:PV X rl a fa) (hb:PV X rl b fb):PV X rl (.BinOp a .FloorDiv b pos) (vOp (gI CDivB fun i j=>.int (i.fdiv j)) fa fb):=pv_op op_fdivB (vop_int fun _ _ _ _=>.int _) ha hb
theorem v_mod (ha:PV X rl a fa) (hb:PV X rl b fb):PV X rl (.BinOp a .Mod b pos) (vOp (gI (fun _ j=>j ≠ 0) fun i j=>.int (i.fmod j)) fa fb):=pv_op op_modN (vop_int fun _ _ _ _=>.int _) ha hb
theorem v_pow (ha:PV X rl a fa) (hb:PV X rl b fb):PV X rl (.BinOp a .Pow b pos) (vOp (gI CPow fun i j=>.int (i ^ j.toNat)) fa fb):=pv_op op_pow (vop_int fun _ _ _ _=>.int _) ha hb
noncomputable def vNeg (fa:TV):TV:=fun ρ Q=>fa ρ fun x=>∃ i,x = .d (.int i) /\ Q (.d (.int (-i)))
theorem v_neg (ha:PV X rl a fa):PV X rl (.UnaryOp .USub a pos) (vNeg fa):=by
  obtain ⟨ta,p1,k1⟩:=ha
  refine ⟨_,pe_un un_neg p1,fun R Qd Q q k=>k1 R _ _ q fun v w F1 H1 g1 r1 n1 ⟨i,ew,q1⟩=>?_⟩
  subst ew
  exact ⟨i,rep_int r1,k _ (.d _) F1 H1 g1 (.int _) trivial q1⟩

theorem v_cmp {op:CmpOp} {r:R2} {g:W -> W -> (W -> Prop) -> Prop} (ho:OpR X (compareOp op) r) (vo:VOp X rl r g) (hm:behindInMarks op b = false) (ha:PV X rl a fa) (hb:PV X rl b fb):PV X rl (.Compare a [op] [b] pos) (vOp g fa fb) :=
  vop_of vo ha hb fun _ _ p1 p2=>pe_cmpR ho p1 p2 hm
noncomputable def vTest (f:TV):TB:=fun ρ Q=>f ρ fun w=>∃ k,w = .d (.bool k) /\ Q k
theorem rep_bl {K:W.Frag} {F:Hp} {v:V} {i:Bool} (h:Rep K F v (.bool i)):v = .bl i:=by cases h; rfl
theorem vb_cmp {op:CmpOp} {r:R2} {g:W -> W -> (W -> Prop) -> Prop} (ho:OpR X (compareOp op) r) (vo:VOp X rl r g) (hm:behindInMarks op b = false) (ha:PV X rl a fa) (hb:PV X rl b fb):PB X rl (.Compare a [op] [b] pos) (vTest (vOp g fa fb)):=by
  obtain ⟨ta,p1,k1⟩:=ha
  obtain ⟨tb,p2,k2⟩:=hb
  refine ⟨_,pt_cmpR ho p1 p2 hm,fun R Qd Q q k=>?_⟩
  refine k1 R _ _ q fun v w F1 H1 g1 r1 n1 q1=>?_
  refine k2 (R.grow g1) _ _ q1 fun v2 w2 F2 H2 g2 r2 n2 q2=>?_
  refine vo _ _ g2.sub g2.reel (r1.grow g2) r2 q2 fun v3 w3 F3 H3 g3 r3 n3 ⟨kb,ew,q3⟩=>?_
  subst ew
  exact ⟨kb,rep_bl r3,k kb F3 H3 ((g1.trans g2).trans g3) q3⟩
theorem vb_val (ha:PV X rl e fa) (he:∀ whole,isTrue e X.env whole = (do let v <- whole; standAt e.pos; holding [v] (truthy v)):=by intro _; rfl):PB X rl e (vTest fa):=by
  obtain ⟨ta,p1,k1⟩:=ha
  refine ⟨_,pt_val p1 he,fun R Qd Q q k=>k1 R _ _ q fun v w F1 H1 g1 r1 n1 ⟨kb,ew,q1⟩=>?_⟩
  subst ew
  exact ⟨kb,rep_bl r1,k kb F1 H1 g1 q1⟩
abbrev gCmp (p:Int -> Int -> Bool):=gI0 fun i j=>.bool (p i j)
theorem vo_lt:VOp X rl (rI0 fun i j=>.bl (decide (i < j))) (gCmp fun i j=>decide (i < j)):=vop_int0 fun _ _ _ _=>.bl _
theorem vo_le:VOp X rl (rI0 fun i j=>.bl (decide (i <= j))) (gCmp fun i j=>decide (i <= j)):=vop_int0 fun _ _ _ _=>.bl _
theorem vo_gt:VOp X rl (rI0 fun i j=>.bl (decide (j < i))) (gCmp fun i j=>decide (j < i)):=vop_int0 fun _ _ _ _=>.bl _
theorem vo_ge:VOp X rl (rI0 fun i j=>.bl (decide (j <= i))) (gCmp fun i j=>decide (j <= i)):=vop_int0 fun _ _ _ _=>.bl _
noncomputable def rEqD (K:W.Frag) (neg:Bool):R2:=fun x y H Q=>∃ dx dy,Rep K H x dx /\ Rep K H y dy /\ SeqAt.shaped dx = true /\ SeqAt.shaped dy = true /\ Q (.bl (if neg then !PyData.eqv dx dy else PyData.eqv dx dy)) H
theorem op_eqD (hu:X.A.units + 64 < cLine):OpR X (compareOp .Eq) (rEqD X.K false):=by
  intro pins s σ H x y v u Q I rx ry ⟨dx,dy,h1,h2,s1,s2,q⟩
  obtain ⟨as,a1⟩:=Rep.reads I (.refl H) h1 v rx
  obtain ⟨bs,a2⟩:=Rep.reads I (.refl H) h2 u ry
  exact SeqAt.compareEq_shaped a1 a2 s1 s2 hu ⟨.bl _,H,I,rfl,q⟩
theorem op_neD (hu:X.A.units + 64 < cLine):OpR X (compareOp .NotEq) (rEqD X.K true):=by
  intro pins s σ H x y v u Q I rx ry ⟨dx,dy,h1,h2,s1,s2,q⟩
  obtain ⟨as,a1⟩:=Rep.reads I (.refl H) h1 v rx
  obtain ⟨bs,a2⟩:=Rep.reads I (.refl H) h2 u ry
  exact SeqAt.compareNe_shaped a1 a2 s1 s2 hu ⟨.bl _,H,I,rfl,q⟩
noncomputable def gEqD (neg:Bool):W -> W -> (W -> Prop) -> Prop:=fun x y Q=>∃ dx dy,x.dat = some dx /\ y.dat = some dy /\ SeqAt.shaped dx = true /\ SeqAt.shaped dy = true /\ Q (.d (.bool (if neg then !PyData.eqv dx dy else PyData.eqv dx dy)))
theorem vo_eqD {neg:Bool}:VOp X rl (rEqD X.K neg) (gEqD neg):=fun {F H x y wx wy} Qd Q s ra r1 r2 q k=>by
  obtain ⟨dx,dy,e1,e2,s1,s2,q⟩:=q
  exact ⟨dx,dy,r1.dat s e1,r2.dat s e2,s1,s2,k _ (.d _) _ _ (Grow.refl s ra) (.bl _) trivial q⟩
noncomputable def rInD (K:W.Frag) (neg:Bool):R2:=fun x y H Q=>∃ dx ys,Rep K H x dx /\ (Rep K H y (.list ys) \/ Rep K H y (.tuple ys)) /\ SeqAt.shaped dx = true /\ PyData.canLayAll0 ys = true /\ Q (.bl (if neg then !(ys.any fun z=>PyData.eqv z dx) else ys.any fun z=>PyData.eqv z dx)) H
theorem in_room {A:Around} {d:PyData} {ys:List PyData} (hu:A.units + 65 < cLine) (h:SeqAt.shaped d = true):A.units + 1 + min (PyData.depthAll ys) d.depth < cLine:=by
  have h1:=SeqAt.depth_of_shaped h
  have h2:min (PyData.depthAll ys) d.depth <= d.depth:=Nat.min_le_right _ _
  omega
theorem op_notinD (hu:X.A.units + 65 < cLine):OpR X (compareOp .NotIn) (rInD X.K true):=by
  intro pins s σ H x y v u Q I rx ry ⟨dx,ys,h1,h2,s1,s2,q⟩
  obtain ⟨as,a1⟩:=Rep.reads I (.refl H) h1 v rx
  rcases h2 with h2 | h2
  · obtain ⟨bs,a2⟩:=Rep.reads I (.refl H) h2 u ry
    exact SeqAt.notIn_list_reads a2 a1 s2 (SeqAt.canLay_of_shaped s1) (in_room hu s1) ⟨.bl _,H,I,rfl,q⟩
  · obtain ⟨bs,a2⟩:=Rep.reads I (.refl H) h2 u ry
    exact SeqAt.notIn_tuple_reads a2 a1 s2 (SeqAt.canLay_of_shaped s1) (in_room hu s1) ⟨.bl _,H,I,rfl,q⟩
noncomputable def gInD (neg:Bool):W -> W -> (W -> Prop) -> Prop:=fun x y Q=>∃ dx ys,x.dat = some dx /\ (y.dat = some (.list ys) \/ y.dat = some (.tuple ys)) /\ SeqAt.shaped dx = true /\ PyData.canLayAll0 ys = true /\ Q (.d (.bool (if neg then !(ys.any fun z=>PyData.eqv z dx) else ys.any fun z=>PyData.eqv z dx)))
theorem vo_inD {neg:Bool}:VOp X rl (rInD X.K neg) (gInD neg):=fun {F H x y wx wy} Qd Q s ra r1 r2 q k=>by
  obtain ⟨dx,ys,e1,e2,s1,s2,q⟩:=q
  exact ⟨dx,ys,r1.dat s e1,e2.imp (fun e=>r2.dat s e) (fun e=>r2.dat s e),s1,s2,k _ (.d _) _ _ (Grow.refl s ra) (.bl _) trivial q⟩

noncomputable def vAnd (f g:TB):TB:=fun ρ Q=>f ρ fun b=>if b = true then g ρ Q else Q false
noncomputable def vOr (f g:TB):TB:=fun ρ Q=>f ρ fun b=>if b = true then Q true else g ρ Q
noncomputable def vNot (f:TB):TB:=fun ρ Q=>f ρ fun b=>Q (!b)
noncomputable def PBW (X:Cx) (rl:RlT) (e:Expr) (f:TB):Prop:=∃ t,PW X e t /\ ∀ {F₀ H₀ F H:Hp} {σ:St} {ρ:En},VR X.K rl F₀ H₀ F H σ ρ -> ∀ (Qd:Bool -> Prop) (Q:Bool -> Hp -> Prop),f ρ Qd ->
  (∀ b F' H',Grow rl F H F' H' -> Qd b -> Q b H') -> t σ H Q
variable {f g:TB} {rest:List Expr}
theorem PBW.pb (h:PBW X rl e f):PB X rl e f:=let ⟨t,p,k⟩:=h; ⟨t,p.pt,k⟩
theorem vb_and1 (ha:PB X rl a f):PBW X rl (.BoolOp .And [a] pos) f:=let ⟨t,p,k⟩:=ha; ⟨t,pw_and1 p,k⟩
theorem vb_or1 (ha:PB X rl a f):PBW X rl (.BoolOp .Or [a] pos) f:=let ⟨t,p,k⟩:=ha; ⟨t,pw_or1 p,k⟩
theorem vb_and (ha:PB X rl a f) (hb:PBW X rl (.BoolOp .And (b :: rest) pos) g):PBW X rl (.BoolOp .And (a :: b :: rest) pos) (vAnd f g):=by
  obtain ⟨t,p,k⟩:=ha
  obtain ⟨t2,p2,k2⟩:=hb
  refine ⟨_,pw_and p p2,fun R Qd Q q h=>k R _ _ q fun c F1 H1 g1 q1=>?_⟩
  cases c with
  | true=>exact k2 (R.grow g1) _ _ q1 fun c F2 H2 g2 q2=>h c F2 H2 (g1.trans g2) q2
  | false=>exact h false F1 H1 g1 q1
theorem vb_or (ha:PB X rl a f) (hb:PBW X rl (.BoolOp .Or (b :: rest) pos) g):PBW X rl (.BoolOp .Or (a :: b :: rest) pos) (vOr f g):=by
  obtain ⟨t,p,k⟩:=ha
  obtain ⟨t2,p2,k2⟩:=hb
  refine ⟨_,pw_or p p2,fun R Qd Q q h=>k R _ _ q fun c F1 H1 g1 q1=>?_⟩
  cases c with
  | true=>exact h true F1 H1 g1 q1
  | false=>exact k2 (R.grow g1) _ _ q1 fun c F2 H2 g2 q2=>h c F2 H2 (g1.trans g2) q2
theorem vb_not (ha:PB X rl a f):PB X rl (.UnaryOp .Not a pos) (vNot f):=by
  obtain ⟨t,p,k⟩:=ha
  exact ⟨_,pt_not p,fun R Qd Q q h=>k R _ _ q fun c F1 H1 g1 q1=>h (!c) F1 H1 g1 q1⟩
noncomputable def vAndV (fa fb:TV):TV:=fun ρ Q=>fa ρ fun w=>∃ c,w = .d (.bool c) /\ if c = true then fb ρ Q else Q (.d (.bool false))
noncomputable def vOrV (fa fb:TV):TV:=fun ρ Q=>fa ρ fun w=>∃ c,w = .d (.bool c) /\ if c = true then Q (.d (.bool true)) else fb ρ Q
noncomputable def vNotV (fa:TV):TV:=fun ρ Q=>fa ρ fun w=>∃ c,w = .d (.bool c) /\ Q (.d (.bool (!c)))
theorem NewIn.back {rl:RlT} {F H F' H':Hp} {v:V} {w:W} (g:Grow rl F H F' H') (n:NewIn H' v w):NewIn H v w:=by
  cases w with
  | ml xs=>exact fun a ea=>g.freeB (n a ea)
  | md xs=>exact fun a ea=>g.freeB (n a ea)
  | mk xs=>exact fun a ea=>g.freeB (n a ea)
  | nt _=>trivial
  | lk=>trivial
  | sc _=>trivial
  | fd _=>trivial
  | fw _=>trivial
  | ft _=>trivial
  | xc _ _=>trivial
  | dp _ _=>trivial
  | d _=>trivial
  | pk _=>trivial
  | reel=>trivial
  | vv _=>trivial
theorem v_one {op} (ha:PV X rl a fa):PV X rl (.BoolOp op [a] pos) fa:=let ⟨t,p,k⟩:=ha; ⟨t,pe_one p,k⟩
theorem v_and (ha:PV X rl a fa) (hb:PV X rl (.BoolOp .And (b :: rest) pos) fb):PV X rl (.BoolOp .And (a :: b :: rest) pos) (vAndV fa fb):=by
  obtain ⟨t,p,k⟩:=ha
  obtain ⟨t2,p2,k2⟩:=hb
  refine ⟨_,pe_and p p2,fun R Qd Q q h=>k R _ _ q fun v w F1 H1 g1 r1 n1 ⟨c,ew,q1⟩=>?_⟩
  subst ew
  refine ⟨c,rep_bl r1,?_⟩
  cases c with
  | true=>exact k2 (R.grow g1) _ _ q1 fun v w F2 H2 g2 r2 n2 q2=>h v w F2 H2 (g1.trans g2) r2 (n2.back g1) q2
  | false=>exact h _ (.d _) F1 H1 g1 (.bl false) trivial q1
theorem v_or (ha:PV X rl a fa) (hb:PV X rl (.BoolOp .Or (b :: rest) pos) fb):PV X rl (.BoolOp .Or (a :: b :: rest) pos) (vOrV fa fb):=by
  obtain ⟨t,p,k⟩:=ha
  obtain ⟨t2,p2,k2⟩:=hb
  refine ⟨_,pe_or p p2,fun R Qd Q q h=>k R _ _ q fun v w F1 H1 g1 r1 n1 ⟨c,ew,q1⟩=>?_⟩
  subst ew
  refine ⟨c,rep_bl r1,?_⟩
  cases c with
  | false=>exact k2 (R.grow g1) _ _ q1 fun v w F2 H2 g2 r2 n2 q2=>h v w F2 H2 (g1.trans g2) r2 (n2.back g1) q2
  | true=>exact h _ (.d _) F1 H1 g1 (.bl true) trivial q1
theorem v_not (ha:PV X rl a fa):PV X rl (.UnaryOp .Not a pos) (vNotV fa):=by
  obtain ⟨t,p,k⟩:=ha
  refine ⟨_,pe_not p,fun R Qd Q q h=>k R _ _ q fun v w F1 H1 g1 r1 n1 ⟨c,ew,q1⟩=>?_⟩
  subst ew
  exact ⟨c,rep_bl r1,h _ (.d _) F1 H1 g1 (.bl _) trivial q1⟩
noncomputable def vIf (t:TB) (fa fb:TV):TV:=fun ρ Q=>t ρ fun c=>if c = true then fa ρ Q else fb ρ Q
theorem v_ifExp {c:Expr} (hc:PB X rl c f) (ha:PV X rl a fa) (hb:PV X rl b fb):PV X rl (.IfExp c a b pos) (vIf f fa fb):=by
  obtain ⟨t,p,k⟩:=hc
  obtain ⟨t1,p1,k1⟩:=ha
  obtain ⟨t2,p2,k2⟩:=hb
  refine ⟨_,pe_ifExp p p1 p2,fun R Qd Q q h=>k R _ _ q fun c F1 H1 g1 q1=>?_⟩
  cases c with
  | true=>exact k1 (R.grow g1) _ _ q1 fun v w F2 H2 g2 r2 n2 q2=>h v w F2 H2 (g1.trans g2) r2 (n2.back g1) q2
  | false=>exact k2 (R.grow g1) _ _ q1 fun v w F2 H2 g2 r2 n2 q2=>h v w F2 H2 (g1.trans g2) r2 (n2.back g1) q2

noncomputable def dats:List W -> Option (List PyData)
  | []=>some []
  | .d x :: r=>(dats r).map (x :: ·)
  | _ :: _=>none
theorem dats_rel {K:W.Frag} {F H:Hp}:∀ {vs:List V} {ws:List W} {ds:List PyData},RelWs K rl F H vs ws -> dats ws = some ds -> Reps K F vs ds
  | _,_,_,.nil,e=>by cases e; exact .nil
  | _,.d x :: ws,ds,.cons r rs,e=>by
    have e:(dats ws).map (x :: ·) = some ds:=e
    cases q:dats ws with
    | none=>rw [q] at e; cases e
    | some es=>rw [q] at e; cases e; exact .cons r (dats_rel rs q)
  | _,.ml x :: ws,ds,.cons r rs,e=>by cases (show none = some ds from e)
  | _,.pk x :: ws,ds,.cons r rs,e=>by cases (show none = some ds from e)
  | _,.reel :: ws,ds,.cons r rs,e=>by cases (show none = some ds from e)
  | _,.vv u :: ws,ds,.cons r rs,e=>by cases (show none = some ds from e)
  | _,.md u :: ws,ds,.cons r rs,e=>by cases (show none = some ds from e)
  | _,.nt u :: ws,ds,.cons r rs,e=>by cases (show none = some ds from e)
  | _,.lk :: ws,ds,.cons r rs,e=>by cases (show none = some ds from e)
  | _,.sc _ :: ws,ds,.cons r rs,e=>by cases (show none = some ds from e)
  | _,.fd _ :: ws,ds,.cons r rs,e=>by cases (show none = some ds from e)
  | _,.xc _ _ :: ws,ds,.cons r rs,e=>by cases (show none = some ds from e)
  | _,.mk _ :: ws,ds,.cons r rs,e=>by cases (show none = some ds from e)
  | _,.fw _ :: ws,ds,.cons r rs,e=>by cases (show none = some ds from e)
  | _,.ft _ :: ws,ds,.cons r rs,e=>by cases (show none = some ds from e)
  | _,.dp _ _ :: ws,ds,.cons r rs,e=>by cases (show none = some ds from e)
noncomputable def vTup (fs:TVs):TV:=fun ρ Q=>fs ρ fun ws=>∃ ds,dats ws = some ds /\ ds.length <= sizeLine /\ Q (.d (.tuple ds))
noncomputable def vLst (fs:TVs):TV:=fun ρ Q=>fs ρ fun ws=>∃ ds,dats ws = some ds /\ ds.length <= sizeLine /\ Q (.ml ds)
theorem v_tup {x1} (h:PVs X rl es fs):PV X rl (.Tuple es x1 pos) (vTup fs):=by
  obtain ⟨t,p,k⟩:=h
  refine ⟨_,pe_tup p,fun R Qd Q q h=>k R _ _ q fun vs ws F1 H1 g1 r1 ⟨ds,e1,z,q1⟩=>?_⟩
  have rs:=dats_rel r1 e1
  refine ⟨by rw [rs.length]; exact z,fun p hp=>?_⟩
  have g2:=g1.trans (Grow.data (a:=p) (o:=.tup vs) g1.sub g1.reel hp)
  exact h _ (.d (.tuple ds)) _ _ g2 (.tup (.inl (.inl upd_same)) (rs.mono (Grow.data (o:=.tup vs) g1.sub g1.reel hp).fs)) trivial q1
theorem own_laid {K:W.Frag} {F H:Hp} {p:Addr} {vs:List V} {ds:List PyData} (s:Same F H) (ra:RAt rl F H) (hp:H p = none) (rs:Reps K F vs ds):OwnL K rl F (upd H p (.lst vs)) (.ref p) ds:=by
  refine ⟨p,vs,rfl,s.free hp,fun e=>?_,upd_same,rs⟩
  obtain ⟨o,q⟩:=ra.live e
  rw [hp] at q
  cases q
theorem v_lst (h:PVs X rl es fs):PV X rl (.List es pos) (vLst fs):=by
  obtain ⟨t,p,k⟩:=h
  refine ⟨_,pe_lst p,fun R Qd Q q h=>k R _ _ q fun vs ws F1 H1 g1 r1 ⟨ds,e1,z,q1⟩=>?_⟩
  have rs:=dats_rel r1 e1
  refine ⟨by rw [rs.length]; exact z,fun p hp=>?_⟩
  exact h _ (.ml ds) _ _ (g1.trans (Grow.laid (a:=p) (o:=.lst vs) g1.sub g1.reel hp)) (own_laid g1.sub g1.reel hp rs) (fun a ea=>by cases ea; exact g1.freeB hp) q1

noncomputable def itemAt:PyData -> Int -> Option PyData
  | .list xs,i=>atI xs i
  | .tuple xs,i=>atI xs i
  | _,_=>none
theorem Reps.atI {K:W.Frag} {F:Hp} {vs:List V} {ds:List PyData} {i:Int} {d:PyData} (r:Reps K F vs ds) (e:L2.atI ds i = some d):∃ v,L2.atI vs i = some v /\ Rep K F v d:=by
  unfold L2.atI at e ⊢
  rw [r.length]
  cases q:ixN ds.length i with
  | none=>rw [q] at e; cases e
  | some j =>
    rw [q] at e
    exact r.get e
noncomputable def gIx:W -> W -> (W -> Prop) -> Prop:=fun x y Q=>∃ dx i z,x.dat = some dx /\ y = .d (.int i) /\ itemAt dx i = some z /\ Q (.d z)
theorem vo_ix:VOp X rl (rIx X.K) gIx:=fun {F H x y wx wy} Qd Q s ra r1 r2 q k=>by
  obtain ⟨dx,i,z,e1,rfl,e3,q⟩:=q
  have ey:=rep_int r2
  subst ey
  cases dx with
  | list xs =>
    obtain ⟨a,vs,rfl,sq,rs⟩:=r1.items s e1
    obtain ⟨v,e4,rz⟩:=Reps.atI rs e3
    exact .inl ⟨a,vs,i,v,rfl,rfl,sq,e4,k _ (.d _) _ _ (Grow.refl s ra) rz trivial q⟩
  | tuple xs =>
    obtain ⟨a,vs,rfl,sq,rs⟩:=r1.itemsT s e1
    obtain ⟨v,e4,rz⟩:=Reps.atI rs e3
    exact .inr (.inl ⟨a,vs,i,v,rfl,rfl,sq,e4,k _ (.d _) _ _ (Grow.refl s ra) rz trivial q⟩)
  | none=>cases e3
  | bool b=>cases e3
  | int b=>cases e3
  | str b=>cases e3
  | dict b=>cases e3
theorem v_ix (ha:PV X rl a fa) (hb:PV X rl b fb) (hs:PlainIx b:=by exact fun _ _=>rfl):PV X rl (.Subscript a b pos) (vOp gIx fa fb):=vop_of vo_ix ha hb fun _ _ p1 p2=>pe_ix ix_seq p1 p2 hs

noncomputable def VCall (X:Cx) (rl:RlT) (r:List V -> Hp -> VK -> Prop) (g:List W -> (W -> Prop) -> Prop):Prop:=∀ {F H:Hp} {vs:List V} {ws:List W} (Qd:W -> Prop) (Q:VK),Same F H -> RAt rl F H -> RelWs X.K rl F H vs ws -> g ws Qd ->
  (∀ v w F' H',Grow rl F H F' H' -> RelW X.K rl F' H' v w -> NewIn H v w -> Qd w -> Q v H') -> r vs H Q
noncomputable def vCall (g:List W -> (W -> Prop) -> Prop) (fs:TVs):TV:=fun ρ Q=>fs ρ fun ws=>g ws Q
theorem vcall_of {r:List V -> Hp -> VK -> Prop} {g:List W -> (W -> Prop) -> Prop} {t:TA -> TE} (vc:VCall X rl r g) (ha:PVs X rl es fs) {e:Expr} (hp:∀ ta,PA X es ta -> PE X e (tCB r ta)):PV X rl e (vCall g fs):=by
  obtain ⟨ta,p1,k1⟩:=ha
  refine ⟨_,hp ta p1,fun R Qd Q q k=>k1 R _ _ q fun vs ws F1 H1 g1 r1 q1=>?_⟩
  exact vc Qd Q g1.sub g1.reel r1 q1 fun v w F2 H2 g2 r2 n2 q2=>k v w F2 H2 (g1.trans g2) r2 (n2.back g1) q2
theorem v_callB {id:String} {x:Str} {r:List V -> Hp -> VK -> Prop} {g:List W -> (W -> Prop) -> Prop} (hc:CallR X (.builtin id) r) (vc:VCall X rl r g) (hm:X.mg x = none) (hv:bootBuiltins x = some (.builtin id)) (ha:PVs X rl (e :: es) fs) (hg:Gl X x:=by rfl) (hn:x ≠ "__name__" := by decide) (hdb:(x == ("__debug__" : Str)) = false:=by decide)
    (he:starEach (e :: es) X.env = (false,eval e X.env) :: starEach es X.env:=by rfl) (hpl:(backTo pos (starEach es X.env)).any (·.1) = false:=by rfl):PV X rl (.Call (.Name x p) (e :: es) [] pos) (vCall g fs) :=
  vcall_of (t:=fun _=>tC .non) vc ha fun _ p1=>pe_callB hc hg hm hv p1 hn hdb he hpl
theorem v_callTy {T:String} {x:Str} {r:List V -> Hp -> VK -> Prop} {g:List W -> (W -> Prop) -> Prop} (hc:CallR X (.type T) r) (vc:VCall X rl r g) (hm:X.mg x = none) (hv:bootBuiltins x = some (.type T)) (ha:PVs X rl (e :: es) fs) (hg:Gl X x:=by rfl) (hn:x ≠ "__name__" := by decide) (hdb:(x == ("__debug__" : Str)) = false:=by decide)
    (he:starEach (e :: es) X.env = (false,eval e X.env) :: starEach es X.env:=by rfl) (hpl:(backTo pos (starEach es X.env)).any (·.1) = false:=by rfl):PV X rl (.Call (.Name x p) (e :: es) [] pos) (vCall g fs) :=
  vcall_of (t:=fun _=>tC .non) vc ha fun _ p1=>pe_callTy hc hg hm hv p1 hn hdb he hpl
theorem rel1 {K:W.Frag} {F H:Hp} {vs:List V} {w:W} (r:RelWs K rl F H vs [w]):∃ v,vs = [v] /\ RelW K rl F H v w:=by
  cases r with
  | cons r1 r2=>cases r2; exact ⟨_,rfl,r1⟩
theorem rel2 {K:W.Frag} {F H:Hp} {vs:List V} {w w':W} (r:RelWs K rl F H vs [w,w']):∃ v u,vs = [v,u] /\ RelW K rl F H v w /\ RelW K rl F H u w':=by
  cases r with
  | cons r1 r2 =>
    cases r2 with
    | cons r3 r4=>cases r4; exact ⟨_,_,rfl,r1,r3⟩
noncomputable def gAbs:List W -> (W -> Prop) -> Prop:=fun ws Q=>∃ i,ws = [.d (.int i)] /\ Q (.d (.int (if i < 0 then -i else i)))
theorem vc_abs:VCall X rl (fun xs H Q=>∃ i,xs = [.int i] /\ Q (.int (if i < 0 then -i else i)) H) gAbs:=fun {F H vs ws} Qd Q s ra r ⟨i,ew,q⟩ k=>by
  subst ew
  obtain ⟨v,rfl,r1⟩:=rel1 r
  have e:=rep_int r1
  subst e
  exact ⟨i,rfl,k _ (.d _) _ _ (Grow.refl s ra) (.int _) trivial q⟩
noncomputable def lenD:PyData -> Option Nat
  | .list xs=>some xs.length
  | .tuple xs=>some xs.length
  | _=>none
noncomputable def gLen:List W -> (W -> Prop) -> Prop:=fun ws Q=>∃ w d n,ws = [w] /\ w.dat = some d /\ lenD d = some n /\ Q (.d (.int n))
theorem vc_len:VCall X rl (fun xs H Q=>∃ p ys,xs = [.ref p] /\ (SqL X.K H p ys \/ SqT X.K H p ys) /\ Q (.int ys.length) H) gLen:=fun {F H vs ws} Qd Q s ra r ⟨w,d,n,ew,e1,e2,q⟩ k=>by
  subst ew
  obtain ⟨v,rfl,r1⟩:=rel1 r
  cases d with
  | list xs =>
    obtain ⟨a,vs,rfl,sq,rs⟩:=r1.items s e1
    cases e2
    exact ⟨a,vs,rfl,.inl sq,k _ (.d _) _ _ (Grow.refl s ra) (by rw [rs.length]; exact .int _) trivial q⟩
  | tuple xs =>
    obtain ⟨a,vs,rfl,sq,rs⟩:=r1.itemsT s e1
    cases e2
    exact ⟨a,vs,rfl,.inr sq,k _ (.d _) _ _ (Grow.refl s ra) (by rw [rs.length]; exact .int _) trivial q⟩
  | none=>cases e2
  | bool b=>cases e2
  | int b=>cases e2
  | str b=>cases e2
  | dict b=>cases e2
end
end L2.VL

namespace L2.VL
open PySem PySem.Spec PyProof.Rows

structure VEnds where
  nx:En -> Prop
  rt:W -> Prop
  bk:En -> Prop:=fun _=>False
  ct:En -> Prop:=fun _=>False
structure EndsOk (K:W.Frag) (rl:RlT) (F₀ H₀ Fs:Hp) (Dv:VEnds) (D:Ends):Prop where
  nx:∀ F H σ ρ,Same Fs F -> VR K rl F₀ H₀ F H σ ρ -> Dv.nx ρ -> D.nx σ H
  rt:∀ v w F H,Grow rl F₀ H₀ F H -> RelW K rl F H v w -> NewIn H₀ v w -> Dv.rt w -> D.rt v H
  bk:∀ F H σ ρ,Same Fs F -> VR K rl F₀ H₀ F H σ ρ -> Dv.bk ρ -> D.bk σ H
  ct:∀ F H σ ρ,Same Fs F -> VR K rl F₀ H₀ F H σ ρ -> Dv.ct ρ -> D.ct σ H
theorem EndsOk.on {K:W.Frag} {rl:RlT} {F₀ H₀ Fs F:Hp} {Dv:VEnds} {D:Ends} (ok:EndsOk K rl F₀ H₀ Fs Dv D) (s:Same Fs F):EndsOk K rl F₀ H₀ F Dv D :=
  ⟨fun F1 H σ ρ s1=>ok.nx F1 H σ ρ (s.trans s1),ok.rt,fun F1 H σ ρ s1=>ok.bk F1 H σ ρ (s.trans s1),fun F1 H σ ρ s1=>ok.ct F1 H σ ρ (s.trans s1)⟩
abbrev TSv:=VEnds -> En -> Prop
noncomputable def PSV (X:Cx) (rl:RlT) (st:Stmt) (t:TSv):Prop:=∃ T,PS X st T /\ ∀ {F₀ H₀ F H:Hp} {σ:St} {ρ:En},VR X.K rl F₀ H₀ F H σ ρ -> ∀ Dv D,EndsOk X.K rl F₀ H₀ F Dv D -> t Dv ρ -> T D σ H
noncomputable def PSsV (X:Cx) (rl:RlT) (st:List Stmt) (t:TSv):Prop:=∃ T,PSs X st T /\ ∀ {F₀ H₀ F H:Hp} {σ:St} {ρ:En},VR X.K rl F₀ H₀ F H σ ρ -> ∀ Dv D,EndsOk X.K rl F₀ H₀ F Dv D -> t Dv ρ -> T D σ H

section
variable {X:Cx} {rl:RlT} {st:Stmt} {rest body:List Stmt} {t u:TSv} {a b c e:Expr} {es:List Expr} {fa fb:TV} {fs:TVs} {f:TB} {pos p:Pos}
noncomputable def vNext:TSv:=fun D ρ=>D.nx ρ
noncomputable def vSeq (t u:TSv):TSv:=fun D ρ=>t { D with nx:=u D } ρ
theorem vs_nil:PSsV X rl [] vNext:=⟨_,pss_nil,fun R Dv D ok q=>ok.nx _ _ _ _ (.refl _) R q⟩
theorem vs_one (h:PSV X rl st t):PSsV X rl [st] t:=let ⟨T,p,k⟩:=h; ⟨T,pss_one p,k⟩
theorem vs_cons (h:PSV X rl st t) (h2:PSsV X rl rest u):PSsV X rl (st :: rest) (vSeq t u):=by
  obtain ⟨T,p,k⟩:=h
  obtain ⟨T2,p2,k2⟩:=h2
  exact ⟨_,pss_cons p p2,fun R Dv D ok q=>k R { Dv with nx:=u Dv } { D with nx:=T2 D } ⟨fun F H σ ρ s' R' q'=>k2 R' Dv D (ok.on s') q',ok.rt,ok.bk,ok.ct⟩ q⟩
noncomputable def vRet (fa:TV):TSv:=fun D ρ=>fa ρ D.rt
theorem vs_ret (h:PV X rl e fa):PSV X rl (.Return (some e) pos) (vRet fa):=by
  obtain ⟨t,p,k⟩:=h
  exact ⟨_,ps_ret p,fun R Dv D ok q=>k R _ _ q fun v w F1 H1 g1 r1 n1 q1=>ok.rt v w F1 H1 (R.g.trans g1) r1 (n1.back R.g) q1⟩
noncomputable def vIfS (f:TB) (t u:TSv):TSv:=fun D ρ=>f ρ fun b=>if b = true then t D ρ else u D ρ
theorem vs_if {A B:List Stmt} (hc:PB X rl c f) (ha:PSsV X rl A t) (hb:PSsV X rl B u):PSV X rl (.If c A B pos) (vIfS f t u):=by
  obtain ⟨t0,p0,k0⟩:=hc
  obtain ⟨t1,p1,k1⟩:=ha
  obtain ⟨t2,p2,k2⟩:=hb
  refine ⟨_,ps_if p0 p1 p2,fun R Dv D ok q=>k0 R _ _ q fun b F1 H1 g1 q1=>?_⟩
  cases b with
  | true=>exact k1 (R.grow g1) Dv D (ok.on g1.fs) q1
  | false=>exact k2 (R.grow g1) Dv D (ok.on g1.fs) q1
theorem vs_never:PSV X rl st (fun _ _=>False):=⟨_,ps_never,fun _ _ _ _ q=>q.elim⟩
noncomputable def W.isPk:W -> Bool
  | .pk _=>true
  | _=>false
noncomputable def vSet (i:Nat) (fa:TV):TSv:=fun D ρ=>fa ρ fun w=>w.isPk = false /\ D.nx (ρ.set i (some w))
theorem vs_set (i:Nat) {x:Str} {pos':Pos} (hN:X.N.Nodup) (he:PV X rl e fa) (hi:X.N[i]? = some x:=by rfl) (hx:Loc X.env.scope x:=by first | exact Or.inl rfl | exact Or.inr rfl)
    (hs:swapsWith e (some (.Name x pos')) pos.line X.env = pure false:=by rfl) (hf:X.fn x = true \/ X.env.scope.names.lookup x = some .local:=by first | exact .inl rfl | exact .inr rfl) :
    PSV X rl (.Assign [.Name x pos'] e pos) (vSet i fa):=by
  obtain ⟨t,p,k⟩:=he
  refine ⟨_,ps_set hN hi hx p hs hf,fun R Dv D ok q=>k R _ _ q fun v w F1 H1 g1 r1 n1 ⟨hp,q1⟩=>?_⟩
  exact ok.nx _ _ _ _ g1.fs (R.set g1 r1 n1 (fun xs z=>by subst z; cases hp) i) q1

noncomputable def NoMl (ρ:En):Prop:=∀ (i:Nat) (w:W),ρ[i]? = some (some w) -> w.own = false
theorem NoMl.set {ρ:En} (h:NoMl ρ) (i:Nat) (x:PyData):NoMl (ρ.set i (some (.d x))):=fun j w z=>by
  rw [List.getElem?_set] at z
  split at z
  · split at z
    · cases z; rfl
    · cases z
  · exact h j w z
abbrev TGv:=PyData -> En -> (En -> Prop) -> Prop
abbrev TGvs:=List PyData -> En -> (En -> Prop) -> Prop
noncomputable def PGV (X:Cx) (rl:RlT) (tg:Expr) (g:TGv):Prop:=∃ G,PG X tg G /\ ∀ {F₀ H₀ F H:Hp} {σ:St} {ρ:En},VR X.K rl F₀ H₀ F H σ ρ -> ∀ (v:V) (x:PyData) (Qd:En -> Prop) (Q:St -> Hp -> Prop),Rep X.K F v x -> g x ρ Qd ->
  (∀ F' H' σ' ρ',Grow rl F H F' H' -> (NoMl ρ -> NoMl ρ') -> VR X.K rl F₀ H₀ F' H' σ' ρ' -> Qd ρ' -> Q σ' H') -> G v σ H Q
noncomputable def PGVs (X:Cx) (rl:RlT) (tgs:List Expr) (g:TGvs):Prop:=∃ G,PGs X tgs G /\ ∀ {F₀ H₀ F H:Hp} {σ:St} {ρ:En},VR X.K rl F₀ H₀ F H σ ρ -> ∀ (vs:List V) (xs:List PyData) (Qd:En -> Prop) (Q:St -> Hp -> Prop),Reps X.K F vs xs -> g xs ρ Qd ->
  (∀ F' H' σ' ρ',Grow rl F H F' H' -> (NoMl ρ -> NoMl ρ') -> VR X.K rl F₀ H₀ F' H' σ' ρ' -> Qd ρ' -> Q σ' H') -> G vs σ H Q
noncomputable def hName (i:Nat):TGv:=fun x ρ Q=>Q (ρ.set i (some (.d x)))
theorem vg_name (i:Nat) {x:Str} (hN:X.N.Nodup) (hi:X.N[i]? = some x:=by rfl) (hx:Loc X.env.scope x:=by first | exact Or.inl rfl | exact Or.inr rfl) (hf:X.fn x = true \/ X.env.scope.names.lookup x = some .local:=by first | exact .inl rfl | exact .inr rfl):PGV X rl (.Name x pos) (hName i) :=
  ⟨_,pg_name hN hi hx hf,fun R v x Qd Q r q k=>k _ _ _ _ (Grow.refl R.sub R.reel) (fun n=>n.set i x) (R.set (w:=.d x) (Grow.refl R.sub R.reel) r trivial (fun _ z=>by cases z) i) q⟩
noncomputable def hNil:TGvs:=fun xs ρ Q=>xs = [] /\ Q ρ
noncomputable def hCons (g:TGv) (gs:TGvs):TGvs:=fun xs ρ Q=>∃ y r,xs = y :: r /\ g y ρ fun ρ'=>gs r ρ' Q
theorem vgs_nil:PGVs X rl [] hNil:=⟨_,pgs_nil,fun R vs xs Qd Q r ⟨e,q⟩ k=>by subst e; exact ⟨r.nil_iff,k _ _ _ _ (Grow.refl R.sub R.reel) (fun n=>n) R q⟩⟩
theorem vgs_cons {g:TGv} {gs:TGvs} (h1:PGV X rl e g) (h2:PGVs X rl es gs) (hs:(assignEach (e :: es) X.env).map (·.2) = assign e X.env :: (assignEach es X.env).map (·.2):=by rfl):PGVs X rl (e :: es) (hCons g gs):=by
  obtain ⟨G,p,k⟩:=h1
  obtain ⟨G2,p2,k2⟩:=h2
  refine ⟨_,pgs_cons p p2 hs,fun R vs xs Qd Q r ⟨y,ys,ex,q⟩ h=>?_⟩
  subst ex
  cases r with
  | cons r1 r2 =>
    refine ⟨_,_,rfl,k R _ y _ _ r1 q fun F1 H1 σ1 ρ1 s1 n1 R1 q1=>?_⟩
    exact k2 R1 _ ys _ _ (r2.mono s1.fs) q1 fun F2 H2 σ2 ρ2 s2 n2 R2 q2=>h F2 H2 σ2 ρ2 (s1.trans s2) (fun n=>n2 (n1 n)) R2 q2
noncomputable def hTup (n:Nat) (gs:TGvs):TGv:=fun x ρ Q=>∃ xs,x = .tuple xs /\ xs.length = n /\ gs xs ρ Q
theorem vg_tup {kk:Nat} {gs:TGvs} {n:Nat} (hc:X.calm = true) (h:PGVs X rl es gs) (hn:(assignEach es X.env).length = n:=by rfl) (hst:(assignEach es X.env).findIdx? (·.1) = none:=by rfl):PGV X rl (.Tuple es kk pos) (hTup n gs):=by
  obtain ⟨G,p,k⟩:=h
  refine ⟨_,pg_tup hc p hn hst,fun R v x Qd Q r ⟨xs,ex,hl,q⟩ h=>?_⟩
  subst ex
  cases r with
  | tup sq rs=>exact ⟨_,_,rfl,sameT R.sub sq,by rw [rs.length]; exact hl,k R _ xs _ _ rs q h⟩
noncomputable def vAsg (fa:TV) (g:TGv):TSv:=fun D ρ=>fa ρ fun w=>∃ x,w = .d x /\ g x ρ D.nx
theorem vs_asg {tg:Expr} {g:TGv} (he:PV X rl e fa) (hg:PGV X rl tg g) (hs:swapsWithSole [tg] e pos.line X.env = pure false:=by rfl) (hw:swappedStores [tg] e X.env = pure none:=by rfl)
    (h1:(assignEach [tg] X.env).map (·.2) = [assign tg X.env]:=by rfl):PSV X rl (.Assign [tg] e pos) (vAsg fa g):=by
  obtain ⟨t,p,k⟩:=he
  obtain ⟨G,p2,k2⟩:=hg
  refine ⟨_,ps_asg p p2 hs hw h1,fun R Dv D ok q=>k R _ _ q fun v w F1 H1 g1 r1 n1 ⟨x,ew,q1⟩=>?_⟩
  subst ew
  exact k2 (R.grow g1) v x _ _ r1 q1 fun F2 H2 σ2 ρ2 s2 n2 R2 q2=>ok.nx _ _ _ _ (g1.fs.trans s2.fs) R2 q2
noncomputable def vPar (i j:Nat) (fs:TVs):TSv:=fun D ρ=>fs ρ fun ws=>∃ x y,dats ws = some [x,y] /\ D.nx ((ρ.set i (some (.d x))).set j (some (.d y)))
theorem vs_par (i j:Nat) {x y:Str} {px py pt:Pos} {kt k2 pt2} (hc:X.calm = true) (hN:X.N.Nodup) (ha:PVs X rl [a,b] fs)
    (hw:swappedStores [.Tuple [.Name x px,.Name y py] kt pt] (.Tuple [a,b] k2 pt2) X.env = pure (some [x,y]):=by rfl) (hi:X.N[i]? = some x:=by rfl) (hj:X.N[j]? = some y:=by rfl) (hij:i ≠ j:=by decide)
    (hx:X.env.scope.names.lookup x = some .local:=by rfl) (hy:X.env.scope.names.lookup y = some .local:=by rfl)
    (hs:swapsWithSole [.Tuple [.Name x px,.Name y py] kt pt] (.Tuple [a,b] k2 pt2) pos.line X.env = pure false:=by rfl) :
    PSV X rl (.Assign [.Tuple [.Name x px,.Name y py] kt pt] (.Tuple [a,b] k2 pt2) pos) (vPar i j fs):=by
  obtain ⟨t,p,k⟩:=ha
  refine ⟨_,ps_par hc hN hi hj hij hx hy p hw hs,fun R Dv D ok q=>k R _ _ q fun vs ws F1 H1 g1 r1 ⟨x,y,e1,q1⟩=>?_⟩
  have rs:=dats_rel r1 e1
  cases rs with
  | cons rx rs =>
    cases rs with
    | cons ry rs =>
      cases rs
      have R1:=(R.grow g1).set (w:=.d x) (Grow.refl g1.sub g1.reel) rx trivial (fun _ z=>by cases z) i
      exact ⟨_,_,rfl,ok.nx _ _ _ _ g1.fs (R1.set (w:=.d y) (Grow.refl g1.sub g1.reel) ry trivial (fun _ z=>by cases z) j) q1⟩

structure VIt (K:W.Frag) (rl:RlT) (F:Hp) (J:It) (xs:List PyData):Prop where
  go:∀ i H x,xs[i]? = some x -> Same F H -> J.go i H
  stop:∀ i H,xs.length <= i -> Same F H -> J.stop i H
  yld:∀ i H v H' x F2,xs[i]? = some x -> Same F F2 -> Same F2 H -> RAt rl F2 H -> J.yld i H v H' -> ∃ F3,Grow rl F2 H F3 H' /\ Rep K F3 v x
theorem VIt.of {K:W.Frag} {rl:RlT} {F:Hp} {J:It} {xs:List PyData} (go:∀ i H x,xs[i]? = some x -> Same F H -> J.go i H) (stop:∀ i H,xs.length <= i -> Same F H -> J.stop i H)
    (yld:∀ i H v H' x,xs[i]? = some x -> Same F H -> J.yld i H v H' -> H' = H /\ Rep K F v x):VIt K rl F J xs :=
  ⟨go,stop,fun i H v H' x F2 e s s2 ra y=>by
    obtain ⟨e1,r⟩:=yld i H v H' x e (s.trans s2) y
    subst e1
    exact ⟨F2,Grow.refl s2 ra,r.mono s⟩⟩
noncomputable def PIV (X:Cx) (rl:RlT) (tg iter:Expr) (fi:En -> (List PyData -> Prop) -> Prop):Prop:=∃ wi,PI X tg iter wi /\ ∀ {F₀ H₀ F H:Hp} {σ:St} {ρ:En},VR X.K rl F₀ H₀ F H σ ρ -> ∀ (Qd:List PyData -> Prop) (R:It -> Hp -> Prop),fi ρ Qd ->
  (∀ J xs F' H',Grow rl F H F' H' -> VIt X.K rl F' J xs -> Qd xs -> R J H') -> wi σ H R
end
end L2.VL

namespace L2.VL
open PySem PySem.Spec PyProof.Rows

section
variable {X:Cx} {rl:RlT} {st:Stmt} {rest body:List Stmt} {t u:TSv} {a b c e:Expr} {es:List Expr} {fa fb:TV} {fs:TVs} {f:TB} {pos p:Pos} {tg:Expr}
noncomputable def vFrz (i:Nat) (t:TSv):TSv:=fun D ρ=>∃ xs,ρ[i]? = some (some (.ml xs)) /\ t D (ρ.set i (some (.d (.list xs))))
noncomputable def iL (fa:TV):En -> (List PyData -> Prop) -> Prop:=fun ρ Q=>fa ρ fun w=>∃ xs,w.fz = .d (.list xs) /\ Q xs
noncomputable def iT (fa:TV):En -> (List PyData -> Prop) -> Prop:=fun ρ Q=>fa ρ fun w=>∃ xs,w.fz = .d (.tuple xs) /\ Q xs
theorem vi_list {l:Expr} (hl:PV X rl l fa):PIV X rl tg l (iL fa):=by
  obtain ⟨t,p,k⟩:=hl
  refine ⟨_,pi_list p,fun R Qd Q q h=>k R _ _ q fun v w F1 H1 g1 r1 n1 ⟨xs,ew,q1⟩=>?_⟩
  obtain ⟨F2,g2,s2,r2⟩:=RelW.fz g1 r1 n1
  rw [ew] at r2
  cases (show Rep X.K F2 v (.list xs) from r2) with
  | @lst a vs _ sq rs =>
    have sqH:∀ H,Same F2 H -> SqL X.K H a vs:=fun H s=>.inl (.inl (s _ _ sq))
    refine ⟨a,rfl,⟨vs,sqH H1 g2.sub⟩,h _ xs F2 H1 g2 (.of (fun i H x e s=>?_) (fun i H hl s=>⟨vs,sqH H s,by rw [rs.length]; exact hl⟩) (fun i H v H' x e s y=>?_)) q1⟩
    · obtain ⟨v,ev,_⟩:=rs.get e
      exact ⟨vs,v,sqH H s,ev⟩
    · obtain ⟨e',hy⟩:=y
      obtain ⟨v',ev,rv⟩:=rs.get e
      have:=hy vs (sqH H s)
      rw [ev] at this
      cases this
      exact ⟨e',rv⟩
theorem vi_tup {l:Expr} (hl:PV X rl l fa):PIV X rl tg l (iT fa):=by
  obtain ⟨t,p,k⟩:=hl
  refine ⟨_,pi_tup p,fun R Qd Q q h=>k R _ _ q fun v w F1 H1 g1 r1 n1 ⟨xs,ew,q1⟩=>?_⟩
  obtain ⟨F2,g2,s2,r2⟩:=RelW.fz g1 r1 n1
  rw [ew] at r2
  cases (show Rep X.K F2 v (.tuple xs) from r2) with
  | @tup a vs _ sq rs =>
    have sqH:∀ H,Same F2 H -> SqT X.K H a vs:=fun H s=>sameT s sq
    refine ⟨a,rfl,⟨vs,sqH H1 g2.sub⟩,h _ xs F2 H1 g2 (.of (fun i H x e s=>?_) (fun i H hl s=>⟨vs,sqH H s,by rw [rs.length]; exact hl⟩) (fun i H v H' x e s y=>?_)) q1⟩
    · obtain ⟨v,ev,_⟩:=rs.get e
      exact ⟨vs,v,sqH H s,ev⟩
    · obtain ⟨e',hy⟩:=y
      obtain ⟨v',ev,rv⟩:=rs.get e
      have:=hy vs (sqH H s)
      rw [ev] at this
      cases this
      exact ⟨e',rv⟩
noncomputable def rangeD (lo:Int) (n:Nat):List PyData:=(List.range n).map fun (i:Nat)=>.int (lo + i)
theorem rangeD_get {lo:Int} {n i:Nat} {x:PyData} (h:(rangeD lo n)[i]? = some x):i < n /\ x = .int (lo + i):=by
  unfold rangeD at h
  rw [List.getElem?_map] at h
  by_cases hi:i < n
  · rw [List.getElem?_eq_getElem (by simpa using hi)] at h
    simp at h
    exact ⟨hi,h.symm⟩
  · rw [List.getElem?_eq_none (by simpa using hi)] at h
    cases h
theorem rangeD_length {lo:Int} {n:Nat}:(rangeD lo n).length = n:=by simp [rangeD]
theorem vit_range {K:W.Frag} {F:Hp} (lo:Int) (n:Nat):VIt K rl F (Itr lo n) (rangeD lo n) :=
  .of (fun i H x e s=>(rangeD_get e).1) (fun i H hl s=>by rw [rangeD_length] at hl; exact hl) (fun i H v H' x e s y=>by
    obtain ⟨e1,e2⟩:=y
    subst e2
    rw [(rangeD_get e).2]
    exact ⟨e1,.int _⟩)
noncomputable def iR1 (fs:TVs):En -> (List PyData -> Prop) -> Prop:=fun ρ Q=>fs ρ fun ws=>∃ j:Int,ws = [.d (.int j)] /\ (-(2 ^ 62) <= j /\ j < 2 ^ 62) /\ Q (rangeD 0 j.toNat)
theorem vi_range1 (hm:X.mg "range" = none) (ha:PVs X rl [a] fs) (hg:Gl X "range" := by rfl) (hs:starEach [a] X.env = [(false,eval a X.env)]:=by rfl):PIV X rl tg (.Call (.Name "range" p) [a] [] pos) (iR1 fs):=by
  obtain ⟨t,p1,k⟩:=ha
  refine ⟨_,pi_range1 hg hm p1 hs,fun R Qd Q q h=>k R _ _ q fun vs ws F1 H1 g1 r1 ⟨j,ew,b,q1⟩=>?_⟩
  subst ew
  obtain ⟨v,rfl,rv⟩:=rel1 r1
  have e:=rep_int rv
  subst e
  exact ⟨j,rfl,b.1,b.2,h _ _ F1 H1 g1 (vit_range 0 _) q1⟩
theorem VR.own {K:W.Frag} {F₀ H₀ F H:Hp} {σ:St} {ρ:En} (r:VR K rl F₀ H₀ F H σ ρ) {i:Nat} {xs ys:List PyData} {a:Addr} {us:List V} (e : ρ[i]? = some (some (.ml xs))) (es : σ[i]? = some (some (.ref a))) (rs:Reps K F us ys) :
    VR K rl F₀ H₀ F (upd H a (.lst us)) σ (ρ.set i (some (.ml ys))):=by
  obtain ⟨v,h1,h2,h3⟩:=r.sl i _ e
  rw [es] at h1
  cases h1
  obtain ⟨a',vs,ev,f,hr,hh,q⟩:=(show OwnL K rl F H (.ref a) xs from h2)
  cases ev
  have n0:H₀ a = none:=h3 a rfl
  have hi:i < ρ.length:=(List.getElem?_eq_some_iff.mp e).1
  have neF:∀ b u,F b = some u -> b ≠ a:=fun b u q z=>by subst z; rw [f] at q; cases q
  have g:Grow rl F₀ H₀ F (upd H a (.lst us)):=by
    refine ⟨fun b o q1 n=>by rw [upd_ne (ne_of_none q1 n0)]; exact r.g.same b o q1 n,r.g.fs,fun b o q1=>by rw [upd_ne (neF b o q1)]; exact r.sub b o q1,r.g.old,fun y z=>?_⟩
    obtain ⟨z1,⟨u,h1,h2⟩⟩:=r.reel y z
    exact ⟨z1,⟨u,by rw [upd_ne (fun q=>hr (by rw [<- q]; exact z))]; exact h1,h2⟩⟩
  refine ⟨g,fun j w e1=>?_,fun j k ys' zs u hjk e1 e2 w1 w2 s1 s2=>?_,fun j ys' z=>?_,by simp [r.len]⟩
  · by_cases hj:i = j
    · subst hj
      rw [List.getElem?_set_self hi] at e1
      cases e1
      exact ⟨_,es,⟨a,us,rfl,f,hr,upd_same,rs⟩,h3⟩
    · rw [List.getElem?_set_ne hj] at e1
      obtain ⟨u,g1,g2,g3⟩:=r.sl j w e1
      refine ⟨u,g1,?_,g3⟩
      cases w with
      | d x=>exact g2
      | reel=>exact g2
      | vv u=>exact g2
      | ml zs =>
        obtain ⟨b,us',eb,f1,f2,f3,f4⟩:=(show OwnL K rl F H u zs from g2)
        have ne:b ≠ a:=fun z=>r.ap i j _ _ (.ref a) hj e e1 rfl rfl es (by rw [g1,eb,z])
        exact ⟨b,us',eb,f1,f2,by rw [upd_ne ne]; exact f3,f4⟩
      | pk zs=>exact absurd e1 (r.np j zs)
      | md zs =>
        obtain ⟨b,us',eb,f1,f2,f3,f4⟩:=(show OwnD K rl F H u zs from g2)
        have ne:b ≠ a:=fun z=>r.ap i j _ _ (.ref a) hj e e1 rfl rfl es (by rw [g1,eb,z])
        exact ⟨b,us',eb,f1,f2,by rw [upd_ne ne]; exact f3,f4⟩
      | mk zs =>
        obtain ⟨b,us',eb,f1,f2,f3,f4⟩:=(show OwnK K rl F H u zs from g2)
        have ne:b ≠ a:=fun z=>r.ap i j _ _ (.ref a) hj e e1 rfl rfl es (by rw [g1,eb,z])
        exact ⟨b,us',eb,f1,f2,by rw [upd_ne ne]; exact f3,f4⟩
      | nt ds=>exact g2
      | lk=>trivial
      | sc _=>exact g2
      | fd _=>exact g2
      | fw _=>exact g2
      | ft _=>exact g2
      | xc _ _=>exact g2
      | dp _ _=>exact g2
  · have nd:∀ (j:Nat) (z:W),(ρ.set i (some (W.ml ys)))[j]? = some (some z) -> z.own = true -> ∃ z',ρ[j]? = some (some z') /\ z'.own = true:=fun j zs z o=>by
      by_cases hj:i = j
      · subst hj
        exact ⟨_,e,rfl⟩
      · rw [List.getElem?_set_ne hj] at z
        exact ⟨zs,z,o⟩
    obtain ⟨_,d1,o1⟩:=nd j _ e1 w1
    obtain ⟨_,d2,o2⟩:=nd k _ e2 w2
    exact r.ap j k _ _ u hjk d1 d2 o1 o2 s1 s2
  · rw [List.getElem?_set] at z
    split at z
    · first | cases z | (split at z <;> cases z)
    · exact r.np j ys' z
noncomputable def VMut (K:W.Frag) (rl:RlT) (r:V -> List V -> Hp -> VK -> Prop) (g:List PyData -> List W -> (List PyData -> Prop) -> Prop):Prop :=
  ∀ {F H:Hp} {a:Addr} {vs args:List V} {xs:List PyData} {ws:List W} (Qn:List PyData -> Prop) (Q:VK),Same F H -> H a = some (.lst vs) -> Reps K F vs xs -> RelWs K rl F H args ws -> g xs ws Qn ->
    (∀ us ys,Reps K F us ys -> Qn ys -> Q .non (upd H a (.lst us))) -> r (.ref a) args H Q
noncomputable def vMut (i:Nat) (g:List PyData -> List W -> (List PyData -> Prop) -> Prop) (fs:TVs):TSv:=fun D ρ=>∃ xs,ρ[i]? = some (some (.ml xs)) /\ fs ρ fun ws=>g xs ws fun ys=>D.nx (ρ.set i (some (.ml ys)))
theorem vs_mut (i:Nat) {x:Str} {nm:Str} {id:String} {r:V -> List V -> Hp -> VK -> Prop} {g:List PyData -> List W -> (List PyData -> Prop) -> Prop} {px apos cpos:Pos} (slot:Slot "list" nm id) (hty:typeOf (.builtin id) = pure (.type "method_descriptor")) (hm:MtR X id r) (vm:VMut X.K rl r g) (ha:PVs X rl (e :: es) fs)
    (hN:X.N[i]? = some x:=by rfl) (hv:Vis X.env.scope x:=by first | exact Or.inl rfl | exact Or.inr (Or.inl rfl) | exact Or.inr (Or.inr rfl))
    (hd:(x == ("__debug__" : Str)) = false:=by decide) (hcd:(x == ("__classdict__" : Str)) = false:=by decide)
    (hbase:attributeBase (.Name x px) nm X.env (eval (.Name x px) X.env) = eval (.Name x px) X.env:=by rfl)
    (hfew:((backTo cpos (starEach (e :: es) X.env)).all (fun x=>!x.1) && (backToKw cpos (keywordEach [] X.env)).all (fun x=>x.1.isSome)
      && decide ((e :: es).length + ([]:List Keyword).length + (if ([]:List Keyword).isEmpty then 0 else 1) < 30)) = true:=by rfl)
    (hline:(apos.endLine == cpos.line) = true:=by rfl) (hs:starEach (e :: es) X.env = (false,eval e X.env) :: starEach es X.env:=by rfl) (hplain:(backTo cpos (starEach es X.env)).any (·.1) = false:=by rfl)
    (hsw:swapsWith (.Call (.Attribute (.Name x px) nm apos) (e :: es) [] cpos) none pos.line X.env = pure false:=by rfl) :
    PSV X rl (.Expr (.Call (.Attribute (.Name x px) nm apos) (e :: es) [] cpos) pos) (vMut i g fs):=by
  obtain ⟨t,p1,k⟩:=ha
  refine ⟨_,ps_expr (pe_bm PySem.F.plainAttrs_list slot hty hm (pe_var hN hv hd hcd) p1 hbase hfew hline hs hplain) hsw,fun {F₀ H₀ F H σ ρ} R Dv D ok ⟨xs,e1,q⟩=>?_⟩
  obtain ⟨v,h1,h2,h3⟩:=R.sl i _ e1
  obtain ⟨a,vs,rfl,f,hr,hh,rs⟩:=(show OwnL X.K rl F H v xs from h2)
  refine ⟨.ref a,h1,.inl ⟨rfl,vs,.inl (.inl hh)⟩,k R _ _ q fun args ws F1 H1 g1 r1 q1=>?_⟩
  refine vm _ _ g1.sub (g1.same a _ hh hr) (rs.mono g1.fs) r1 q1 fun us ys r2 q2=>?_
  exact ok.nx _ _ _ _ g1.fs ((R.grow g1).own e1 h1 r2) q2
noncomputable def gApp:List PyData -> List W -> (List PyData -> Prop) -> Prop:=fun xs ws Q=>∃ x,dats ws = some [x] /\ xs.length < sizeLine /\ Q (xs ++ [x])
theorem vm_app {K:W.Frag}:VMut K rl rAppend gApp:=fun {F H a vs args xs ws} Qn Q s ha rs ra ⟨x,e,z,q⟩ k=>by
  have r2:=dats_rel ra e
  cases r2 with
  | cons rx r3 =>
    cases r3
    exact ⟨a,vs,_,rfl,rfl,ha,by rw [rs.length]; exact z,k _ _ (rs.snoc rx) q⟩
theorem vs_app (i:Nat) {x:Str} {px apos cpos:Pos} (ha:PVs X rl [e] fs) (hN:X.N[i]? = some x:=by rfl) (hv:Vis X.env.scope x:=by first | exact Or.inl rfl | exact Or.inr (Or.inl rfl) | exact Or.inr (Or.inr rfl))
    (hd:(x == ("__debug__" : Str)) = false:=by decide) (hcd:(x == ("__classdict__" : Str)) = false:=by decide)
    (hbase:attributeBase (.Name x px) "append" X.env (eval (.Name x px) X.env) = eval (.Name x px) X.env:=by rfl)
    (hfew:((backTo cpos (starEach [e] X.env)).all (fun x=>!x.1) && (backToKw cpos (keywordEach [] X.env)).all (fun x=>x.1.isSome)
      && decide (([e]).length + ([]:List Keyword).length + (if ([]:List Keyword).isEmpty then 0 else 1) < 30)) = true:=by rfl)
    (hline:(apos.endLine == cpos.line) = true:=by rfl) (hs:starEach [e] X.env = (false,eval e X.env) :: starEach [] X.env:=by rfl) (hplain:(backTo cpos (starEach [] X.env)).any (·.1) = false:=by rfl)
    (hsw:swapsWith (.Call (.Attribute (.Name x px) "append" apos) [e] [] cpos) none pos.line X.env = pure false:=by rfl) :
    PSV X rl (.Expr (.Call (.Attribute (.Name x px) "append" apos) [e] [] cpos) pos) (vMut i gApp fs) :=
  vs_mut i PySem.F.slot_list_append PySem.F.type_list_append mt_append vm_app ha hN hv hd hcd hbase hfew hline hs hplain hsw

noncomputable def argOk:W -> Bool
  | .ml _=>false
  | .md _=>false
  | .mk _=>false
  | .pk _=>false
  | _=>true
noncomputable def vsp (K:W.Frag) (rl:RlT) (P:List W -> (PyData -> Prop) -> Prop):Sp:=fun vs H Q _=>∃ F ws,Same F H /\ RAt rl F H /\ RelWs K rl F H vs ws /\ ws.all argOk = true /\ P ws fun d=>∀ v F' H',Grow rl F H F' H' -> Rep K F' v d -> Q v H'
noncomputable def startV (N:List Str) (ws:List W):En:=ws.map some ++ List.replicate (N.length - ws.length) none
theorem relWs_get {K:W.Frag} {F H:Hp}:∀ {vs:List V} {ws:List W} {i:Nat} {w:W},RelWs K rl F H vs ws -> ws[i]? = some w -> ∃ v,vs[i]? = some v /\ RelW K rl F H v w
  | _,_,_,_,.nil,e=>by simp at e
  | _,_,0,_,.cons h _,e=>by simp at e; subst e; exact ⟨_,rfl,h⟩
  | _,_,i + 1,w,.cons _ r,e=>by
    obtain ⟨v,h1,h2⟩:=relWs_get (i:=i) (w:=w) r (by simpa using e)
    exact ⟨v,by simpa using h1,h2⟩
theorem start_get {N:List Str} {ws:List W} {i:Nat} {w:W} (h:(startV N ws)[i]? = some (some w)):ws[i]? = some w:=by
  unfold startV at h
  by_cases hi:i < ws.length
  · rw [List.getElem?_append_left (by simpa using hi),List.getElem?_map] at h
    cases q:ws[i]? with
    | none=>rw [q] at h; cases h
    | some x=>rw [q] at h; cases h; rfl
  · rw [List.getElem?_append_right (by simpa using hi),List.getElem?_replicate] at h
    split at h <;> cases h
theorem vr_start {K:W.Frag} {F H:Hp} {N:List Str} {vs:List V} {ws:List W} (s:Same F H) (ra:RAt rl F H) (r:RelWs K rl F H vs ws) (ok:ws.all argOk = true):VR K rl F H F H (start N vs) (startV N ws):=by
  have hl:vs.length = ws.length:=Paired.length r
  have no:∀ (i:Nat) w,(startV N ws)[i]? = some (some w) -> argOk w = true:=fun i w e=>(List.all_eq_true.mp ok) w (List.mem_of_getElem? (start_get e))
  refine ⟨Grow.refl s ra,fun i w e=>?_,fun i j xs ys v _ e1 _ o _ _ _=>(by have:=no i _ e1; cases xs <;> first | exact Bool.noConfusion o | exact Bool.noConfusion this),fun i xs e=>(by have:=no i _ e; cases this),?_⟩
  · obtain ⟨v,h1,h2⟩:=relWs_get r (start_get e)
    refine ⟨v,?_,h2,?_⟩
    · unfold start
      rw [List.getElem?_append_left (by simpa using (List.getElem?_eq_some_iff.mp h1).1),List.getElem?_map,h1]
      rfl
    · have:=no i w e
      cases w with
      | ml xs=>cases this
      | md xs=>cases this
      | mk xs=>cases this
      | nt _=>trivial
      | lk=>trivial
      | sc _=>trivial
      | fd _=>trivial
      | fw _=>trivial
      | ft _=>trivial
      | xc _ _=>trivial
      | dp _ _=>trivial
      | d _=>trivial
      | pk _=>trivial
      | reel=>trivial
      | vv _=>trivial
  · unfold startV start
    simp [hl]
noncomputable def vEnds (Q:PyData -> Prop):VEnds:=⟨fun _=>Q .none,fun w=>∃ d,w.fz = .d d /\ Q d,fun _=>False,fun _=>False⟩
theorem vfn {P:Program} {w:World} {K:W.Frag} {mg:Str -> Option Value} {base:Heap} {x qual:Str} {st:Stmt} {fa:Addr} {fd:FuncData} {N ps:List Str} {k:Nat} {Pd:List W -> (PyData -> Prop) -> Prop} {t:TSv}
    (Fn:Fun K x qual st fa fd) (S:FnScope N ps (defScope st)) (len:∀ ws Q,Pd ws Q -> ws.length = ps.length)
    (hbody:∀ (cdv:Value) (A:Around) (outer:List Env) (s:Shared) (H:Hp) (E:XK),Room k (A.deeper (envOfC qual (defScope st) s.heap.objs.size fa cdv)) ->
      PSsV (cxOf CX0 P w K mg base N qual (defScope st) fa cdv A outer s H E).nox rl (defBody st) t)
    (hread:∀ ws Q,Pd ws Q -> t (vEnds Q) (startV N ws)):FnOk P w K mg base CX0 (k + 1) fa fd ps (vsp K rl Pd):=by
  refine Fn.ok S (fun vs H Q E ⟨F,ws,_,_,r,_,q⟩=>(Paired.length r).trans (len ws _ q)) fun cdv A outer s H vs Q E hr h=>?_
  obtain ⟨F,ws,sm,ra,r,ok,q⟩:=h
  obtain ⟨T,p,kk⟩:=hbody cdv A outer s H E hr
  refine ⟨T,p,kk (vr_start sm ra r ok) (vEnds _) _ ⟨?_,?_,fun _ _ _ _ _ _ z=>False.elim z,fun _ _ _ _ _ _ z=>False.elim z⟩ (hread ws _ q)⟩
  · intro F1 H1 σ1 ρ1 _ R1 q1
    exact q1 .non F1 H1 R1.g .non
  · rintro v w1 F1 H1 g1 r1 n1 ⟨d,ed,q1⟩
    obtain ⟨F2,g2,s2,r2⟩:=RelW.fz g1 r1 n1
    rw [ed] at r2
    exact q1 v F2 H1 g2 r2
structure Dfn (P:Program) (w:World) (K:W.Frag) (mg:Str -> Option Value) (base:Heap) (rl:RlT) (x:Str) (ps:List Str) (k:Nat) (Pd:List W -> (PyData -> Prop) -> Prop):Prop where
  mono:∀ ws Q Q',(∀ d,Q d -> Q' d) -> Pd ws Q -> Pd ws Q'
  ex:∃ f fd,mg x = some (.ref f) /\ W.keepIn K (.ref f) = true /\ Binds K fd ps [] /\ FnOk P w K mg base CX0 k f fd ps (vsp K rl Pd)
noncomputable def vUse (Pd:List W -> (PyData -> Prop) -> Prop) (fs:TVs):TV:=fun ρ Q=>fs ρ fun ws=>ws.all argOk = true /\ Pd ws fun d=>Q (.d d)
theorem v_call {x:Str} {ps:List Str} {k:Nat} {Pd:List W -> (PyData -> Prop) -> Prop} (D:Dfn X.prog X.w X.K X.mg X.base rl x ps k Pd) (hr:Room k X.A) (ha:PVs X rl (e :: es) fs) (hg:Gl X x:=by rfl)
    (hdb:(x == ("__debug__" : Str)) = false:=by decide) (he:starEach (e :: es) X.env = (false,eval e X.env) :: starEach es X.env:=by rfl) (hpl:(backTo pos (starEach es X.env)).any (·.1) = false:=by rfl) :
    PV X rl (.Call (.Name x p) (e :: es) [] pos) (vUse Pd fs):=by
  obtain ⟨f,fd,hm,hk,hb,F⟩:=D.ex
  obtain ⟨t,p1,kk⟩:=ha
  refine ⟨_,pe_call F hr hg hm hk hb .nil pass0 p1 hdb he hpl,fun R Qd Q q h=>kk R _ _ q fun vs ws F1 H1 g1 r1 ⟨ok,q1⟩=>?_⟩
  refine ⟨F1,ws,g1.sub,g1.reel,by rw [List.append_nil]; exact r1,ok,?_⟩
  exact D.mono ws _ _ (fun d qd v F2 H2 g2 r2=>h v (.d d) F2 H2 (g1.trans g2) r2 trivial qd) q1
end
end L2.VL

namespace L2
open PySem PySem.Spec PyProof.Rows

theorem closure_ok {env:Env}:∀ (names:List (Str × NameKind)) (acc:List (Str × Addr)),(∀ x ∈ names,x.2 = .free -> ∃ c,env.cells.lookup x.1 = some c) -> (∀ x c,acc.lookup x = some c -> env.cells.lookup x = some c) ->
    ∃ cl,(forIn names acc (fun (x:Str × NameKind) (cs:List (Str × Addr))=>if (x.2 == NameKind.free) = true then do let c <- cellOf env x.1; pure (ForInStep.yield ((x.1,c) :: cs)) else pure (ForInStep.yield cs)):Sem (List (Str × Addr))) = pure cl /\
      (∀ x c,cl.lookup x = some c -> env.cells.lookup x = some c) /\ (∀ x,(acc.lookup x).isSome = true -> (cl.lookup x).isSome = true) /\ ∀ x,(x,NameKind.free) ∈ names -> (cl.lookup x).isSome = true
  | [],acc,_,h2=>⟨acc,rfl,h2,fun _ z=>z,fun _ z=>nomatch z⟩
  | (n,k) :: r,acc,h1,h2=>by
    by_cases hk:k = .free
    · subst hk
      obtain ⟨c,hc⟩:=h1 (n,.free) List.mem_cons_self rfl
      have h2':∀ x c',((n,c) :: acc).lookup x = some c' -> env.cells.lookup x = some c':=fun x c' z=>by
        rw [List.lookup_cons] at z
        cases e:x == n with
        | true =>
          rw [e] at z
          have e':x = n:=by simpa using e
          cases z
          rw [e']
          exact hc
        | false =>
          rw [e] at z
          exact h2 x c' z
      obtain ⟨cl,e,g1,g2,g3⟩:=closure_ok r ((n,c) :: acc) (fun x hx=>h1 x (List.mem_cons_of_mem _ hx)) h2'
      refine ⟨cl,?_,g1,fun x z=>g2 x ?_,fun x z=>?_⟩
      · rw [List.forIn_cons]
        simp only [beq_self_eq_true,if_true]
        have e0:cellOf env n = pure c:=by unfold cellOf; rw [hc]
        rw [e0,pure_bind,pure_bind]
        exact e
      · rw [List.lookup_cons]
        split
        · rfl
        · exact z
      · rcases List.mem_cons.mp z with z | z
        · cases z
          refine g2 _ ?_
          rw [List.lookup_cons]
          simp
        · exact g3 x z
    · obtain ⟨cl,e,g1,g2,g3⟩:=closure_ok r acc (fun x hx=>h1 x (List.mem_cons_of_mem _ hx)) h2
      refine ⟨cl,?_,g1,g2,fun x z=>?_⟩
      · rw [List.forIn_cons]
        have hb:(k == NameKind.free) = false:=by simpa using hk
        simp only [hb,Bool.false_eq_true,if_false]
        rw [pure_bind]
        exact e
      · rcases List.mem_cons.mp z with z | z
        · cases z; exact absurd rfl hk
        · exact g3 x z
theorem closure_for {env:Env} {scope:Scope} (h:∀ x ∈ scope.names,x.2 = .free -> ∃ c,env.cells.lookup x.1 = some c) :
    ∃ cl,closureFor scope env = pure cl /\ (∀ x c,cl.lookup x = some c -> env.cells.lookup x = some c) /\ ∀ x,(x,NameKind.free) ∈ scope.names -> (cl.lookup x).isSome = true:=by
  obtain ⟨cl,e,g1,_,g3⟩:=closure_ok scope.names [] h (fun _ _ z=>by cases z)
  refine ⟨cl,?_,g1,g3⟩
  unfold closureFor
  first
    | exact e
    | (simp only [bind_pure]; exact e)

theorem relabel_back {env:Env} {scope:Scope} {x:Str} (h:(relabel scope env).names.lookup x = some .cell \/ (relabel scope env).names.lookup x = some .free):(x,NameKind.free) ∈ scope.names \/ (x,NameKind.cell) ∈ scope.names:=by
  have key:∀ names:List (Str × NameKind),∀ k,(k = .cell \/ k = .free) ->
      (names.map fun (n,k)=>if (k == NameKind.free && env.scope.kind == .function && env.kindOf n == some .cell) then (n,NameKind.cell) else (n,k)).lookup x = some k -> (x,NameKind.free) ∈ names \/ (x,NameKind.cell) ∈ names:=by
    intro names
    induction names with
    | nil=>intro k _ z; cases z
    | cons y r ih =>
      intro k hk z
      obtain ⟨n,kn⟩:=y
      have step:((x,NameKind.free) ∈ r \/ (x,NameKind.cell) ∈ r) -> ((x,NameKind.free) ∈ (n,kn) :: r \/ (x,NameKind.cell) ∈ (n,kn) :: r):=fun z=>z.imp (List.mem_cons_of_mem _) (List.mem_cons_of_mem _)
      rw [List.map_cons] at z
      dsimp only at z
      by_cases hc:(kn == NameKind.free && env.scope.kind == .function && env.kindOf n == some .cell) = true
      · rw [if_pos hc,List.lookup_cons] at z
        have hf:kn = .free:=by
          have:=(Bool.and_eq_true_iff.mp (Bool.and_eq_true_iff.mp hc).1).1
          simpa using this
        cases e:x == n with
        | true =>
          have e':x = n:=by simpa using e
          rw [e',<- hf]
          exact .inl List.mem_cons_self
        | false =>
          rw [e] at z
          exact step (ih k hk z)
      · rw [if_neg hc,List.lookup_cons] at z
        cases e:x == n with
        | true =>
          rw [e] at z
          have e':x = n:=by simpa using e
          cases z
          rcases hk with hk | hk
          · rw [e',hk]; exact .inr List.mem_cons_self
          · rw [e',hk]; exact .inl List.mem_cons_self
        | false =>
          rw [e] at z
          exact step (ih k hk z)
  rcases h with h | h
  · exact key scope.names .cell (.inl rfl) h
  · exact key scope.names .free (.inr rfl) h

theorem cellsFrom_app:∀ (names:List (Str × NameKind)) (n:Nat) (acc:List (Str × Addr)),cellsFrom n names acc = cellsFrom n names [] ++ acc
  | [],_,_=>rfl
  | (x,k) :: r,n,acc=>by
    unfold cellsFrom
    split
    · rw [cellsFrom_app r (n + 1) ((x,n) :: acc),cellsFrom_app r (n + 1) [(x,n)],List.append_assoc]
      rfl
    · exact cellsFrom_app r n acc
theorem cellsFrom_mem {x:Str} {c:Addr}:∀ {names:List (Str × NameKind)} {n:Nat},(x,c) ∈ cellsFrom n names [] -> (x,NameKind.cell) ∈ names
  | (y,k) :: r,n,h=>by
    unfold cellsFrom at h
    split at h
    · rename_i hk
      rw [cellsFrom_app] at h
      rcases List.mem_append.mp h with h | h
      · exact List.mem_cons_of_mem _ (cellsFrom_mem h)
      · simp at h
        have:k = .cell:=by simpa using hk
        rw [h.1,this]
        exact List.mem_cons_self
    · exact List.mem_cons_of_mem _ (cellsFrom_mem h)
theorem lookup_app {a b:List (Str × Addr)} {x:Str}:(a ++ b).lookup x = (a.lookup x).or (b.lookup x):=by
  induction a with
  | nil=>simp
  | cons y a ih =>
    obtain ⟨n,c⟩:=y
    rw [List.cons_append,List.lookup_cons,List.lookup_cons]
    cases x == n <;> simp [ih]
theorem newEnv_comp {M:Model} {A:Around} {E:Value -> Shared -> Prop} {s:Shared} {scope:Scope} {globals:Addr} {cl:List (Str × Addr)} {qual:Str} {o:Env} {Q:Env -> Shared -> Prop}
    (hQ:Q { scope,locals:=s.heap.objs.size,globals,cells:=cellsFrom (s.heap.objs.size + 1) scope.names cl,qual,func:=none,code:=o.code,frame:=o.frame,builtins:=o.builtins } { s with heap:=pushCells (s.heap.push { cls:=.type "dict", data:=.dict #[] }) scope.names }) :
    wpAny M A (newFunctionEnv scope globals cl [] qual none .none (some o)) Q E s:=by
  simp only [newFunctionEnv,Option.isSome_some,if_true]
  refine wpAny_bind (wpAny_alloc ?_)
  refine wpAny_bind (wpAny_layCells _ (fun name kind cells=>by cases hkc:kind == NameKind.cell <;> simp [hkc]) _ _ _ _ ?_)
  rw [show ({ s with heap:=s.heap.push { cls:=.type "dict", data:=.dict #[] } }:Shared).heap.objs.size = s.heap.objs.size + 1 from Heap.size_push ..]
  exact wpAny_bind (wpAny_pure (wpAny_pure hQ))
noncomputable def compCx (X:Cx) (N':List Str) (scope:Scope) (cl:List (Str × Addr)) (fp:List Addr) (pn:List (Addr × Obj)) (s:Shared) (H:Hp):Cx :=
  { X with N:=N',s₀:=s,H₀:=H,env:={ compEnvC scope cl s.heap.objs.size X.env with cells:=cellsFrom (s.heap.objs.size + 1) scope.names cl },outer:=X.stack,ex:=fp,fn:=fun x=>scope.names.lookup x == some .cell,pn:=pn,xe:=fun _ _=>False }
abbrev testsOf (ifs:List Expr) (env:Env):Sem Bool:=forIn ifs true fun c r=>if r = true then do let ok <- isTrue c env (eval c env); pure (ForInStep.yield ok) else pure (ForInStep.yield r)
noncomputable def PTs (X:Cx) (ifs:List Expr) (t:TT):Prop :=
  ∀ (pins:List (Addr × Obj)) (s:Shared) (σ:St) (H:Hp) (Q:Bool -> Hp -> Prop),Inv X pins σ H s -> t σ H Q -> wpAny (model X.prog X.w) X.A (testsOf ifs X.env) (TP X pins σ Q) X.xe s
theorem pts_nil {X:Cx}:PTs X [] (fun _ H Q=>Q true H):=fun _ _ _ H _ I h=>wpAny_tests_nil ⟨H,I,h⟩
theorem pts_one {X:Cx} {c:Expr} {t:TT} (h:PT X c t):PTs X [c] t:=fun pins s σ H Q I hw=>wpAny_tests_one (h pins s σ H Q I hw)

theorem comp_loop {prog:Program} {w:World} {A:Around} {R:Result -> Shared -> Prop} {s:Shared} {elt target iter:Expr} {ifs:List Expr} {scope:Scope} {pos:Pos} {it acc:Value} {env:Env} (I:Nat -> Shared -> Prop)
    (turn:∀ n s,I n s -> wpAny (model prog w) A (pyNext it) (fun r s₁=>(r = none /\ R (.ok .next) s₁) \/ ∃ v,r = some v /\
      wpAny (model prog w) A (letOwnedTupleGo target it v) (fun _ s₂=>wpAny (model prog w) A (assign target env v) (fun _ s₃=>wpAny (model prog w) A (testsOf ifs env) (fun ok s₄ =>
        if ok = true then wpAny (model prog w) A (eval elt env) (fun x s₅=>wpAny (model prog w) A (call (.builtin "list.append") [acc,x]) (fun _ s₆=>∃ m,m < n /\ I m s₆) (fun _ _=>False) s₅) (fun _ _=>False) s₄
        else ∃ m,m < n /\ I m s₄) (fun _ _=>False) s₃) (fun _ _=>False) s₂) (fun _ _=>False) s₁) (fun _ _=>False) s)
    (n:Nat) (h:I n s):codeAny (model prog w) A (.compLoop (.ListComp elt [⟨target,iter,ifs,0⟩] scope pos) 0 it acc env) R s:=by
  refine codeAny_loop rfl I (fun n s hI=>?_) n h
  show wpAny _ A ((compTurn (.ListComp elt [⟨target,iter,ifs,0⟩] scope pos) 0 it acc env).onRaise (fun x=>do noteFrame x env; theTreesLotGoes x)) _ _ s
  refine wpAny_noted ?_
  rw [compTurn_list]
  refine wpAny_bind (wpAny_standAt (wpAny_bind (wpAny_mono (turn n s hI) (fun r s₁ h₁=>?_) fun _ _ h'=>h'.elim)))
  rcases h₁ with ⟨rfl,h₁⟩ | ⟨v,rfl,h₁⟩
  · exact wpAny_pure h₁
  · refine wpAny_bind (wpAny_mono h₁ (fun _ s₂ h₂=>wpAny_bind (wpAny_mono h₂ (fun _ s₃ h₃=>wpAny_bind (wpAny_mono h₃ (fun ok s₄ h₄=>?_) fun _ _ z=>z.elim)) fun _ _ z=>z.elim)) fun _ _ z=>z.elim)
    cases ok with
    | false=>exact wpAny_pure ⟨rfl,h₄⟩
    | true=>exact wpAny_bind (wpAny_bind (wpAny_mono h₄ (fun x s₅ h₅=>wpAny_bind (wpAny_mono h₅ (fun _ s₆ h₆=>wpAny_pure (wpAny_pure ⟨rfl,h₆⟩)) fun _ _ z=>z.elim)) fun _ _ z=>z.elim))

noncomputable def frIn (fr:List (Option Nat)) (σ:St):St:=fr.map fun o=>o.bind fun j=>(σ[j]?).join
noncomputable def frOk (fr:List (Option Nat)) (N' N:List Str) (sc scX:Scope):Bool :=
  decide (fr.length = N'.length) && (List.range fr.length).all fun i=>match fr[i]? with
    | some (some j)=>match N'[i]? with
      | some x=>decide (N[j]? = some x) && decide (sc.names.lookup x = some .free) && (decide (scX.names.lookup x = some .cell) || decide (scX.names.lookup x = some .free))
      | none=>false
    | _=>true
noncomputable def scOk (sc scX:Scope):Bool :=
  decide (sc.kind = .function) && sc.names.all fun y=>(decide (y.2 ≠ .cell) || decide (sc.names.lookup y.1 = some .cell)) && (decide (y.2 ≠ .local) || decide (sc.names.lookup y.1 = some .local)) &&
    (decide (y.2 ≠ .free) || (decide (scX.names.lookup y.1 = some .cell) || decide (scX.names.lookup y.1 = some .free)))
theorem frOk.get {fr:List (Option Nat)} {N' N:List Str} {sc scX:Scope} (h:frOk fr N' N sc scX = true):fr.length = N'.length /\ ∀ (i j:Nat),fr[i]? = some (some j) -> ∃ x,N'[i]? = some x /\ N[j]? = some x /\ sc.names.lookup x = some .free /\ (scX.names.lookup x = some .cell \/ scX.names.lookup x = some .free):=by
  unfold frOk at h
  obtain ⟨h1,h2⟩:=Bool.and_eq_true_iff.mp h
  refine ⟨of_decide_eq_true h1,fun i j e=>?_⟩
  have hi:i < fr.length:=(List.getElem?_eq_some_iff.mp e).1
  have q:=List.all_eq_true.mp h2 i (List.mem_range.mpr hi)
  rw [e] at q
  dsimp only at q
  cases en:N'[i]? with
  | none=>rw [en] at q; cases q
  | some x =>
    rw [en] at q
    dsimp only at q
    obtain ⟨q1,q2⟩:=Bool.and_eq_true_iff.mp q
    obtain ⟨q3,q4⟩:=Bool.and_eq_true_iff.mp q1
    exact ⟨x,rfl,of_decide_eq_true q3,of_decide_eq_true q4,(Bool.or_eq_true_iff.mp q2).imp of_decide_eq_true of_decide_eq_true⟩
theorem lookup_mem {x:Str} {k:NameKind}:∀ {names:List (Str × NameKind)},names.lookup x = some k -> (x,k) ∈ names:=fun h=>PySem.mem_of_lookup h

structure CompA where
  cl:List (Str × Addr)
  fp:List Addr
  pn:List (Addr × Obj)
  s:Shared
  H:Hp
abbrev blk (X:Cx) (N':List Str) (scope:Scope) (y:CompA):Cx:=compCx X N' scope y.cl y.fp y.pn y.s y.H
noncomputable def tComp (wi:TI) (fr:List (Option Nat)) (g:CompA -> TG) (tt:CompA -> TT) (te:CompA -> TE):TE:=fun σ H Q=>wi σ H fun J H1=>∀ D,H1 D = none -> ∃ Wv:Nat -> Nat -> List V -> St -> Hp -> Prop,(∃ m,Wv 0 m [] (frIn fr σ) (upd H1 D (.lst []))) /\
  ∀ (z:CompA) i m acc σc H,Wv i m acc σc H -> (J.stop i H /\ Q (.ref D) H) \/ (J.go i H /\ ∀ x H',J.yld i H x H' -> g z x σc H' fun σ2 H2=>tt z σ2 H2 fun b H3 =>
    if b = true then te z σ2 H3 fun y H4=>H4 D = some (.lst acc) /\ acc.length < sizeLine /\ ∃ m',m' < m /\ Wv (i + 1) m' (acc ++ [y]) σ2 (upd H4 D (.lst (acc ++ [y]))) else ∃ m',m' < m /\ Wv (i + 1) m' acc σ2 H3)
theorem relabel_free {env:Env}:∀ {names:List (Str × NameKind)} {x:Str},names.lookup x = some .free ->
    (names.map fun (n,k)=>if (k == NameKind.free && env.scope.kind == .function && env.kindOf n == some .cell) then (n,NameKind.cell) else (n,k)).lookup x = some .cell \/
    (names.map fun (n,k)=>if (k == NameKind.free && env.scope.kind == .function && env.kindOf n == some .cell) then (n,NameKind.cell) else (n,k)).lookup x = some .free
  | [],_,h=>by simp at h
  | (n,k) :: r,x,h=>by
    have ih:=@relabel_free env r x
    rw [List.map_cons]
    dsimp only
    cases hx:x == n with
    | true =>
      simp only [List.lookup_cons,hx] at h
      cases h
      by_cases hc:((NameKind.free == NameKind.free) && env.scope.kind == .function && env.kindOf n == some .cell) = true
      · rw [if_pos hc]; simp [List.lookup_cons,hx]
      · rw [if_neg hc]; simp [List.lookup_cons,hx]
    | false =>
      simp only [List.lookup_cons,hx] at h
      by_cases hc:(k == NameKind.free && env.scope.kind == .function && env.kindOf n == some .cell) = true
      · rw [if_pos hc]; simp only [List.lookup_cons,hx]; exact ih h
      · rw [if_neg hc]; simp only [List.lookup_cons,hx]; exact ih h
theorem comp_blockG {X:Cx} {ex tg:Expr} {scope:Scope} {pins:List (Addr × Obj)} {σ:St} {H3:Hp} {s3:Shared} {it D:Addr} {fp:List Addr} {tn:Nat -> Heap -> Prop} {J:It} {Q:VK}
    {cl:List (Str × Addr)} (N':List Str) (fr:List (Option Nat)) (hc:X.calm = true) (hkind:scope.kind = .function) (hcell:∀ y ∈ scope.names,y.2 = .cell -> scope.names.lookup y.1 = some .cell)
    (hfree:∀ y ∈ scope.names,y.2 = .free -> X.env.kindOf y.1 = some .cell \/ X.env.kindOf y.1 = some .free) (frl:fr.length = N'.length)
    (frg:∀ (i j:Nat),fr[i]? = some (some j) -> ∃ x,N'[i]? = some x /\ X.N[j]? = some x /\ scope.names.lookup x = some .free /\ (X.env.scope.names.lookup x = some .cell \/ X.env.scope.names.lookup x = some .free))
    (cl1:∀ x c,cl.lookup x = some c -> X.env.cells.lookup x = some c) (cl2:∀ x,(x,NameKind.free) ∈ scope.names -> (cl.lookup x).isSome = true)
    (I3:Inv X pins σ H3 s3) (T:Turn X.prog X.w X.K tg J fp it tn) (tn3:tn 0 s3.heap) (fpD:∀ b ∈ fp,H3 b = none) (fp3:∀ b ∈ fp,b < s3.heap.objs.size)
    (fpk:∀ b ∈ fp,b ≠ X.env.locals /\ b ∉ X.fs /\ (b ∈ X.ex \/ X.s₀.heap.objs.size <= b) /\ (∀ x c,X.env.cells.lookup x = some c -> c ≠ b) /\ ∀ p ∈ X.pn ++ pins,p.1 ≠ b)
    (loop:∀ s',Inv (compCx X N' scope cl fp (X.pn ++ pins) s3 H3) [] (frIn fr σ) H3 s' -> tn 0 s'.heap -> (∀ {H':Hp},(∀ b ∈ fp,H' b = none) -> ∀ b ∈ fp,FpOk (compCx X N' scope cl fp (X.pn ++ pins) s3 H3) [] H' b) ->
      codeAny (model X.prog X.w) X.A (.compStart ex 0 (.ref it) (.ref D) (compCx X N' scope cl fp (X.pn ++ pins) s3 H3).env) (fun r s5=>r = .ok .next /\ ∃ σ5 H4,Inv (compCx X N' scope cl fp (X.pn ++ pins) s3 H3) [] σ5 H4 s5 /\ Q (.ref D) H4) s')
    {Rp:Addr -> Result -> Shared -> Prop} (fin:∀ s5 H4 m,s5.heap.Ns s3.heap.objs.size m -> (∀ h',Heap.SameBut s3.heap.objs.size s5.heap h' -> Inv X pins σ H4 { s5 with heap:=h' }) -> FpOk X pins H4 s3.heap.objs.size -> Q (.ref D) H4 -> Rp s3.heap.objs.size (.ok .next) s5) :
    wpAny (model X.prog X.w) X.A (newFunctionEnv scope X.env.globals cl [] X.env.qual none .none (some X.env)) (fun cenv s₄ =>
      codeAny (model X.prog X.w) X.A (.compStart ex 0 (.ref it) (.ref D) { cenv with scope:=relabel scope X.env })
        (Rp cenv.locals) s₄) X.xe s3:=by
  refine newEnv_comp ?_
  have ok:=cellsFrom_ok scope.names (s3.heap.push { cls:=.type "dict", data:=.dict #[] }) (s3.heap.objs.size + 1) [] ⟨fun _ _ hm=>(nomatch hm),List.Pairwise.nil⟩ (by rw [Heap.size_push]; exact Nat.le_refl _)
  rw [Heap.size_push] at ok
  have kp:∀ b o,s3.heap.get? b = some o -> (pushCells (s3.heap.push { cls:=.type "dict", data:=.dict #[] }) scope.names).get? b = some o:=fun b o e=>pushCells_keeps _ _ b o (Heap.get?_push_of_some _ e)
  have hns₁:(pushCells (s3.heap.push { cls:=.type "dict", data:=.dict #[] }) scope.names).Ns s3.heap.objs.size (fun _=>none):=(Heap.Ns.new s3.heap (.type "dict")).keeps (pushCells_keeps _ _)
  generalize pushCells (s3.heap.push { cls:=.type "dict", data:=.dict #[] }) scope.names = h₁ at ok kp hns₁ ⊢
  have cs:∀ x c,(cellsFrom (s3.heap.objs.size + 1) scope.names cl).lookup x = some c -> (cellsFrom (s3.heap.objs.size + 1) scope.names []).lookup x = some c \/ cl.lookup x = some c:=fun x c e=>by
    rw [cellsFrom_app,lookup_app] at e
    cases q:(cellsFrom (s3.heap.objs.size + 1) scope.names []).lookup x with
    | none=>rw [q] at e; exact .inr (by simpa using e)
    | some c'=>rw [q] at e; exact .inl (by simpa using e)
  have own:∀ x c,(cellsFrom (s3.heap.objs.size + 1) scope.names []).lookup x = some c -> h₁.IsCell c none /\ s3.heap.objs.size + 1 <= c:=fun x c e=>ok.empty x c (PySem.mem_of_lookup e)
  have clt:∀ x c,cl.lookup x = some c -> c < s3.heap.objs.size:=fun x c e=>by
    obtain ⟨v,o,ho,_⟩:=I3.cell x c (cl1 x c e)
    exact Heap.lt_size ho
  have frn:∀ x,scope.names.lookup x = some .free -> (cellsFrom (s3.heap.objs.size + 1) scope.names []).lookup x = none:=fun x e=>by
    cases q:(cellsFrom (s3.heap.objs.size + 1) scope.names []).lookup x with
    | none=>rfl
    | some c =>
      have:=hcell (x,.cell) (cellsFrom_mem (PySem.mem_of_lookup q)) rfl
      rw [e] at this
      cases this
  have notC:∀ b o,s3.heap.get? b = some o -> b ≠ s3.heap.objs.size:=fun b o e=>Nat.ne_of_lt (Heap.lt_size e)
  have fpstk:∀ b ∈ fp,b ∉ frs X.stack:=fun b hb z=>(List.mem_cons.mp (I3.stkSub b z)).elim (fpk b hb).1 (fpk b hb).2.1
  have cellK:∀ c v,s3.heap.IsCell c v -> h₁.IsCell c v:=fun c v ⟨o,ho,hd⟩=>⟨o,kp c o ho,hd⟩
  have IY:Inv (compCx X N' scope cl fp (X.pn ++ pins) s3 H3) [] (frIn fr σ) H3 { s3 with heap:=h₁ }:=by
    refine ⟨⟨I3.ok.mod,hkind,I3.ok.glob,I3.ok.blt,Nat.le_refl _,fun x y c e1 e2=>?_,fun x hx=>?_,fun x c _ e=>?_,I3.ok.hd,I3.ok.frames,.inl rfl,
      fun b hb=>⟨Nat.ne_of_lt (fp3 b hb),fun x c e=>?_⟩,I3.bs,Nat.le_trans I3.ok.bsz I3.sz,fun b o e hb=>?_,fun b hb=>fpstk b hb,I3.stack,I3.stkFree⟩,
      rfl,I3.bare,Un.kept kp,⟨_,hns₁,fun i x v e1 e2 e3=>?_⟩,fun x c e=>?_,I3.hok.fresh (Nat.le_refl _),fun x c e=>?_,fun p hp=>?_,I3.hok.kept kp,?_⟩
    · rcases cs x c e1 with q1 | q1 <;> rcases cs y c e2 with q2 | q2
      · exact name_of_addr ok.apart (PySem.mem_of_lookup q1) (PySem.mem_of_lookup q2)
      · exact absurd (Nat.lt_of_lt_of_le (clt y c q2) (Nat.le_of_succ_le (own x c q1).2)) (Nat.lt_irrefl _)
      · exact absurd (Nat.lt_of_lt_of_le (clt x c q1) (Nat.le_of_succ_le (own y c q2).2)) (Nat.lt_irrefl _)
      · exact I3.ok.inj x y c (cl1 x c q1) (cl1 y c q2)
    · refine Option.isSome_iff_exists.mp ?_
      show ((cellsFrom (s3.heap.objs.size + 1) scope.names cl).lookup x).isSome = true
      rcases relabel_back hx with q | q
      · exact W.cellsFrom_some _ _ _ (.inr (cl2 x q))
      · exact W.cellsFrom_some _ _ _ (.inl (hcell _ q rfl))
    · rename_i hfn
      rcases cs x c e with q | q
      · have:=(own x c q).2
        show s3.heap.objs.size <= c
        omega
      · have hfn:(scope.names.lookup x == some NameKind.cell) = true:=hfn
        have hl:scope.names.lookup x = some .cell:=by simpa using hfn
        obtain ⟨c',ec'⟩:=Option.isSome_iff_exists.mp (W.cellsFrom_some scope.names (s3.heap.objs.size + 1) [] (.inl hl))
        have e':(cellsFrom (s3.heap.objs.size + 1) scope.names cl).lookup x = some c:=e
        rw [cellsFrom_app,lookup_app,ec'] at e'
        simp at e'
        subst e'
        exact Nat.le_of_succ_le (own x c' ec').2
    · rcases cs x c e with q | q
      · exact fun z=>absurd (Nat.lt_of_lt_of_le (fp3 b hb) (Nat.le_of_succ_le (by rw [<- z]; exact (own x c q).2))) (Nat.lt_irrefl _)
      · exact (fpk b hb).2.2.2.1 x c (cl1 x c q)
    · rcases (fpk b hb).2.2.1 with z | z
      · exact I3.ok.noex b o e z
      · exact absurd (Nat.lt_of_lt_of_le (Heap.lt_size e) (Nat.le_trans I3.ok.bsz z)) (Nat.lt_irrefl _)
    · have e2':(fr[i]?).map (fun o=>o.bind fun j=>(σ[j]?).join) = some (some v):=by unfold frIn at e2; rw [List.getElem?_map] at e2; exact e2
      cases ef:fr[i]? with
      | none=>rw [ef] at e2'; cases e2'
      | some o =>
        cases o with
        | none=>rw [ef] at e2'; cases e2'
        | some j =>
          rw [ef] at e2'
          have e3':(σ[j]?).join = some v:=Option.some.inj e2'
          have e4 : σ[j]? = some (some v):=by
            cases q : σ[j]? with
            | none=>rw [q] at e3'; cases e3'
            | some z=>rw [q] at e3'; cases e3'; rfl
          obtain ⟨x',n1,n2,n3,n4⟩:=frg i j ef
          have ex:x' = x:=Option.some.inj (n1.symm.trans e1)
          subst ex
          obtain ⟨m,hn,hl⟩:=I3.loc
          obtain ⟨u,ru,lk⟩:=hl j x' v n2 e4 (n4.elim (fun z=>.inr (.inl z)) fun z=>.inr (.inr z))
          refine ⟨u,ru,?_⟩
          rcases lk with ⟨kl,_⟩ | ⟨_,c,ec,hcl⟩
          · exact absurd (show X.env.scope.names.lookup x' = some .local from kl) (by rcases n4 with z | z <;> rw [z] <;> decide)
          · obtain ⟨c',ec'⟩:=Option.isSome_iff_exists.mp (cl2 x' (lookup_mem n3))
            have:=cl1 x' c' ec'
            rw [ec] at this
            cases this
            refine .inr ⟨relabel_free n3,c,?_,cellK _ _ hcl⟩
            show (cellsFrom (s3.heap.objs.size + 1) scope.names cl).lookup x' = some c
            rw [cellsFrom_app,lookup_app,frn x' n3]
            simpa using ec'
    · rcases cs x c e with q | q
      · exact ⟨_,(own x c q).1⟩
      · obtain ⟨v,z⟩:=I3.cell x c (cl1 x c q)
        exact ⟨v,cellK _ _ z⟩
    · rcases cs x c e with q | q
      · exact I3.hok.fresh (by have:=(own x c q).2; omega)
      · exact I3.freeC x c (cl1 x c q)
    · rw [List.append_nil] at hp
      obtain ⟨e,n,ne,nf,d⟩:=I3.pin p hp
      exact ⟨kp _ _ e,n,notC _ _ e,fun z=>(List.mem_cons.mp (I3.stkSub p.1 z)).elim ne nf,d⟩
    · unfold frIn
      rw [List.length_map]
      exact frl
  have stat:∀ {H':Hp},(∀ b ∈ fp,H' b = none) -> ∀ b ∈ fp,FpOk (compCx X N' scope cl fp (X.pn ++ pins) s3 H3) [] H' b:=fun hn b hb =>
    ⟨hn b hb,Nat.ne_of_lt (fp3 b hb),fpstk b hb,.inl hb,fun x c e=>(by
      rcases cs x c e with q | q
      · exact fun z=>absurd (Nat.lt_of_lt_of_le (fp3 b hb) (Nat.le_of_succ_le (by rw [<- z]; exact (own x c q).2))) (Nat.lt_irrefl _)
      · exact (fpk b hb).2.2.2.1 x c (cl1 x c q)),fun p hp=>by rw [List.append_nil] at hp; exact (fpk b hb).2.2.2.2 p hp⟩
  refine codeAny_mono (loop _ IY (T.keep _ _ _ tn3 fun b _ o e=>kp b o e) stat) fun r s5 ⟨hr,σ5,H4,I5,qn⟩=>?_
  subst hr
  obtain ⟨m,hn,_⟩:=I5.loc
  refine fin s5 H4 m hn (fun h' hs'=>?_) (I3.fpOk (Nat.le_refl _) I5.free) qn
  have k':∀ b o,b ≠ s3.heap.objs.size -> s5.heap.get? b = some o -> h'.get? b = some o:=fun b o nb e=>hs'.extBut b o nb e
  have u5:Un (frs X.stack) fp H3 H4 s3.heap s5.heap:=I5.base
  have un:Un (frs X.stack) fp H3 H4 s3.heap h' :=
    ⟨fun b o e n hb hx=>k' b o (notC b o e) (u5.keep b o e n hb hx),fun b o e n hb hx=>by obtain ⟨sl,q⟩:=u5.slot b o e n hb hx; exact ⟨sl,k' b _ (notC b o e) q⟩,u5.free,
      fun b o e hx=>by obtain ⟨o',q⟩:=u5.there b o e hx; exact ⟨o',k' b _ (notC b o e) q⟩,u5.tups,u5.frzs,u5.tbls⟩
  have nC:H4 s3.heap.objs.size = none:=I5.free
  have hok':HOk X.prog X.w H4 h':=fun b u e=>(I5.hok b u e).stay (fun c v hcv q=>k' c v (by
    rintro rfl
    rcases hcv with z | z
    · rw [<- z] at e; rw [nC] at e; cases e
    · rw [nC] at z; cases z) q) (fun _ q=>q) fun _ _ q=>q
  obtain ⟨hh,g5,d5,t5,os5⟩:=s5
  have os':os5 = s3.os:=I5.os
  subst os'
  have I':=Inv.call (s:=s3) (h':=h') (g':=g5) (d':=d5) (t':=t5) (ch:=fp) I3 un hok' I5.bare (fun b hb=>⟨(fpk b hb).2.2.1,(fpk b hb).1,(fpk b hb).2.2.2.1,(fpk b hb).2.2.2.2⟩)
  exact I'
theorem comp_block {X:Cx} {elt tg iter:Expr} {ifs:List Expr} {scope:Scope} {pos:Pos} {g:TG} {tt:TT} {te:TE} {pins:List (Addr × Obj)} {σ:St} {H3:Hp} {s3:Shared} {it D:Addr} {fp:List Addr} {tn:Nat -> Heap -> Prop} {J:It} {Q:VK}
    {cl:List (Str × Addr)} (N':List Str) (fr:List (Option Nat)) (hc:X.calm = true) (hkind:scope.kind = .function) (hcell:∀ y ∈ scope.names,y.2 = .cell -> scope.names.lookup y.1 = some .cell)
    (hfree:∀ y ∈ scope.names,y.2 = .free -> X.env.kindOf y.1 = some .cell \/ X.env.kindOf y.1 = some .free) (frl:fr.length = N'.length)
    (frg:∀ (i j:Nat),fr[i]? = some (some j) -> ∃ x,N'[i]? = some x /\ X.N[j]? = some x /\ scope.names.lookup x = some .free /\ (X.env.scope.names.lookup x = some .cell \/ X.env.scope.names.lookup x = some .free))
    (cl1:∀ x c,cl.lookup x = some c -> X.env.cells.lookup x = some c) (cl2:∀ x,(x,NameKind.free) ∈ scope.names -> (cl.lookup x).isSome = true)
    (I3:Inv X pins σ H3 s3) (T:Turn X.prog X.w X.K tg J fp it tn) (tn3:tn 0 s3.heap) (fpD:∀ b ∈ fp,H3 b = none) (fp3:∀ b ∈ fp,b < s3.heap.objs.size)
    (fpk:∀ b ∈ fp,b ≠ X.env.locals /\ b ∉ X.fs /\ (b ∈ X.ex \/ X.s₀.heap.objs.size <= b) /\ (∀ x c,X.env.cells.lookup x = some c -> c ≠ b) /\ ∀ p ∈ X.pn ++ pins,p.1 ≠ b)
    (hg:PG (compCx X N' scope cl fp (X.pn ++ pins) s3 H3) tg g) (ht:PTs (compCx X N' scope cl fp (X.pn ++ pins) s3 H3) ifs tt) (he:PE (compCx X N' scope cl fp (X.pn ++ pins) s3 H3) elt te)
    {Wv:Nat -> Nat -> List V -> St -> Hp -> Prop} {m0:Nat} (w0:Wv 0 m0 [] (frIn fr σ) H3)
    (turn:∀ i m acc σc H,Wv i m acc σc H -> (J.stop i H /\ Q (.ref D) H) \/ (J.go i H /\ ∀ x H',J.yld i H x H' -> g x σc H' fun σ2 H2=>tt σ2 H2 fun b H3 =>
      if b = true then te σ2 H3 fun y H4=>H4 D = some (.lst acc) /\ acc.length < sizeLine /\ ∃ m',m' < m /\ Wv (i + 1) m' (acc ++ [y]) σ2 (upd H4 D (.lst (acc ++ [y]))) else ∃ m',m' < m /\ Wv (i + 1) m' acc σ2 H3))
    {Rp:Addr -> Result -> Shared -> Prop} (fin:∀ s5 H4 m,s5.heap.Ns s3.heap.objs.size m -> (∀ h',Heap.SameBut s3.heap.objs.size s5.heap h' -> Inv X pins σ H4 { s5 with heap:=h' }) -> FpOk X pins H4 s3.heap.objs.size -> Q (.ref D) H4 -> Rp s3.heap.objs.size (.ok .next) s5) :
    wpAny (model X.prog X.w) X.A (newFunctionEnv scope X.env.globals cl [] X.env.qual none .none (some X.env)) (fun cenv s₄ =>
      codeAny (model X.prog X.w) X.A (.compStart (.ListComp elt [⟨tg,iter,ifs,0⟩] scope pos) 0 (.ref it) (.ref D) { cenv with scope:=relabel scope X.env })
        (Rp cenv.locals) s₄) X.xe s3:=by
  refine comp_blockG N' fr hc hkind hcell hfree frl frg cl1 cl2 I3 T tn3 fpD fp3 fpk (fun s' IY tY stat=>?_) fin
  have loop:codeAny (model X.prog X.w) X.A (.compLoop (.ListComp elt [⟨tg,iter,ifs,0⟩] scope pos) 0 (.ref it) (.ref D) (compCx X N' scope cl fp (X.pn ++ pins) s3 H3).env)
      (fun r s5=>r = .ok .next /\ ∃ σ5 H4,Inv (compCx X N' scope cl fp (X.pn ++ pins) s3 H3) [] σ5 H4 s5 /\ Q (.ref D) H4) s':=by
    refine comp_loop (fun n s'=>∃ i acc σ' H',Inv (compCx X N' scope cl fp (X.pn ++ pins) s3 H3) [] σ' H' s' /\ tn i s'.heap /\ (∀ b ∈ fp,H' b = none) /\ Wv i n acc σ' H') ?_ m0
      ⟨0,[],_,_,IY,tY,fpD,w0⟩
    rintro n s4 ⟨i,acc,σ4,H4,I4,st4,fr4,w4⟩
    rcases turn i n acc σ4 H4 w4 with ⟨stop,qn⟩ | ⟨go,step⟩
    · exact thn (T.done (compCx X N' scope cl fp (X.pn ++ pins) s3 H3) rfl rfl rfl hc i [] s4 σ4 H4 (fun _ _=>False) I4 (stat fr4) st4 stop) fun r s5 ⟨hr,I5⟩=>.inl ⟨hr,rfl,σ4,H4,I5,qn⟩
    · refine thn (T.item (compCx X N' scope cl fp (X.pn ++ pins) s3 H3) rfl rfl rfl hc i [] s4 σ4 H4 (fun _ _=>False) I4 (stat fr4) st4 go) fun r s5 ⟨u,hr,h5⟩=>.inr ⟨u,hr,?_⟩
      refine thn h5 fun _ s6 ⟨x,H6,I6,r6,y6,st6,fr6⟩=>?_
      have I6':=I6.pinned (stat fr6) (T.obj _ _ st6)
      have again:∀ {σ7:St} {H7:Hp} {s7:Shared},Inv (compCx X N' scope cl fp (X.pn ++ pins) s3 H3) ([] ++ pinsAt fp s6.heap) σ7 H7 s7 -> ∀ {acc':List V} {m':Nat},m' < n -> Wv (i + 1) m' acc' σ7 H7 ->
          ∃ m,m < n /\ ∃ i acc σ' H',Inv (compCx X N' scope cl fp (X.pn ++ pins) s3 H3) [] σ' H' s7 /\ tn i s7.heap /\ (∀ b ∈ fp,H' b = none) /\ Wv i m acc σ' H':=fun {σ7 H7 s7} I7 {acc' m'} hm w7=>by
        refine ⟨m',hm,i + 1,acc',σ7,H7,I7.unpinned,T.keep _ _ _ st6 fun b hb o e=>(I7.pin (b,o) (List.mem_append_right _ (List.mem_append_right _ (mem_pinsAt hb e)))).1,fun b hb=>?_,w7⟩
        obtain ⟨o,e,d⟩:=T.obj _ _ st6 b hb
        exact (I7.pin (b,o) (List.mem_append_right _ (List.mem_append_right _ (mem_pinsAt hb e)))).2.1
      refine thn (hg _ s6 σ4 H6 x u _ I6' r6 (step x H6 y6)) fun _ s7 ⟨σ7,H7,I7,q7⟩=>?_
      refine thn (ht _ s7 σ7 H7 _ I7 q7) fun ok s8 ⟨H8,I8,q8⟩=>?_
      cases ok with
      | false =>
        rw [if_neg Bool.false_ne_true] at q8 ⊢
        obtain ⟨m',hm,w8⟩:=q8
        exact again I8 hm w8
      | true =>
        rw [if_pos rfl] at q8 ⊢
        refine thn (he _ s8 σ7 H8 _ I8 q8) fun y s9 ⟨yv,H9,I9,r9,eD,hl,m',hm,w9⟩=>?_
        exact thn (mt_append (X:=compCx X N' scope cl fp (X.pn ++ pins) s3 H3) _ s9 σ7 H9 (.ref D) [yv] (.ref D) [y] (fun _ H'=>H' = upd H9 D (.lst (acc ++ [yv]))) I9 rfl (.cons r9 .nil) ⟨D,acc,yv,rfl,rfl,eD,hl,rfl⟩)
          fun _ s10 ⟨_,H10,I10,_,e10⟩=>by subst e10; exact again I10 hm w9
  exact codeAny_compStart_list loop (T.self X.A 0 _ _ _ tY loop)
section
variable {X:Cx} {elt tg iter:Expr} {ifs:List Expr} {scope:Scope} {pos:Pos} {wi:TI} {g:CompA -> TG} {tt:CompA -> TT} {te:CompA -> TE}
theorem pe_lcomp (N':List Str) (fr:List (Option Nat)) (hc:X.calm = true) (hi:PI X tg iter wi) (hfr:frOk fr N' X.N scope X.env.scope = true) (hsc:scOk scope X.env.scope = true)
    (hg:∀ y,PG (blk X N' scope y) tg (g y)) (ht:∀ y,PTs (blk X N' scope y) ifs (tt y)) (he:∀ y,PE (blk X N' scope y) elt (te y))
    (hs:∀ x,foldedSetIterable iter X.env x = pure x:=by intro _; rfl):PE X (.ListComp elt [⟨tg,iter,ifs,0⟩] scope pos) (tComp wi fr g tt te):=by
  intro pins s σ H Q I h
  obtain ⟨sk,sn⟩:=Bool.and_eq_true_iff.mp hsc
  have hkind:scope.kind = .function:=of_decide_eq_true sk
  have hall:=List.all_eq_true.mp sn
  have hcell:∀ y ∈ scope.names,y.2 = .cell -> scope.names.lookup y.1 = some .cell:=fun y hy hl=>by
    rcases Bool.or_eq_true_iff.mp (Bool.and_eq_true_iff.mp (Bool.and_eq_true_iff.mp (hall y hy)).1).1 with z | z
    · exact absurd hl (of_decide_eq_true z)
    · exact of_decide_eq_true z
  have hnames:∀ y ∈ scope.names,y.2 = .local -> scope.names.lookup y.1 = some .local:=fun y hy hl=>by
    rcases Bool.or_eq_true_iff.mp (Bool.and_eq_true_iff.mp (Bool.and_eq_true_iff.mp (hall y hy)).1).2 with z | z
    · exact absurd hl (of_decide_eq_true z)
    · exact of_decide_eq_true z
  have hfree:∀ y ∈ scope.names,y.2 = .free -> X.env.kindOf y.1 = some .cell \/ X.env.kindOf y.1 = some .free:=fun y hy hl=>by
    rcases Bool.or_eq_true_iff.mp (Bool.and_eq_true_iff.mp (hall y hy)).2 with z | z
    · exact absurd hl (of_decide_eq_true z)
    · exact (Bool.or_eq_true_iff.mp z).imp of_decide_eq_true of_decide_eq_true
  obtain ⟨frl,frg⟩:=frOk.get hfr
  obtain ⟨cl,hclos,cl1,cl2⟩:=closure_for (env:=X.env) (scope:=scope) fun y hy hl=>I.ok.has y.1 (hfree y hy hl)
  rw [eval_ListComp]
  refine wpAny_comprehension_free (use:=none) rfl hs hclos hkind hnames (thn (hi pins s σ H _ I h) fun v s1 h1=>thn h1 fun itv s2 h2=>?_)
  obtain ⟨it,fp,tn,J,H2,e,I2,T,st2,f2,q2⟩:=h2
  subst e
  refine wpAny_newObj_type ?_
  have hD:H2 s2.heap.objs.size = none:=I2.hok.fresh (Nat.le_refl _)
  have I3:Inv X pins σ (upd H2 s2.heap.objs.size (.lst [])) { s2 with heap:=s2.heap.push { cls:=.type "list", data:=.seq ([]:List Value).toArray } } :=
    I2.laid (t':=s2.toks) (fun b u e=>Heap.get?_push_of_some _ e) (Nat.le_refl _) ⟨by show 0 <= sizeLine; exact Nat.zero_le _,[],0,.nil,Heap.get?_push_size _ rfl⟩
  obtain ⟨Wv,⟨m0,w0⟩,turn⟩:=q2 _ hD
  have tn3:tn 0 (s2.heap.push { cls:=.type "list", data:=.seq ([]:List Value).toArray }):=T.keep _ _ _ st2 fun b _ o e=>Heap.get?_push_of_some _ e
  have fpD:∀ b ∈ fp,(upd H2 s2.heap.objs.size (.lst [])) b = none:=fun b hb=>by
    obtain ⟨o,e,_⟩:=T.obj _ _ st2 b hb
    rw [upd_ne (Nat.ne_of_lt (Heap.lt_size e))]
    exact (f2 b hb).1
  have fp3:∀ b ∈ fp,b < (s2.heap.push { cls:=.type "list", data:=.seq ([]:List Value).toArray }).objs.size:=fun b hb=>by
    obtain ⟨o,e,_⟩:=T.obj _ _ tn3 b hb
    exact Heap.lt_size e
  exact comp_block N' fr hc hkind hcell hfree frl frg cl1 cl2 I3 T tn3 fpD fp3 (fun b hb=>(f2 b hb).2) (hg ⟨cl,fp,X.pn ++ pins,_,_⟩) (ht ⟨cl,fp,X.pn ++ pins,_,_⟩) (he ⟨cl,fp,X.pn ++ pins,_,_⟩) w0 (turn ⟨cl,fp,X.pn ++ pins,_,_⟩)
    (Rp:=compPost (model X.prog X.w) X.A X.xe none (EP X pins σ Q) (.ref s2.heap.objs.size)) fun s5 H4 m hn k _ qn=>⟨m,hn,fun h' hs'=>⟨.ref _,H4,k h' hs',rfl,qn⟩⟩
theorem ps_setcomp {b:Bool} {x:Str} {px spos:Pos} {ix:Nat} (N':List Str) (fr:List (Option Nat)) (hc:X.calm = true) (hi:PI X tg iter wi) (hfr:frOk fr N' X.N scope X.env.scope = true) (hsc:scOk scope X.env.scope = true)
    (hg:∀ y,PG (blk X N' scope y) tg (g y)) (ht:∀ y,PTs (blk X N' scope y) ifs (tt y)) (he:∀ y,PE (blk X N' scope y) elt (te y)) (hN:X.N.Nodup) (hix:X.N[ix]? = some x) (hx:Loc X.env.scope x)
    (hf:X.fn x = true \/ X.env.scope.names.lookup x = some .local) (hsw:swapsWith (.ListComp elt [⟨tg,iter,ifs,0⟩] scope pos) (some (.Name x px)) spos.line X.env = pure b)
    (hs:∀ x,foldedSetIterable iter X.env x = pure x):PS X (.Assign [.Name x px] (.ListComp elt [⟨tg,iter,ifs,0⟩] scope pos) spos) (tAsg (tComp wi fr g tt te) (gName ix)):=by
  cases b with
  | false=>exact ps_set hN hix hx (pe_lcomp N' fr hc hi hfr hsc hg ht he hs) hsw hf
  | true =>
  intro pins s σ H DD I h
  obtain ⟨sk,sn⟩:=Bool.and_eq_true_iff.mp hsc
  have hkind:scope.kind = .function:=of_decide_eq_true sk
  have hall:=List.all_eq_true.mp sn
  have hcell:∀ y ∈ scope.names,y.2 = .cell -> scope.names.lookup y.1 = some .cell:=fun y hy hl=>by
    rcases Bool.or_eq_true_iff.mp (Bool.and_eq_true_iff.mp (Bool.and_eq_true_iff.mp (hall y hy)).1).1 with z | z
    · exact absurd hl (of_decide_eq_true z)
    · exact of_decide_eq_true z
  have hnames:∀ y ∈ scope.names,y.2 = .local -> scope.names.lookup y.1 = some .local:=fun y hy hl=>by
    rcases Bool.or_eq_true_iff.mp (Bool.and_eq_true_iff.mp (Bool.and_eq_true_iff.mp (hall y hy)).1).2 with z | z
    · exact absurd hl (of_decide_eq_true z)
    · exact of_decide_eq_true z
  have hfree:∀ y ∈ scope.names,y.2 = .free -> X.env.kindOf y.1 = some .cell \/ X.env.kindOf y.1 = some .free:=fun y hy hl=>by
    rcases Bool.or_eq_true_iff.mp (Bool.and_eq_true_iff.mp (hall y hy)).2 with z | z
    · exact absurd hl (of_decide_eq_true z)
    · exact (Bool.or_eq_true_iff.mp z).imp of_decide_eq_true of_decide_eq_true
  obtain ⟨frl,frg⟩:=frOk.get hfr
  obtain ⟨cl,hclos,cl1,cl2⟩:=closure_for (env:=X.env) (scope:=scope) fun y hy hl=>I.ok.has y.1 (hfree y hy hl)
  rw [exec_Assign_Name_used _ _ _ _ hsw]
  refine wpAny_bind (wpAny_standAt (wpAny_bind ?_))
  show wpAny _ X.A (do let _ <- comprehension (.ListComp elt [⟨tg,iter,ifs,0⟩] scope pos) scope X.env _ (newList []) false (eval iter X.env) (some (assign (.Name x px) X.env))) _ _ s
  refine wpAny_bind (wpAny_mono (wpAny_comprehension_free (use:=some (assign (.Name x px) X.env)) (Q:=fun _ s'=>SP X pins DD .next s') rfl hs hclos hkind hnames
    (thn (hi pins s σ H _ I h) fun v s1 h1=>thn h1 fun itv s2 h2=>?_)) (fun _ s' hq=>wpAny_pure (wpAny_pure hq)) fun _ _ e=>e)
  obtain ⟨it,fp,tn,J,H2,e,I2,T,st2,f2,q2⟩:=h2
  subst e
  refine wpAny_newObj_type ?_
  have hD:H2 s2.heap.objs.size = none:=I2.hok.fresh (Nat.le_refl _)
  have I3:Inv X pins σ (upd H2 s2.heap.objs.size (.lst [])) { s2 with heap:=s2.heap.push { cls:=.type "list", data:=.seq ([]:List Value).toArray } } :=
    I2.laid (t':=s2.toks) (fun b u e=>Heap.get?_push_of_some _ e) (Nat.le_refl _) ⟨by show 0 <= sizeLine; exact Nat.zero_le _,[],0,.nil,Heap.get?_push_size _ rfl⟩
  obtain ⟨Wv,⟨m0,w0⟩,turn⟩:=q2 _ hD
  have tn3:tn 0 (s2.heap.push { cls:=.type "list", data:=.seq ([]:List Value).toArray }):=T.keep _ _ _ st2 fun b _ o e=>Heap.get?_push_of_some _ e
  have fpD:∀ b ∈ fp,(upd H2 s2.heap.objs.size (.lst [])) b = none:=fun b hb=>by
    obtain ⟨o,e,_⟩:=T.obj _ _ st2 b hb
    rw [upd_ne (Nat.ne_of_lt (Heap.lt_size e))]
    exact (f2 b hb).1
  have fp3:∀ b ∈ fp,b < (s2.heap.push { cls:=.type "list", data:=.seq ([]:List Value).toArray }).objs.size:=fun b hb=>by
    obtain ⟨o,e,_⟩:=T.obj _ _ tn3 b hb
    exact Heap.lt_size e
  refine comp_block (Q:=fun v H1=>gName ix v σ H1 DD.nx) N' fr hc hkind hcell hfree frl frg cl1 cl2 I3 T tn3 fpD fp3 (fun b hb=>(f2 b hb).2) (hg ⟨cl,fp,X.pn ++ pins,_,_⟩) (ht ⟨cl,fp,X.pn ++ pins,_,_⟩) (he ⟨cl,fp,X.pn ++ pins,_,_⟩) w0 (turn ⟨cl,fp,X.pn ++ pins,_,_⟩)
    (Rp:=compPost (model X.prog X.w) X.A X.xe (some (assign (.Name x px) X.env)) (fun _ s'=>SP X pins DD .next s') (.ref s2.heap.objs.size)) fun s5 H4 m hn k fpo qn=>?_
  show wpAny _ X.A (assign (.Name x px) X.env (.ref s2.heap.objs.size)) _ _ s5
  have I5:Inv X pins σ H4 s5:=k s5.heap (Heap.SameBut.refl _ _)
  obtain ⟨f0,f1,f2',f3,f4,f5⟩:=fpo
  refine wpAny_assign_Name (store_ok2 I5 hN hix hx (v:=.ref s2.heap.objs.size) rfl (fun s6 I6 sb=>?_) hf)
  obtain ⟨a,sb,ha⟩:=sb
  have hne:(s2.heap.push { cls:=.type "list", data:=.seq ([]:List Value).toArray }).objs.size ≠ a:=by
    rcases ha with rfl | ha
    · exact f1
    · exact fun z=>f4 x a ha z.symm
  refine ⟨m,hn.at' fun o e=>sb.extBut _ o hne e,fun h' hs'=>?_⟩
  exact ⟨_,H4,I6.turned (t':=s6.toks) (fun b o hb e=>hs'.extBut b o hb e) f0 f1 f3 f4 f5,qn⟩
end
end L2

namespace L2.VL
open PySem PySem.Spec PyProof.Rows

noncomputable def W.cap:W -> Option W
  | .d x=>some (.d x)
  | .reel=>some .reel
  | .vv u=>some (.vv u)
  | .sc ns=>some (.sc ns)
  | .fd kvs=>some (.fd kvs)
  | .fw kvs=>some (.fw kvs)
  | .ft kvs=>some (.ft kvs)
  | .xc x fs=>some (.xc x fs)
  | .dp kvs x=>some (.dp kvs x)
  | _=>none
noncomputable def frEn (fr:List (Option Nat)) (ρ:En):En:=fr.map fun o=>o.bind fun j=>((ρ[j]?).join).bind W.cap
noncomputable def PTVs (X:Cx) (rl:RlT) (ifs:List Expr) (f:TB):Prop:=∃ t,PTs X ifs t /\ ∀ {F₀ H₀ F H:Hp} {σ:St} {ρ:En},VR X.K rl F₀ H₀ F H σ ρ -> ∀ (Qd:Bool -> Prop) (Q:Bool -> Hp -> Prop),f ρ Qd ->
  (∀ b F' H',Grow rl F H F' H' -> Qd b -> Q b H') -> t σ H Q
theorem vt_nil {X:Cx} {rl:RlT}:PTVs X rl [] (fun _ Q=>Q true):=⟨_,pts_nil,fun R Qd Q q k=>k true _ _ (Grow.refl R.sub R.reel) q⟩
theorem vt_one {X:Cx} {rl:RlT} {c:Expr} {f:TB} (h:PB X rl c f):PTVs X rl [c] f:=let ⟨t,p,k⟩:=h; ⟨t,pts_one p,k⟩
theorem frIn_get {fr:List (Option Nat)} {ρ:En} {i:Nat} {w:W} (h:(frEn fr ρ)[i]? = some (some w)):∃ j w',fr[i]? = some (some j) /\ ρ[j]? = some (some w') /\ w'.cap = some w:=by
  unfold frEn at h
  rw [List.getElem?_map] at h
  cases ef:fr[i]? with
  | none=>rw [ef] at h; cases h
  | some o =>
    cases o with
    | none=>rw [ef] at h; cases h
    | some j =>
      rw [ef] at h
      have h':((ρ[j]?).join).bind W.cap = some w:=Option.some.inj h
      cases q : ρ[j]? with
      | none=>rw [q] at h'; cases h'
      | some o =>
        cases o with
        | none=>rw [q] at h'; cases h'
        | some w'=>rw [q] at h'; exact ⟨j,w',rfl,q,h'⟩
theorem cap_eq {w' w:W} (h:w'.cap = some w):w = w' /\ w.own = false /\ ∀ xs,w ≠ .pk xs:=by
  cases w' <;> cases h <;> exact ⟨rfl,rfl,(fun _ z=>by cases z)⟩
theorem vr_block {K:W.Frag} {rl:RlT} {F₀ H₀ F H:Hp} {σ:St} {ρ:En} {fr:List (Option Nat)} {H':Hp} (R:VR K rl F₀ H₀ F H σ ρ) (g:Grow rl F H F H'):VR K rl F H F H' (frIn fr σ) (frEn fr ρ):=by
  refine ⟨g,fun i w e=>?_,fun i j xs ys v _ e1 _ o1 _ _ _=>?_,fun i xs e=>?_,by simp [frIn,frEn]⟩
  · obtain ⟨j,w',e1,e2,e3⟩:=frIn_get e
    obtain ⟨rfl,n1,n2⟩:=cap_eq e3
    obtain ⟨v,s1,r1,_⟩:=R.sl j w e2
    refine ⟨v,?_,r1.grow g,?_⟩
    · unfold frIn
      rw [List.getElem?_map,e1]
      show some ((σ[j]?).join) = _
      rw [s1]
      rfl
    · cases w with
      | ml xs=>cases n1
      | md xs=>cases n1
      | mk xs=>cases n1
      | nt _=>trivial
      | lk=>trivial
      | sc _=>trivial
      | fd _=>trivial
      | fw _=>trivial
      | ft _=>trivial
      | xc _ _=>trivial
      | dp _ _=>trivial
      | d _=>trivial
      | pk _=>trivial
      | reel=>trivial
      | vv _=>trivial
  · obtain ⟨_,_,_,_,e3⟩:=frIn_get e1
    rw [(cap_eq e3).2.1] at o1
    cases o1
  · obtain ⟨_,_,_,_,e3⟩:=frIn_get e
    exact absurd rfl ((cap_eq e3).2.2 xs)
theorem noMl_block {fr:List (Option Nat)} {ρ:En}:NoMl (frEn fr ρ):=fun i xs e=>by
  obtain ⟨_,_,_,_,e3⟩:=frIn_get e
  exact (cap_eq e3).2.1
theorem VR.other {K:W.Frag} {rl:RlT} {F₀ H₀ F H:Hp} {σ:St} {ρ:En} (R:VR K rl F₀ H₀ F H σ ρ) (n:NoMl ρ) {D:Addr} {o:HO} (h0:H₀ D = none) (f:F D = none) (hr:rl.a ≠ some D):VR K rl F₀ H₀ F (upd H D o) σ ρ:=by
  have neF:∀ b u,F b = some u -> b ≠ D:=fun b u q z=>by subst z; rw [f] at q; cases q
  have g:Grow rl F₀ H₀ F (upd H D o):=by
    refine ⟨fun b o q1 n=>by rw [upd_ne (ne_of_none q1 h0)]; exact R.g.same b o q1 n,R.g.fs,fun b o q1=>by rw [upd_ne (neF b o q1)]; exact R.sub b o q1,R.g.old,fun y z=>?_⟩
    obtain ⟨z1,⟨u,h1,h2⟩⟩:=R.reel y z
    exact ⟨z1,⟨u,by rw [upd_ne (fun q=>hr (by rw [<- q]; exact z))]; exact h1,h2⟩⟩
  refine ⟨g,fun i w e=>?_,R.ap,R.np,R.len⟩
  obtain ⟨v,h1,h2,h3⟩:=R.sl i w e
  refine ⟨v,h1,?_,h3⟩
  cases w with
  | d x=>exact h2
  | reel=>exact h2
  | vv u=>exact h2
  | ml xs=>cases n i _ e
  | md xs=>cases n i _ e
  | mk xs=>cases n i _ e
  | nt ds=>exact h2
  | lk=>trivial
  | sc _=>exact h2
  | fd _=>exact h2
  | fw _=>exact h2
  | ft _=>exact h2
  | xc _ _=>exact h2
  | dp _ _=>exact h2
  | pk xs=>exact absurd e (R.np i xs)

section
variable {X:Cx} {rl:RlT} {elt tg iter:Expr} {ifs:List Expr} {scope:Scope} {pos:Pos} {fi:En -> (List PyData -> Prop) -> Prop} {g:TGv} {ft:TB} {fe:TV}
end
end L2.VL

namespace L2.VL
open PySem PySem.Spec PyProof.Rows

mutual
def Nice:PyData -> Prop
  | .none=>True
  | .bool _=>True
  | .int i=>i.natAbs < 2 ^ 1900
  | .str x=>PyData.strOk x = true
  | .list xs=>NiceAll xs
  | .tuple xs=>NiceAll xs
  | .dict _=>False
def NiceAll:List PyData -> Prop
  | []=>True
  | x :: xs=>Nice x /\ NiceAll xs
end
theorem log2_lt_of {n k:Nat} (h:n < 2 ^ k) (hk : 0 < k):n.log2 < k:=by
  by_cases h0:n = 0
  · subst h0; simpa using hk
  · exact (Nat.log2_lt h0).mpr h
mutual
theorem Nice.facts:∀ d:PyData,Nice d -> d.showable = true /\ d.canLay0 = true /\ d.hasDict = false /\ d.leavesShort 1921 = true
  | .none,_=>⟨rfl,rfl,rfl,rfl⟩
  | .bool _,_=>⟨rfl,rfl,rfl,rfl⟩
  | .int i,h=>by
    have hl:i.natAbs.log2 < 1920:=log2_lt_of (Nat.lt_of_lt_of_le (show i.natAbs < 2 ^ 1900 from h) (Nat.pow_le_pow_right (by decide) (by decide))) (by decide)
    refine ⟨by simp [PyData.showable,hl],rfl,rfl,?_⟩
    simp only [PyData.leavesShort,decide_eq_true_eq]
    exact int_text_len_1921 hl
  | .str x,h=>by
    refine ⟨rfl,(show PyData.canLay0 (.str x) = true by simp only [PyData.canLay0]; exact h),rfl,?_⟩
    have h:x.cps.all (· < 0x110000) = true:=h
    simp only [PyData.leavesShort]
    rw [List.all_eq_true]
    intro c hc
    have:=(Array.all_eq_true_iff_forall_mem.mp h) c (by simpa using hc)
    simp at this ⊢
    omega
  | .list xs,h=>by
    obtain ⟨a,b,c,d⟩:=NiceAll.facts xs h
    exact ⟨by simpa [PyData.showable] using a,by simpa [PyData.canLay0] using b,by simpa [PyData.hasDict] using c,by simpa [PyData.leavesShort] using d⟩
  | .tuple xs,h=>by
    obtain ⟨a,b,c,d⟩:=NiceAll.facts xs h
    exact ⟨by simpa [PyData.showable] using a,by simpa [PyData.canLay0] using b,by simpa [PyData.hasDict] using c,by simpa [PyData.leavesShort] using d⟩
  | .dict _,h=>False.elim h
theorem NiceAll.facts:∀ xs:List PyData,NiceAll xs -> PyData.showableAll xs = true /\ PyData.canLayAll0 xs = true /\ PyData.hasDictAll xs = false /\ PyData.leavesShortAll 1921 xs = true
  | [],_=>⟨rfl,rfl,rfl,rfl⟩
  | x :: xs,h=>by
    obtain ⟨a,b,c,d⟩:=Nice.facts x h.1
    obtain ⟨a',b',c',d'⟩:=NiceAll.facts xs h.2
    exact ⟨by simp [PyData.showableAll,a,a'],by simp [PyData.canLayAll0,b,b'],by simp [PyData.hasDictAll,c,c'],by simp [PyData.leavesShortAll,d,d']⟩
end
noncomputable def Shw (d:PyData):Prop:=Nice d /\ d.depth <= 60 /\ d.bulk <= 8000
theorem Shw.len {d:PyData} (h:Shw d):d.shown.length <= sizeLine:=by
  have q:=PyData.shown_le_bulk 1921 (by decide) d (Nice.facts d h.1).2.2.2
  have:=h.2.2
  have e:sizeLine = 16777216:=by decide
  omega

section
variable {X:Cx} {rl:RlT} {a b e:Expr} {es:List Expr} {fa fb fc:TV} {fs:TVs} {pos p:Pos}
noncomputable def rRepr (K:W.Frag):List V -> Hp -> VK -> Prop:=fun xs H Q=>∃ x d,xs = [x] /\ Rep K H x d /\ Shw d /\ Q (.str d.shown) H
theorem call_repr (hgd:X.A.guards = some []) (hu:X.A.units + 64 < cLine):CallR X (.builtin "repr") (rRepr X.K):=by
  intro pins s σ H xs us Q I r ⟨x,d,ex,rx,sh,q⟩
  subst ex
  obtain ⟨u,rfl,ru⟩:=vals1 r
  have fin:∀ tk h' , (∀ b o,s.heap.get? b = some o -> h'.get? b = some o) -> ∀ t,EP X pins σ Q (.str d.shown t) { s with heap:=h',toks:=tk }:=fun tk h' k t=>⟨.str d.shown,H,I.kept k,⟨t,rfl⟩,q⟩
  obtain ⟨as,rd⟩:=Rep.reads I (.refl H) rx u ru
  have hs:=(Nice.facts d sh.1)
  cases rx with
  | non=>cases (show u = Value.none from ru); exact P.repr_of_none (fin _ _ (fun _ _ e=>e) _)
  | bl b=>cases (show u = Value.bool b from ru); exact P.repr_of_bool (fin _ _ (fun _ _ e=>e) _)
  | int i =>
    obtain ⟨t,e⟩:=(show ∃ t,u = Value.int i t from ru)
    cases e
    exact P.repr_of_int (by simpa [PyData.showable] using hs.1) (fin _ _ (fun _ _ e=>e) _)
  | str x =>
    obtain ⟨t,e⟩:=(show ∃ t,u = Value.str x t from ru)
    cases e
    exact P.repr_of_str (fin _ _ (fun _ _ e=>e) _) sh.len
  | tup sq rs =>
    cases (show u = Value.ref _ from ru)
    exact repr_of_reads' rd hs.1 (PyData.noDict_hsm hs.2.2.1) hgd (by have:=sh.2.1; omega) (fun _ _ e=>e) (fun h' t tk hk=>fin tk h' hk t) sh.len
  | lst sq rs =>
    cases (show u = Value.ref _ from ru)
    exact repr_of_reads' rd hs.1 (PyData.noDict_hsm hs.2.2.1) hgd (by have:=sh.2.1; omega) (fun _ _ e=>e) (fun h' t tk hk=>fin tk h' hk t) sh.len
noncomputable def gRepr:List W -> (W -> Prop) -> Prop:=fun ws Q=>∃ w d,ws = [w] /\ w.dat = some d /\ Shw d /\ Q (.d (.str d.shown))
theorem vc_repr:VCall X rl (rRepr X.K) gRepr:=fun {F H vs ws} Qd Q s ra r ⟨w,d,ew,e1,sh,q⟩ k=>by
  subst ew
  obtain ⟨v,rfl,r1⟩:=rel1 r
  exact ⟨v,d,rfl,r1.dat s e1,sh,k _ (.d _) _ _ (Grow.refl s ra) (.str _) trivial q⟩
theorem v_repr (hr:Room 0 X.A) (hm:X.mg "repr" = none) (ha:PVs X rl [e] fs) (hg:Gl X "repr" := by rfl) (he:starEach [e] X.env = (false,eval e X.env) :: starEach [] X.env:=by rfl) (hpl:(backTo pos (starEach [] X.env)).any (·.1) = false:=by rfl) :
    PV X rl (.Call (.Name "repr" p) [e] [] pos) (vCall gRepr fs):=v_callB (call_repr hr.gd hr.units) vc_repr hm (by first | rfl | exact boot_repr) ha hg (by decide) (by decide) he hpl

theorem v_len (hm:X.mg "len" = none) (ha:PVs X rl [a] fs) (hg:Gl X "len" := by rfl) (he:starEach [a] X.env = (false,eval a X.env) :: starEach [] X.env:=by rfl) (hpl:(backTo pos (starEach [] X.env)).any (·.1) = false:=by rfl) :
    PV X rl (.Call (.Name "len" p) [a] [] pos) (vCall gLen fs):=v_callB call_len_seq vc_len hm boot_len ha hg (by decide) (by decide) he hpl
theorem v_abs (hm:X.mg "abs" = none) (ha:PVs X rl [a] fs) (hg:Gl X "abs" := by rfl) (he:starEach [a] X.env = (false,eval a X.env) :: starEach [] X.env:=by rfl) (hpl:(backTo pos (starEach [] X.env)).any (·.1) = false:=by rfl) :
    PV X rl (.Call (.Name "abs" p) [a] [] pos) (vCall gAbs fs):=v_callB call_abs vc_abs hm (by first | rfl | exact boot_abs) ha hg (by decide) (by decide) he hpl
end
end L2.VL

namespace L2.VL
open PySem PySem.Spec PyProof.Rows

structure FnIn (K:W.Frag) (mg:Str -> Option Value) (x:Str) (st:Stmt) (ps:List Str):Prop where
  ex:∃ f fd,mg x = some (.ref f) /\ Fun K x x st f fd /\ Binds K fd ps []
structure Bz (mg:Str -> Option Value):Prop where
  int_:mg "int" = none
  bool_:mg "bool" = none
  str_:mg "str" = none
  list_:mg "list" = none
  tuple_:mg "tuple" = none
  dict_:mg "dict" = none
  isinstance_:mg "isinstance" = none
  len_:mg "len" = none
  abs_:mg "abs" = none
  repr_:mg "repr" = none
  range_:mg "range" = none
  all_:mg "all" = none
  any_:mg "any" = none
  sum_:mg "sum" = none
  min_:mg "min" = none
  max_:mg "max" = none
  sorted_:mg "sorted" = none
  zip_:mg "zip" = none
  enumerate_:mg "enumerate" = none
  reversed_:mg "reversed" = none
  divmod_:mg "divmod" = none
  set_:mg "set" = none
section
variable {P:Program} {w:World} {K:W.Frag} {mg:Str -> Option Value} {base:Heap} {rl:RlT} {x:Str} {st:Stmt} {N ps:List Str} {k:Nat} {Pd:List W -> (PyData -> Prop) -> Prop} {t:TSv}
theorem Dfn.of (Fn:FnIn K mg x st ps) (S:FnScope N ps (defScope st)) (mono:∀ ws Q Q',(∀ d,Q d -> Q' d) -> Pd ws Q -> Pd ws Q') (len:∀ ws Q,Pd ws Q -> ws.length = ps.length)
    (hbody:∀ {f:Addr} (cdv:Value) (A:Around) (outer:List Env) (s:Shared) (H:Hp) (E:XK),Room k (A.deeper (envOfC x (defScope st) s.heap.objs.size f cdv)) ->
      PSsV (cxOf CX0 P w K mg base N x (defScope st) f cdv A outer s H E).nox rl (defBody st) t)
    (hread:∀ ws Q,Pd ws Q -> t (vEnds Q) (startV N ws)):Dfn P w K mg base rl x ps (k + 1) Pd:=by
  obtain ⟨f,fd,hm,F,hb⟩:=Fn.ex
  exact ⟨mono,f,fd,hm,F.kp,hb,vfn F S len hbody hread⟩
end
section
variable {X:Cx} {rl:RlT} {e:Expr} {es:List Expr} {fa fb fc:TV} {fs:TVs} {pos p:Pos}
end
theorem fz_d (x:PyData):(W.d x).fz = .d x:=rfl
theorem fz_ml (x:List PyData):(W.ml x).fz = .d (.list x):=rfl
theorem fz_pk (x:List PyData):(W.pk x).fz = .pk x:=rfl
theorem fz_reel:W.reel.fz = .reel:=rfl
theorem fz_vv (x:V):(W.vv x).fz = .vv x:=rfl
theorem pk_d (x:PyData):L2.VL.W.peek (.d x) = .d x:=rfl
theorem pk_ml (x:List PyData):L2.VL.W.peek (.ml x) = .pk x:=rfl
theorem pk_reel:L2.VL.W.peek .reel = .reel:=rfl
theorem pk_vv (x:V):L2.VL.W.peek (.vv x) = .vv x:=rfl
theorem dat_d (x:PyData):(W.d x).dat = some x:=rfl
theorem dat_ml (x:List PyData):(W.ml x).dat = some (.list x):=rfl
theorem dat_pk (x:List PyData):(W.pk x).dat = some (.list x):=rfl
theorem isPk_d (x:PyData):(W.d x).isPk = false:=rfl
theorem isPk_ml (x:List PyData):(W.ml x).isPk = false:=rfl
theorem isPk_reel:W.reel.isPk = false:=rfl
theorem dats_nil:dats [] = some []:=rfl
theorem dats_d (x:PyData) (r:List W):dats (.d x :: r) = (dats r).map (x :: ·):=rfl
theorem arg_d (x:PyData):argOk (.d x) = true:=rfl
theorem arg_reel:argOk .reel = true:=rfl
theorem item_l (xs:List PyData) (i:Int):L2.VL.itemAt (.list xs) i = L2.atI xs i:=rfl
theorem item_t (xs:List PyData) (i:Int):L2.VL.itemAt (.tuple xs) i = L2.atI xs i:=rfl
theorem len_l (xs:List PyData):lenD (.list xs) = some xs.length:=rfl
theorem len_t (xs:List PyData):lenD (.tuple xs) = some xs.length:=rfl
theorem at0 {α:Type} (x : α) (r:List α):L2.atI (x :: r) 0 = some x:=by simp [L2.atI,L2.ixN]
theorem at1 {α:Type} (x y : α) (r:List α):L2.atI (x :: y :: r) 1 = some y:=by
  have:(1:Int) < ((x :: y :: r).length:Int):=by simp; omega
  simp only [L2.atI,L2.ixN]
  rw [if_pos (by decide),if_pos this]
  rfl
end L2.VL

namespace L2.VL
open PySem PySem.Spec PyProof.Rows
theorem fmod_abs_lt {x y:Int} (h:y ≠ 0):(x.fmod y).natAbs < y.natAbs:=by
  rcases Int.lt_or_gt_of_ne h with hy | hy
  · have h1:=Int.fmod_add_mul_fdiv x y
    have e:x.fmod y = -((-x).fmod (-y)):=by
      have:=Int.neg_fmod_neg x y
      omega
    have p : 0 < -y:=by omega
    have b1:=Int.fmod_nonneg_of_pos (-x) p
    have b2:=Int.fmod_lt_of_pos (-x) p
    omega
  · have b1:=Int.fmod_nonneg_of_pos x hy
    have b2:=Int.fmod_lt_of_pos x hy
    omega
theorem gcd_fmod (x y:Int):Int.gcd y (x.fmod y) = Int.gcd x y:=by
  have e:x.fmod y = x + y * (-(x.fdiv y)):=by
    have:=Int.fmod_add_mul_fdiv x y
    rw [Int.mul_neg]
    omega
  rw [e,Int.gcd_add_mul_left_right]
  exact Int.gcd_comm y x
theorem eqv_ii (a b:Int):PyData.eqv (.int a) (.int b) = (a == b):=by simp [PyData.eqv]
theorem eqv_ss (a b:Str):PyData.eqv (.str a) (.str b) = (a == b):=by simp [PyData.eqv]
theorem shaped_i (a:Int):SeqAt.shaped (.int a) = true:=rfl
theorem shaped_b (a:Bool):SeqAt.shaped (.bool a) = true:=rfl
theorem CDivB.of {i j:Int} (h:j ≠ 0) (b:j.natAbs < 2 ^ 64):CDivB i j:=⟨h,Nat.lt_of_lt_of_le b (Nat.pow_le_pow_right (by decide) (by decide))⟩
theorem canLay_ints:∀ ns:List Int,PyData.canLayAll0 (ns.map PyData.int) = true
  | []=>rfl
  | n :: ns=>by simp [PyData.canLayAll0,PyData.canLay0,canLay_ints ns]
theorem depth_ints:∀ ns:List Int,PyData.depthAll (ns.map PyData.int) = 0
  | []=>rfl
  | n :: ns=>by simp [PyData.depthAll,PyData.depth,depth_ints ns]
theorem shaped_ints (ns:List Int):SeqAt.shaped (.list (ns.map .int)) = true:=by simp [SeqAt.shaped,PyData.canLay0,PyData.depth,canLay_ints,depth_ints]
theorem eqv_nil (ns:List PyData):PyData.eqv (.list ns) (.list []) = ns.isEmpty:=by cases ns <;> simp [PyData.eqv,PyData.eqvAll]
theorem gcd_pos {a b:Int} (h:b ≠ 0) : 0 < (Int.gcd a b:Int):=by
  have:=Int.gcd_pos_of_ne_zero_right a h
  omega
theorem gcd_le {a b:Int} (h:b ≠ 0):(Int.gcd a b) <= b.natAbs:=Nat.le_of_dvd (by omega) (Int.gcd_dvd_natAbs_right a b)
end L2.VL

namespace L2.VL
open PySem PySem.Spec PyProof.Rows
theorem strOk_ofString (s:String):PyData.strOk (Str.ofString s) = true:=by
  unfold PyData.strOk
  rw [Str.ofString_eq_toList]
  simp only [Array.all_eq_true_iff_forall_mem]
  intro c hc
  have hc:c ∈ s.toList.map Char.toNat:=List.mem_toArray.mp hc
  obtain ⟨d,_,rfl⟩:=List.mem_map.mp hc
  have:=d.valid
  have h:d.val.toNat < 0x110000:=by
    rcases this with h | h
    · have:d.val.toNat < 0xd800:=h
      omega
    · exact h.2
  exact decide_eq_true h
structure Lf (d:PyData):Prop where
  nice:Nice d
  dep:d.depth <= 2
  wt:d.bulk <= 2000
theorem Lf.int {i:Int} (h:i.natAbs < 2 ^ 1000):Lf (.int i) :=
  ⟨Nat.lt_trans h (Nat.pow_lt_pow_right (by decide) (by decide)),by simp [PyData.depth],by simp [PyData.bulk]⟩
theorem at_in {α:Type} {xs:List α} {k:Int} (h0 : 0 <= k) (h1:k < (xs.length:Int)):∃ z,L2.atI xs k = some z /\ z ∈ xs:=by
  obtain ⟨n,rfl⟩:=Int.eq_ofNat_of_zero_le h0
  have hn:n < xs.length:=by omega
  exact ⟨xs[n],atI_nat (List.getElem?_eq_getElem hn),List.getElem_mem hn⟩

theorem rep_str {K:W.Frag} {F:Hp} {v:V} {i:Str} (h:Rep K F v (.str i)):v = .str i:=by cases h; rfl
noncomputable def gEqS (neg:Bool):W -> W -> (W -> Prop) -> Prop:=fun x y Q=>∃ a b:Str,x = .d (.str a) /\ y = .d (.str b) /\ Q (.d (.bool (if neg then !decide (a = b) else decide (a = b))))
theorem vo_eqS {X:Cx} {rl:RlT}:VOp X rl rEq (gEqS false):=fun {F H x y wx wy} Qd Q s ra r1 r2 q k=>by
  obtain ⟨a,b,rfl,rfl,q⟩:=q
  have e1:=rep_str r1
  have e2:=rep_str r2
  subst e1 e2
  have e:decide (V.str a = V.str b) = decide (a = b):=by
    by_cases h:a = b
    · subst h; simp
    · rw [decide_eq_false h,decide_eq_false fun z=>h (by injection z)]
  exact ⟨rfl,by rw [e]; exact k _ (.d _) _ _ (Grow.refl s ra) (.bl _) trivial q⟩
theorem vo_neS {X:Cx} {rl:RlT}:VOp X rl rNe (gEqS true):=fun {F H x y wx wy} Qd Q s ra r1 r2 q k=>by
  obtain ⟨a,b,rfl,rfl,q⟩:=q
  have e1:=rep_str r1
  have e2:=rep_str r2
  subst e1 e2
  have e:decide (V.str a = V.str b) = decide (a = b):=by
    by_cases h:a = b
    · subst h; simp
    · rw [decide_eq_false h,decide_eq_false fun z=>h (by injection z)]
  exact ⟨rfl,by rw [e]; exact k _ (.d _) _ _ (Grow.refl s ra) (.bl _) trivial q⟩
section
variable {P:Program} {w:World} {K:W.Frag} {mg:Str -> Option Value} {base:Heap} {rl:RlT} {x:Str} {st:Stmt} {N ps:List Str} {k:Nat} {Pd:List W -> (List PyData -> Prop) -> Prop} {t:TSv}
end
section
variable {X:Cx} {rl:RlT} {e:Expr} {es:List Expr} {fs:TVs} {pos p:Pos}
theorem pss_any (X:Cx) (rest:List Stmt):PSs X rest (fun D σ H=>∀ pins s,Inv X pins σ H s -> wpAny (model X.prog X.w) X.A (execs rest X.env) (SP X pins D) X.xe s):=fun pins s σ H D I h=>h pins s I
end
end L2.VL

namespace L2.VL
open PySem PySem.Spec PyProof.Rows
section
variable {X:Cx} {rl:RlT} {a b c e:Expr} {es:List Expr} {fa fb fc:TV} {fs:TVs} {pos p:Pos}
noncomputable def seqD:PyData -> Option (List PyData)
  | .list xs=>some xs
  | .tuple xs=>some xs
  | _=>none
theorem seq_l (xs:List PyData):seqD (.list xs) = some xs:=rfl
theorem seq_t (xs:List PyData):seqD (.tuple xs) = some xs:=rfl
theorem seqD.of {o:Option PyData} {d:PyData} {xs:List PyData} (h:o = some d) (e:seqD d = some xs):o = some (.list xs) \/ o = some (.tuple xs):=by
  cases d <;> cases e
  · exact .inl h
  · exact .inr h
noncomputable def gTupO:List W -> (W -> Prop) -> Prop:=fun ws Q=>∃ w d xs,ws = [w] /\ w.dat = some d /\ seqD d = some xs /\ Q (.d (.tuple xs))
theorem vc_tup:VCall X rl (fun xs H Q=>∃ p ys,xs = [.ref p] /\ ((SqL X.K H p ys /\ ∀ l,H l = none -> Q (.ref l) (upd H l (.tup ys))) \/ (SqT X.K H p ys /\ Q (.ref p) H))) gTupO:=fun {F H vs ws} Qd Q s ra r ⟨w,d,xs,ew,ed1,ed2,q⟩ k=>by
  have ed:=seqD.of ed1 ed2
  subst ew
  obtain ⟨v,rfl,r1⟩:=rel1 r
  rcases ed with ed | ed
  · obtain ⟨a,us,rfl,sq,rs⟩:=r1.items s ed
    refine ⟨a,us,rfl,.inl ⟨sq,fun l hl=>?_⟩⟩
    have g:=Grow.data (a:=l) (o:=.tup us) s ra hl
    exact k _ (.d (.tuple xs)) _ _ g (.tup (.inl (.inl upd_same)) (rs.mono g.fs)) trivial q
  · cases w with
    | d y =>
      cases ed
      cases (show Rep X.K F v (.tuple xs) from r1) with
      | tup sq rs=>exact ⟨_,_,rfl,.inr ⟨sameT s sq,k _ (.d (.tuple xs)) _ _ (Grow.refl s ra) (.tup sq rs) trivial q⟩⟩
    | ml ys=>cases ed
    | pk ys=>cases ed
    | reel=>cases ed
    | vv u=>cases ed
    | md u=>cases ed
    | mk u=>cases ed
    | lk=>cases ed
    | sc _=>cases ed
    | fd _=>cases ed
    | fw _=>cases ed
    | ft _=>cases ed
    | xc _ _=>cases ed
    | dp _ _=>cases ed
    | nt ds =>
      cases ed
      obtain ⟨b,us,rfl,h,q'⟩:=r1
      exact ⟨_,_,rfl,.inr ⟨.inl (.inl (s _ _ h)),k _ (.d (.tuple xs)) _ _ (Grow.refl s ra) (.tup (.inl (.inl h)) q') trivial q⟩⟩
theorem v_tuple (hm:X.mg "tuple" = none) (ha:PVs X rl [a] fs) (hg:Gl X "tuple" := by rfl) (he:starEach [a] X.env = (false,eval a X.env) :: starEach [] X.env:=by rfl) (hpl:(backTo pos (starEach [] X.env)).any (·.1) = false:=by rfl) :
    PV X rl (.Call (.Name "tuple" p) [a] [] pos) (vCall gTupO fs):=v_callTy call_tuple_of vc_tup hm (by rfl) ha hg (by decide) (by decide) he hpl
noncomputable def gLstO:List W -> (W -> Prop) -> Prop:=fun ws Q=>∃ w d xs,ws = [w] /\ w.dat = some d /\ seqD d = some xs /\ Q (.ml xs)
theorem vc_lst:VCall X rl (fun xs H Q=>∃ p ys,xs = [.ref p] /\ (SqL X.K H p ys \/ SqT X.K H p ys) /\ ∀ l,H l = none -> Q (.ref l) (upd H l (.lst ys))) gLstO:=fun {F H vs ws} Qd Q s ra r ⟨w,d,xs,ew,ed1,ed2,q⟩ k=>by
  have ed:=seqD.of ed1 ed2
  subst ew
  obtain ⟨v,rfl,r1⟩:=rel1 r
  rcases ed with ed | ed
  · obtain ⟨a,us,rfl,sq,rs⟩:=r1.items s ed
    exact ⟨a,us,rfl,.inl sq,fun l hl=>k _ (.ml xs) _ _ (Grow.laid s ra hl) (own_laid s ra hl rs) (fun a ea=>by cases ea; exact hl) q⟩
  · obtain ⟨a,us,rfl,sq,rs⟩:=r1.itemsT s ed
    exact ⟨a,us,rfl,.inr sq,fun l hl=>k _ (.ml xs) _ _ (Grow.laid s ra hl) (own_laid s ra hl rs) (fun a ea=>by cases ea; exact hl) q⟩
theorem v_listof (hm:X.mg "list" = none) (ha:PVs X rl [a] fs) (hg:Gl X "list" := by rfl) (he:starEach [a] X.env = (false,eval a X.env) :: starEach [] X.env:=by rfl) (hpl:(backTo pos (starEach [] X.env)).any (·.1) = false:=by rfl) :
    PV X rl (.Call (.Name "list" p) [a] [] pos) (vCall gLstO fs):=v_callTy call_list_of vc_lst hm (by rfl) ha hg (by decide) (by decide) he hpl
end
end L2.VL
namespace L2.VL
open PySem PySem.Spec PyProof.Rows
section
variable {X:Cx} {rl:RlT}
end
end L2.VL

namespace L2.VL
open PySem PySem.Spec PyProof.Rows
section
variable {X:Cx} {rl:RlT} {a b c e:Expr} {es:List Expr} {fa fb fc:TV} {fs:TVs} {pos p p2:Pos}
noncomputable def gI2 (f:Int -> Int -> PyData):List W -> (W -> Prop) -> Prop:=fun ws Q=>∃ i j,ws = [.d (.int i),.d (.int j)] /\ Q (.d (f i j))
theorem vc_i2 {f:Int -> Int -> V} {g:Int -> Int -> PyData} (h:∀ K F i j,Rep K F (f i j) (g i j)):VCall X rl (fun xs H Q=>∃ i j,xs = [.int i,.int j] /\ Q (f i j) H) (gI2 g):=fun {F H vs ws} Qd Q s ra r ⟨i,j,ew,q⟩ k=>by
  subst ew
  obtain ⟨v,u,rfl,r1,r2⟩:=rel2 r
  have e1:=rep_int r1
  have e2:=rep_int r2
  subst e1 e2
  exact ⟨i,j,rfl,k _ (.d _) _ _ (Grow.refl s ra) (h _ _ i j) trivial q⟩
theorem v_max2 (hm:X.mg "max" = none) (ha:PVs X rl [a,b] fs) (hc:X.calm = true:=by rfl) (hg:Gl X "max" := by rfl) (he:starEach [a,b] X.env = (false,eval a X.env) :: starEach [b] X.env:=by rfl) (hpl:(backTo pos (starEach [b] X.env)).any (·.1) = false:=by rfl) :
    PV X rl (.Call (.Name "max" p) [a,b] [] pos) (vCall (gI2 fun i j=>.int (max i j)) fs) :=
  v_callB (call_max2 hc) (vc_i2 (f:=fun i j=>.int (if j > i then j else i)) fun _ _ i j=>(show (if j > i then j else i) = max i j by split <;> omega) ▸ .int _) hm (by rfl) ha hg (by decide) (by decide) he hpl
theorem v_min2 (hm:X.mg "min" = none) (ha:PVs X rl [a,b] fs) (hc:X.calm = true:=by rfl) (hg:Gl X "min" := by rfl) (he:starEach [a,b] X.env = (false,eval a X.env) :: starEach [b] X.env:=by rfl) (hpl:(backTo pos (starEach [b] X.env)).any (·.1) = false:=by rfl) :
    PV X rl (.Call (.Name "min" p) [a,b] [] pos) (vCall (gI2 fun i j=>.int (min i j)) fs) :=
  v_callB (call_min2 hc) (vc_i2 (f:=fun i j=>.int (if j < i then j else i)) fun _ _ i j=>(show (if j < i then j else i) = min i j by split <;> omega) ▸ .int _) hm (by rfl) ha hg (by decide) (by decide) he hpl
noncomputable def gInt1:List W -> (W -> Prop) -> Prop:=fun ws Q=>(∃ i,ws = [.d (.int i)] /\ Q (.d (.int i))) \/ ∃ k:Bool,ws = [.d (.bool k)] /\ Q (.d (.int (if k then 1 else 0)))
theorem vc_int1:VCall X rl (fun xs H Q=>(∃ i,xs = [.int i] /\ Q (.int i) H) \/ ∃ k,xs = [.bl k] /\ Q (.int (if k then 1 else 0)) H) gInt1:=fun {F H vs ws} Qd Q s ra r h k=>by
  rcases h with ⟨i,ew,q⟩ | ⟨i,ew,q⟩
  · subst ew
    obtain ⟨v,rfl,r1⟩:=rel1 r
    have e1:=rep_int r1
    subst e1
    exact .inl ⟨i,rfl,k _ (.d _) _ _ (Grow.refl s ra) (.int _) trivial q⟩
  · subst ew
    obtain ⟨v,rfl,r1⟩:=rel1 r
    have e1:=rep_bl r1
    subst e1
    exact .inr ⟨i,rfl,k _ (.d _) _ _ (Grow.refl s ra) (.int _) trivial q⟩
theorem v_int1 (hm:X.mg "int" = none) (ha:PVs X rl [a] fs) (hg:Gl X "int" := by rfl) (he:starEach [a] X.env = (false,eval a X.env) :: starEach [] X.env:=by rfl) (hpl:(backTo pos (starEach [] X.env)).any (·.1) = false:=by rfl) :
    PV X rl (.Call (.Name "int" p) [a] [] pos) (vCall gInt1 fs):=v_callTy call_int1 vc_int1 hm (by rfl) ha hg (by decide) (by decide) he hpl
noncomputable def cutD (xs:List PyData) (lo hi:Option Int):List PyData:=(xs.drop (HT.sIx xs.length 0 lo)).take (HT.sIx xs.length xs.length hi - HT.sIx xs.length 0 lo)
theorem Reps.cut {K:W.Frag} {F:Hp} {vs:List V} {ds:List PyData} (r:Reps K F vs ds) (lo hi:Option Int):Reps K F (cutV vs lo hi) (cutD ds lo hi):=by
  unfold cutV cutD
  rw [r.length]
  exact (r.drop _).take _
abbrev TOv:=En -> (Option Int -> Prop) -> Prop
noncomputable def PVO (X:Cx) (rl:RlT) (o:Option Expr) (f:TOv):Prop:=∃ t,PO X o t /\ ∀ {F₀ H₀ F H:Hp} {σ:St} {ρ:En},VR X.K rl F₀ H₀ F H σ ρ -> ∀ (Qd:Option Int -> Prop) (Q:Option Int -> Hp -> Prop),f ρ Qd ->
  (∀ o F' H',Grow rl F H F' H' -> Qd o -> Q o H') -> t σ H Q
noncomputable def oNo:TOv:=fun _ Q=>Q none
noncomputable def oIt (fa:TV):TOv:=fun ρ Q=>fa ρ fun w=>∃ i,w = .d (.int i) /\ Q (some i)
theorem vo_none:PVO X rl none oNo:=⟨_,po_none,fun R Qd Q q k=>k _ _ _ (Grow.refl R.sub R.reel) q⟩
theorem vo_some (h:PV X rl e fa):PVO X rl (some e) (oIt fa):=by
  obtain ⟨t,p,k⟩:=h
  refine ⟨_,po_some p,fun R Qd Q q h=>k R _ _ q fun v w F1 H1 g1 r1 n1 ⟨i,ew,q1⟩=>?_⟩
  subst ew
  exact ⟨i,rep_int r1,h _ F1 H1 g1 q1⟩
noncomputable def vSlL (fa:TV) (fl fh:TOv):TV:=fun ρ Q=>fa ρ fun w=>fl ρ fun l=>fh ρ fun h=>∃ xs,w.dat = some (.list xs) /\ Q (.ml (cutD xs l h))
noncomputable def gCatD:W -> W -> (W -> Prop) -> Prop:=fun x y Q=>∃ xs ys,x.dat = some (.list xs) /\ y.dat = some (.list ys) /\ xs.length + ys.length <= sizeLine /\ Q (.ml (xs ++ ys))
theorem RelW.lst {K:W.Frag} {F H:Hp} {v:V} {w:W} {xs:List PyData} (s:Same F H) (r:RelW K rl F H v w) (e:w.dat = some (.list xs)):∃ a vs,v = .ref a /\ H a = some (.lst vs) /\ Reps K F vs xs:=by
  have own:OwnL K rl F H v xs -> ∃ a vs,v = .ref a /\ H a = some (.lst vs) /\ Reps K F vs xs:=fun ⟨a,vs,e1,_,_,e2,e3⟩=>⟨a,vs,e1,e2,e3⟩
  cases w with
  | d y =>
    cases e
    cases (show Rep K F v (.list xs) from r) with
    | lst h q=>exact ⟨_,_,rfl,s _ _ h,q⟩
  | ml ys=>cases e; exact own r
  | pk ys=>cases e; exact own r
  | reel=>cases e
  | vv u=>cases e
  | md u=>cases e
  | mk u=>cases e
  | nt u=>cases e
  | lk=>cases e
  | sc _=>cases e
  | fd _=>cases e
  | fw _=>cases e
  | ft _=>cases e
  | xc _ _=>cases e
  | dp _ _=>cases e
theorem vo_catD:VOp X rl rCat gCatD:=fun {F H x y wx wy} Qd Q s ra r1 r2 q k=>by
  obtain ⟨xs,ys,e1,e2,z,q⟩:=q
  obtain ⟨a,vs,rfl,h1,q1⟩:=r1.lst s e1
  obtain ⟨b,us,rfl,h2,q2⟩:=r2.lst s e2
  refine ⟨a,b,vs,us,rfl,rfl,h1,h2,by rw [q1.length,q2.length]; exact z,fun p hp=>?_⟩
  exact k _ (.ml _) _ _ (Grow.laid s ra hp) (own_laid s ra hp (q1.append q2)) (fun a ea=>by cases ea; exact hp) q
theorem v_catD (ha:PV X rl a fa) (hb:PV X rl b fb):PV X rl (.BinOp a .Add b pos) (vOp gCatD fa fb):=pv_op op_cat vo_catD ha hb
noncomputable def vChain (p p':Int -> Int -> Bool) (fa fb fc:TV):TV:=fun ρ Q=>fa ρ fun x=>fb ρ fun y=>∃ i j,x = .d (.int i) /\ y = .d (.int j) /\
  if p i j = true then fc ρ fun z=>∃ k,z = .d (.int k) /\ Q (.d (.bool (p' j k))) else Q (.d (.bool false))
theorem vb_chain {op op':CmpOp} {p p':Int -> Int -> Bool} (ho:OpR X (compareOp op) (rI0 fun i j=>.bl (p i j))) (ho':OpR X (compareOp op') (rI0 fun i j=>.bl (p' i j))) (ha:PV X rl a fa) (hb:PV X rl b fb) (hc:PV X rl c fc)
    (hm:lastMarks [op,op'] [b,c] = false:=by with_unfolding_all rfl):PB X rl (.Compare a [op,op'] [b,c] pos) (vTest (vChain p p' fa fb fc)):=by
  obtain ⟨t,p1,k1⟩:=ha
  obtain ⟨t2,p2,k2⟩:=hb
  obtain ⟨t3,p3,k3⟩:=hc
  refine ⟨_,pt_chain ho ho' p1 p2 p3 hm,fun R Qd Q q h=>k1 R _ _ q fun v w F1 H1 g1 r1 n1 q1=>k2 (R.grow g1) _ _ q1 fun v2 w2 F2 H2 g2 r2 n2 q2=>?_⟩
  obtain ⟨i,j,rfl,rfl,q2⟩:=q2
  have e1:=rep_int r1
  have e2:=rep_int r2
  subst e1 e2
  refine ⟨i,j,rfl,rfl,p i j,rfl,?_⟩
  cases hp:p i j with
  | false =>
    rw [hp] at q2
    rw [if_neg (by decide)] at q2 ⊢
    obtain ⟨k,ek,q2⟩:=q2
    cases ek
    exact ⟨false,rfl,h false F2 H2 (g1.trans g2) q2⟩
  | true =>
    rw [hp] at q2
    rw [if_pos rfl] at q2 ⊢
    refine k3 ((R.grow g1).grow g2) _ _ q2 fun v3 w3 F3 H3 g3 r3 n3 ⟨k,ek,q3⟩=>?_
    subst ek
    have e3:=rep_int r3
    subst e3
    obtain ⟨kk,ekk,q3⟩:=q3
    cases ekk
    exact ⟨j,k,rfl,rfl,p' j k,rfl,h _ F3 H3 ((g1.trans g2).trans g3) q3⟩
structure GlD (K:W.Frag) (mg:Str -> Option Value) (x:Str) (d:PyData):Prop where
  ex:∃ v u,mg x = some u /\ RelV v u /\ ∀ F,Rep K F v d
theorem v_glob {x:Str} {d:PyData} (G:GlD X.K X.mg x d) (hg:Gl X x:=by rfl) (hd:(x == ("__debug__" : Str)) = false:=by decide):PV X rl (.Name x pos) (vC d):=by
  obtain ⟨v,u,h1,h2,h3⟩:=G.ex
  exact pv_glob h1 h2 h3 hg hd
structure GlK (K:W.Frag) (x:Str) (d:PyData):Prop where
  ex:∃ v u,W.nsIn K mainGlobals x = some (some u) /\ RelV v u /\ ∀ F,Rep K F v d
theorem GlK.of {K:W.Frag} {x:Str} {d:PyData} {h:Heap} {mg:Str -> Option Value} (k:GlK K x d) (Y:K.In h) (G:h.Ns mainGlobals mg):GlD K mg x d:=by
  obtain ⟨v,u,h1,h2,h3⟩:=k.ex
  exact ⟨v,u,W.mg_of Y G h1,h2,h3⟩
end
end L2.VL

namespace L2
open PySem PySem.Spec PyProof.Rows
section
variable {X:Cx} {a b:Expr} {ta:TA} {p q pos pos2:Pos}
end
end L2
namespace L2.VL
open PySem PySem.Spec PyProof.Rows
section
variable {X:Cx} {rl:RlT} {a b c e:Expr} {es:List Expr} {fa fb fc:TV} {fs:TVs} {pos pos2 p q:Pos}
end
end L2.VL

namespace L2.VL
open PySem PySem.Spec PyProof.Rows
end L2.VL
namespace L2.VL
open PySem PySem.Spec PyProof.Rows
theorem foldl_succ {α β:Type} {xs:List α} {f : β -> α -> β} {a : β} {i:Nat} (h:i < xs.length):(xs.take (i + 1)).foldl f a = f ((xs.take i).foldl f a) xs[i]:=by
  rw [List.take_succ_eq_append_getElem h,List.foldl_append]
  rfl
end L2.VL
namespace L2.VL
open PySem PySem.Spec PyProof.Rows
end L2.VL
namespace L2.VL
open PySem PySem.Spec PyProof.Rows
structure Sm (dp bk:Nat) (d:PyData):Prop where
  nice:Nice d
  dep:d.depth <= dp
  blk:d.bulk <= bk
theorem niceAll_of:∀ {xs:List PyData},(∀ d ∈ xs,Nice d) -> NiceAll xs
  | [],_=>trivial
  | x :: xs,h=>⟨h x List.mem_cons_self,niceAll_of fun d hd=>h d (List.mem_cons_of_mem _ hd)⟩
theorem depthAll_le {k:Nat}:∀ {xs:List PyData},(∀ d ∈ xs,d.depth <= k) -> PyData.depthAll xs <= k + 1
  | [],_=>by simp [PyData.depthAll]
  | x :: xs,h=>by
    have h1:=h x List.mem_cons_self
    have h2:=depthAll_le (k:=k) (xs:=xs) fun d hd=>h d (List.mem_cons_of_mem _ hd)
    simp only [PyData.depthAll]
    omega
theorem bulkAll_le {k:Nat}:∀ {xs:List PyData},(∀ d ∈ xs,d.bulk <= k) -> PyData.bulkAll xs <= (k + 1) * xs.length
  | [],_=>by simp [PyData.bulkAll]
  | x :: xs,h=>by
    have h1:=h x List.mem_cons_self
    have h2:=bulkAll_le (k:=k) (xs:=xs) fun d hd=>h d (List.mem_cons_of_mem _ hd)
    simp only [PyData.bulkAll,List.length_cons,Nat.mul_succ]
    omega
theorem Sm.seq {dp bk n:Nat} {xs:List PyData} (h:∀ d ∈ xs,Sm dp bk d) (hl:xs.length <= n):Sm (dp + 2) ((bk + 1) * n) (.tuple xs) /\ Sm (dp + 2) ((bk + 1) * n) (.list xs):=by
  have a:=niceAll_of fun d hd=>(h d hd).nice
  have b:=depthAll_le fun d hd=>(h d hd).dep
  have c:PyData.bulkAll xs <= (bk + 1) * n:=Nat.le_trans (bulkAll_le fun d hd=>(h d hd).blk) (Nat.mul_le_mul_left _ hl)
  refine ⟨⟨a,?_,c⟩,⟨a,?_,c⟩⟩ <;> simp only [PyData.depth] <;> omega
theorem Sm.shw {dp bk:Nat} {d:PyData} (h:Sm dp bk d) (h1:dp <= 60) (h2:bk <= 8000):Shw d:=⟨h.nice,by have:=h.dep; omega,by have:=h.blk; omega⟩
theorem Sm.int {i:Int} (h:i.natAbs < 2 ^ 1000):Sm 0 0 (.int i):=⟨(Lf.int h).nice,by simp [PyData.depth],by simp [PyData.bulk]⟩
theorem Sm.mono {dp bk dp' bk':Nat} {d:PyData} (h:Sm dp bk d) (h1:dp <= dp') (h2:bk <= bk'):Sm dp' bk' d:=⟨h.nice,Nat.le_trans h.dep h1,Nat.le_trans h.blk h2⟩
end L2.VL

namespace L2
open PySem PySem.Spec PyProof.Rows
section
variable {X:Cx} {tg e:Expr} {ta te:TE} {p p2 pos:Pos}
end
end L2
namespace L2.VL
open PySem PySem.Spec PyProof.Rows
section
variable {X:Cx} {rl:RlT} {a b c e tg:Expr} {es:List Expr} {fa fb fc:TV} {fs:TVs} {pos pos2 p p2 q:Pos}
end
end L2.VL

namespace L2
open PySem PySem.Spec PyProof.Rows
section
variable {X:Cx}
theorem bls_get {bs:List Bool} {its:List Value} (r:Vals (bs.map V.bl) its) {i:Nat} {v:Value} (e:its[i]? = some v):v = .bool (bs.getD i false):=by
  have hl:=r.length
  rw [List.length_map] at hl
  have hi:i < bs.length:=by have:=(List.getElem?_eq_some_iff.mp e).1; omega
  have hb:(bs.map V.bl)[i]? = some (.bl bs[i]):=by simp [hi]
  obtain ⟨u,hu,ru⟩:=r.get hb
  rw [e] at hu
  cases hu
  have:bs.getD i false = bs[i]:=by simp [List.getD,hi]
  rw [this]
  exact ru
theorem range_all {bs:List Bool}:(List.range bs.length).all (fun i=>bs.getD i false) = bs.all id:=by
  have:bs = (List.range bs.length).map fun i=>bs.getD i false:=by
    apply List.ext_getElem
    · simp
    · intro i h1 h2
      simp [List.getD,h1]
  conv=>rhs; rw [this,List.all_map]
  rfl
theorem range_any {bs:List Bool}:(List.range bs.length).any (fun i=>bs.getD i false) = bs.any id:=by
  have:bs = (List.range bs.length).map fun i=>bs.getD i false:=by
    apply List.ext_getElem
    · simp
    · intro i h1 h2
      simp [List.getD,h1]
  conv=>rhs; rw [this,List.any_map]
  rfl
theorem call_all (hc:X.calm = true):CallR X (.builtin "all") (fun xs H Q=>∃ (p:Addr) (bs:List Bool),xs = [.ref p] /\ SqL X.K H p (bs.map V.bl) /\ Q (.bl (bs.all id)) H):=by
  intro pins s σ H xs us Q I r ⟨p,bs,ex,hq,q⟩
  subst ex
  obtain ⟨u,rfl,ru⟩:=vals1 r
  cases ru
  obtain ⟨its,rv,pl,hz⟩:=I.list hq
  have hl:=rv.length
  rw [List.length_map] at hl
  refine call_all_walk (wpAny_pyIter_list pl.isList ?_)
  have ne:p ≠ s.heap.objs.size:=by obtain ⟨o,ho,_⟩:=pl.isList; exact Nat.ne_of_lt (Heap.lt_size ho)
  refine ⟨s.heap.objs.size,_,_,_,_,_,fun i=>bs.getD i false,rfl,Walks.list (A:=X.A.in1) (I.ok.hd hc) s.heap.objs.size p ne its.toArray,⟨⟨_,Heap.get?_push_size _ rfl,rfl,rfl⟩,pl.isList.push _⟩,fun i v s' Q' E' hP hQ=>?_,fun h' tk k=>?_⟩
  · rw [bls_get rv (show its[i]? = some v by simpa using hP)]
    exact wpAny_truthy_bool hQ
  · have e:(List.range its.toArray.size).all (fun i=>bs.getD i false) = bs.all id:=by rw [List.size_toArray,<- hl]; exact range_all
    rw [e]
    exact ⟨.bl _,H,I.kept (t':=tk) fun b o eb=>k b o (by simp; exact Nat.ne_of_lt (Heap.lt_size eb)) (Heap.get?_push_of_some _ eb),rfl,q⟩
theorem call_any (hc:X.calm = true):CallR X (.builtin "any") (fun xs H Q=>∃ (p:Addr) (bs:List Bool),xs = [.ref p] /\ SqL X.K H p (bs.map V.bl) /\ Q (.bl (bs.any id)) H):=by
  intro pins s σ H xs us Q I r ⟨p,bs,ex,hq,q⟩
  subst ex
  obtain ⟨u,rfl,ru⟩:=vals1 r
  cases ru
  obtain ⟨its,rv,pl,hz⟩:=I.list hq
  have hl:=rv.length
  rw [List.length_map] at hl
  refine call_any_walk (wpAny_pyIter_list pl.isList ?_)
  have ne:p ≠ s.heap.objs.size:=by obtain ⟨o,ho,_⟩:=pl.isList; exact Nat.ne_of_lt (Heap.lt_size ho)
  refine ⟨s.heap.objs.size,_,_,_,_,_,fun i=>bs.getD i false,rfl,Walks.list (A:=X.A.in1) (I.ok.hd hc) s.heap.objs.size p ne its.toArray,⟨⟨_,Heap.get?_push_size _ rfl,rfl,rfl⟩,pl.isList.push _⟩,fun i v s' Q' E' hP hQ=>?_,fun h' tk k=>?_⟩
  · rw [bls_get rv (show its[i]? = some v by simpa using hP)]
    exact wpAny_truthy_bool hQ
  · have e:(List.range its.toArray.size).any (fun i=>bs.getD i false) = bs.any id:=by rw [List.size_toArray,<- hl]; exact range_any
    rw [e]
    exact ⟨.bl _,H,I.kept (t':=tk) fun b o eb=>k b o (by simp; exact Nat.ne_of_lt (Heap.lt_size eb)) (Heap.get?_push_of_some _ eb),rfl,q⟩
end
end L2
namespace L2.VL
open PySem PySem.Spec PyProof.Rows
section
variable {X:Cx} {rl:RlT} {a b c e:Expr} {es:List Expr} {fa fb fc:TV} {fs:TVs} {pos p p2:Pos}
theorem reps_bl {K:W.Frag} {F:Hp}:∀ {vs:List V} {bs:List Bool},Reps K F vs (bs.map .bool) -> vs = bs.map V.bl
  | _,[],h=>h.nil_iff
  | _,b :: bs,.cons h r=>by rw [rep_bl h,reps_bl r]; rfl
noncomputable def gAll (f:List Bool -> Bool):List W -> (W -> Prop) -> Prop:=fun ws Q=>∃ (w:W) (bs:List Bool),ws = [w] /\ w.dat = some (.list (bs.map .bool)) /\ Q (.d (.bool (f bs)))
theorem vc_all {f:List Bool -> Bool}:VCall X rl (fun xs H Q=>∃ (p:Addr) (bs:List Bool),xs = [.ref p] /\ SqL X.K H p (bs.map V.bl) /\ Q (.bl (f bs)) H) (gAll f):=fun {F H vs ws} Qd Q s ra r ⟨w,bs,ew,ed,q⟩ k=>by
  subst ew
  obtain ⟨v,rfl,r1⟩:=rel1 r
  obtain ⟨a,us,rfl,sq,rs⟩:=r1.items s ed
  have e:=reps_bl rs
  subst e
  exact ⟨a,bs,rfl,sq,k _ (.d _) _ _ (Grow.refl s ra) (.bl _) trivial q⟩
theorem v_all (hm:X.mg "all" = none) (ha:PVs X rl [a] fs) (hc:X.calm = true:=by rfl) (hg:Gl X "all" := by rfl) (he:starEach [a] X.env = (false,eval a X.env) :: starEach [] X.env:=by rfl) (hpl:(backTo pos (starEach [] X.env)).any (·.1) = false:=by rfl) :
    PV X rl (.Call (.Name "all" p) [a] [] pos) (vCall (gAll fun bs=>bs.all id) fs):=v_callB (call_all hc) vc_all hm (by rfl) ha hg (by decide) (by decide) he hpl
theorem v_any (hm:X.mg "any" = none) (ha:PVs X rl [a] fs) (hc:X.calm = true:=by rfl) (hg:Gl X "any" := by rfl) (he:starEach [a] X.env = (false,eval a X.env) :: starEach [] X.env:=by rfl) (hpl:(backTo pos (starEach [] X.env)).any (·.1) = false:=by rfl) :
    PV X rl (.Call (.Name "any" p) [a] [] pos) (vCall (gAll fun bs=>bs.any id) fs):=v_callB (call_any hc) vc_all hm (by rfl) ha hg (by decide) (by decide) he hpl
end
end L2.VL

namespace L2.TM
open PySem PySem.Spec PyProof.Rows
section
variable {prog:Program} {w:World} {A:Around} {E:Value -> Shared -> Prop} {s:Shared} {k:Int} {t:Tok} {l:Addr} {its:Array Value}
end
end L2.TM
namespace L2
open PySem PySem.Spec PyProof.Rows
section
variable {X:Cx}
end
end L2
namespace L2.VL
open PySem PySem.Spec PyProof.Rows
section
variable {X:Cx} {rl:RlT} {a b c e:Expr} {es:List Expr} {fa fb fc:TV} {fs:TVs} {pos p p2:Pos}
noncomputable def gCatT:W -> W -> (W -> Prop) -> Prop:=fun x y Q=>∃ xs ys,x = .d (.tuple xs) /\ y = .d (.tuple ys) /\ xs ≠ [] /\ xs.length + ys.length <= sizeLine /\ Q (.d (.tuple (xs ++ ys)))
theorem vo_catT:VOp X rl (rCatT X.K) gCatT:=fun {F H x y wx wy} Qd Q s ra r1 r2 q k=>by
  obtain ⟨xs,ys,rfl,rfl,hne,hz,q⟩:=q
  cases (show Rep X.K F x (.tuple xs) from r1) with
  | @tup a vs _ sq rs =>
    cases (show Rep X.K F y (.tuple ys) from r2) with
    | @tup b us _ sq2 rs2 =>
      refine ⟨a,b,vs,us,rfl,rfl,sameT s sq,sameT s sq2,fun z=>hne ?_,by rw [rs.length,rs2.length]; exact hz,fun e=>?_,fun e p hp=>?_⟩
      · subst z; cases rs; rfl
      · subst e
        cases rs2
        rw [List.append_nil] at q
        exact k _ (.d (.tuple xs)) _ _ (Grow.refl s ra) (.tup sq rs) trivial q
      · have g:=Grow.data (a:=p) (o:=.tup (vs ++ us)) s ra hp
        exact k _ (.d _) _ _ g (.tup (.inl (.inl upd_same)) ((rs.append rs2).mono g.fs)) trivial q
end
end L2.VL

namespace L2
open PySem PySem.Spec PyProof.Rows
section
variable {X:Cx}
theorem Room.u65 {k:Nat} {A:Around} (r:Room k A):A.units + 65 < cLine:=by have:=r.un; omega
noncomputable def rCat0 (K:W.Frag):R2:=fun x y H Q=>∃ a b ys,x = .ref a /\ y = .ref b /\ SqT K H a [] /\ SqT K H b ys /\ Q (.ref b) H
theorem op_cat0:OpR X (binaryOp .Add) (rCat0 X.K):=by
  intro pins s σ H x y v u Q I rx ry h
  obtain ⟨a,b,ys,rfl,rfl,ha,hb,q⟩:=h
  cases rx
  cases ry
  obtain ⟨its,r1,p1,_⟩:=I.tuple ha
  obtain ⟨its2,r2,p2,_⟩:=I.tuple hb
  cases r1
  obtain ⟨⟨c1,d1,e1,sl1⟩,ho,hc,n,hd⟩:=p1
  obtain ⟨⟨c2,d2,e2,sl2⟩,ho2,hc2,n2,hd2⟩:=p2
  cases hc; cases hd; cases hc2; cases hd2
  exact concat_meets ⟨_,ho,rfl⟩ ⟨_,ho2,rfl⟩ noFill_tuple_add seq_tuple_add PySem.F.slot_tuple_add PySem.F.entry_tuple_add (PySem.F.args_tuple_add_2 _ _)
    (tuple_addW0 a b _ its2.toArray n n2 d1 d2 sl1 sl2 rfl) ⟨ho,ho2,⟨.ref b,H,I,rfl,q⟩⟩
noncomputable def rCatA (K:W.Frag):R2:=fun x y H Q=>rCatT K x y H Q \/ rCat0 K x y H Q
theorem op_catA:OpR X (binaryOp .Add) (rCatA X.K):=fun pins s σ H x y v u Q I rx ry h=>h.elim (op_catT pins s σ H x y v u Q I rx ry) (op_cat0 pins s σ H x y v u Q I rx ry)
section
variable {prog:Program} {w:World} {A:Around} {E:Value -> Shared -> Prop} {s:Shared}
end
end
end L2
namespace L2.VL
open PySem PySem.Spec PyProof.Rows
section
variable {X:Cx} {rl:RlT} {a b c e:Expr} {es:List Expr} {fa fb fc:TV} {fs:TVs} {pos p p2:Pos}
noncomputable def gCatA:W -> W -> (W -> Prop) -> Prop:=fun x y Q=>∃ xs ys,x = .d (.tuple xs) /\ y = .d (.tuple ys) /\ xs.length + ys.length <= sizeLine /\ Q (.d (.tuple (xs ++ ys)))
theorem vo_catA:VOp X rl (rCatA X.K) gCatA:=fun {F H x y wx wy} Qd Q s ra r1 r2 q k=>by
  obtain ⟨xs,ys,rfl,rfl,hz,q⟩:=q
  by_cases hx:xs = []
  · subst hx
    cases (show Rep X.K F x (.tuple []) from r1) with
    | @tup a vs _ sq rs =>
      cases rs
      cases (show Rep X.K F y (.tuple ys) from r2) with
      | @tup b us _ sq2 rs2=>exact .inr ⟨a,b,us,rfl,rfl,sameT s sq,sameT s sq2,k _ (.d (.tuple ys)) _ _ (Grow.refl s ra) (.tup sq2 rs2) trivial q⟩
  · exact .inl (vo_catT Qd Q s ra r1 r2 ⟨xs,ys,rfl,rfl,hx,hz,q⟩ k)
theorem v_catA (ha:PV X rl a fa) (hb:PV X rl b fb):PV X rl (.BinOp a .Add b pos) (vOp gCatA fa fb):=pv_op op_catA vo_catA ha hb
theorem reps_int {K:W.Frag} {F:Hp}:∀ {vs:List V} {ns:List Int},Reps K F vs (ns.map .int) -> vs = ns.map V.int
  | _,[],h=>h.nil_iff
  | _,n :: ns,.cons h r=>by rw [rep_int h,reps_int r]; rfl
end
end L2.VL

namespace L2.TO
open PySem PySem.Spec PyProof.Rows
section
variable {prog:Program} {w:World} {A:Around} {E:Value -> Shared -> Prop} {s:Shared}
end
end L2.TO
namespace L2
open PySem PySem.Spec PyProof.Rows
section
variable {X:Cx} {a b e:Expr} {ta:TA} {te:TE} {p p2 q pos pos2:Pos}
end
end L2
namespace L2.VL
open PySem PySem.Spec PyProof.Rows
section
variable {X:Cx} {rl:RlT} {a b c e:Expr} {es:List Expr} {fa fb fc:TV} {fs:TVs} {pos pos2 p q p2:Pos}
end
end L2.VL

namespace L2.TW
open PySem PySem.Spec PyProof.Rows
section
variable {prog:Program} {w:World} {A:Around} {E:Value -> Shared -> Prop} {s:Shared}
theorem get_whole {t sl:Addr} {items:Array Value} {vl vu:Value} {lo hi:Option Int} {Q:Value -> Shared -> Prop} (ht:IsTup s.heap t items) (hs:s.heap.IsSliceOf sl vl vu .none) (pl:IsPart vl lo) (pu:IsPart vu hi)
    (hw:HT.sIx items.size 0 lo = 0 /\ HT.sIx items.size items.size hi = items.size) (h:Q (.ref t) s):wpAny (model prog w) A (getItem (.ref t) (.ref sl)) Q E s:=by
  have ty:s.TypeIs (.ref sl) "slice" := let ⟨o,h1,h2,_⟩:=hs; ⟨o,h1,h2⟩
  have key:wpAny (model prog w) A (call (.builtin "tuple.__getitem__") [.ref t,.ref sl]) Q E s:=by
    refine wpAny_call_entry PyProof.Rows.slot_tuple_getitem ht.typeIs entry_tuple_getitem ?_ (args_tuple_getitem _ _)
    show wpAny _ _ (Builtin.Tuple.tupleItemsOf (.ref t) >>= _) _ _ s; refine wpAny_bind (tupleItemsOf_ ht (wpAny_bind (wpAny_typeOf ty ?_)))
    rw [if_pos (by decide)]
    refine wpAny_bind (HT.sliceApplied_gen hs pl pu ?_)
    rw [hw.1,hw.2,Nat.sub_zero]
    show wpAny _ _ (if (((0:Nat):Int) == 0 && (1:Int) == 1 && items.size == items.size) = true then _ else _) _ _ s
    rw [if_pos (by simp)]
    unfold Builtin.Tuple.tupleIsExact
    refine wpAny_bind (wpAny_bind (wpAny_typeOf ht.typeIs (wpAny_pure ?_)))
    rw [if_pos (by decide)]
    exact wpAny_bind (wpAny_rule (wpAny_bind (wpAny_pure (wpAny_pure ⟨_,rfl,h⟩))))
  unfold getItem; try with_reducible refine wpAny_holding ?_
  first | exact wpAny_bind (wpAny_pure (wpAny_bind (wpAny_sequenceKey ht.typeIs (by decide) (wpAny_bind (wpAny_callSpecial?_slot (name:=Str.ofString "__getitem__") ht.typeIs PyProof.Rows.slot_tuple_getitem (thn key fun v s' q=>wpAny_pure q)))))) | exact wpAny_bind (wpAny_sequenceKey ht.typeIs (by decide) (wpAny_bind (wpAny_callSpecial?_slot (name:=Str.ofString "__getitem__") ht.typeIs PyProof.Rows.slot_tuple_getitem (thn key fun v s' q=>wpAny_pure q))))
end
end L2.TW
namespace L2
open PySem PySem.Spec PyProof.Rows
section
variable {X:Cx}
noncomputable def rSlA (K:W.Frag):V -> Option Int -> Option Int -> Hp -> VK -> Prop:=fun x lo hi H Q=>rSlT K x lo hi H Q \/ ∃ a xs,x = .ref a /\ SqT K H a xs /\ (HT.sIx xs.length 0 lo = 0 /\ HT.sIx xs.length xs.length hi = xs.length) /\ Q (.ref a) H
theorem sl_tupA:SlR X (rSlA X.K):=by
  intro pins s σ H x v vl vu lo hi sl Q I rx hs pl pu h
  rcases h with h | ⟨a,xs,rfl,hx,hw,q⟩
  · exact sl_tup pins s σ H x v vl vu lo hi sl Q I rx hs pl pu h
  · cases rx
    obtain ⟨its,r,ht,hz⟩:=I.tuple hx
    have hlen:its.toArray.size = xs.length:=by rw [List.size_toArray]; exact r.length.symm
    exact ⟨"tuple", _,PyProof.Rows.slot_tuple_getitem.lookup,ht.typeIs,TW.get_whole ht hs pl pu (by rw [hlen]; exact hw) ⟨.ref a,H,I,rfl,q⟩⟩
end
end L2
namespace L2.VL
open PySem PySem.Spec PyProof.Rows
section
variable {X:Cx} {rl:RlT} {a b c e:Expr} {es:List Expr} {fa fb fc:TV} {fs:TVs} {pos p p2:Pos}
theorem cut_whole {xs:List PyData} {l u:Option Int} (h:HT.sIx xs.length 0 l = 0 /\ HT.sIx xs.length xs.length u = xs.length):cutD xs l u = xs:=by
  unfold cutD
  rw [h.1,h.2]
  simp
noncomputable def vSlA (fa:TV) (fl fh:TOv):TV:=fun ρ Q=>fa ρ fun w=>fl ρ fun l=>fh ρ fun h=>∃ xs,w = .d (.tuple xs) /\ Q (.d (.tuple (cutD xs l h)))
theorem v_slA {lo hi:Option Expr} {fl fh:TOv} (ha:PV X rl a fa) (hl:PVO X rl lo fl) (hh:PVO X rl hi fh):PV X rl (.Subscript a (.Slice lo hi none p2) pos) (vSlA fa fl fh):=by
  obtain ⟨t,p,k⟩:=ha
  obtain ⟨tl,pl,kl⟩:=hl
  obtain ⟨th,ph,kh⟩:=hh
  refine ⟨_,pe_slice sl_tupA p pl ph,fun R Qd Q q h=>k R _ _ q fun v w F1 H1 g1 r1 n1 q1=>?_⟩
  refine kl (R.grow g1) _ _ q1 fun l F2 H2 g2 q2=>kh ((R.grow g1).grow g2) _ _ q2 fun u F3 H3 g3 q3=>?_
  obtain ⟨xs,rfl,q3⟩:=q3
  have r3:=(r1.grow g2).grow g3
  have g:=(g1.trans g2).trans g3
  cases (show Rep X.K F3 v (.tuple xs) from r3) with
  | @tup a vs _ sq rs =>
    by_cases hw:HT.sIx xs.length 0 l = 0 /\ HT.sIx xs.length xs.length u = xs.length
    · rw [cut_whole hw] at q3
      exact .inr ⟨a,vs,rfl,sameT g3.sub sq,by rw [rs.length]; exact hw,h _ (.d _) _ _ g (.tup sq rs) trivial q3⟩
    · refine .inl ⟨a,vs,rfl,sameT g3.sub sq,by rw [rs.length]; exact hw,fun p hp=>?_⟩
      have g':=Grow.data (a:=p) (o:=.tup (cutV vs l u)) g3.sub g3.reel hp
      exact h _ (.d _) _ _ (g.trans g') (.tup (.inl (.inl upd_same)) ((rs.cut l u).mono g'.fs)) trivial q3
end
end L2.VL

namespace L2
open PySem PySem.Spec PyProof.Rows
abbrev tabD (D:List (Str × Int)):List (PyData × PyData):=(D.map fun q=>(q.1,PyData.int q.2)).map fun q=>(PyData.str q.1,q.2)
section
variable {X:Cx} {e:Expr} {ty:TE} {px apos cpos:Pos}
end
end L2
namespace L2.VL
open PySem PySem.Spec PyProof.Rows
section
variable {X:Cx} {rl:RlT} {a b c e:Expr} {es:List Expr} {fa fb fc:TV} {fs:TVs} {pos p p2 px apos cpos:Pos}
end
end L2.VL

set_option exponentiation.threshold 10000
namespace L2.VL
open PySem PySem.Spec PyProof.Rows
noncomputable def lowD (a b:Int):PyData:=.tuple [.int (a.fdiv (Int.gcd a b)),.int (b.fdiv (Int.gcd a b))]
theorem gcd_div {a b:Int} (hb : 0 < b) (z:b.natAbs < 2 ^ 8000) (i:Int):CDivB i (Int.gcd a b:Int):=by
  have h1:=gcd_pos (a:=a) (b:=b) (by omega)
  have h2:=gcd_le (a:=a) (b:=b) (by omega)
  exact ⟨by omega,Nat.lt_of_le_of_lt (by omega) (Nat.lt_of_lt_of_le z (Nat.pow_le_pow_right (by decide) (by decide)))⟩
end L2.VL
namespace L2.VL
open PySem PySem.Spec PyProof.Rows
noncomputable def GoodB (bs:List Int):Prop:=bs.length = 4 /\ (∀ b ∈ bs,2 <= b /\ b <= 16) /\ bs.Pairwise fun x y=>Int.gcd x y = 1
instance (bs:List Int):Decidable (GoodB bs):=by unfold GoodB; infer_instance
theorem sIx_int {n d:Nat} {k:Int} (h : 0 <= k):HT.sIx n d (some k) = min k.toNat n:=by
  obtain ⟨m,rfl⟩:=Int.eq_ofNat_of_zero_le h
  exact HT.sIx_nat n d m
theorem cut_from {xs:List PyData} {k:Int} (h : 0 <= k):cutD xs (some k) none = xs.drop k.toNat:=by
  unfold cutD
  rw [sIx_int h,HT.sIx_none]
  by_cases hk:k.toNat <= xs.length
  · rw [Nat.min_eq_left hk]
    exact List.take_of_length_le (by simp)
  · rw [Nat.min_eq_right (by omega),List.drop_length,List.drop_of_length_le (by omega)]
    simp
end L2.VL
namespace L2.VL
open PySem PySem.Spec PyProof.Rows
noncomputable def pr (a b:Int):PyData:=.tuple [.int a,.int b]
end L2.VL
namespace L2.VL
open PySem PySem.Spec PyProof.Rows
end L2.VL
namespace L2.VL
open PySem PySem.Spec PyProof.Rows
end L2.VL
namespace L2.VL
open PySem PySem.Spec PyProof.Rows
end L2.VL
namespace L2.VL
open PySem PySem.Spec PyProof.Rows
end L2.VL
namespace L2.VL
open PySem PySem.Spec PyProof.Rows
end L2.VL
namespace L2.VL
open PySem PySem.Spec PyProof.Rows
theorem GlK.pair {K:W.Frag} {x:Str} {a b:Int} {p:Addr} {sl:Array (Option Value)} {t u:Tok} {n:Nat} (h1:W.nsIn K mainGlobals x = some (some (.ref p)))
    (h2:K.lookup p = some ⟨.type "tuple", none,.seq #[.int a t,.int b u] n,sl⟩):GlK K x (pr a b):=by
  refine ⟨.ref p,.ref p,h1,rfl,fun F=>.tup (vs:=[.int a,.int b]) (.inr ⟨_,_,n,h2,rfl,rfl,(by show 2 <= sizeLine; decide),.cons ⟨t,rfl⟩ (.cons ⟨u,rfl⟩ .nil),rfl⟩) (.cons (.int a) (.cons (.int b) .nil))⟩
end L2.VL

set_option exponentiation.threshold 10000
namespace L2.VL
open PySem PySem.Spec PyProof.Rows
noncomputable def stepT (b:Int) (p:List Int) (t:Int) (a:Nat):Int:=t * b + p.getD a 0
end L2.VL
namespace L2.VL
open PySem PySem.Spec PyProof.Rows
noncomputable def unI:PyData -> Int
  | .int i=>i
  | _=>0
end L2.VL
namespace L2.VL
open PySem PySem.Spec PyProof.Rows
end L2.VL

namespace L2.VL
open PySem PySem.Spec PyProof.Rows
section
variable {P:Program} {w:World} {K:W.Frag} {mg:Str -> Option Value} {base:Heap} {rl:RlT} {x:Str} {st:Stmt} {N ps:List Str} {k:Nat} {Pd:List W -> (List PyData -> Prop) -> Prop} {t:TSv}
end
section
variable {X:Cx} {rl:RlT} {a b c e:Expr} {es:List Expr} {fa fb fc:TV} {fs:TVs} {pos p p2 px apos cpos:Pos}
end
end L2.VL

namespace L2.IX
open PySem PySem.Spec PyProof.Rows
section
variable {prog:Program} {w:World} {A:Around} {E:Value -> Shared -> Prop} {s:Shared}
end
end L2.IX
namespace L2
open PySem PySem.Spec PyProof.Rows
section
variable {X:Cx}
end
end L2
namespace L2.VL
open PySem PySem.Spec PyProof.Rows
section
variable {X:Cx} {rl:RlT} {a b c e:Expr} {es:List Expr} {fa fb fc:TV} {fs:TVs} {pos p p2 px apos cpos:Pos}
noncomputable def isNonD:PyData -> Bool
  | .none=>true
  | _=>false
noncomputable def gRepL:W -> W -> (W -> Prop) -> Prop:=fun x y Q=>∃ xs k,x.dat = some (.list xs) /\ y = .d (.int k) /\ -(2 ^ 63) <= k /\ k < 2 ^ 63 /\ xs.length * k.toNat <= sizeLine /\ Q (.ml (List.replicate k.toNat xs).flatten)
theorem repsL {K:W.Frag} {F:Hp} {vs:List V} {ds:List PyData} (r:Reps K F vs ds):∀ n:Nat,Reps K F (List.replicate n vs).flatten (List.replicate n ds).flatten
  | 0=>.nil
  | n + 1=>by rw [List.replicate_succ,List.replicate_succ,List.flatten_cons,List.flatten_cons]; exact r.append (repsL r n)
theorem vo_repL:VOp X rl rRep gRepL:=fun {F H x y wx wy} Qd Q s ra r1 r2 q k=>by
  obtain ⟨xs,n,e1,rfl,h1,h2,hz,q⟩:=q
  have ey:=rep_int r2
  subst ey
  obtain ⟨a,vs,rfl,hh,rs⟩:=r1.lst s e1
  refine ⟨a,n,vs,rfl,rfl,hh,h1,h2,by rw [rs.length]; exact hz,fun p hp=>?_⟩
  exact k _ (.ml _) _ _ (Grow.laid s ra hp) (own_laid s ra hp (repsL rs n.toNat)) (fun a ea=>by cases ea; exact hp) q
theorem v_repL (ha:PV X rl a fa) (hb:PV X rl b fb):PV X rl (.BinOp a .Mult b pos) (vOp gRepL fa fb):=pv_op op_rep vo_repL ha hb
end
end L2.VL

namespace L2.ZP
open PySem PySem.Spec PyProof.Rows
section
variable {prog:Program} {w:World} {A:Around} {E:Value -> Shared -> Prop} {s:Shared} {it a:Addr} {k:Nat} {xs:Array Value} {v:Value}
theorem tn_item {Q:Value -> Shared -> Prop} (st:s.heap.IsTupleIter it a k) (tu:s.heap.IsTuple a xs) (e:xs[k]? = some v)
    (q:∀ g,g.IsTupleIter it a (k + 1) -> Heap.SameBut it s.heap g -> Q v { s with heap:=g }):wpAny (model prog w) A (Builtin.SmallTypes.nextOf (.ref it)) Q E s:=by
  have ty:=st.typeIs
  obtain ⟨o,oe,oc,od⟩:=st
  obtain ⟨l,le,_,_,ld⟩:=tu
  unfold Builtin.SmallTypes.nextOf
  have sl:=F.slot_tuple_iterator_next
  refine wpAny_bind (wpAny_callSpecial?_slot (name:=Str.ofString "__next__") ty sl (wpAny_call_entry sl ty F.entry_tuple_iterator_next ?_ (F.args_tuple_iterator_next_1 _)))
  show wpAny _ _ (do let z <- field (.ref it) 0; _) _ _ s
  refine wpAny_bind (wpAny_field oe od (x:=.ref a) rfl ?_)
  show wpAny _ _ (ite ((Value.ref a == Value.none) = true) _ _) _ _ s
  rw [if_neg (show ¬ (Value.ref a == .none) = true by intro z; cases z)]
  show wpAny _ _ (do let z <- field (.ref it) 1; _) _ _ s
  refine wpAny_bind (wpAny_field oe od (x:=.int k 0) rfl ?_)
  show wpAny _ _ (do let z <- seqItems? (.ref a); _) _ _ s
  refine wpAny_bind (wpAny_seqItems le ld ?_)
  simp only [Int.toNat_natCast,e]
  refine wpAny_bind (wpAny_setField oe od (by simp) (wpAny_pure ⟨v,rfl,wpAny_pure (q _ ?_ (Heap.SameBut.update ..))⟩))
  refine ⟨_,Heap.get?_update_self _ oe (Obj.isFreed_of_fields (Obj.data_mapFields od _)),?_,?_⟩
  · exact (Obj.cls_mapFields ..).trans oc
  · rw [Obj.data_mapFields od]; simp [rawInt]
theorem tn_end {Q:Value -> Shared -> Prop} (hd:A.handled = none) (st:s.heap.IsTupleIter it a k) (tu:s.heap.IsTuple a xs) (e:xs[k]? = none)
    (q:∀ g x,Heap.ExtBut it s.heap g -> (∃ o,g.get? x = some o /\ o.cls = .type "StopIteration") -> E (.ref x) { s with heap:=g }):wpAny (model prog w) A (Builtin.SmallTypes.nextOf (.ref it)) Q E s:=by
  have ty:=st.typeIs
  obtain ⟨o,oe,oc,od⟩:=st
  obtain ⟨l,le,_,_,ld⟩:=tu
  unfold Builtin.SmallTypes.nextOf
  have sl:=F.slot_tuple_iterator_next
  refine wpAny_bind (wpAny_callSpecial?_slot (name:=Str.ofString "__next__") ty sl (wpAny_call_entry sl ty F.entry_tuple_iterator_next ?_ (F.args_tuple_iterator_next_1 _)))
  show wpAny _ _ (do let z <- field (.ref it) 0; _) _ _ s
  refine wpAny_bind (wpAny_field oe od (x:=.ref a) rfl ?_)
  show wpAny _ _ (ite ((Value.ref a == Value.none) = true) _ _) _ _ s
  rw [if_neg (show ¬ (Value.ref a == .none) = true by intro z; cases z)]
  show wpAny _ _ (do let z <- field (.ref it) 1; _) _ _ s
  refine wpAny_bind (wpAny_field oe od (x:=.int k 0) rfl ?_)
  show wpAny _ _ (do let z <- seqItems? (.ref a); _) _ _ s
  refine wpAny_bind (wpAny_seqItems le ld ?_)
  simp only [Int.toNat_natCast,e]
  refine wpAny_bind (wpAny_rule (wpAny_bind (wpAny_setField oe od (by simp) ?_)))
  show wpAny _ _ (do let z <- newExc (.type "StopIteration") []; _) _ _ _
  refine wpAny_bind ?_
  simp only [newExc,newTuple]
  refine wpAny_bind (wpAny_newObj_type ?_ (by size_fits))
  refine wpAny_bind (m:=firstArgMember _ _) (wpAny_of_eq (a:=.none) (by first | rfl | (simp only [firstArgMember]; rfl)) (wpAny_newObj_type ?_ (by size_fits)))
  simp only [raiseNew]
  refine wpAny_bind (wpAny_handled ?_)
  first
    | rw [show A.in1.handled = none from hd]
    | rw [hd]
  refine wpAny_bind (wpAny_pure (wpAny_throw ?_))
  exact q _ _ (((Heap.SameBut.update ..).extBut.push _).push _) ⟨_,Heap.get?_push_size _ rfl,rfl⟩
end
noncomputable def It1 (h:Heap) (it a:Addr) (xs:Array Value) (k:Nat):Prop:=(h.IsListIter it a k /\ h.IsList a xs) \/ (h.IsTupleIter it a k /\ h.IsTuple a xs)
section
variable {prog:Program} {w:World} {A:Around} {E:Value -> Shared -> Prop} {s:Shared} {it a:Addr} {k:Nat} {xs:Array Value} {v:Value}
theorem It1.item {Q:Value -> Shared -> Prop} (st:It1 s.heap it a xs k) (ne:a ≠ it) (e:xs[k]? = some v)
    (q:∀ g,It1 g it a xs (k + 1) -> Heap.SameBut it s.heap g -> Q v { s with heap:=g }):wpAny (model prog w) A (Builtin.SmallTypes.nextOf (.ref it)) Q E s:=by
  rcases st with ⟨h1,h2⟩ | ⟨h1,h2⟩
  · exact wpAny_nextOf_list_item h1 h2 e fun g h3 h4=>q g (.inl ⟨h3,h2.extBut h4.extBut ne⟩) h4
  · exact tn_item h1 h2 e fun g h3 h4=>q g (.inr ⟨h3,h2.extBut h4.extBut ne⟩) h4
theorem It1.fin {Q:Value -> Shared -> Prop} (hd:A.handled = none) (st:It1 s.heap it a xs k) (e:xs[k]? = none)
    (q:∀ g x,Heap.ExtBut it s.heap g -> (∃ o,g.get? x = some o /\ o.cls = .type "StopIteration") -> E (.ref x) { s with heap:=g }):wpAny (model prog w) A (Builtin.SmallTypes.nextOf (.ref it)) Q E s:=by
  rcases st with ⟨h1,h2⟩ | ⟨h1,h2⟩
  · exact wpAny_nextOf_list_end hd h1 h2 e q
  · exact tn_end hd h1 h2 e q
theorem It1.keep {h h':Heap} (st:It1 h it a xs k) (e1:∀ o,h.get? it = some o -> h'.get? it = some o) (e2:∀ o,h.get? a = some o -> h'.get? a = some o):It1 h' it a xs k:=by
  rcases st with ⟨⟨o,h1,r1⟩,⟨p,h2,r2⟩⟩ | ⟨⟨o,h1,r1⟩,⟨p,h2,r2⟩⟩
  · exact .inl ⟨⟨o,e1 _ h1,r1⟩,⟨p,e2 _ h2,r2⟩⟩
  · exact .inr ⟨⟨o,e1 _ h1,r1⟩,⟨p,e2 _ h2,r2⟩⟩
end
end L2.ZP
namespace L2.ZP
open PySem PySem.Spec PyProof.Rows
section
variable {prog:Program} {w:World} {A:Around} {E:Value -> Shared -> Prop} {s:Shared} {z ti to i1 i2 a1 a2:Addr} {k1 k2:Nat} {xs ys:Array Value} {x y p q:Value}
theorem SameBut.keep {a b:Addr} {h h':Heap} (sb:Heap.SameBut a h h') (ne:b ≠ a):∀ o,h.get? b = some o -> h'.get? b = some o:=fun o e=>sb.extBut _ _ ne e
theorem zn_item {Q:Value -> Shared -> Prop} (D:ZipApart z ti to i1 i2 a1 a2) (oz:IsZip s.heap z ti to .none) (oi:IsPair s.heap ti (.ref i1) (.ref i2)) (oo:IsPair s.heap to p q)
    (s1:It1 s.heap i1 a1 xs k1) (s2:It1 s.heap i2 a2 ys k2) (ex:xs[k1]? = some x) (ey:ys[k2]? = some y)
    (done:∀ g,IsZip g z ti to (rawInt s.heap.objs.size) -> IsPair g to x y -> It1 g i1 a1 xs (k1 + 1) -> It1 g i2 a2 ys (k2 + 1) -> IsPair g s.heap.objs.size x y -> g.objs.size = s.heap.objs.size + 1 ->
      (∀ b o,b ≠ z -> b ≠ to -> b ≠ i1 -> b ≠ i2 -> s.heap.get? b = some o -> g.get? b = some o) -> Q (.ref s.heap.objs.size) { s with heap:=g }) :
    wpAny (model prog w) A (Builtin.«zip.__next__» ⟨[.ref z],[]⟩) (fun r s'=>∃ u,r = .done (.ret u) /\ Q u s') E s:=by
  show wpAny _ _ (do let c <- field (.ref z) 2; _) _ _ _
  refine wpAny_bind (wpAny_field oz rfl (x:=.bool false) rfl ?_)
  show wpAny _ _ (do let c <- field (.ref z) 3; _) _ _ _
  refine wpAny_bind (wpAny_field oz rfl (x:=.ref ti) rfl ?_)
  refine wpAny_bind (wpAny_seqItems oi rfl ?_)
  show wpAny _ _ (do let c <- Builtin.SmallTypes.ownedTupleIsFree (.ref z); _) _ _ _
  refine wpAny_bind ?_
  unfold Builtin.SmallTypes.ownedTupleIsFree
  refine wpAny_bind (wpAny_field oz rfl (x:=Value.none) rfl (wpAny_pure ?_))
  simp only [if_true]
  refine wpAny_bind (wpAny_rule (wpAny_bind (wpAny_field oz rfl (x:=.ref to) rfl (wpAny_bind (wpAny_setField_rec oz (by simp) fun g1 z1 b1=>?_)))))
  have z1:IsZip g1 z ti to .ellipsis:=z1
  refine wpAny_bind ?_
  simp only [List.forIn_cons,List.forIn_nil,List.zipIdx_cons,List.zipIdx_nil]
  have s1a:It1 g1 i1 a1 xs k1:=s1.keep (SameBut.keep b1 D.i1z) (SameBut.keep b1 D.l1z)
  refine wpAny_bind (wpAny_bind (wpAny_onRaise ?_))
  show wpAny _ _ (do let c <- Builtin.SmallTypes.nextOf (.ref i1); _) _ _ _
  refine wpAny_bind (s1a.item D.l1i1 ex fun g2 s1b b2=>wpAny_pure ?_)
  have o2:IsPair g2 to p q:=b2.extBut _ _ D.TOi1 (b1.extBut _ _ D.TOz oo)
  refine wpAny_bind (wpAny_seqItems o2 rfl (wpAny_bind (wpAny_updateSeq_pair o2 fun g3 o3 b3=>?_)))
  have o3:IsPair g3 to x q:=o3
  refine wpAny_bind (wpAny_letGo (wpAny_pure ?_))
  have s2a:It1 g3 i2 a2 ys k2:=((s2.keep (SameBut.keep b1 D.i2z) (SameBut.keep b1 D.l2z)).keep (SameBut.keep b2 D.i12.symm) (SameBut.keep b2 D.l2i1)).keep (SameBut.keep b3 D.TOi2.symm) (SameBut.keep b3 D.l2TO)
  refine wpAny_bind (wpAny_bind (wpAny_onRaise ?_))
  show wpAny _ _ (do let c <- Builtin.SmallTypes.nextOf (.ref i2); _) _ _ _
  refine wpAny_bind (s2a.item D.l2i2 ey fun g4 s2b b4=>wpAny_pure ?_)
  have o4:IsPair g4 to x q:=b4.extBut _ _ D.TOi2 o3
  refine wpAny_bind (wpAny_seqItems o4 rfl (wpAny_bind (wpAny_updateSeq_pair o4 fun g5 o5 b5=>?_)))
  have o5:IsPair g5 to x y:=o5
  refine wpAny_bind (wpAny_letGo (wpAny_pure (wpAny_pure ?_)))
  refine wpAny_bind (wpAny_seqItems o5 rfl (wpAny_bind (wpAny_newTuple ?_)))
  have size:g5.objs.size = s.heap.objs.size:=by rw [b5.1,b4.1,b3.1,b2.1,b1.1]
  have z5:IsZip g5 z ti to .ellipsis:=b5.extBut _ _ D.TOz.symm (b4.extBut _ _ D.i2z.symm (b3.extBut _ _ D.TOz.symm (b2.extBut _ _ D.i1z.symm z1)))
  have kp:∀ b o,b ≠ z -> b ≠ to -> b ≠ i1 -> b ≠ i2 -> s.heap.get? b = some o -> g5.get? b = some o:=fun b o n1 n2 n3 n4 e=>b5.extBut _ _ n2 (b4.extBut _ _ n4 (b3.extBut _ _ n2 (b2.extBut _ _ n3 (b1.extBut _ _ n1 e))))
  have s1c:It1 g5 i1 a1 xs (k1 + 1):=((s1b.keep (SameBut.keep b3 D.TOi1.symm) (SameBut.keep b3 D.l1TO)).keep (SameBut.keep b4 D.i12) (SameBut.keep b4 D.l1i2)).keep (SameBut.keep b5 D.TOi1.symm) (SameBut.keep b5 D.l1TO)
  have s2c:It1 g5 i2 a2 ys (k2 + 1):=s2b.keep (SameBut.keep b5 D.TOi2.symm) (SameBut.keep b5 D.l2TO)
  have zl:z < g5.objs.size:=Heap.lt_size z5
  show wpAny _ _ (do Builtin.SmallTypes.ownedTupleHandOut (.ref z) (.ref g5.objs.size); _) _ _ _
  refine wpAny_bind ?_
  unfold Builtin.SmallTypes.ownedTupleHandOut
  have z6:IsZip (g5.push { cls:=.type "tuple", data:=.seq #[x,y] }) z ti to .ellipsis:=Heap.get?_push_of_some _ z5
  refine wpAny_bind (wpAny_setField_rec z6 (by simp) fun g7 z7 b7=>?_)
  have z7:IsZip g7 z ti to (rawInt g5.objs.size):=z7
  refine wpAny_setField_rec z7 (by simp) fun g8 z8 b8=>?_
  have z8:IsZip g8 z ti to (rawInt g5.objs.size):=z8
  have up:∀ b o,b ≠ z -> g5.get? b = some o -> g8.get? b = some o:=fun b o n e=>b8.extBut _ _ n (b7.extBut _ _ n (Heap.get?_push_of_some _ e))
  have t8:IsPair g8 g5.objs.size x y:=b8.extBut _ _ (Nat.ne_of_gt zl) (b7.extBut _ _ (Nat.ne_of_gt zl) (Heap.get?_push_size _ rfl))
  have l8:g8.objs.size = g5.objs.size + 1:=by rw [b8.1,b7.1,Heap.size_push]
  rw [size] at z8 t8 l8
  refine wpAny_pure ⟨_,rfl,?_⟩
  show Q (.ref g5.objs.size) _
  rw [size]
  exact done g8 z8 (up _ _ D.TOz o5) (s1c.keep (fun o e=>up _ o D.i1z e) fun o e=>up _ o D.l1z e) (s2c.keep (fun o e=>up _ o D.i2z e) fun o e=>up _ o D.l2z e) t8 l8 fun b o n1 n2 n3 n4 e=>up b o n1 (kp b o n1 n2 n3 n4 e)
theorem zn_end {Q:Fin -> Shared -> Prop} (hd:A.handled = none) (D:ZipApart z ti to i1 i2 a1 a2) (oz:IsZip s.heap z ti to .none) (oi:IsPair s.heap ti (.ref i1) (.ref i2)) (oo:IsPair s.heap to p q)
    (s1:It1 s.heap i1 a1 xs k1) (s2:It1 s.heap i2 a2 ys k2) (e:xs[k1]? = none \/ ys[k2]? = none)
    (q':∀ g x,(∀ b o,b ≠ z -> b ≠ to -> b ≠ i1 -> b ≠ i2 -> s.heap.get? b = some o -> g.get? b = some o) -> (∃ o,g.get? x = some o /\ o.cls = .type "StopIteration") -> E (.ref x) { s with heap:=g }) :
    wpAny (model prog w) A (Builtin.«zip.__next__» ⟨[.ref z],[]⟩) Q E s:=by
  show wpAny _ _ (do let c <- field (.ref z) 2; _) _ _ _
  refine wpAny_bind (wpAny_field oz rfl (x:=.bool false) rfl ?_)
  show wpAny _ _ (do let c <- field (.ref z) 3; _) _ _ _
  refine wpAny_bind (wpAny_field oz rfl (x:=.ref ti) rfl ?_)
  refine wpAny_bind (wpAny_seqItems oi rfl ?_)
  show wpAny _ _ (do let c <- Builtin.SmallTypes.ownedTupleIsFree (.ref z); _) _ _ _
  refine wpAny_bind ?_
  unfold Builtin.SmallTypes.ownedTupleIsFree
  refine wpAny_bind (wpAny_field oz rfl (x:=Value.none) rfl (wpAny_pure ?_))
  simp only [if_true]
  refine wpAny_bind (wpAny_rule (wpAny_bind (wpAny_field oz rfl (x:=.ref to) rfl (wpAny_bind (wpAny_setField_rec oz (by simp) fun g1 z1 b1=>?_)))))
  have z1:IsZip g1 z ti to .ellipsis:=z1
  refine wpAny_bind ?_
  simp only [List.forIn_cons,List.forIn_nil,List.zipIdx_cons,List.zipIdx_nil]
  have s1a:It1 g1 i1 a1 xs k1:=s1.keep (SameBut.keep b1 D.i1z) (SameBut.keep b1 D.l1z)
  refine wpAny_bind (wpAny_bind (wpAny_onRaise ?_))
  show wpAny _ _ (do let c <- Builtin.SmallTypes.nextOf (.ref i1); _) _ _ _
  have last:∀ (g g':Heap) (u:Addr) (o:Obj),g.get? u = some o -> o.cls = .type "StopIteration" -> IsZip g z ti to .ellipsis -> Heap.SameBut z g g' -> ∃ o,g'.get? u = some o /\ o.cls = .type "StopIteration" := fun g g' u o h1 h2 h3 sb=>by
    have ne:u ≠ z:=fun c=>by rw [c,h3] at h1; cases h1; simp at h2
    exact ⟨o,sb.extBut _ _ ne h1,h2⟩
  cases ex:xs[k1]? with
  | none =>
    refine wpAny_bind (s1a.fin hd ex fun g2 u b2 ⟨o,ou,oc⟩=>?_)
    have z2:IsZip g2 z ti to .ellipsis:=b2 _ _ D.i1z.symm z1
    exact wpAny_setField_rec z2 (by simp) fun g3 _ b3=>q' g3 u (fun b o n1 _ n3 _ e=>b3.extBut _ _ n1 (b2 _ _ n3 (b1.extBut _ _ n1 e))) (last g2 g3 u o ou oc z2 b3)
  | some x =>
    have ey:ys[k2]? = none:=e.elim (fun h=>by rw [ex] at h; cases h) id
    refine wpAny_bind (s1a.item D.l1i1 ex fun g2 s1b b2=>wpAny_pure ?_)
    have o2:IsPair g2 to p q:=b2.extBut _ _ D.TOi1 (b1.extBut _ _ D.TOz oo)
    refine wpAny_bind (wpAny_seqItems o2 rfl (wpAny_bind (wpAny_updateSeq_pair o2 fun g3 o3 b3=>?_)))
    refine wpAny_bind (wpAny_letGo (wpAny_pure ?_))
    have s2a:It1 g3 i2 a2 ys k2:=((s2.keep (SameBut.keep b1 D.i2z) (SameBut.keep b1 D.l2z)).keep (SameBut.keep b2 D.i12.symm) (SameBut.keep b2 D.l2i1)).keep (SameBut.keep b3 D.TOi2.symm) (SameBut.keep b3 D.l2TO)
    refine wpAny_bind (wpAny_bind (wpAny_onRaise ?_))
    show wpAny _ _ (do let c <- Builtin.SmallTypes.nextOf (.ref i2); _) _ _ _
    refine wpAny_bind (s2a.fin hd ey fun g4 u b4 ⟨o,ou,oc⟩=>?_)
    have z4:IsZip g4 z ti to .ellipsis:=b4 _ _ D.i2z.symm (b3.extBut _ _ D.TOz.symm (b2.extBut _ _ D.i1z.symm z1))
    exact wpAny_setField_rec z4 (by simp) fun g5 _ b5=>q' g5 u (fun b o n1 n2 n3 n4 e=>b5.extBut _ _ n1 (b4 _ _ n4 (b3.extBut _ _ n2 (b2.extBut _ _ n3 (b1.extBut _ _ n1 e))))) (last g4 g5 u o ou oc z4 b5)
end
end L2.ZP
namespace L2.ZP
open PySem PySem.Spec PyProof.Rows
noncomputable def Sq1 (b:Bool) (h:Heap) (a:Addr) (xs:Array Value):Prop:=bif b then h.IsTuple a xs else h.IsList a xs
noncomputable def itc (b:Bool):String:=bif b then "tuple_iterator" else "list_iterator"
theorem Sq1.push {b:Bool} {h:Heap} {a:Addr} {xs:Array Value} (q:Sq1 b h a xs) (o:Obj):Sq1 b (h.push o) a xs:=by
  cases b with
  | true=>exact Heap.IsTuple.push q o
  | false=>exact Heap.IsList.push q o
section
variable {prog:Program} {w:World} {A:Around} {E:Value -> Shared -> Prop} {s:Shared} {b b1 b2:Bool} {a a1 a2:Addr} {xs ys:Array Value}
theorem iter1 {Q:Value -> Shared -> Prop} (st:Sq1 b s.heap a xs) (q:Q (.ref s.heap.objs.size) { s with heap:=s.heap.push { cls:=.type (itc b),data:=.fields #[.ref a,.int 0 0] } }):wpAny (model prog w) A (pyIter (.ref a)) Q E s:=by
  cases b with
  | true=>exact wpAny_pyIter_tuple st q
  | false=>exact wpAny_pyIter_list st q
abbrev y1 (h:Heap) (b1:Bool) (a1:Addr):Heap:=h.push { cls:=.type (itc b1),data:=.fields #[.ref a1,.int 0 0] }
abbrev y2 (h:Heap) (b1 b2:Bool) (a1 a2:Addr):Heap:=(y1 h b1 a1).push { cls:=.type (itc b2),data:=.fields #[.ref a2,.int 0 0] }
abbrev y3 (h:Heap) (b1 b2:Bool) (a1 a2:Addr):Heap:=(y2 h b1 b2 a1 a2).push { cls:=.type "tuple", data:=.seq #[.ref h.objs.size,.ref (y1 h b1 a1).objs.size] }
abbrev y4 (h:Heap) (b1 b2:Bool) (a1 a2:Addr):Heap:=(y3 h b1 b2 a1 a2).push { cls:=.type "tuple", data:=.seq #[.none,.none] }
abbrev y5 (h:Heap) (b1 b2:Bool) (a1 a2:Addr):Heap:=(y4 h b1 b2 a1 a2).push { cls:=.type "zip", data:=.fields #[.none,.bool false,.bool false,.ref (y2 h b1 b2 a1 a2).objs.size,.ref (y3 h b1 b2 a1 a2).objs.size] }
theorem zip_new (b1 b2:Bool) (a1 a2:Addr) (xs ys:Array Value) :
    Meets (Builtin.«zip.__new__» ⟨[.type "zip", .ref a1,.ref a2],[]⟩) (fun _ R s=>Sq1 b1 s.heap a1 xs /\ Sq1 b2 s.heap a2 ys /\ R (.ok (.ret (.ref (y4 s.heap b1 b2 a1 a2).objs.size))) { s with heap:=y5 s.heap b1 b2 a1 a2 }) :=
  .of_wp fun prog w A R s h=>by
    obtain ⟨hp,g,d,tk,os⟩:=s
    obtain ⟨q1,q2,h⟩:=h
    have hsub:=sub_zip
    have k1:Sq1 b1 (Shared.heap ⟨hp,g,d,tk,os⟩) a1 xs:=q1
    have k2:Sq1 b2 (Shared.heap ⟨hp.push { cls:=.type (itc b1),data:=.fields #[.ref a1,.int 0 0] },g,d,tk,os⟩) a2 ys:=q2.push _
    wp_walk using iter1 k1,iter1 k2
    exact ⟨_,rfl,h⟩
theorem call_zip {Q:Value -> Shared -> Prop} (q1:Sq1 b1 s.heap a1 xs) (q2:Sq1 b2 s.heap a2 ys)
    (k:∀ g,IsZip g (s.heap.objs.size + 4) (s.heap.objs.size + 2) (s.heap.objs.size + 3) .none -> IsPair g (s.heap.objs.size + 2) (.ref s.heap.objs.size) (.ref (s.heap.objs.size + 1)) -> IsPair g (s.heap.objs.size + 3) .none .none ->
      It1 g s.heap.objs.size a1 xs 0 -> It1 g (s.heap.objs.size + 1) a2 ys 0 -> g.objs.size = s.heap.objs.size + 5 -> (∀ c o,s.heap.get? c = some o -> g.get? c = some o) -> Q (.ref (s.heap.objs.size + 4)) { s with heap:=g }) :
    wpAny (model prog w) A (call (.type "zip") [.ref a1,.ref a2]) Q E s:=by
  refine callType_new F.called_zip (by decide) (F.typeCall_zip_2 _ _) (F.newCall_zip_2 _ _) (fun u=>F.args_object_init_3 u _ _) F.entry_zip_new (zip_new b1 b2 a1 a2 xs ys) ⟨q1,q2,?_⟩
  have n1:(y1 s.heap b1 a1).objs.size = s.heap.objs.size + 1:=Heap.size_push ..
  have n2:(y2 s.heap b1 b2 a1 a2).objs.size = s.heap.objs.size + 2:=by rw [Heap.size_push,n1]
  have n3:(y3 s.heap b1 b2 a1 a2).objs.size = s.heap.objs.size + 3:=by rw [Heap.size_push,n2]
  have n4:(y4 s.heap b1 b2 a1 a2).objs.size = s.heap.objs.size + 4:=by rw [Heap.size_push,n3]
  have n5:(y5 s.heap b1 b2 a1 a2).objs.size = s.heap.objs.size + 5:=by rw [Heap.size_push,n4]
  have pu:∀ {h:Heap} {o u:Obj} {c:Addr},h.get? c = some u -> (h.push o).get? c = some u:=fun e=>Heap.get?_push_of_some _ e
  have kp:∀ c o,s.heap.get? c = some o -> (y5 s.heap b1 b2 a1 a2).get? c = some o:=fun c o e=>pu (pu (pu (pu (pu e))))
  have f5:(y5 s.heap b1 b2 a1 a2).get? (y4 s.heap b1 b2 a1 a2).objs.size = some _:=Heap.get?_push_size _ rfl
  have f4:(y5 s.heap b1 b2 a1 a2).get? (y3 s.heap b1 b2 a1 a2).objs.size = some _:=pu (Heap.get?_push_size _ rfl)
  have f3:(y5 s.heap b1 b2 a1 a2).get? (y2 s.heap b1 b2 a1 a2).objs.size = some _:=pu (pu (Heap.get?_push_size _ rfl))
  have f2:(y5 s.heap b1 b2 a1 a2).get? (y1 s.heap b1 a1).objs.size = some _:=pu (pu (pu (Heap.get?_push_size _ rfl)))
  have f1:(y5 s.heap b1 b2 a1 a2).get? s.heap.objs.size = some _:=pu (pu (pu (pu (Heap.get?_push_size _ rfl))))
  show _ /\ _
  rw [n2,n3,n4] at f5
  rw [n1,n2] at f3
  rw [n3] at f4
  rw [n1] at f2
  rw [n4]
  have mk:∀ {b:Bool} {i a:Addr} {zs:Array Value},(y5 s.heap b1 b2 a1 a2).get? i = some { cls:=.type (itc b),data:=.fields #[.ref a,.int 0 0] } -> Sq1 b s.heap a zs -> It1 (y5 s.heap b1 b2 a1 a2) i a zs 0:=fun {b i a zs} e q=>by
    cases b with
    | true=>obtain ⟨o,h1,h2⟩:=(show s.heap.IsTuple a zs from q); exact .inr ⟨⟨_,e,rfl,rfl⟩,⟨o,kp _ _ h1,h2⟩⟩
    | false=>obtain ⟨o,h1,h2⟩:=(show s.heap.IsList a zs from q); exact .inl ⟨⟨_,e,rfl,rfl⟩,⟨o,kp _ _ h1,h2⟩⟩
  exact ⟨⟨_,f5,rfl⟩,k _ f5 f3 f4 (mk f1 q1) (mk f2 q2) n5 kp⟩
end
end L2.ZP
namespace L2
open PySem PySem.Spec PyProof.Rows L2.ZP
theorem Inv.turnedL {X:Cx} {pins:List (Addr × Obj)} {σ:St} {H:Hp} {s:Shared} {h':Heap} {t':Nat} {ch:List Addr} (I:Inv X pins σ H s) (k:∀ b o,b ∉ ch -> s.heap.get? b = some o -> h'.get? b = some o) (hn:∀ b ∈ ch,FpOk X pins H b) :
    Inv X pins σ H { s with heap:=h',toks:=t' }:=by
  have nit:∀ b u,H b = some u -> b ∉ ch:=fun b u e z=>by rw [(hn b z).1] at e; cases e
  refine I.step (g':=s.gens) (d':=s.drawn) (ch:=ch) (fun b hb=>?_) (fun b o _ _ hc e _=>k b o hc e) (fun b o _ _ hc e _=>⟨o.slots,k b o hc e⟩) (fun _ _ _ _ n=>n) (fun b o hc e=>⟨o,k b o hc e⟩) (fun _ _ e=>e) (fun _ _ _ e=>e) (fun b ps e=>⟨#[],by rw [e]; simp⟩) (fun m hm=>?_) (fun b u e=>?_) I.bare
  · obtain ⟨_,h2,_,h4,h5,h6⟩:=hn b hb
    exact ⟨h4,h2,h5,h6⟩
  · obtain ⟨o,es,ep,ho,r⟩:=hm
    exact ⟨o,es,ep,k _ o (fun z=>(hn _ z).2.1 rfl) ho,r⟩
  · refine (I.hok b u e).stay (fun c v hc q=>k c v ?_ q) (fun _ q=>q) fun _ _ q=>q
    rcases hc with z | z
    · rw [z]; exact nit b u e
    · exact nit c _ z
noncomputable def SqB (b:Bool) (K:W.Frag) (H:Hp) (a:Addr) (xs:List V):Prop:=bif b then SqT K H a xs else SqL K H a xs
theorem Inv.sqB {X:Cx} {pins:List (Addr × Obj)} {σ:St} {H:Hp} {s:Shared} {b:Bool} {a:Addr} {xs:List V} (I:Inv X pins σ H s) (h:SqB b X.K H a xs):∃ its,Vals xs its /\ Sq1 b s.heap a its.toArray:=by
  cases b with
  | true =>
    obtain ⟨its,r,t,z⟩:=I.tuple h
    exact ⟨its,r,t⟩
  | false =>
    obtain ⟨its,r,p,z⟩:=I.list h
    exact ⟨its,r,p.isList⟩
theorem Inv.sqB_inj {X:Cx} {pins:List (Addr × Obj)} {σ:St} {H:Hp} {s:Shared} {b:Bool} {a:Addr} {xs ys:List V} (I:Inv X pins σ H s) (h:SqB b X.K H a xs) (h':SqB b X.K H a ys):xs = ys:=by
  cases b with
  | true=>exact I.tuple_inj h h'
  | false=>exact I.list_inj h h'
noncomputable def Itz (K:W.Frag) (b1 b2:Bool) (a1 a2:Addr):It :=
  ⟨fun i H=>∃ xs ys x y,SqB b1 K H a1 xs /\ SqB b2 K H a2 ys /\ xs[i]? = some x /\ ys[i]? = some y,
   fun i H v H'=>∃ x y p,(∀ xs,SqB b1 K H a1 xs -> xs[i]? = some x) /\ (∀ ys,SqB b2 K H a2 ys -> ys[i]? = some y) /\ H p = none /\ v = .ref p /\ H' = upd H p (.tup [x,y]),
   fun i H=>∃ xs ys,SqB b1 K H a1 xs /\ SqB b2 K H a2 ys /\ (xs.length <= i \/ ys.length <= i)⟩
noncomputable def Ir1 (b:Bool) (h:Heap) (it a:Addr) (k:Nat):Prop:=bif b then h.IsTupleIter it a k else h.IsListIter it a k
theorem Ir1.it1 {b:Bool} {h:Heap} {it a:Addr} {k:Nat} {xs:Array Value} (q:Ir1 b h it a k) (r:Sq1 b h a xs):It1 h it a xs k:=by
  cases b with
  | true=>exact .inr ⟨q,r⟩
  | false=>exact .inl ⟨q,r⟩
theorem Ir1.keep {b:Bool} {h h':Heap} {it a:Addr} {k:Nat} (q:Ir1 b h it a k) (e:∀ o,h.get? it = some o -> h'.get? it = some o):Ir1 b h' it a k:=by
  cases b with
  | true=>obtain ⟨o,h1,r⟩:=(show h.IsTupleIter it a k from q); exact ⟨o,e _ h1,r⟩
  | false=>obtain ⟨o,h1,r⟩:=(show h.IsListIter it a k from q); exact ⟨o,e _ h1,r⟩
theorem Ir1.obj {b:Bool} {h:Heap} {it a:Addr} {k:Nat} (q:Ir1 b h it a k):∃ o,h.get? it = some o /\ ∀ v,o.data ≠ .cell v:=by
  cases b with
  | true=>obtain ⟨o,h1,_,d⟩:=(show h.IsTupleIter it a k from q); exact ⟨o,h1,fun v z=>by rw [d] at z; cases z⟩
  | false=>obtain ⟨o,h1,_,d⟩:=(show h.IsListIter it a k from q); exact ⟨o,h1,fun v z=>by rw [d] at z; cases z⟩
theorem It1.ir {b:Bool} {h:Heap} {it a:Addr} {k j:Nat} {xs:Array Value} {h0:Heap} (q:It1 h it a xs k) (r:Ir1 b h0 it a j) (s:Sq1 b h a xs):Ir1 b h it a k:=by
  cases b with
  | true =>
    rcases q with ⟨_,⟨o,e,c,_⟩⟩ | ⟨q,_⟩
    · obtain ⟨o',e',c',_⟩:=(show h.IsTuple a xs from s)
      rw [e] at e'; cases e'; rw [c] at c'; injection c' with z; exact absurd z (by decide)
    · exact q
  | false =>
    rcases q with ⟨q,_⟩ | ⟨_,⟨o,e,c,_⟩⟩
    · exact q
    · obtain ⟨o',e',c',_⟩:=(show h.IsList a xs from s)
      rw [e] at e'; cases e'; rw [c] at c'; injection c' with z; exact absurd z (by decide)
noncomputable def ZS (b1 b2:Bool) (z ti to i1 i2 a1 a2:Addr) (i:Nat) (h:Heap):Prop:=IsZip h z ti to .none /\ IsPair h ti (.ref i1) (.ref i2) /\ (∃ p q,IsPair h to p q) /\ Ir1 b1 h i1 a1 i /\ Ir1 b2 h i2 a2 i
theorem Sq1.of {b:Bool} {h h':Heap} {a:Addr} {xs:Array Value} (q:Sq1 b h a xs) (e:∀ o,h.get? a = some o -> h'.get? a = some o):Sq1 b h' a xs:=by
  cases b with
  | true=>obtain ⟨o,h1,r⟩:=(show h.IsTuple a xs from q); exact ⟨o,e _ h1,r⟩
  | false=>obtain ⟨o,h1,r⟩:=(show h.IsList a xs from q); exact ⟨o,e _ h1,r⟩
theorem turn_zip {P:Program} {w:World} {K:W.Frag} {elts:List Expr} {kt:Nat} {pt:Pos} (b1 b2:Bool) (z ti to i1 i2 a1 a2:Addr) (D:ZipApart z ti to i1 i2 a1 a2) :
    Turn P w K (.Tuple elts kt pt) (Itz K b1 b2 a1 a2) [z,ti,to,i1,i2] z (ZS b1 b2 z ti to i1 i2 a1 a2) where
  mem:=by simp
  obj:=fun i h ⟨h1,h2,⟨p,q,h3⟩,h4,h5⟩ b hb=>by
    simp at hb
    rcases hb with rfl | rfl | rfl | rfl | rfl
    · exact ⟨_,h1,fun v c=>by cases c⟩
    · exact ⟨_,h2,fun v c=>by cases c⟩
    · exact ⟨_,h3,fun v c=>by cases c⟩
    · exact h4.obj
    · exact h5.obj
  keep:=fun i h h' ⟨h1,h2,⟨p,q,h3⟩,h4,h5⟩ k=>⟨k z (by simp) _ h1,k ti (by simp) _ h2,⟨p,q,k to (by simp) _ h3⟩,h4.keep fun o e=>k i1 (by simp) o e,h5.keep fun o e=>k i2 (by simp) o e⟩
  item:=by
    intro X hP hw hK hc i pins s σ H E I hf st hg
    subst hP hw hK
    obtain ⟨h1,h2,⟨p,q,h3⟩,h4,h5⟩:=st
    obtain ⟨xs,ys,x,y,q1,q2,ex,ey⟩:=hg
    obtain ⟨its,r1,t1⟩:=I.sqB q1
    obtain ⟨jts,r2,t2⟩:=I.sqB q2
    obtain ⟨u,hu,ru⟩:=r1.get ex
    obtain ⟨v,hv,rv⟩:=r2.get ey
    have ty:s.TypeIs (.ref z) "zip" := ⟨_,h1,rfl⟩
    unfold pyNext
    refine wpAny_bind (wpAny_attempt (wpAny_callSpecial?_slot (name:=Str.ofString "__next__") ty F.slot_zip_next (wpAny_call_entry F.slot_zip_next ty F.entry_zip_next
      (zn_item D h1 h2 h3 (h4.it1 t1) (h5.it1 t2) (by simpa using hu) (by simpa using hv) fun g e1 e2 e3 e4 e5 e6 e7=>wpAny_pure ?_) (F.args_zip_next_1 _))))
    have hz:s.heap.objs.size ≠ z:=Nat.ne_of_gt (Heap.lt_size h1)
    refine ⟨.ref s.heap.objs.size,rfl,wpAny_letOwnedTupleGo_zip e1 fun g' f1 fb=>?_⟩
    have hp:H s.heap.objs.size = none:=I.hok.fresh (Nat.le_refl _)
    have I1:Inv X pins σ (upd H s.heap.objs.size (.tup [x,y])) { s with heap:=s.heap.push { cls:=.type "tuple", data:=.seq [u,v].toArray } } :=
      I.laid (t':=s.toks) (o:=.tup [x,y]) (fun b ob e=>Heap.get?_push_of_some _ e) (Nat.le_refl _) ⟨(by show 2 <= sizeLine; decide),[u,v],.cons ru (.cons rv .nil),IsTupD.new _ _⟩
    have ne:∀ b ∈ [z,ti,to,i1,i2],b ≠ s.heap.objs.size:=fun b hb e=>by
      simp at hb
      rcases hb with rfl | rfl | rfl | rfl | rfl
      · exact hz e.symm
      · exact absurd (Heap.lt_size h2) (by rw [e]; exact Nat.lt_irrefl _)
      · exact absurd (Heap.lt_size h3) (by rw [e]; exact Nat.lt_irrefl _)
      · obtain ⟨o,ho,_⟩:=h4.obj
        exact absurd (Heap.lt_size ho) (by rw [e]; exact Nat.lt_irrefl _)
      · obtain ⟨o,ho,_⟩:=h5.obj
        exact absurd (Heap.lt_size ho) (by rw [e]; exact Nat.lt_irrefl _)
    have kg:∀ b o,b ∉ [z,ti,to,i1,i2] -> (s.heap.push { cls:=.type "tuple", data:=.seq [u,v].toArray }).get? b = some o -> g'.get? b = some o:=fun b o hb e=>by
      simp at hb
      obtain ⟨n1,n2,n3,n4,n5⟩:=hb
      refine fb.extBut _ _ n1 ?_
      by_cases hbn:b = s.heap.objs.size
      · subst hbn
        rw [Heap.get?_push_size _ rfl] at e
        cases e
        exact e5
      · exact e7 b o n1 n3 n4 n5 (by rw [Heap.get?_push_ne _ _ _ hbn] at e; exact e)
    have fp1:∀ b ∈ [z,ti,to,i1,i2],FpOk X pins (upd H s.heap.objs.size (.tup [x,y])) b:=fun b hb=>by
      obtain ⟨f0,fr⟩:=hf b hb
      exact ⟨by rw [upd_ne (ne b hb)]; exact f0,fr⟩
    have I2:Inv X pins σ (upd H s.heap.objs.size (.tup [x,y])) { s with heap:=g' }:=I1.turnedL (t':=s.toks) kg fp1
    have k8:∀ b o,b ≠ z -> g.get? b = some o -> g'.get? b = some o:=fun b o n e=>fb.extBut _ _ n e
    have t1':Sq1 b1 g a1 its.toArray:=Sq1.of t1 fun o e=>e7 _ o D.l1z D.l1TO D.l1i1 D.l1i2 e
    have t2':Sq1 b2 g a2 jts.toArray:=Sq1.of t2 fun o e=>e7 _ o D.l2z D.l2TO D.l2i1 D.l2i2 e
    refine ⟨.ref s.heap.objs.size,_,I2,rfl,⟨x,y,_,fun xs' q'=>by rw [I.sqB_inj q' q1]; exact ex,fun ys' q'=>by rw [I.sqB_inj q' q2]; exact ey,hp,rfl,rfl⟩,⟨f1,k8 _ _ D.TIz (e7 _ _ D.TIz D.TITO D.TIi1 D.TIi2 h2),⟨_,_,k8 _ _ D.TOz e2⟩,(It1.ir e3 h4 t1').keep fun o e=>k8 _ o D.i1z e,(It1.ir e4 h5 t2').keep fun o e=>k8 _ o D.i2z e⟩,fun b hb=>(fp1 b hb).1⟩
  done:=by
    intro X hP hw hK hc i pins s σ H E I hf st hg
    subst hP hw hK
    obtain ⟨h1,h2,⟨p,q,h3⟩,h4,h5⟩:=st
    obtain ⟨xs,ys,q1,q2,ex⟩:=hg
    obtain ⟨its,r1,t1⟩:=I.sqB q1
    obtain ⟨jts,r2,t2⟩:=I.sqB q2
    have l1:=r1.length
    have l2:=r2.length
    have ty:s.TypeIs (.ref z) "zip" := ⟨_,h1,rfl⟩
    unfold pyNext
    refine wpAny_bind (wpAny_attempt (wpAny_callSpecial?_slot (name:=Str.ofString "__next__") ty F.slot_zip_next (wpAny_call_entry F.slot_zip_next ty F.entry_zip_next
      (zn_end (I.ok.hd hc) D h1 h2 h3 (h4.it1 t1) (h5.it1 t2) (by simp; omega) fun g e kg ⟨o,ho,hoc⟩=>?_) (F.args_zip_next_1 _))))
    refine wpAny_bind (wpAny_isInstance (T := "StopIteration") (b:=true) ⟨o,ho,hoc⟩ isSubtype_stop (wpAny_pure ⟨rfl,?_⟩))
    exact I.turnedL (t':=s.toks) (fun b o hb e=>by simp at hb; exact kg b o hb.1 hb.2.2.1 hb.2.2.2.1 hb.2.2.2.2 e) hf
  self:=fun _ _ _ _ _ st h=>wpAny_pyIter_zip st.1 h
end L2

namespace L2
open PySem PySem.Spec PyProof.Rows L2.ZP
section
variable {X:Cx} {e1 e2:Expr} {ta:TA} {elts:List Expr} {kt:Nat} {pt p pos:Pos}
noncomputable def iZip (K:W.Frag) (b1 b2:Bool) (t:TA):TI:=fun σ H R=>t σ H fun vs H1=>∃ a1 a2 xs ys,vs = [.ref a1,.ref a2] /\ SqB b1 K H1 a1 xs /\ SqB b2 K H1 a2 ys /\ R (Itz K b1 b2 a1 a2) H1
theorem pi_zip (b1 b2:Bool) (hg:Gl X "zip") (hm:X.mg "zip" = none) (ha:PA X [e1,e2] ta) (hs:starEach [e1,e2] X.env = (false,eval e1 X.env) :: starEach [e2] X.env:=by rfl) (hpl:(backTo pos (starEach [e2] X.env)).any (·.1) = false:=by rfl) :
    PI X (.Tuple elts kt pt) (.Call (.Name "zip" p) [e1,e2] [] pos) (iZip X.K b1 b2 ta):=by
  intro pins s σ H R I h
  refine Call_ (ld_blt I hg hm (by rfl) (PyProof.Rows.callWith_type1 (thn (ha pos pins s σ H _ I h) fun us s1 ⟨vs,H1,I1,r1,q1⟩=>?_) hs hpl) (by decide) (by decide))
  obtain ⟨a1,a2,xs,ys,ev,q1,q2,q⟩:=q1
  subst ev
  cases r1 with
  | cons r rr =>
    cases rr with
    | cons r' rr =>
      cases rr
      cases r
      cases r'
      obtain ⟨its,v1,t1⟩:=I1.sqB q1
      obtain ⟨jts,v2,t2⟩:=I1.sqB q2
      refine call_zip t1 t2 fun g f1 f2 f3 f4 f5 f6 kp=>wpAny_pyIter_zip f1 ?_
      have lt1:a1 < s1.heap.objs.size /\ a2 < s1.heap.objs.size:=by
        constructor
        · cases b1 with
          | true=>obtain ⟨o,ho,_⟩:=(show s1.heap.IsTuple a1 _ from t1); exact Heap.lt_size ho
          | false=>obtain ⟨o,ho,_⟩:=(show s1.heap.IsList a1 _ from t1); exact Heap.lt_size ho
        · cases b2 with
          | true=>obtain ⟨o,ho,_⟩:=(show s1.heap.IsTuple a2 _ from t2); exact Heap.lt_size ho
          | false=>obtain ⟨o,ho,_⟩:=(show s1.heap.IsList a2 _ from t2); exact Heap.lt_size ho
      obtain ⟨l1,l2⟩:=lt1
      have ap:∀ {n c:Nat},c < n -> ∀ k:Nat,c ≠ n + k:=fun h k e=>by omega
      have D:ZipApart (s1.heap.objs.size + 4) (s1.heap.objs.size + 2) (s1.heap.objs.size + 3) s1.heap.objs.size (s1.heap.objs.size + 1) a1 a2:=by
        generalize hN:s1.heap.objs.size = N at l1 l2
        exact ⟨by simp,by simp,by simp,by simp,by simp,by simp,by simp,by simp,by simp,by simp,ap l1 4,ap l1 3,ap l1 0,ap l1 1,ap l2 4,ap l2 3,ap l2 0,ap l2 1⟩
      have kg:∀ b o,s1.heap.get? b = some o -> g.get? b = some o:=kp
      have I2:Inv X pins σ H1 { s1 with heap:=g }:=I1.kept (t':=s1.toks) kg
      have ir:∀ {b:Bool} {it a:Addr} {zs:Array Value},It1 g it a zs 0 -> Sq1 b s1.heap a zs -> Ir1 b g it a 0:=fun {b it a zs} q r=>by
        have r':=Sq1.of r fun o e=>kg _ o e
        cases b with
        | true =>
          rcases q with ⟨_,⟨o,e,c,_⟩⟩ | ⟨q,_⟩
          · obtain ⟨o',e',c',_⟩:=(show g.IsTuple a zs from r')
            rw [e] at e'; cases e'; rw [c] at c'; injection c' with z; exact absurd z (by decide)
          · exact q
        | false =>
          rcases q with ⟨q,_⟩ | ⟨_,⟨o,e,c,_⟩⟩
          · exact q
          · obtain ⟨o',e',c',_⟩:=(show g.IsList a zs from r')
            rw [e] at e'; cases e'; rw [c] at c'; injection c' with z; exact absurd z (by decide)
      refine ⟨_,[s1.heap.objs.size + 4,s1.heap.objs.size + 2,s1.heap.objs.size + 3,s1.heap.objs.size,s1.heap.objs.size + 1],_,_,H1,rfl,I2,turn_zip b1 b2 _ _ _ _ _ a1 a2 D,⟨f1,f2,⟨_,_,f3⟩,ir f4 t1,ir f5 t2⟩,fun b hb=>?_,q⟩
      have hb':s1.heap.objs.size <= b:=by
        simp at hb
        rcases hb with rfl | rfl | rfl | rfl | rfl
        · exact Nat.le_add_right _ 4
        · exact Nat.le_add_right _ 2
        · exact Nat.le_add_right _ 3
        · exact Nat.le_refl _
        · exact Nat.le_add_right _ 1
      exact I1.fpOk hb' (I1.hok.fresh hb')
end
end L2
namespace L2.VL
open PySem PySem.Spec PyProof.Rows
section
variable {X:Cx} {rl:RlT} {a b:Expr} {elts:List Expr} {kt:Nat} {pt p pos:Pos} {fs:TVs}
noncomputable def zipD (xs ys:List PyData):List PyData:=List.zipWith (fun x y=>.tuple [x,y]) xs ys
noncomputable def kindB:PyData -> Bool
  | .tuple _=>true
  | _=>false
theorem rep_sq {K:W.Frag} {F:Hp} {v:V} {d:PyData} {xs:List PyData} (r:Rep K F v d) (e:seqD d = some xs):∃ a vs,v = .ref a /\ Reps K F vs xs /\ ∀ H,Same F H -> SqB (kindB d) K H a vs:=by
  cases r with
  | tup sq rs=>cases e; exact ⟨_,_,rfl,rs,fun H s=>sameT s sq⟩
  | lst h rs=>cases e; exact ⟨_,_,rfl,rs,fun H s=>.inl (.inl (s _ _ h))⟩
  | non=>cases e
  | bl b=>cases e
  | int i=>cases e
  | str x=>cases e
theorem zipD_get {xs ys:List PyData} {i:Nat} {d:PyData} (h:(zipD xs ys)[i]? = some d):∃ x y,xs[i]? = some x /\ ys[i]? = some y /\ d = .tuple [x,y]:=by
  unfold zipD at h
  rw [List.getElem?_zipWith] at h
  cases ex:xs[i]? with
  | none=>rw [ex] at h; cases h
  | some x =>
    cases ey:ys[i]? with
    | none=>rw [ex,ey] at h; cases h
    | some y=>rw [ex,ey] at h; cases h; exact ⟨x,y,rfl,rfl,rfl⟩
theorem vi_zip (b1 b2:Bool) (hm:X.mg "zip" = none) (ha:PVs X rl [a,b] fs) (hg:Gl X "zip" := by rfl) (hs:starEach [a,b] X.env = (false,eval a X.env) :: starEach [b] X.env:=by rfl) (hpl:(backTo pos (starEach [b] X.env)).any (·.1) = false:=by rfl) :
    PIV X rl (.Tuple elts kt pt) (.Call (.Name "zip" p) [a,b] [] pos) (fun ρ Q=>fs ρ fun ws=>∃ dx dy xs ys,ws = [.d dx,.d dy] /\ seqD dx = some xs /\ seqD dy = some ys /\ kindB dx = b1 /\ kindB dy = b2 /\ Q (zipD xs ys)):=by
  obtain ⟨t,p1,k⟩:=ha
  refine ⟨_,pi_zip b1 b2 hg hm p1 hs hpl,fun R Qd Q q h=>k R _ _ q fun vs ws F1 H1 g1 r1 ⟨dx,dy,xs,ys,ew,e1,e2,kb1,kb2,q1⟩=>?_⟩
  subst ew kb1 kb2
  obtain ⟨v,u,rfl,rv,ru⟩:=rel2 r1
  obtain ⟨a1,vs,rfl,rs,sq1⟩:=rep_sq rv e1
  obtain ⟨a2,us,rfl,rt,sq2⟩:=rep_sq ru e2
  refine ⟨a1,a2,vs,us,rfl,sq1 _ g1.sub,sq2 _ g1.sub,h _ (zipD xs ys) F1 H1 g1 ⟨fun i H x e s=>?_,fun i H hl s=>?_,fun i H v H' x F2 e s s2 ra y=>?_⟩ q1⟩
  · obtain ⟨x1,y1,ex,ey,_⟩:=zipD_get e
    obtain ⟨v1,ev1,_⟩:=rs.get ex
    obtain ⟨u1,eu1,_⟩:=rt.get ey
    exact ⟨vs,us,v1,u1,sq1 _ s,sq2 _ s,ev1,eu1⟩
  · refine ⟨vs,us,sq1 _ s,sq2 _ s,?_⟩
    unfold zipD at hl
    rw [List.length_zipWith] at hl
    rw [rs.length,rt.length]
    omega
  · obtain ⟨x1,y1,ex,ey,ed⟩:=zipD_get e
    obtain ⟨vx,vy,pp,hx,hy,hp,ev,eH⟩:=y
    obtain ⟨v1,ev1,rv1⟩:=rs.get ex
    obtain ⟨u1,eu1,ru1⟩:=rt.get ey
    have h1:=hx vs (sq1 _ (s.trans s2))
    have h2:=hy us (sq2 _ (s.trans s2))
    rw [ev1] at h1
    rw [eu1] at h2
    cases h1
    cases h2
    subst ev eH ed
    have g:=Grow.data (a:=pp) (o:=.tup [vx,vy]) s2 ra hp
    exact ⟨_,g,.tup (.inl (.inl upd_same)) (.cons ((rv1.mono s).mono g.fs) (.cons ((ru1.mono s).mono g.fs) .nil))⟩
noncomputable def iZb (b1 b2:Bool) (fs:TVs):En -> (List PyData -> Prop) -> Prop:=fun ρ Q=>fs ρ fun ws=>∃ dx dy xs ys,ws = [.d dx,.d dy] /\ seqD dx = some xs /\ seqD dy = some ys /\ kindB dx = b1 /\ kindB dy = b2 /\ Q (zipD xs ys)
theorem vi_zipTT (hm:X.mg "zip" = none) (ha:PVs X rl [a,b] fs) (hg:Gl X "zip" := by rfl) (hs:starEach [a,b] X.env = (false,eval a X.env) :: starEach [b] X.env:=by rfl) (hpl:(backTo pos (starEach [b] X.env)).any (·.1) = false:=by rfl) :
    PIV X rl (.Tuple elts kt pt) (.Call (.Name "zip" p) [a,b] [] pos) (iZb true true fs):=vi_zip true true hm ha hg hs hpl
end
end L2.VL

namespace L2.VL
open PySem PySem.Spec PyProof.Rows
theorem nr {α:Sort u} {a b : α} (h:a = b):a = b:=h
abbrev Mo (α:Type):=(α -> Prop) -> Prop
noncomputable def ret {α:Type} (a : α):Mo α:=fun Q=>Q a
noncomputable def bnd {α β:Type} (m:Mo α) (f : α -> Mo β):Mo β:=fun Q=>m fun a=>f a Q
noncomputable def grd {α:Type} (P:Prop) (m:Mo α):Mo α:=fun Q=>P /\ m Q
noncomputable def stk {α:Type}:Mo α:=fun _=>False
noncomputable def anyM {α:Type} (P : α -> Prop):Mo α:=fun Q=>∀ a,P a -> Q a
noncomputable def optM {α β:Type} (o:Option α) (f : α -> Mo β):Mo β:=match o with
  | some a=>f a
  | none=>stk
section
variable {α β γ:Type}
theorem bnd_ret (a : α) (f : α -> Mo β):bnd (ret a) f = f a:=nr rfl
theorem bnd_bnd (m:Mo α) (f : α -> Mo β) (g : β -> Mo γ):bnd (bnd m f) g = bnd m fun a=>bnd (f a) g:=nr rfl
theorem bnd_grd (P:Prop) (m:Mo α) (f : α -> Mo β):bnd (grd P m) f = grd P (bnd m f):=nr rfl
theorem bnd_stk (f : α -> Mo β):bnd stk f = stk:=nr rfl
theorem bnd_ite (c:Prop) [Decidable c] (a b:Mo α) (f : α -> Mo β):bnd (if c then a else b) f = if c then bnd a f else bnd b f:=by split <;> rfl
theorem bnd_opt (o:Option α) (k : α -> Mo β) (f : β -> Mo γ):bnd (optM o k) f = optM o fun a=>bnd (k a) f:=by cases o <;> rfl
theorem opt_some (a : α) (k : α -> Mo β):optM (some a) k = k a:=nr rfl
theorem opt_none (k : α -> Mo β):optM none k = stk:=nr rfl
theorem grd_t {P:Prop} (h:P) (m:Mo α):grd P m = m:=by funext Q; exact propext ⟨fun z=>z.2,fun z=>⟨h,z⟩⟩
theorem grd_T (m:Mo α):grd True m = m:=grd_t trivial m
theorem ite_ap (c:Prop) [Decidable c] (a b:Mo α) (Q : α -> Prop):(if c then a else b) Q = if c then a Q else b Q:=by split <;> rfl
theorem mo_ext {m n:Mo α} (h:∀ Q,m Q ↔ n Q):m = n:=funext fun Q=>propext (h Q)
end
noncomputable def asI:W -> Option Int
  | .d (.int i)=>some i
  | _=>none
noncomputable def asB:W -> Option Bool
  | .d (.bool b)=>some b
  | _=>none
noncomputable def asS:W -> Option Str
  | .d (.str b)=>some b
  | _=>none
noncomputable def asD:W -> Option PyData
  | .d x=>some x
  | _=>none
noncomputable def lstD:PyData -> Option (List PyData)
  | .list xs=>some xs
  | _=>none
noncomputable def tupD:PyData -> Option (List PyData)
  | .tuple xs=>some xs
  | _=>none
noncomputable def asL (w:W):Option (List PyData):=w.dat.bind lstD
noncomputable def asT (w:W):Option (List PyData):=(asD w).bind tupD
noncomputable def asQ (w:W):Option (List PyData):=w.dat.bind seqD
noncomputable def toI:W -> Option Int
  | .d (.int i)=>some i
  | .d (.bool b)=>some (if b then 1 else 0)
  | _=>none
noncomputable def isiT:W -> Option String
  | .vv (.ty T)=>some T
  | _=>none
noncomputable def blsD:List PyData -> Option (List Bool)
  | []=>some []
  | .bool b :: r=>(blsD r).map (b :: ·)
  | _=>none
noncomputable def intsD:List PyData -> Option (List Int)
  | []=>some []
  | .int b :: r=>(intsD r).map (b :: ·)
  | _=>none
theorem blsD_map:∀ bs:List Bool,blsD (bs.map .bool) = some bs
  | []=>rfl
  | b :: bs=>by show (blsD (bs.map .bool)).map (b :: ·) = _; rw [blsD_map bs]; rfl
theorem blsD_of:∀ {xs:List PyData} {bs:List Bool},blsD xs = some bs -> xs = bs.map .bool
  | [],bs,h=>by cases h; rfl
  | .bool b :: r,bs,h=>by
    have h:(blsD r).map (b :: ·) = some bs:=h
    cases q:blsD r with
    | none=>rw [q] at h; cases h
    | some cs=>rw [q] at h; cases h; rw [blsD_of q]; rfl
  | .none :: _,_,h=>by cases h
  | .int _ :: _,_,h=>by cases h
  | .str _ :: _,_,h=>by cases h
  | .list _ :: _,_,h=>by cases h
  | .tuple _ :: _,_,h=>by cases h
  | .dict _ :: _,_,h=>by cases h
theorem intsD_map:∀ bs:List Int,intsD (bs.map .int) = some bs
  | []=>rfl
  | b :: bs=>by show (intsD (bs.map .int)).map (b :: ·) = _; rw [intsD_map bs]; rfl
theorem intsD_of:∀ {xs:List PyData} {bs:List Int},intsD xs = some bs -> xs = bs.map .int
  | [],bs,h=>by cases h; rfl
  | .int b :: r,bs,h=>by
    have h:(intsD r).map (b :: ·) = some bs:=h
    cases q:intsD r with
    | none=>rw [q] at h; cases h
    | some cs=>rw [q] at h; cases h; rw [intsD_of q]; rfl
  | .none :: _,_,h=>by cases h
  | .bool _ :: _,_,h=>by cases h
  | .str _ :: _,_,h=>by cases h
  | .list _ :: _,_,h=>by cases h
  | .tuple _ :: _,_,h=>by cases h
  | .dict _ :: _,_,h=>by cases h
theorem asI_d (i:Int):asI (.d (.int i)) = some i:=rfl
theorem asB_d (i:Bool):asB (.d (.bool i)) = some i:=rfl
theorem asS_d (i:Str):asS (.d (.str i)) = some i:=rfl
theorem asD_d (i:PyData):asD (.d i) = some i:=rfl
theorem asT_d (x:PyData):asT (.d x) = tupD x:=rfl
theorem asL_d (x:PyData):asL (.d x) = lstD x:=rfl
theorem asL_ml (x:List PyData):asL (.ml x) = some x:=rfl
theorem asL_pk (x:List PyData):asL (.pk x) = some x:=rfl
theorem asQ_d (x:PyData):asQ (.d x) = seqD x:=rfl
theorem asQ_ml (x:List PyData):asQ (.ml x) = some x:=rfl
theorem asQ_pk (x:List PyData):asQ (.pk x) = some x:=rfl
theorem lstD_l (x:List PyData):lstD (.list x) = some x:=rfl
theorem tupD_t (x:List PyData):tupD (.tuple x) = some x:=rfl
theorem toI_i (i:Int):toI (.d (.int i)) = some i:=rfl
theorem toI_b (i:Bool):toI (.d (.bool i)) = some (if i then 1 else 0):=rfl
theorem isiT_t (T:String):isiT (.vv (.ty T)) = some T:=rfl
theorem asI_of {w:W} {i:Int}:asI w = some i ↔ w = .d (.int i):=by
  constructor
  · intro h; unfold asI at h; split at h <;> simp_all
  · rintro rfl; rfl
theorem asB_of {w:W} {i:Bool}:asB w = some i ↔ w = .d (.bool i):=by
  constructor
  · intro h; unfold asB at h; split at h <;> simp_all
  · rintro rfl; rfl
theorem asS_of {w:W} {i:Str}:asS w = some i ↔ w = .d (.str i):=by
  constructor
  · intro h; unfold asS at h; split at h <;> simp_all
  · rintro rfl; rfl
theorem asD_of {w:W} {i:PyData}:asD w = some i ↔ w = .d i:=by
  constructor
  · intro h; unfold asD at h; split at h <;> simp_all
  · rintro rfl; rfl
theorem lstD_of {w:PyData} {i:List PyData}:lstD w = some i ↔ w = .list i:=by
  constructor
  · intro h; unfold lstD at h; split at h <;> simp_all
  · rintro rfl; rfl
theorem tupD_of {w:PyData} {i:List PyData}:tupD w = some i ↔ w = .tuple i:=by
  constructor
  · intro h; unfold tupD at h; split at h <;> simp_all
  · rintro rfl; rfl
theorem asT_of {w:W} {i:List PyData}:asT w = some i ↔ w = .d (.tuple i):=by
  constructor
  · intro h
    unfold asT at h
    cases q:asD w with
    | none=>rw [q] at h; cases h
    | some x=>rw [q] at h; rw [asD_of.mp q,tupD_of.mp h]
  · rintro rfl; rfl
theorem asL_of {w:W} {i:List PyData}:asL w = some i ↔ w.dat = some (.list i):=by
  unfold asL
  constructor
  · intro h
    cases q:w.dat with
    | none=>rw [q] at h; cases h
    | some x=>rw [q] at h; rw [lstD_of.mp h]
  · intro h; rw [h]; rfl
theorem opt_iff {α β:Type} {o:Option α} {k : α -> Mo β} {Q : β -> Prop}:optM o k Q ↔ ∃ a,o = some a /\ k a Q:=by
  cases o with
  | none=>exact ⟨fun z=>z.elim,fun ⟨_,z,_⟩=>by cases z⟩
  | some a=>exact ⟨fun z=>⟨a,rfl,z⟩,fun ⟨_,e,z⟩=>by cases e; exact z⟩
section
variable {fa fb fc:TV} {fs:TVs} {f g:TB} {ρ:En} {t u:TSv}
theorem m_vC (x:PyData):vC x ρ = ret (.d x):=nr rfl
theorem m_vVar (i:Nat):vVar i ρ = optM ((ρ[i]?).join) fun w=>ret w.peek:=by
  refine mo_ext fun Q=>?_
  rw [opt_iff]
  constructor
  · rintro ⟨w,e,q⟩; exact ⟨w,by rw [e]; rfl,q⟩
  · rintro ⟨w,e,q⟩
    refine ⟨w,?_,q⟩
    cases h : ρ[i]? with
    | none=>rw [h] at e; cases e
    | some o=>rw [h] at e; cases o with
      | none=>cases e
      | some x=>cases e; rfl
theorem m_vNil:vNil ρ = ret []:=nr rfl
theorem m_vCons {f:TV}:vCons f fs ρ = bnd (f ρ) fun w=>bnd (fs ρ) fun ws=>ret (w.fz :: ws):=nr rfl
theorem m_vOp (h:W -> W -> (W -> Prop) -> Prop):vOp h fa fb ρ = bnd (fa ρ) fun x=>bnd (fb ρ) fun y=>h x y:=nr rfl
theorem m_gI (C:Int -> Int -> Prop) (h:Int -> Int -> PyData) (x y:W):gI C h x y = optM (asI x) fun i=>optM (asI y) fun j=>grd (C i j) (ret (.d (h i j))):=by
  refine mo_ext fun Q=>?_
  simp only [opt_iff,asI_of,gI,grd,ret]
  exact ⟨fun ⟨i,j,a,b,c,q⟩=>⟨i,a,j,b,c,q⟩,fun ⟨i,a,j,b,c,q⟩=>⟨i,j,a,b,c,q⟩⟩
theorem m_gI0 (h:Int -> Int -> PyData) (x y:W):gI0 h x y = optM (asI x) fun i=>optM (asI y) fun j=>ret (.d (h i j)):=by
  refine mo_ext fun Q=>?_
  simp only [opt_iff,asI_of,gI0,ret]
  exact ⟨fun ⟨i,j,a,b,q⟩=>⟨i,a,j,b,q⟩,fun ⟨i,a,j,b,q⟩=>⟨i,j,a,b,q⟩⟩
theorem m_vNeg:vNeg fa ρ = bnd (fa ρ) fun x=>optM (asI x) fun i=>ret (.d (.int (-i))):=by
  refine mo_ext fun Q=>?_
  simp only [vNeg,bnd,opt_iff,asI_of,ret]
theorem m_vTest {f:TV}:vTest f ρ = bnd (f ρ) fun w=>optM (asB w) ret:=by
  refine mo_ext fun Q=>?_
  simp only [vTest,bnd,opt_iff,asB_of,ret]
theorem m_gEqD (neg:Bool) (x y:W):gEqD neg x y = optM x.dat fun dx=>optM y.dat fun dy=>grd (SeqAt.shaped dx = true) (grd (SeqAt.shaped dy = true) (ret (.d (.bool (if neg then !PyData.eqv dx dy else PyData.eqv dx dy))))):=by
  refine mo_ext fun Q=>?_
  simp only [opt_iff,gEqD,grd,ret]
  exact ⟨fun ⟨i,j,a,b,c,d,q⟩=>⟨i,a,j,b,c,d,q⟩,fun ⟨i,a,j,b,c,d,q⟩=>⟨i,j,a,b,c,d,q⟩⟩
theorem asQ_of {w:W} {i:List PyData}:asQ w = some i ↔ (w.dat = some (.list i) \/ w.dat = some (.tuple i)):=by
  unfold asQ
  constructor
  · intro h
    cases q:w.dat with
    | none=>rw [q] at h; cases h
    | some x=>rw [q] at h; exact seqD.of (o:=some x) rfl h
  · rintro (h | h) <;> rw [h] <;> rfl
theorem m_gInD (neg:Bool) (x y:W):gInD neg x y = optM x.dat fun dx=>optM (asQ y) fun ys=>grd (SeqAt.shaped dx = true) (grd (PyData.canLayAll0 ys = true) (ret (.d (.bool (if neg then !(ys.any fun z=>PyData.eqv z dx) else ys.any fun z=>PyData.eqv z dx))))):=by
  refine mo_ext fun Q=>?_
  simp only [opt_iff,asQ_of,gInD,grd,ret]
  exact ⟨fun ⟨i,j,a,b,c,d,q⟩=>⟨i,a,j,b,c,d,q⟩,fun ⟨i,a,j,b,c,d,q⟩=>⟨i,j,a,b,c,d,q⟩⟩
theorem m_vAnd:vAnd f g ρ = bnd (f ρ) fun b=>if b = true then g ρ else ret false:=by
  refine mo_ext fun Q=>?_
  simp only [vAnd,bnd,ite_ap,ret]
theorem m_vOr:vOr f g ρ = bnd (f ρ) fun b=>if b = true then ret true else g ρ:=by
  refine mo_ext fun Q=>?_
  simp only [vOr,bnd,ite_ap,ret]
theorem m_vNot:vNot f ρ = bnd (f ρ) fun b=>ret (!b):=nr rfl
theorem m_vAndV:vAndV fa fb ρ = bnd (fa ρ) fun w=>optM (asB w) fun b=>if b = true then fb ρ else ret (.d (.bool false)):=by
  refine mo_ext fun Q=>?_
  simp only [vAndV,bnd,opt_iff,asB_of,ite_ap,ret]
theorem m_vOrV:vOrV fa fb ρ = bnd (fa ρ) fun w=>optM (asB w) fun b=>if b = true then ret (.d (.bool true)) else fb ρ:=by
  refine mo_ext fun Q=>?_
  simp only [vOrV,bnd,opt_iff,asB_of,ite_ap,ret]
theorem m_vNotV:vNotV fa ρ = bnd (fa ρ) fun w=>optM (asB w) fun b=>ret (.d (.bool (!b))):=by
  refine mo_ext fun Q=>?_
  simp only [vNotV,bnd,opt_iff,asB_of,ret]
theorem m_vIf {t:TB}:vIf t fa fb ρ = bnd (t ρ) fun c=>if c = true then fa ρ else fb ρ:=by
  refine mo_ext fun Q=>?_
  simp only [vIf,bnd,ite_ap]
theorem m_vTup:vTup fs ρ = bnd (fs ρ) fun ws=>optM (dats ws) fun ds=>grd (ds.length <= sizeLine) (ret (.d (.tuple ds))):=by
  refine mo_ext fun Q=>?_
  simp only [vTup,bnd,opt_iff,grd,ret]
theorem m_vLst:vLst fs ρ = bnd (fs ρ) fun ws=>optM (dats ws) fun ds=>grd (ds.length <= sizeLine) (ret (.ml ds)):=by
  refine mo_ext fun Q=>?_
  simp only [vLst,bnd,opt_iff,grd,ret]
theorem m_gIx (x y:W):gIx x y = optM x.dat fun dx=>optM (asI y) fun i=>optM (itemAt dx i) fun z=>ret (.d z):=by
  refine mo_ext fun Q=>?_
  simp only [gIx,opt_iff,asI_of,ret]
  exact ⟨fun ⟨i,j,z,a,b,c,q⟩=>⟨i,a,j,b,z,c,q⟩,fun ⟨i,a,j,b,z,c,q⟩=>⟨i,j,z,a,b,c,q⟩⟩
theorem m_vCall (h:List W -> (W -> Prop) -> Prop):vCall h fs ρ = bnd (fs ρ) h:=nr rfl
theorem m_gAbs (w:W):gAbs [w] = optM (asI w) fun i=>ret (.d (.int (if i < 0 then -i else i))):=by
  refine mo_ext fun Q=>?_
  simp only [gAbs,opt_iff,asI_of,ret,List.cons.injEq,and_true]
theorem m_gLen (w:W):gLen [w] = optM w.dat fun d=>optM (lenD d) fun n=>ret (.d (.int n)):=by
  refine mo_ext fun Q=>?_
  simp only [gLen,opt_iff,ret,List.cons.injEq,and_true]
  exact ⟨fun ⟨w',d,n,e,a,b,q⟩=>by subst e; exact ⟨d,a,n,b,q⟩,fun ⟨d,a,n,b,q⟩=>⟨w,d,n,rfl,a,b,q⟩⟩
theorem m_gRepr (w:W):gRepr [w] = optM w.dat fun d=>grd (Shw d) (ret (.d (.str d.shown))):=by
  refine mo_ext fun Q=>?_
  simp only [gRepr,opt_iff,ret,grd,List.cons.injEq,and_true]
  exact ⟨fun ⟨w',d,e,a,b,q⟩=>by subst e; exact ⟨d,a,b,q⟩,fun ⟨d,a,b,q⟩=>⟨w,d,rfl,a,b,q⟩⟩
theorem m_gTupO (w:W):gTupO [w] = optM (asQ w) fun xs=>ret (.d (.tuple xs)):=by
  refine mo_ext fun Q=>?_
  simp only [gTupO,opt_iff,ret,List.cons.injEq,and_true]
  constructor
  · rintro ⟨w',d,xs,e,a,b,q⟩; subst e; exact ⟨xs,by unfold asQ; rw [a]; exact b,q⟩
  · rintro ⟨xs,e,q⟩
    unfold asQ at e
    cases h:w.dat with
    | none=>rw [h] at e; cases e
    | some d=>rw [h] at e; exact ⟨w,d,xs,rfl,h,e,q⟩
theorem m_gLstO (w:W):gLstO [w] = optM (asQ w) fun xs=>ret (.ml xs):=by
  refine mo_ext fun Q=>?_
  simp only [gLstO,opt_iff,ret,List.cons.injEq,and_true]
  constructor
  · rintro ⟨w',d,xs,e,a,b,q⟩; subst e; exact ⟨xs,by unfold asQ; rw [a]; exact b,q⟩
  · rintro ⟨xs,e,q⟩
    unfold asQ at e
    cases h:w.dat with
    | none=>rw [h] at e; cases e
    | some d=>rw [h] at e; exact ⟨w,d,xs,rfl,h,e,q⟩
theorem m_gI2 (h:Int -> Int -> PyData) (x y:W):gI2 h [x,y] = optM (asI x) fun i=>optM (asI y) fun j=>ret (.d (h i j)):=by
  refine mo_ext fun Q=>?_
  simp only [opt_iff,asI_of,gI2,ret,List.cons.injEq,and_true]
  exact ⟨fun ⟨i,j,⟨a,b⟩,q⟩=>⟨i,a,j,b,q⟩,fun ⟨i,a,j,b,q⟩=>⟨i,j,⟨a,b⟩,q⟩⟩
theorem toI_of {w:W} {i:Int}:toI w = some i ↔ (w = .d (.int i) \/ ∃ b:Bool,w = .d (.bool b) /\ i = if b then 1 else 0):=by
  constructor
  · intro h
    unfold toI at h
    split at h
    · cases h; exact .inl rfl
    · cases h; exact .inr ⟨_,rfl,rfl⟩
    · cases h
  · rintro (rfl | ⟨b,rfl,rfl⟩) <;> rfl
theorem m_gInt1 (w:W):gInt1 [w] = optM (toI w) fun i=>ret (.d (.int i)):=by
  refine mo_ext fun Q=>?_
  simp only [opt_iff,toI_of,gInt1,ret,List.cons.injEq,and_true]
  constructor
  · rintro (⟨i,rfl,q⟩ | ⟨k,rfl,q⟩)
    · exact ⟨i,.inl rfl,q⟩
    · exact ⟨_,.inr ⟨k,rfl,rfl⟩,q⟩
  · rintro ⟨i,rfl | ⟨b,rfl,rfl⟩,q⟩
    · exact .inl ⟨i,rfl,q⟩
    · exact .inr ⟨b,rfl,q⟩
theorem m_oNo:oNo ρ = ret none:=nr rfl
theorem m_oIt:oIt fa ρ = bnd (fa ρ) fun w=>optM (asI w) fun i=>ret (some i):=by
  refine mo_ext fun Q=>?_
  simp only [oIt,bnd,opt_iff,asI_of,ret]
theorem m_vSlL {fl fh:TOv}:vSlL fa fl fh ρ = bnd (fa ρ) fun w=>bnd (fl ρ) fun l=>bnd (fh ρ) fun h=>optM (asL w) fun xs=>ret (.ml (cutD xs l h)):=by
  refine mo_ext fun Q=>?_
  simp only [vSlL,bnd,opt_iff,asL_of,ret]
theorem m_vSlA {fl fh:TOv}:vSlA fa fl fh ρ = bnd (fa ρ) fun w=>bnd (fl ρ) fun l=>bnd (fh ρ) fun h=>optM (asT w) fun xs=>ret (.d (.tuple (cutD xs l h))):=by
  refine mo_ext fun Q=>?_
  simp only [vSlA,bnd,opt_iff,asT_of,ret]
theorem m_gCatD (x y:W):gCatD x y = optM (asL x) fun xs=>optM (asL y) fun ys=>grd (xs.length + ys.length <= sizeLine) (ret (.ml (xs ++ ys))):=by
  refine mo_ext fun Q=>?_
  simp only [gCatD,opt_iff,asL_of,grd,ret]
  exact ⟨fun ⟨i,j,a,b,c,q⟩=>⟨i,a,j,b,c,q⟩,fun ⟨i,a,j,b,c,q⟩=>⟨i,j,a,b,c,q⟩⟩
theorem m_gCatA (x y:W):gCatA x y = optM (asT x) fun xs=>optM (asT y) fun ys=>grd (xs.length + ys.length <= sizeLine) (ret (.d (.tuple (xs ++ ys)))):=by
  refine mo_ext fun Q=>?_
  simp only [gCatA,opt_iff,asT_of,grd,ret]
  exact ⟨fun ⟨i,j,a,b,c,q⟩=>⟨i,a,j,b,c,q⟩,fun ⟨i,a,j,b,c,q⟩=>⟨i,j,a,b,c,q⟩⟩
theorem m_vChain (p p':Int -> Int -> Bool):vChain p p' fa fb fc ρ = bnd (fa ρ) fun x=>bnd (fb ρ) fun y=>optM (asI x) fun i=>optM (asI y) fun j=>if p i j = true then bnd (fc ρ) fun z=>optM (asI z) fun k=>ret (.d (.bool (p' j k))) else ret (.d (.bool false)):=by
  show (bnd (fa ρ) fun x=>bnd (fb ρ) fun y=>fun (Q:W -> Prop)=>∃ i j,x = .d (.int i) /\ y = .d (.int j) /\ if p i j = true then fc ρ fun z=>∃ k,z = .d (.int k) /\ Q (.d (.bool (p' j k))) else Q (.d (.bool false))) = _
  congr 1; funext x; congr 1; funext y
  refine mo_ext fun Q=>?_
  simp only [bnd,opt_iff,asI_of,ret,ite_ap]
  exact ⟨fun ⟨i,j,a,b,q⟩=>⟨i,a,j,b,q⟩,fun ⟨i,a,j,b,q⟩=>⟨i,j,a,b,q⟩⟩
noncomputable def two (ws:List W):Option (Int × Int):=match ws with
  | [a,b]=>(asI a).bind fun i=>(asI b).map fun j=>(i,j)
  | _=>none
theorem two_d (a b:Int):two [.d (.int a),.d (.int b)] = some (a,b):=rfl
theorem m_iL:iL fa ρ = bnd (fa ρ) fun w=>optM ((asD w.fz).bind lstD) ret:=by
  show (bnd (fa ρ) fun w=>fun (Q:List PyData -> Prop)=>∃ xs,w.fz = .d (.list xs) /\ Q xs) = _
  congr 1; funext w
  refine mo_ext fun Q=>?_
  simp only [opt_iff,ret]
  constructor
  · rintro ⟨xs,e,q⟩; exact ⟨xs,by rw [e]; rfl,q⟩
  · rintro ⟨xs,e,q⟩
    cases h:asD w.fz with
    | none=>rw [h] at e; cases e
    | some x=>rw [h] at e; rw [asD_of.mp h,lstD_of.mp e]; exact ⟨xs,rfl,q⟩
theorem m_iT:iT fa ρ = bnd (fa ρ) fun w=>optM ((asD w.fz).bind tupD) ret:=by
  show (bnd (fa ρ) fun w=>fun (Q:List PyData -> Prop)=>∃ xs,w.fz = .d (.tuple xs) /\ Q xs) = _
  congr 1; funext w
  refine mo_ext fun Q=>?_
  simp only [opt_iff,ret]
  constructor
  · rintro ⟨xs,e,q⟩; exact ⟨xs,by rw [e]; rfl,q⟩
  · rintro ⟨xs,e,q⟩
    cases h:asD w.fz with
    | none=>rw [h] at e; cases e
    | some x=>rw [h] at e; rw [asD_of.mp h,tupD_of.mp e]; exact ⟨xs,rfl,q⟩
theorem m_iR1:iR1 fs ρ = bnd (fs ρ) fun ws=>optM (ws.head?.bind asI) fun j=>grd (ws.length = 1) (grd (-(2 ^ 62) <= j /\ j < 2 ^ 62) (ret (rangeD 0 j.toNat))):=by
  show (bnd (fs ρ) fun ws=>fun (Q:List PyData -> Prop)=>∃ j:Int,ws = [.d (.int j)] /\ (-(2 ^ 62) <= j /\ j < 2 ^ 62) /\ Q (rangeD 0 j.toNat)) = _
  congr 1; funext ws
  refine mo_ext fun Q=>?_
  simp only [opt_iff,grd,ret]
  constructor
  · rintro ⟨j,rfl,a,q⟩; exact ⟨j,rfl,rfl,a,q⟩
  · rintro ⟨j,e,l,a,q⟩
    match ws,l with
    | [w],_=>rw [show w = .d (.int j) from asI_of.mp e]; exact ⟨j,rfl,a,q⟩
noncomputable def zipO (b1 b2:Bool) (ws:List W):Option (List PyData):=match ws with
  | [.d x,.d y]=>if kindB x = b1 /\ kindB y = b2 then (seqD x).bind fun xs=>(seqD y).map fun ys=>zipD xs ys else none
  | _=>none
theorem m_iZb (b1 b2:Bool):iZb b1 b2 fs ρ = bnd (fs ρ) fun ws=>optM (zipO b1 b2 ws) ret:=by
  show (bnd (fs ρ) fun ws=>fun (Q:List PyData -> Prop)=>∃ dx dy xs ys,ws = [.d dx,.d dy] /\ seqD dx = some xs /\ seqD dy = some ys /\ kindB dx = b1 /\ kindB dy = b2 /\ Q (zipD xs ys)) = _
  congr 1; funext ws
  refine mo_ext fun Q=>?_
  simp only [opt_iff,ret]
  constructor
  · rintro ⟨dx,dy,xs,ys,rfl,a,b,c,d,q⟩
    exact ⟨_,by show (if kindB dx = b1 /\ kindB dy = b2 then (seqD dx).bind fun xs=>(seqD dy).map fun ys=>zipD xs ys else none) = _; rw [if_pos ⟨c,d⟩,a,b]; rfl,q⟩
  · rintro ⟨zs,e,q⟩
    unfold zipO at e
    split at e
    · rename_i dx dy
      split at e
      · rename_i c
        cases ha:seqD dx with
        | none=>rw [ha] at e; cases e
        | some xs =>
          cases hb:seqD dy with
          | none=>rw [ha,hb] at e; cases e
          | some ys=>rw [ha,hb] at e; cases e; exact ⟨dx,dy,xs,ys,rfl,ha,hb,c.1,c.2,q⟩
      · cases e
    · cases e
theorem m_vUse (Pd:List W -> (PyData -> Prop) -> Prop):vUse Pd fs ρ = bnd (fs ρ) fun ws=>grd (ws.all argOk = true) (bnd (Pd ws) fun d=>ret (.d d)):=nr rfl
theorem m_gAll (h:List Bool -> Bool) (w:W):gAll h [w] = optM ((asL w).bind blsD) fun bs=>ret (.d (.bool (h bs))):=by
  refine mo_ext fun Q=>?_
  simp only [gAll,opt_iff,ret,List.cons.injEq,and_true]
  constructor
  · rintro ⟨w',bs,rfl,e,q⟩; exact ⟨bs,by rw [asL_of.mpr e]; exact blsD_map bs,q⟩
  · rintro ⟨bs,e,q⟩
    cases hl:asL w with
    | none=>rw [hl] at e; cases e
    | some xs=>rw [hl] at e; refine ⟨w,bs,rfl,?_,q⟩; rw [<- blsD_of e]; exact asL_of.mp hl
theorem m_gRepL (x y:W):gRepL x y = optM (asL x) fun xs=>optM (asI y) fun k=>grd (-(2 ^ 63) <= k /\ k < 2 ^ 63 /\ xs.length * k.toNat <= sizeLine) (ret (.ml (List.replicate k.toNat xs).flatten)):=by
  refine mo_ext fun Q=>?_
  simp only [gRepL,opt_iff,asL_of,asI_of,grd,ret]
  exact ⟨fun ⟨i,j,a,b,c,d,e,q⟩=>⟨i,a,j,b,⟨c,d,e⟩,q⟩,fun ⟨i,a,j,b,⟨c,d,e⟩,q⟩=>⟨i,j,a,b,c,d,e,q⟩⟩
theorem m_gEqS (neg:Bool) (x y:W):gEqS neg x y = optM (asS x) fun i=>optM (asS y) fun j=>ret (.d (.bool (if neg then !decide (i = j) else decide (i = j)))):=by
  refine mo_ext fun Q=>?_
  simp only [opt_iff,asS_of,gEqS,ret]
  exact ⟨fun ⟨i,j,a,b,q⟩=>⟨i,a,j,b,q⟩,fun ⟨i,a,j,b,q⟩=>⟨i,j,a,b,q⟩⟩
end
inductive Fl where
  | nx (ρ:En) | rt (w:W) | bk (ρ:En) | ct (ρ:En)
noncomputable def mS (t:TSv) (ρ:En):Mo Fl:=fun Q=>t ⟨fun ρ=>Q (.nx ρ),fun w=>Q (.rt w),fun ρ=>Q (.bk ρ),fun ρ=>Q (.ct ρ)⟩ ρ
noncomputable def sq (m:Mo Fl) (k:En -> Mo Fl):Mo Fl:=bnd m fun fl=>match fl with
  | .nx ρ=>k ρ
  | .rt w=>ret (.rt w)
  | .bk ρ=>ret (.bk ρ)
  | .ct ρ=>ret (.ct ρ)
noncomputable def endQ (Q:PyData -> Prop):Fl -> Prop
  | .nx _=>Q .none
  | .rt w=>∃ d,w.fz = .d d /\ Q d
  | _=>False
section
variable {fa fb fc:TV} {fs:TVs} {f g:TB} {ρ:En} {t u:TSv} {k:En -> Mo Fl}
theorem read_of {Q:PyData -> Prop} (h:mS t ρ (endQ Q)):t (vEnds Q) ρ:=h
theorem end_d (Q:PyData -> Prop) (d:PyData):endQ Q (.rt (.d d)) = Q d:=propext ⟨fun ⟨_,e,q⟩=>by cases e; exact q,fun q=>⟨d,rfl,q⟩⟩
theorem end_ml (Q:PyData -> Prop) (d:List PyData):endQ Q (.rt (.ml d)) = Q (.list d):=propext ⟨fun ⟨_,e,q⟩=>by cases e; exact q,fun q=>⟨_,rfl,q⟩⟩
theorem end_nx (Q:PyData -> Prop) (ρ:En):endQ Q (.nx ρ) = Q .none:=nr rfl
theorem sq_nx:sq (ret (.nx ρ)) k = k ρ:=nr rfl
theorem sq_rt (w:W):sq (ret (.rt w)) k = ret (.rt w):=nr rfl
theorem sq_bk:sq (ret (.bk ρ)) k = ret (.bk ρ):=nr rfl
theorem sq_ct:sq (ret (.ct ρ)) k = ret (.ct ρ):=nr rfl
theorem sq_grd (P:Prop) (m:Mo Fl):sq (grd P m) k = grd P (sq m k):=nr rfl
theorem sq_stk:sq stk k = stk:=nr rfl
theorem sq_ite (c:Prop) [Decidable c] (a b:Mo Fl):sq (if c then a else b) k = if c then sq a k else sq b k:=by split <;> rfl
theorem sq_opt {α:Type} (o:Option α) (h : α -> Mo Fl):sq (optM o h) k = optM o fun a=>sq (h a) k:=by cases o <;> rfl
theorem s_next:mS vNext ρ = ret (.nx ρ):=nr rfl
theorem s_seq:mS (vSeq t u) ρ = sq (mS t ρ) (mS u):=by
  refine mo_ext fun Q=>?_
  show t ⟨fun ρ=>u ⟨_,_,_,_⟩ ρ,_,_,_⟩ ρ ↔ _
  exact Iff.rfl
theorem s_ret:mS (vRet fa) ρ = bnd (fa ρ) fun w=>ret (.rt w):=nr rfl
theorem s_ifS:mS (vIfS f t u) ρ = bnd (f ρ) fun b=>if b = true then mS t ρ else mS u ρ:=by
  refine mo_ext fun Q=>?_
  simp only [mS,vIfS,bnd,ite_ap]
theorem s_set (i:Nat):mS (vSet i fa) ρ = bnd (fa ρ) fun w=>grd (w.isPk = false) (ret (.nx (ρ.set i (some w)))):=nr rfl
theorem s_never:mS (fun _ _=>False) ρ = stk:=nr rfl
theorem m_hName (i:Nat) (x:PyData):hName i x ρ = ret (ρ.set i (some (.d x))):=nr rfl
theorem m_hNil (xs:List PyData):hNil xs ρ = grd (xs = []) (ret ρ):=nr rfl
theorem m_hCons {g:TGv} {gs:TGvs} (xs:List PyData):hCons g gs xs ρ = optM (match xs with | []=>none | y :: r=>some (y,r)) fun p=>bnd (g p.1 ρ) fun ρ'=>gs p.2 ρ':=by
  refine mo_ext fun Q=>?_
  simp only [opt_iff,hCons,bnd]
  constructor
  · rintro ⟨y,r,rfl,q⟩; exact ⟨(y,r),rfl,q⟩
  · rintro ⟨p,e,q⟩
    cases xs with
    | nil=>cases e
    | cons y r=>cases e; exact ⟨y,r,rfl,q⟩
theorem m_hCons_c {g:TGv} {gs:TGvs} (y:PyData) (r:List PyData):hCons g gs (y :: r) ρ = bnd (g y ρ) fun ρ'=>gs r ρ':=by rw [m_hCons]; rfl
theorem m_hNil_n:hNil [] ρ = ret ρ:=by rw [m_hNil,grd_t rfl]
theorem m_hTup (n:Nat) {gs:TGvs} (x:PyData):hTup n gs x ρ = optM (tupD x) fun xs=>grd (xs.length = n) (gs xs ρ):=by
  refine mo_ext fun Q=>?_
  simp only [opt_iff,tupD_of,hTup,grd]
theorem s_asg {g:TGv}:mS (vAsg fa g) ρ = bnd (fa ρ) fun w=>optM (asD w) fun x=>bnd (g x ρ) fun ρ'=>ret (.nx ρ'):=by
  refine mo_ext fun Q=>?_
  simp only [mS,vAsg,bnd,opt_iff,asD_of,ret]
theorem s_par (i j:Nat):mS (vPar i j fs) ρ = bnd (fs ρ) fun ws=>optM (dats ws) fun ds=>optM (match ds with | [x,y]=>some (x,y) | _=>none) fun p=>ret (.nx ((ρ.set i (some (.d p.1))).set j (some (.d p.2)))):=by
  show (bnd (fs ρ) fun ws=>fun (Q:Fl -> Prop)=>∃ x y,dats ws = some [x,y] /\ Q (.nx ((ρ.set i (some (.d x))).set j (some (.d y))))) = _
  congr 1; funext ws
  refine mo_ext fun Q=>?_
  simp only [opt_iff,ret]
  constructor
  · rintro ⟨x,y,e,q⟩; exact ⟨_,e,(x,y),rfl,q⟩
  · rintro ⟨ds,e,p,e2,q⟩
    split at e2
    · cases e2; exact ⟨_,_,e,q⟩
    · cases e2
noncomputable def slI (ρ:En) (i:Nat):Option Int:=((ρ[i]?).join).bind asI
noncomputable def asM:W -> Option (List PyData)
  | .ml xs=>some xs
  | _=>none
noncomputable def slM (ρ:En) (i:Nat):Option (List PyData):=((ρ[i]?).join).bind asM
theorem asM_ml (xs:List PyData):asM (.ml xs) = some xs:=rfl
theorem asM_of {w:W} {xs:List PyData}:asM w = some xs ↔ w = .ml xs:=by
  constructor
  · intro h; unfold asM at h; split at h <;> simp_all
  · rintro rfl; rfl
theorem slM_of {i:Nat} {xs:List PyData}:slM ρ i = some xs ↔ ρ[i]? = some (some (.ml xs)):=by
  unfold slM
  constructor
  · intro h
    cases q : ρ[i]? with
    | none=>rw [q] at h; cases h
    | some o=>rw [q] at h; cases o with
      | none=>cases h
      | some w=>rw [asM_of.mp h]
  · intro h; rw [h]; rfl
theorem s_frz (i:Nat):mS (vFrz i t) ρ = optM (slM ρ i) fun xs=>mS t (ρ.set i (some (.d (.list xs)))):=by
  refine mo_ext fun Q=>?_
  simp only [mS,vFrz,opt_iff,slM_of]
theorem s_mut (i:Nat) (h:List PyData -> List W -> (List PyData -> Prop) -> Prop):mS (vMut i h fs) ρ = optM (slM ρ i) fun xs=>bnd (fs ρ) fun ws=>bnd (h xs ws) fun ys=>ret (.nx (ρ.set i (some (.ml ys)))):=by
  refine mo_ext fun Q=>?_
  simp only [mS,vMut,bnd,opt_iff,slM_of,ret]
theorem m_gApp (xs:List PyData) (w:W):gApp xs [w] = optM (asD w) fun x=>grd (xs.length < sizeLine) (ret (xs ++ [x])):=by
  refine mo_ext fun Q=>?_
  simp only [gApp,opt_iff,asD_of,grd,ret]
  constructor
  · rintro ⟨x,e,a,q⟩
    cases w <;> first | (cases e; exact ⟨_,rfl,a,q⟩) | cases e
  · rintro ⟨x,rfl,a,q⟩; exact ⟨x,rfl,a,q⟩
end
end L2.VL

namespace L2.VL
open PySem PySem.Spec PyProof.Rows
noncomputable def Le (a b:En):Prop:=a.length = b.length /\ ∀ (i:Nat) w,a[i]? = some (some w) -> b[i]? = some (some w)
theorem Le.refl (a:En):Le a a:=⟨rfl,fun _ _ h=>h⟩
theorem Le.trans {a b c:En} (h:Le a b) (h':Le b c):Le a c:=⟨h.1.trans h'.1,fun i w e=>h'.2 i w (h.2 i w e)⟩
theorem le_nil:Le [] [] = True:=propext ⟨fun _=>trivial,fun _=>Le.refl _⟩
theorem le_cn (x:Option W) (a b:En):Le (none :: a) (x :: b) = Le a b:=by
  refine propext ⟨fun h=>⟨by have:=h.1; simpa using this,fun i w e=>by have:=h.2 (i + 1) w (by simpa using e); simpa using this⟩,fun h=>⟨by simp [h.1],fun i w e=>?_⟩⟩
  cases i with
  | zero=>simp at e
  | succ i=>simpa using h.2 i w (by simpa using e)
theorem le_cs (x:Option W) (a b:En):Le (x :: a) (x :: b) = Le a b:=by
  refine propext ⟨fun h=>⟨by have:=h.1; simpa using this,fun i w e=>by have:=h.2 (i + 1) w (by simpa using e); simpa using this⟩,fun h=>⟨by simp [h.1],fun i w e=>?_⟩⟩
  cases i with
  | zero=>simpa using e
  | succ i=>simpa using h.2 i w (by simpa using e)
theorem VR.le {K:W.Frag} {rl:RlT} {F₀ H₀ F H:Hp} {σ:St} {ρ ρ0:En} (R:VR K rl F₀ H₀ F H σ ρ) (h:Le ρ0 ρ):VR K rl F₀ H₀ F H σ ρ0 :=
  ⟨R.g,fun i w e=>R.sl i w (h.2 i w e),fun i j x y v n e1 e2=>R.ap i j x y v n (h.2 i x e1) (h.2 j y e2),fun i xs e=>R.np i xs (h.2 i _ e),h.1.trans R.len⟩
noncomputable def fo:List Nat -> En -> En
  | [],ρ=>ρ
  | i :: l,ρ=>fo l (ρ.set i none)
theorem le_set (ρ:En) (i:Nat):Le (ρ.set i none) ρ:=by
  refine ⟨by simp,fun j w e=>?_⟩
  rw [List.getElem?_set] at e
  split at e
  · split at e
    · cases e
    · cases e
  · exact e
theorem le_fo:∀ (l:List Nat) (ρ:En),Le (fo l ρ) ρ
  | [],ρ=>Le.refl ρ
  | i :: l,ρ=>(le_fo l (ρ.set i none)).trans (le_set ρ i)
theorem fo_nil (ρ:En):fo [] ρ = ρ:=rfl
theorem fo_cons (i:Nat) (l:List Nat) (ρ:En):fo (i :: l) ρ = fo l (ρ.set i none):=rfl
noncomputable def vLoopF (fl:List Nat) (g:TGv) (t:TSv):List PyData -> TSv
  | [],D,ρ=>D.nx ρ
  | x :: xs,D,ρ=>g x ρ fun ρ2=>t { D with nx:=fun ρ'=>vLoopF fl g t xs D (fo fl ρ'),ct:=fun ρ'=>vLoopF fl g t xs D (fo fl ρ'),bk:=fun ρ'=>D.nx (fo fl ρ') } ρ2
noncomputable def vForF (fl:List Nat) (fi:En -> (List PyData -> Prop) -> Prop) (g:TGv) (t:TSv):TSv:=fun D ρ=>fi ρ fun xs=>vLoopF fl g t xs D (fo fl ρ)
section
variable {X:Cx} {rl:RlT} {st:Stmt} {rest body:List Stmt} {t u:TSv} {a b c e:Expr} {es:List Expr} {fa fb:TV} {fs:TVs} {f:TB} {pos p:Pos}
theorem vs_forF (fl:List Nat) {tg iter:Expr} {fi:En -> (List PyData -> Prop) -> Prop} {g:TGv} (hp:PassesOwn (model X.prog X.w) X.A X.env X.xe) (hc:X.calm = true) (hi:PIV X rl tg iter fi) (hg:PGV X rl tg g) (hb:PSsV X rl body t)
    (hs:∀ x,foldedSetIterable iter X.env x = pure x:=by intro _; rfl):PSV X rl (.For tg iter body [] pos) (vForF fl fi g t):=by
  obtain ⟨wi,p0,k0⟩:=hi
  obtain ⟨G,p1,k1⟩:=hg
  obtain ⟨T,p2,k2⟩:=hb
  refine ⟨_,ps_for hp hc p0 p1 p2 hs,fun {F₀ H₀ F H σ ρ} R Dv D ok q=>k0 R _ _ q fun J xs F1 H1 g1 vi q1=>?_⟩
  refine ⟨fun i m σ H=>m = xs.length - i /\ i <= xs.length /\ ∃ F ρ,Same F1 F /\ VR X.K rl F₀ H₀ F H σ ρ /\ vLoopF fl g t (xs.drop i) Dv ρ,⟨xs.length,by simp,Nat.zero_le _,F1,fo fl ρ,.refl _,(R.grow g1).le (le_fo fl ρ),by simpa using q1⟩,?_⟩
  rintro i m σ H ⟨rfl,hi,F2,ρ2,s2,R2,j2⟩
  have sH:Same F1 H:=s2.trans R2.sub
  by_cases hlt:i < xs.length
  · have ei:xs[i]? = some xs[i]:=by simp [hlt]
    rw [List.drop_eq_getElem_cons hlt] at j2
    refine .inr ⟨vi.go i H _ ei sH,fun σ' H'=>∃ F ρ,Same F1 F /\ VR X.K rl F₀ H₀ F H' σ' ρ /\ vLoopF fl g t (xs.drop (i + 1)) Dv ρ,fun σ' H' z=>⟨xs.length - (i + 1),by omega,rfl,hlt,z⟩,fun v H' y=>?_⟩
    obtain ⟨Fy,gy,rv⟩:=vi.yld i H v H' _ F2 ei s2 R2.sub R2.reel y
    refine k1 (R2.grow gy) v _ _ _ rv j2 fun F3 H3 σ3 ρ3 s3 n3 R3 q3=>?_
    have s13:Same F1 F3:=s2.trans (gy.fs.trans s3.fs)
    exact k2 R3 { Dv with nx:=fun ρ'=>vLoopF fl g t (xs.drop (i + 1)) Dv (fo fl ρ'),ct:=fun ρ'=>vLoopF fl g t (xs.drop (i + 1)) Dv (fo fl ρ'),bk:=fun ρ'=>Dv.nx (fo fl ρ') } _
      ⟨fun F4 H4 σ4 ρ4 s4 R4 q4=>⟨F4,fo fl ρ4,s13.trans s4,R4.le (le_fo fl ρ4),q4⟩,ok.rt,fun F4 H4 σ4 ρ4 s4 R4 q4=>ok.nx _ _ _ _ (g1.fs.trans (s13.trans s4)) (R4.le (le_fo fl ρ4)) q4,fun F4 H4 σ4 ρ4 s4 R4 q4=>⟨F4,fo fl ρ4,s13.trans s4,R4.le (le_fo fl ρ4),q4⟩⟩ q3
  · have e:i = xs.length:=by omega
    subst e
    rw [List.drop_length] at j2
    exact .inl ⟨vi.stop _ H (Nat.le_refl _) sH,ok.nx _ _ _ _ (g1.fs.trans s2) R2 j2⟩
noncomputable def vWh (fl:List Nat) (f:TB) (t:TSv) (m:Nat):TSv:=fun D ρ=>f ρ fun b=>if b = true then t { D with nx:=fun ρ'=>∃ k,∃ h:k < m,vWh fl f t k D (fo fl ρ'),ct:=fun ρ'=>∃ k,∃ h:k < m,vWh fl f t k D (fo fl ρ'),bk:=fun ρ'=>D.nx (fo fl ρ') } ρ else D.nx ρ
termination_by m
noncomputable def vWhileF (fl:List Nat) (f:TB) (t:TSv):TSv:=fun D ρ=>∃ m,vWh fl f t m D (fo fl ρ)
theorem vWh_eq (fl:List Nat) (f:TB) (t:TSv) (m:Nat) (D:VEnds) (ρ:En):vWh fl f t m D ρ = f ρ fun b=>if b = true then t { D with nx:=fun ρ'=>∃ k,∃ h:k < m,vWh fl f t k D (fo fl ρ'),ct:=fun ρ'=>∃ k,∃ h:k < m,vWh fl f t k D (fo fl ρ'),bk:=fun ρ'=>D.nx (fo fl ρ') } ρ else D.nx ρ:=by
  conv=>lhs; unfold vWh
theorem vs_whileF (fl:List Nat) (hp:PassesOwn (model X.prog X.w) X.A X.env X.xe) (hc:PB X rl c f) (hb:PSsV X rl body t):PSV X rl (.While c body [] pos) (vWhileF fl f t):=by
  obtain ⟨t0,p0,k0⟩:=hc
  obtain ⟨t1,p1,k1⟩:=hb
  refine ⟨_,ps_while hp p0 p1,fun {F₀ H₀ F H σ ρ} R Dv D ok q=>?_⟩
  obtain ⟨m,j0⟩:=q
  refine ⟨fun m σ' H'=>∃ F' ρ',Same F F' /\ VR X.K rl F₀ H₀ F' H' σ' ρ' /\ vWh fl f t m Dv ρ',⟨m,F,fo fl ρ,.refl _,R.le (le_fo fl ρ),j0⟩,?_⟩
  rintro m σ2 H2 ⟨F2,ρ2,s2,R2,j⟩
  rw [vWh_eq] at j
  refine k0 R2 _ _ j fun b F1 H1 g1 q1=>?_
  cases b with
  | false=>exact ok.nx _ _ _ _ (s2.trans g1.fs) (R2.grow g1) q1
  | true =>
    refine ⟨fun σ' H'=>∃ F' ρ',Same F F' /\ VR X.K rl F₀ H₀ F' H' σ' ρ' /\ ∃ m',m' < m /\ vWh fl f t m' Dv ρ',fun σ' H' ⟨F',ρ',s',R',m',hm,j⟩=>⟨m',hm,F',ρ',s',R',j⟩,?_⟩
    exact k1 (R2.grow g1) { Dv with nx:=fun ρ'=>∃ k,∃ h:k < m,vWh fl f t k Dv (fo fl ρ'),ct:=fun ρ'=>∃ k,∃ h:k < m,vWh fl f t k Dv (fo fl ρ'),bk:=fun ρ'=>Dv.nx (fo fl ρ') } _
      ⟨fun F3 H3 σ3 ρ3 s3 R3 ⟨m',hm,q3⟩=>⟨F3,fo fl ρ3,(s2.trans g1.fs).trans s3,R3.le (le_fo fl ρ3),m',hm,q3⟩,ok.rt,fun F3 H3 σ3 ρ3 s3 R3 q3=>ok.nx _ _ _ _ ((s2.trans g1.fs).trans s3) (R3.le (le_fo fl ρ3)) q3,fun F3 H3 σ3 ρ3 s3 R3 ⟨m',hm,q3⟩=>⟨F3,fo fl ρ3,(s2.trans g1.fs).trans s3,R3.le (le_fo fl ρ3),m',hm,q3⟩⟩ q1
end
noncomputable def lpK (fl:List Nat) (k:En -> Mo Fl):Fl -> Mo Fl
  | .nx ρ=>k (fo fl ρ)
  | .ct ρ=>k (fo fl ρ)
  | .bk ρ=>ret (.nx (fo fl ρ))
  | .rt w=>ret (.rt w)
noncomputable def loopM (fl:List Nat) (b:PyData -> En -> Mo Fl):List PyData -> En -> Mo Fl
  | [],ρ=>ret (.nx ρ)
  | x :: xs,ρ=>bnd (b x ρ) (lpK fl (loopM fl b xs))
theorem loop_eq (fl:List Nat) (g:TGv) (t:TSv):∀ (xs:List PyData) (ρ:En),mS (vLoopF fl g t xs) ρ = loopM fl (fun x ρ=>bnd (g x ρ) (mS t)) xs ρ
  | [],ρ=>rfl
  | x :: xs,ρ=>by
    refine mo_ext fun Q=>?_
    show (g x ρ fun ρ2=>t ⟨fun ρ'=>mS (vLoopF fl g t xs) (fo fl ρ') Q,fun w=>Q (.rt w),fun ρ'=>Q (.nx (fo fl ρ')),fun ρ'=>mS (vLoopF fl g t xs) (fo fl ρ') Q⟩ ρ2) ↔ _
    simp only [loop_eq fl g t xs]
    exact Iff.rfl
noncomputable def bdy (g:TGv) (t:TSv):PyData -> En -> Mo Fl:=fun x ρ=>bnd (g x ρ) (mS t)
theorem bdy_ap (g:TGv) (t:TSv) (x:PyData) (ρ:En):bdy g t x ρ = bnd (g x ρ) (mS t):=nr rfl
theorem s_for (fl:List Nat) (fi:En -> (List PyData -> Prop) -> Prop) (g:TGv) (t:TSv) (ρ:En):mS (vForF fl fi g t) ρ = bnd (fi ρ) fun xs=>loopM fl (bdy g t) xs (fo fl ρ):=by
  refine mo_ext fun Q=>?_
  show (fi ρ fun xs=>mS (vLoopF fl g t xs) (fo fl ρ) Q) ↔ _
  simp only [loop_eq]
  exact Iff.rfl
noncomputable def lpQ (fl:List Nat) (J:En -> Prop) (Q:Fl -> Prop):Fl -> Prop
  | .nx ρ=>J (fo fl ρ)
  | .ct ρ=>J (fo fl ρ)
  | .bk ρ=>Q (.nx (fo fl ρ))
  | .rt w=>Q (.rt w)
section
variable {α σ:Type} {fl:List Nat} {b:PyData -> En -> Mo Fl}
theorem loop_inv (J:Nat -> En -> Prop) {Q:Fl -> Prop}:∀ {xs:List PyData} {ρ:En} (n:Nat),J n ρ -> (∀ i x ρ,xs[i]? = some x -> J (n + i) ρ -> ∀ k:Fl -> Prop,(∀ r,lpQ fl (J (n + i + 1)) Q r -> k r) -> b x ρ k) -> (∀ ρ,J (n + xs.length) ρ -> Q (.nx ρ)) -> loopM fl b xs ρ Q
  | [],ρ,n,h0,_,fin=>fin ρ h0
  | x :: xs,ρ,n,h0,step,fin=>by
    refine step 0 x ρ rfl h0 (fun r=>lpK fl (loopM fl b xs) r Q) fun r hr=>?_
    have rc:∀ ρ',J (n + 1) ρ' -> loopM fl b xs ρ' Q:=fun ρ' h'=>loop_inv J (n + 1) h' (fun i y ρ e j k hk=>step (i + 1) y ρ (by simpa using e) (by rw [show n + (i + 1) = n + 1 + i by omega]; exact j) k (by rw [show n + (i + 1) + 1 = n + 1 + i + 1 by omega]; exact hk)) (fun ρ j=>fin ρ (by rw [List.length_cons,show n + (xs.length + 1) = n + 1 + xs.length by omega]; exact j))
    cases r with
    | nx ρ'=>exact rc _ hr
    | ct ρ'=>exact rc _ hr
    | bk ρ'=>exact hr
    | rt w=>exact hr
theorem loop_by {xs:List α} {enc : α -> PyData} {ρ:En} {Q:Fl -> Prop} (J:Nat -> En -> Prop) (h0:J 0 ρ)
    (step:∀ i (h:i < xs.length) ρ,J i ρ -> ∀ k:Fl -> Prop,(∀ r,lpQ fl (J (i + 1)) Q r -> k r) -> b (enc xs[i]) ρ k) (fin:∀ ρ,J xs.length ρ -> Q (.nx ρ)):loopM fl b (xs.map enc) ρ Q:=by
  refine loop_inv J 0 h0 (fun i x ρ e j k hk=>?_) (fun ρ j=>fin ρ (by simpa using j))
  have hi:i < xs.length:=by have:=(List.getElem?_eq_some_iff.mp e).1; simpa using this
  rw [List.getElem?_map,List.getElem?_eq_getElem hi] at e
  cases e
  rw [Nat.zero_add] at j hk
  exact step i hi ρ j k hk
theorem loop_byR {lo:Int} {n:Nat} {ρ:En} {Q:Fl -> Prop} (J:Nat -> En -> Prop) (h0:J 0 ρ)
    (step:∀ i,i < n -> ∀ ρ,J i ρ -> ∀ k:Fl -> Prop,(∀ r,lpQ fl (J (i + 1)) Q r -> k r) -> b (.int (lo + i)) ρ k) (fin:∀ ρ,J n ρ -> Q (.nx ρ)):loopM fl b (rangeD lo n) ρ Q:=by
  refine loop_by (xs:=List.range n) J h0 (fun i h ρ j k hk=>?_) (fun ρ j=>fin ρ (by simpa using j))
  rw [List.getElem_range]
  exact step i (by simpa using h) ρ j k hk
end
noncomputable def whileM (fl:List Nat) (f:TB) (t:TSv) (ρ:En):Mo Fl:=fun Q=>∃ m,mS (vWh fl f t m) ρ Q
theorem s_while (fl:List Nat) (f:TB) (t:TSv) (ρ:En):mS (vWhileF fl f t) ρ = whileM fl f t (fo fl ρ):=nr rfl
theorem wh_eq (fl:List Nat) (f:TB) (t:TSv) (m:Nat) (ρ:En):mS (vWh fl f t m) ρ = bnd (f ρ) fun b=>if b = true then bnd (mS t ρ) (lpK fl fun ρ'=>fun Q=>∃ k,∃ h:k < m,mS (vWh fl f t k) ρ' Q) else ret (.nx ρ):=by
  refine mo_ext fun Q=>?_
  show vWh fl f t m _ ρ ↔ _
  rw [vWh_eq]
  simp only [bnd,ite_ap]
  exact Iff.rfl
theorem while_f {fl:List Nat} {f:TB} {t:TSv} {ρ:En} (h:f ρ = ret false):whileM fl f t ρ = ret (.nx ρ):=by
  refine mo_ext fun Q=>?_
  constructor
  · rintro ⟨m,q⟩; rw [wh_eq,h,bnd_ret,if_neg (by decide)] at q; exact q
  · intro q; refine ⟨0,?_⟩; rw [wh_eq,h,bnd_ret,if_neg (by decide)]; exact q
theorem while_t {fl:List Nat} {f:TB} {t:TSv} {ρ ρ':En} (h:f ρ = ret true) (h2:mS t ρ = ret (.nx ρ')):whileM fl f t ρ = whileM fl f t (fo fl ρ'):=by
  refine mo_ext fun Q=>?_
  constructor
  · rintro ⟨m,q⟩; rw [wh_eq,h,bnd_ret,if_pos rfl,h2,bnd_ret] at q; obtain ⟨k,_,q⟩:=q; exact ⟨k,q⟩
  · rintro ⟨m,q⟩; refine ⟨m + 1,?_⟩; rw [wh_eq,h,bnd_ret,if_pos rfl,h2,bnd_ret]; exact ⟨m,Nat.lt_succ_self m,q⟩
theorem while_det {σ:Type} {fl:List Nat} {f:TB} {t:TSv} (st : σ -> En) (c : σ -> Bool) (nxt : σ -> σ) (μ : σ -> Nat) (I : σ -> Prop)
    (hf:∀ s,I s -> f (st s) = ret (c s)) (ht:∀ s,I s -> c s = true -> I (nxt s) /\ μ (nxt s) < μ s /\ ∃ ρ',mS t (st s) = ret (.nx ρ') /\ fo fl ρ' = st (nxt s)) (s : σ) (hs:I s):∃ s',I s' /\ c s' = false /\ whileM fl f t (st s) = ret (.nx (st s')):=by
  induction hm : μ s using Nat.strongRecOn generalizing s with
  | ind n ih =>
    subst hm
    cases hc:c s with
    | false=>exact ⟨s,hs,hc,while_f (by rw [hf s hs,hc])⟩
    | true =>
      obtain ⟨i1,m1,ρ',e1,e2⟩:=ht s hs hc
      obtain ⟨s',a,b,e⟩:=ih _ m1 (nxt s) i1 rfl
      exact ⟨s',a,b,by rw [while_t (by rw [hf s hs,hc]) e1,e2,e]⟩
noncomputable def vGoR (ρ0:En) (g:TGv) (ft:TB) (fe:TV):List PyData -> List PyData -> (List PyData -> Prop) -> Prop
  | [],acc,Q=>Q acc
  | x :: xs,acc,Q=>g x ρ0 fun ρ2=>Le ρ0 ρ2 /\ ft ρ2 fun b=>if b = true then fe ρ2 fun w=>∃ d,w.fz = .d d /\ acc.length < sizeLine /\ vGoR ρ0 g ft fe xs (acc ++ [d]) Q else vGoR ρ0 g ft fe xs acc Q
noncomputable def vCompR (fi:En -> (List PyData -> Prop) -> Prop) (fr:List (Option Nat)) (g:TGv) (ft:TB) (fe:TV):TV:=fun ρ Q=>fi ρ fun xs=>vGoR (frEn fr ρ) g ft fe xs [] fun ds=>Q (.ml ds)
section
variable {X:Cx} {rl:RlT} {elt tg iter:Expr} {ifs:List Expr} {scope:Scope} {pos:Pos} {fi:En -> (List PyData -> Prop) -> Prop} {g:TGv} {ft:TB} {fe:TV}
theorem lcompR_k {N':List Str} {wi:TI} (fr:List (Option Nat)) (k0:∀ {F₀ H₀ F H:Hp} {σ:St} {ρ:En},VR X.K rl F₀ H₀ F H σ ρ -> ∀ (Qd:List PyData -> Prop) (R:It -> Hp -> Prop),fi ρ Qd ->
      (∀ J xs F' H',Grow rl F H F' H' -> VIt X.K rl F' J xs -> Qd xs -> R J H') -> wi σ H R)
    (hg:∀ y,PGV (blk X N' scope y) rl tg g) (ht:∀ y,PTVs (blk X N' scope y) rl ifs ft) (he:∀ y,PV (blk X N' scope y) rl elt fe)
    {F₀ H₀ F H:Hp} {σ:St} {ρ:En} (R:VR X.K rl F₀ H₀ F H σ ρ) (Qd:W -> Prop) (Q:VK) (q:vCompR fi fr g ft fe ρ Qd)
    (k:∀ v w F' H',Grow rl F H F' H' -> RelW X.K rl F' H' v w -> NewIn H v w -> Qd w -> Q v H'):tComp wi fr (fun y=>Classical.choose (hg y)) (fun y=>Classical.choose (ht y)) (fun y=>Classical.choose (he y)) σ H Q:=by
  refine k0 R _ _ q fun J xs F1 H1 g1 vi q1=>?_
  intro D hD
  have rD:rl.a ≠ some D:=fun e=>by obtain ⟨o,z⟩:=g1.reel.live e; rw [hD] at z; cases z
  have FD:F1 D = none:=g1.sub.free hD
  have gD:Grow rl F1 H1 F1 (upd H1 D (.lst [])):=Grow.laid g1.sub g1.reel hD
  have R1:=R.grow g1
  have n0:NoMl (frEn fr ρ):=noMl_block
  refine ⟨fun i m acc σc Hc=>m = xs.length - i /\ i <= xs.length /\ ∃ Fc ds,VR X.K rl F1 H1 Fc Hc σc (frEn fr ρ) /\ Hc D = some (.lst acc) /\ Fc D = none /\ Reps X.K Fc acc ds /\ vGoR (frEn fr ρ) g ft fe (xs.drop i) ds (fun ds=>Qd (.ml ds)),
    ⟨xs.length,by simp,Nat.zero_le _,F1,[],vr_block R1 gD,upd_same,FD,.nil,by simpa using q1⟩,?_⟩
  rintro z i m acc σc Hc ⟨rfl,hi,Fc,ds,Rc,hDc,fDc,rs,q2⟩
  have sH:Same F1 Hc:=Rc.g.fs.trans Rc.sub
  by_cases hlt:i < xs.length
  · have ei:xs[i]? = some xs[i]:=by simp [hlt]
    have ed:xs.drop i = xs[i] :: xs.drop (i + 1):=List.drop_eq_getElem_cons hlt
    rw [ed] at q2
    refine .inr ⟨vi.go i Hc _ ei sH,fun v H' y=>?_⟩
    obtain ⟨Fy,gy,rv⟩:=vi.yld i Hc v H' _ Fc ei Rc.g.fs Rc.sub Rc.reel y
    refine (Classical.choose_spec (hg z)).2 (Rc.grow gy) v _ _ _ rv q2 fun F3 H3 σ3 ρ3 g3 n3 R3 ⟨le3,q3⟩=>?_
    refine (Classical.choose_spec (ht z)).2 R3 _ _ q3 fun b F4 H4 g4 q4=>?_
    have R4:=R3.grow g4
    have g34:=(gy.trans g3).trans g4
    have keepD:∀ {Fx Hx:Hp},Grow rl Fc Hc Fx Hx -> Hx D = some (.lst acc) /\ Fx D = none:=fun gx=>⟨gx.same D _ hDc rD,by rw [gx.old D _ hDc]; exact fDc⟩
    cases b with
    | false=>exact ⟨xs.length - (i + 1),by omega,rfl,hlt,F4,ds,R4.le le3,(keepD g34).1,(keepD g34).2,rs.mono g34.fs,q4⟩
    | true =>
      refine (Classical.choose_spec (he z)).2 R4 _ _ q4 fun v5 w5 F5 H5 g5 r5 n5 ⟨d,ed5,hl,q5⟩=>?_
      obtain ⟨F6,g6,s6,r6⟩:=RelW.fz g5 r5 n5
      rw [ed5] at r6
      have g36:=g34.trans g6
      refine ⟨(keepD g36).1,by rw [rs.length]; exact hl,xs.length - (i + 1),by omega,rfl,hlt,F6,ds ++ [d],((R4.grow g6).le le3).other n0 hD (keepD g36).2 rD,upd_same,(keepD g36).2,(rs.mono g36.fs).snoc r6,q5⟩
  · have e:i = xs.length:=by omega
    subst e
    rw [List.drop_length] at q2
    refine .inl ⟨vi.stop _ Hc (Nat.le_refl _) sH,k _ (.ml ds) Fc Hc (g1.trans Rc.g) ⟨D,acc,rfl,fDc,rD,hDc,rs⟩ (fun a ea=>by cases ea; exact g1.freeB hD) q2⟩
theorem v_lcompR (N':List Str) (fr:List (Option Nat)) (hc:X.calm = true) (hi:PIV X rl tg iter fi)
    (hg:∀ y,PGV (blk X N' scope y) rl tg g) (ht:∀ y,PTVs (blk X N' scope y) rl ifs ft) (he:∀ y,PV (blk X N' scope y) rl elt fe)
    (hfr:frOk fr N' X.N scope X.env.scope = true:=by rfl) (hsc:scOk scope X.env.scope = true:=by rfl)
    (hs:∀ x,foldedSetIterable iter X.env x = pure x:=by intro _; rfl):PV X rl (.ListComp elt [⟨tg,iter,ifs,0⟩] scope pos) (vCompR fi fr g ft fe):=by
  obtain ⟨wi,p0,k0⟩:=hi
  exact ⟨_,pe_lcomp N' fr hc p0 hfr hsc (fun y=>(Classical.choose_spec (hg y)).1) (fun y=>(Classical.choose_spec (ht y)).1) (fun y=>(Classical.choose_spec (he y)).1) hs,fun R Qd Q q k=>lcompR_k fr k0 hg ht he R Qd Q q k⟩
end
noncomputable def itM (ρ0:En) (g:TGv) (ft:TB) (fe:TV) (x:PyData):Mo (Option PyData):=bnd (g x ρ0) fun ρ2=>grd (Le ρ0 ρ2) (bnd (ft ρ2) fun b=>if b = true then bnd (fe ρ2) fun w=>optM (asD w.fz) fun d=>ret (some d) else ret none)
noncomputable def compM (b:PyData -> Mo (Option PyData)):List PyData -> List PyData -> Mo (List PyData)
  | [],acc=>ret acc
  | x :: xs,acc=>bnd (b x) fun o=>match o with
    | some d=>grd (acc.length < sizeLine) (compM b xs (acc ++ [d]))
    | none=>compM b xs acc
theorem comp_eq (ρ0:En) (g:TGv) (ft:TB) (fe:TV):∀ (xs acc:List PyData),vGoR ρ0 g ft fe xs acc = compM (itM ρ0 g ft fe) xs acc
  | [],acc=>rfl
  | x :: xs,acc=>by
    refine mo_ext fun Q=>?_
    show (g x ρ0 fun ρ2=>Le ρ0 ρ2 /\ ft ρ2 fun b=>if b = true then fe ρ2 fun w=>∃ d,w.fz = .d d /\ acc.length < sizeLine /\ vGoR ρ0 g ft fe xs (acc ++ [d]) Q else vGoR ρ0 g ft fe xs acc Q) ↔ (bnd (itM ρ0 g ft fe x) _) Q
    simp only [comp_eq ρ0 g ft fe xs]
    have:∀ (ρ2:En) (b:Bool),(if b = true then fe ρ2 fun w=>∃ d,w.fz = .d d /\ acc.length < sizeLine /\ compM (itM ρ0 g ft fe) xs (acc ++ [d]) Q else compM (itM ρ0 g ft fe) xs acc Q) = (bnd (if b = true then bnd (fe ρ2) fun w=>optM (asD w.fz) fun d=>ret (some d) else ret none) fun o=>match o with
    | some d=>grd (acc.length < sizeLine) (compM (itM ρ0 g ft fe) xs (acc ++ [d]))
    | none=>compM (itM ρ0 g ft fe) xs acc) Q:=by
      intro ρ2 b
      cases b with
      | false=>rfl
      | true =>
        rw [if_pos rfl,if_pos rfl]
        show _ = fe ρ2 fun w=>_
        congr 1
        funext w
        refine propext ?_
        show _ ↔ (bnd (optM (asD w.fz) fun d=>ret (some d)) _) Q
        rw [bnd_opt,opt_iff]
        simp only [asD_of]
        exact Iff.rfl
    simp only [this]
    exact Iff.rfl
theorem m_comp (fi:En -> (List PyData -> Prop) -> Prop) (fr:List (Option Nat)) (g:TGv) (ft:TB) (fe:TV) (ρ:En):vCompR fi fr g ft fe ρ = bnd (fi ρ) fun xs=>bnd (compM (itM (frEn fr ρ) g ft fe) xs []) fun ds=>ret (.ml ds):=by
  refine mo_ext fun Q=>?_
  show (fi ρ fun xs=>vGoR (frEn fr ρ) g ft fe xs [] fun ds=>Q (.ml ds)) ↔ _
  simp only [comp_eq]
  exact Iff.rfl
section
variable {α:Type} {b:PyData -> Mo (Option PyData)}
theorem compM_acc {enc : α -> PyData} (f : α -> Option PyData):∀ (xs:List α) (acc:List PyData),(∀ x ∈ xs,b (enc x) = ret (f x)) -> acc.length + xs.length <= sizeLine -> compM b (xs.map enc) acc = ret (acc ++ xs.filterMap f)
  | [],acc,_,_=>by simp [compM]
  | x :: xs,acc,h,hl=>by
    show bnd (b (enc x)) _ = _
    rw [h x List.mem_cons_self,bnd_ret]
    simp at hl
    cases e:f x with
    | none =>
      show compM b (xs.map enc) acc = _
      rw [compM_acc f xs acc (fun y hy=>h y (List.mem_cons_of_mem _ hy)) (by omega),List.filterMap_cons_none e]
    | some d =>
      show grd (acc.length < sizeLine) (compM b (xs.map enc) (acc ++ [d])) = _
      rw [grd_t (by omega),compM_acc f xs (acc ++ [d]) (fun y hy=>h y (List.mem_cons_of_mem _ hy)) (by simp; omega),List.filterMap_cons_some e]
      simp
theorem comp_fm {xs:List α} {enc : α -> PyData} (f : α -> Option PyData) (h:∀ x ∈ xs,b (enc x) = ret (f x)) (hl:xs.length <= sizeLine):compM b (xs.map enc) [] = ret (xs.filterMap f):=by
  have:=compM_acc f xs [] h (by simpa using hl)
  simpa using this
theorem comp_map {xs:List α} {enc : α -> PyData} (f : α -> PyData) (h:∀ x ∈ xs,b (enc x) = ret (some (f x))) (hl:xs.length <= sizeLine):compM b (xs.map enc) [] = ret (xs.map f):=by
  rw [comp_fm (fun x=>some (f x)) h hl,List.filterMap_eq_map']
theorem comp_any_acc {enc : α -> PyData} (R : α -> PyData -> Prop) {Q:List PyData -> Prop}:∀ (xs:List α) (acc:List PyData),(∀ x ∈ xs,∀ k:Option PyData -> Prop,(∀ d,R x d -> k (some d)) -> b (enc x) k) -> acc.length + xs.length <= sizeLine -> (∀ ds,Paired R xs ds -> Q (acc ++ ds)) -> compM b (xs.map enc) acc Q
  | [],acc,_,_,fin=>by have:=fin [] .nil; rw [List.append_nil] at this; exact this
  | x :: xs,acc,h,hl,fin=>by
    simp at hl
    refine h x List.mem_cons_self _ fun d r=>?_
    refine ⟨by omega,comp_any_acc R xs (acc ++ [d]) (fun y hy=>h y (List.mem_cons_of_mem _ hy)) (by simp; omega) fun ds ps=>?_⟩
    have:=fin (d :: ds) (.cons r ps)
    simpa using this
theorem comp_any {xs:List α} {enc : α -> PyData} (R : α -> PyData -> Prop) {Q:List PyData -> Prop} (h:∀ x ∈ xs,∀ k:Option PyData -> Prop,(∀ d,R x d -> k (some d)) -> b (enc x) k) (hl:xs.length <= sizeLine) (fin:∀ ds,Paired R xs ds -> Q ds):compM b (xs.map enc) [] Q :=
  comp_any_acc R xs [] h (by simpa using hl) (by simpa using fin)
theorem comp_anyR {lo:Int} {n:Nat} (P:PyData -> Prop) {Q:List PyData -> Prop} (h:∀ j,j < n -> ∀ k:Option PyData -> Prop,(∀ d,P d -> k (some d)) -> b (.int (lo + j)) k) (hl:n <= sizeLine) (fin:∀ ds:List PyData,ds.length = n -> (∀ d ∈ ds,P d) -> Q ds):compM b (rangeD lo n) [] Q:=by
  refine comp_any (xs:=List.range n) (fun _ d=>P d) (fun j hj=>h j (List.mem_range.mp hj)) (by simpa using hl) fun ds ps=>?_
  refine fin ds ?_ ?_
  · have:=Paired.length ps; simpa using this.symm
  · clear fin h hl
    intro d hd
    generalize List.range n = l at ps
    induction ps with
    | nil=>cases hd
    | cons r _ ih=>exact (List.mem_cons.mp hd).elim (fun e=>by rw [e]; exact r) ih
end
section
variable (c:Prop) [Decidable c]
theorem ite_nx (a b:En):(if c then ret (Fl.nx a) else ret (Fl.nx b)) = ret (Fl.nx (if c then a else b)):=by split <;> rfl
theorem ite_rt (a b:W):(if c then ret (Fl.rt a) else ret (Fl.rt b)) = ret (Fl.rt (if c then a else b)):=by split <;> rfl
theorem ite_retd (a b:PyData):(if c then ret (W.d a) else ret (W.d b)) = ret (W.d (if c then a else b)):=by split <;> rfl
theorem ite_retb (a b:Bool):(if c then ret a else ret b) = ret (if c then a else b):=by split <;> rfl
theorem ite_rets (a b:PyData):(if c then ret (some a) else ret (some b)) = ret (some (if c then a else b)):=by split <;> rfl
theorem ite_cons {α:Type} (x y : α) (l m:List α):(if c then x :: l else y :: m) = (if c then x else y) :: (if c then l else m):=by split <;> rfl
theorem ite_some {α:Type} (x y : α):(if c then some x else some y) = some (if c then x else y):=by split <;> rfl
theorem ite_d (a b:PyData):(if c then W.d a else W.d b) = W.d (if c then a else b):=by split <;> rfl
theorem ite_pi (a b:Int):(if c then PyData.int a else PyData.int b) = PyData.int (if c then a else b):=by split <;> rfl
theorem ite_pb (a b:Bool):(if c then PyData.bool a else PyData.bool b) = PyData.bool (if c then a else b):=by split <;> rfl
theorem itb_tt (b y:Bool):(if b = true then true else y) = (b || y):=by cases b <;> rfl
theorem itb_ff (b y:Bool):(if b = true then y else false) = (b && y):=by cases b <;> rfl
theorem itb_ft (b y:Bool):(if b = true then false else y) = (!b && y):=by cases b <;> rfl
theorem itb_tf (b y:Bool):(if b = true then y else true) = (!b || y):=by cases b <;> rfl
end
theorem len_ok {n:Nat} (h:n <= 1000):(n <= sizeLine) = True:=by have:=PySem.sizeLine_eq; exact propext ⟨fun _=>trivial,fun _=>by omega⟩
theorem tup2 (x y:PyData):(match [x,y] with | [x,y]=>some (x,y) | _=>none) = some (x,y):=rfl
theorem bnd_tt {α β:Type} (a : α) (f : α -> Mo β):bnd (fun Q=>Q a) f = f a:=nr rfl
section
variable {α β:Type}
theorem any_step {P : α -> Prop} {f : α -> Mo β} {Q : β -> Prop} (h:∀ a,P a -> f a Q):bnd (anyM P) f Q:=h
theorem grd_step {P:Prop} {m:Mo α} {Q : α -> Prop} (h:P) (h':m Q):grd P m Q:=⟨h,h'⟩
theorem ite_step {c:Prop} [Decidable c] {a b:Mo α} {Q : α -> Prop} (h:c -> a Q) (h':¬ c -> b Q):(if c then a else b) Q:=by split <;> simp_all
theorem itb_step {b:Bool} {x y:Mo α} {Q : α -> Prop} (h:b = true -> x Q) (h':b = false -> y Q):(if b = true then x else y) Q:=by cases b <;> simp_all
end
theorem rt_end {Q:PyData -> Prop} {d:PyData} (h:Q d):ret (Fl.rt (.d d)) (endQ Q):=⟨d,rfl,h⟩
section
variable {α:Type} {k:En -> Mo Fl} {Q:Fl -> Prop}
theorem sqb {m:Mo α} {h : α -> Mo Fl} (z:bnd m (fun a=>sq (h a) k) Q):sq (bnd m h) k Q:=z
theorem sqo {o:Option α} {h : α -> Mo Fl} (z:optM o (fun a=>sq (h a) k) Q):sq (optM o h) k Q:=by rw [sq_opt]; exact z
noncomputable def kc (k1 k2:En -> Mo Fl):En -> Mo Fl:=fun ρ=>sq (k1 ρ) k2
theorem kc_ap (k1 k2:En -> Mo Fl) (ρ:En):kc k1 k2 ρ = sq (k1 ρ) k2:=nr rfl
theorem sq_sq (m:Mo Fl) (k1 k2:En -> Mo Fl):sq (sq m k1) k2 = sq m (kc k1 k2):=by
  refine mo_ext fun Q=>?_
  show m _ ↔ m _
  have:∀ fl:Fl,(sq (match fl with | .nx ρ=>k1 ρ | .rt w=>ret (.rt w) | .bk ρ=>ret (.bk ρ) | .ct ρ=>ret (.ct ρ)) k2) Q = (match fl with | .nx ρ=>kc k1 k2 ρ | .rt w=>ret (.rt w) | .bk ρ=>ret (.bk ρ) | .ct ρ=>ret (.ct ρ):Mo Fl) Q:=by intro fl; cases fl <;> rfl
  exact Iff.of_eq (congrArg m (funext this))
theorem sqb_any {P : α -> Prop} {f : α -> Mo Fl} (z:∀ a,P a -> sq (f a) k Q):sq (bnd (anyM P) f) k Q:=z
end
end L2.VL

namespace L2.VL
open PySem PySem.Spec PyProof.Rows
theorem pk_sc (x:List Int):L2.VL.W.peek (.sc x) = .sc x:=rfl
theorem fz_sc (x:List Int):(W.sc x).fz = .sc x:=rfl
theorem arg_sc (x:List Int):argOk (.sc x) = true:=rfl
theorem isPk_sc (x:List Int):(W.sc x).isPk = false:=rfl
section
variable {X:Cx} {rl:RlT} {a b c e:Expr} {es:List Expr} {fa fb fc:TV} {fs:TVs} {pos p p2:Pos} {ρ:En}
noncomputable def asSc:W -> Option (List Int)
  | .sc ns=>some ns
  | _=>none
theorem asSc_s (ns:List Int):asSc (.sc ns) = some ns:=rfl
theorem asSc_of {w:W} {i:List Int}:asSc w = some i ↔ w = .sc i:=by
  constructor
  · intro h; unfold asSc at h; split at h <;> simp_all
  · rintro rfl; rfl
theorem atI_map {α β:Type} (f : α -> β) (xs:List α) (i:Int):atI (xs.map f) i = (atI xs i).map f:=by
  unfold atI
  rw [List.length_map]
  cases ixN xs.length i <;> simp
theorem reps_is {K:W.Frag} {F:Hp}:∀ ns:List Int,Reps K F (ns.map V.int) (ns.map PyData.int)
  | []=>.nil
  | n :: ns=>.cons (.int n) (reps_is ns)
noncomputable def vSlS (fa:TV) (fl fh:TOv):TV:=fun ρ Q=>fa ρ fun w=>fl ρ fun l=>fh ρ fun h=>∃ ns:List Int,w = .sc ns /\ Q (.ml (cutD (ns.map .int) l h))
theorem v_slSc {lo hi:Option Expr} {fl fh:TOv} (ha:PV X rl a fa) (hl:PVO X rl lo fl) (hh:PVO X rl hi fh):PV X rl (.Subscript a (.Slice lo hi none p2) pos) (vSlS fa fl fh):=by
  obtain ⟨t,p,k⟩:=ha
  obtain ⟨tl,pl,kl⟩:=hl
  obtain ⟨th,ph,kh⟩:=hh
  refine ⟨_,pe_slice sl_list p pl ph,fun R Qd Q q h=>k R _ _ q fun v w F1 H1 g1 r1 n1 q1=>?_⟩
  refine kl (R.grow g1) _ _ q1 fun l F2 H2 g2 q2=>kh ((R.grow g1).grow g2) _ _ q2 fun u F3 H3 g3 q3=>?_
  obtain ⟨ns,rfl,q3⟩:=q3
  obtain ⟨a,rfl,sq⟩:=(r1.grow g2).grow g3
  have g:=(g1.trans g2).trans g3
  exact ⟨a,_,rfl,sameL g3.sub sq,fun p hp=>h _ (.ml _) _ _ (g.trans (Grow.laid g3.sub g3.reel hp)) (own_laid g3.sub g3.reel hp ((reps_is ns).cut l u)) (fun a ea=>by cases ea; exact g.freeB hp) q3⟩
theorem m_vSlS {fl fh:TOv}:vSlS fa fl fh ρ = bnd (fa ρ) fun w=>bnd (fl ρ) fun l=>bnd (fh ρ) fun h=>optM (asSc w) fun ns=>ret (.ml (cutD (ns.map .int) l h)):=by
  refine mo_ext fun Q=>?_
  simp only [vSlS,bnd,opt_iff,asSc_of,ret]
end
noncomputable def spR (K:W.Frag) (pre:List W -> Prop):Sp:=fun vs H Q _=>∃ F ws,Same F H /\ RelWs K RlT.no F H vs ws /\ ws.all argOk = true /\ pre ws /\ ∀ r n' F' H',H r = none -> Grow RlT.no F H F' H' -> RAt (RlT.at' r n') F' H' -> Q (.ref r) H'
structure DfnR (P:Program) (w:World) (K:W.Frag) (mg:Str -> Option Value) (base:Heap) (x:Str) (ps:List Str) (k:Nat) (pre:List W -> Prop):Prop where
  ex:∃ f fd,mg x = some (.ref f) /\ W.keepIn K (.ref f) = true /\ Binds K fd ps [] /\ FnOk P w K mg base CX0 k f fd ps (spR K pre)
noncomputable def nR1:Option W -> Option W
  | some .reel=>none
  | o=>o
noncomputable def nR (ρ:En):En:=ρ.map nR1
noncomputable def W.isR:W -> Bool
  | .reel=>true
  | _=>false
noncomputable def vNewR (i:Nat) (pre:List W -> Prop) (fs:TVs) (t:TSv):TSv:=fun D ρ=>fs ρ fun ws=>ws.all argOk = true /\ pre ws /\ t ⟨fun ρ'=>D.nx (nR ρ'),fun w=>w.isR = false /\ D.rt w,fun ρ'=>D.bk (nR ρ'),fun ρ'=>D.ct (nR ρ')⟩ (ρ.set i (some .reel))
theorem grow_in {F₀ H₀ F H:Hp} {r:Addr} {n':Nat × List Int} (g:Grow RlT.no F₀ H₀ F H) (ra:RAt (RlT.at' r n') F H):Grow (RlT.at' r n') F₀ H₀ F H:=⟨fun b o e _=>g.same b o e (by simp),g.fs,g.sub,g.old,ra⟩
theorem grow_out {F₀ H₀ F H:Hp} {r:Addr} {n':Nat × List Int} (g:Grow (RlT.at' r n') F₀ H₀ F H) (n:H₀ r = none):Grow RlT.no F₀ H₀ F H:=⟨fun b o e _=>g.same b o e (fun z=>by cases z; rw [n] at e; cases e),g.fs,g.sub,g.old,fun _ z=>by cases z⟩
theorem rel_in {K:W.Frag} {F H:Hp} {r:Addr} {n':Nat × List Int} {v:V} {w:W} (h:RelW K RlT.no F H v w) (ne:∀ a,w.own = true \/ (∃ xs,w = .pk xs) -> v = .ref a -> a ≠ r):RelW K (RlT.at' r n') F H v w:=by
  cases w with
  | d x=>exact h
  | ml xs=>obtain ⟨a,vs,e,f,_,g⟩:=h; exact ⟨a,vs,e,f,fun z=>ne a (.inl rfl) e (by cases z; rfl),g⟩
  | pk xs=>obtain ⟨a,vs,e,f,_,g⟩:=h; exact ⟨a,vs,e,f,fun z=>ne a (.inr ⟨_,rfl⟩) e (by cases z; rfl),g⟩
  | reel=>obtain ⟨_,z,_⟩:=h; cases z
  | vv u=>exact h
  | md kvs=>obtain ⟨a,vs,e,f,_,g⟩:=h; exact ⟨a,vs,e,f,fun z=>ne a (.inl rfl) e (by cases z; rfl),g⟩
  | mk kvs=>obtain ⟨a,vs,e,f,_,g⟩:=h; exact ⟨a,vs,e,f,fun z=>ne a (.inl rfl) e (by cases z; rfl),g⟩
  | nt ds=>exact h
  | lk=>trivial
  | sc ns=>exact h
  | fd _=>exact h
  | fw _=>exact h
  | ft _=>exact h
  | xc _ _=>exact h
  | dp _ _=>exact h
theorem rel_out {K:W.Frag} {F H:Hp} {r:Addr} {n':Nat × List Int} {v:V} {w:W} (h:RelW K (RlT.at' r n') F H v w) (n:w.isR = false):RelW K RlT.no F H v w:=by
  cases w with
  | d x=>exact h
  | ml xs=>obtain ⟨a,vs,e,f,_,g⟩:=h; exact ⟨a,vs,e,f,by simp,g⟩
  | pk xs=>obtain ⟨a,vs,e,f,_,g⟩:=h; exact ⟨a,vs,e,f,by simp,g⟩
  | reel=>cases n
  | vv u=>exact h
  | md kvs=>obtain ⟨a,vs,e,f,_,g⟩:=h; exact ⟨a,vs,e,f,by simp,g⟩
  | mk kvs=>obtain ⟨a,vs,e,f,_,g⟩:=h; exact ⟨a,vs,e,f,by simp,g⟩
  | nt ds=>exact h
  | lk=>trivial
  | sc ns=>exact h
  | fd _=>exact h
  | fw _=>exact h
  | ft _=>exact h
  | xc _ _=>exact h
  | dp _ _=>exact h
theorem nR_get {ρ:En} {i:Nat} {w:W} (h:(nR ρ)[i]? = some (some w)) : ρ[i]? = some (some w) /\ w.isR = false:=by
  unfold nR at h
  rw [List.getElem?_map] at h
  cases e : ρ[i]? with
  | none=>rw [e] at h; cases h
  | some o =>
    rw [e] at h
    cases o with
    | none=>cases h
    | some u=>cases u <;> first | (cases h; exact ⟨rfl,rfl⟩) | cases h
theorem VR.out {K:W.Frag} {r:Addr} {n':Nat × List Int} {F₀ H₀ F H:Hp} {σ:St} {ρ:En} (R:VR K (RlT.at' r n') F₀ H₀ F H σ ρ) (n:H₀ r = none):VR K RlT.no F₀ H₀ F H σ (nR ρ):=by
  refine ⟨grow_out R.g n,fun i w e=>?_,fun i j x y v hn e1 e2=>R.ap i j x y v hn (nR_get e1).1 (nR_get e2).1,fun i xs e=>R.np i xs (nR_get e).1,?_⟩
  · obtain ⟨e1,e2⟩:=nR_get e
    obtain ⟨v,h1,h2,h3⟩:=R.sl i w e1
    exact ⟨v,h1,rel_out h2 e2,h3⟩
  · have:=R.len; simpa [nR] using this
theorem VR.into {K:W.Frag} {r:Addr} {n':Nat × List Int} {F₀ H₀ F H F' H':Hp} {σ:St} {ρ:En} (R:VR K RlT.no F₀ H₀ F H σ ρ) (n:H r = none) (g:Grow RlT.no F H F' H') (ra:RAt (RlT.at' r n') F' H') (i:Nat):VR K (RlT.at' r n') F₀ H₀ F' H' (σ.set i (some (.ref r))) (ρ.set i (some .reel)):=by
  have R1:=R.grow g
  refine ⟨grow_in R1.g ra,fun j w e=>?_,fun j k x y v hn e1 e2 o1 o2 s1 s2=>?_,fun j xs e=>?_,by simp [R.len]⟩
  · by_cases hj:i = j
    · subst hj
      have hi:i < ρ.length:=by
        rw [List.getElem?_set] at e
        by_cases hi:i < ρ.length
        · exact hi
        · simp [hi] at e
      rw [List.getElem?_set_self hi] at e
      cases e
      exact ⟨.ref r,by rw [List.getElem?_set_self (by rw [<- R.len]; exact hi)],⟨r,rfl,rfl⟩,trivial⟩
    · rw [List.getElem?_set_ne hj] at e
      obtain ⟨v,h1,h2,h3⟩:=R1.sl j w e
      refine ⟨v,by rw [List.getElem?_set_ne hj]; exact h1,rel_in h2 fun a ow ea z=>?_,h3⟩
      obtain ⟨v0,h10,h20,_⟩:=R.sl j w e
      rw [h1] at h10
      cases h10
      rcases ow with ow | ⟨xs,rfl⟩
      · obtain ⟨b,o,eb,hb⟩:=h20.live ow
        rw [ea] at eb
        cases eb
        rw [z,n] at hb
        cases hb
      · exact absurd e (R.np j xs)
  · have key:∀ (m:Nat) (z:W),(ρ.set i (some W.reel))[m]? = some (some z) -> z.own = true -> i ≠ m /\ ρ[m]? = some (some z):=fun m z e o=>by
      by_cases hm:i = m
      · subst hm
        rw [List.getElem?_set] at e
        split at e
        · split at e
          · cases e; cases o
          · cases e
        · exact absurd rfl (by assumption)
      · rw [List.getElem?_set_ne hm] at e; exact ⟨hm,e⟩
    obtain ⟨n1,d1⟩:=key j x e1 o1
    obtain ⟨n2,d2⟩:=key k y e2 o2
    rw [List.getElem?_set_ne n1] at s1
    rw [List.getElem?_set_ne n2] at s2
    exact R1.ap j k x y v hn d1 d2 o1 o2 s1 s2
  · rw [List.getElem?_set] at e
    split at e
    · split at e
      · cases e
      · cases e
    · exact R1.np j xs e
section
variable {X:Cx} {st:Stmt} {rest body:List Stmt} {t u:TSv} {a b c e:Expr} {es:List Expr} {fa fb:TV} {fs:TVs} {pos p px cpos:Pos} {ρ:En}
theorem vs_newR (i:Nat) {x f:Str} {ps:List Str} {k:Nat} {pre:List W -> Prop} (D:DfnR X.prog X.w X.K X.mg X.base f ps k pre) (hr:Room k X.A) (hN:X.N.Nodup) (ha:PVs X RlT.no (e :: es) fs) (hrest:∀ r n',PSsV X (RlT.at' r n') rest t)
    (hi:X.N[i]? = some x:=by rfl) (hx:Loc X.env.scope x:=by first | exact Or.inl rfl | exact Or.inr rfl) (hg:Gl X f:=by rfl) (hdb:(f == ("__debug__" : Str)) = false:=by decide)
    (he:starEach (e :: es) X.env = (false,eval e X.env) :: starEach es X.env:=by rfl) (hpl:(backTo cpos (starEach es X.env)).any (·.1) = false:=by rfl)
    (hs:swapsWith (.Call (.Name f p) (e :: es) [] cpos) (some (.Name x px)) pos.line X.env = pure false:=by rfl) (hf:X.fn x = true \/ X.env.scope.names.lookup x = some .local:=by first | exact .inl rfl | exact .inr rfl) :
    PSsV X RlT.no (.Assign [.Name x px] (.Call (.Name f p) (e :: es) [] cpos) pos :: rest) (vNewR i pre fs t):=by
  obtain ⟨fa,fd,hm,hk,hb,F⟩:=D.ex
  obtain ⟨ta,p1,k1⟩:=ha
  refine ⟨_,pss_cons (ps_set hN hi hx (pe_call F hr hg hm hk hb .nil pass0 p1 hdb he hpl) hs hf) (pss_any X rest),fun {F₀ H₀ F H σ ρ} R Dv D ok q=>k1 R _ _ q fun vs ws F1 H1 g1 r1 ⟨ao,pw,q1⟩=>?_⟩
  have R1:=R.grow g1
  refine ⟨F1,ws,g1.sub,by rw [List.append_nil]; exact r1,ao,pw,fun r n' F2 H2 hr2 g2 ra=>?_⟩
  intro pins s I
  obtain ⟨T,pT,kT⟩:=hrest r n'
  have h0:H₀ r = none:=R1.g.freeB hr2
  refine pT pins s _ H2 D I (kT (R1.into hr2 g2 ra i) _ D ⟨fun F3 H3 σ3 ρ3 s3 R3 q3=>?_,fun v w F3 H3 g3 r3 n3 q3=>?_,fun F3 H3 σ3 ρ3 s3 R3 q3=>?_,fun F3 H3 σ3 ρ3 s3 R3 q3=>?_⟩ q1)
  · exact ok.nx F3 H3 σ3 _ (g1.fs.trans (g2.fs.trans s3)) (R3.out h0) q3
  · exact ok.rt v w F3 H3 (grow_out g3 h0) (rel_out r3 q3.1) n3 q3.2
  · exact ok.bk F3 H3 σ3 _ (g1.fs.trans (g2.fs.trans s3)) (R3.out h0) q3
  · exact ok.ct F3 H3 σ3 _ (g1.fs.trans (g2.fs.trans s3)) (R3.out h0) q3
end
noncomputable def unR:Fl -> Mo Fl
  | .nx ρ=>ret (.nx (nR ρ))
  | .rt w=>grd (w.isR = false) (ret (.rt w))
  | .bk ρ=>ret (.bk (nR ρ))
  | .ct ρ=>ret (.ct (nR ρ))
theorem s_newR (i:Nat) (pre:List W -> Prop) (fs:TVs) (t:TSv) (ρ:En):mS (vNewR i pre fs t) ρ = bnd (fs ρ) fun ws=>grd (ws.all argOk = true) (grd (pre ws) (bnd (mS t (ρ.set i (some .reel))) unR)):=nr rfl
theorem nR_nil:nR [] = []:=rfl
theorem nR_r (l:En):nR (some .reel :: l) = none :: nR l:=rfl
theorem nR_n (l:En):nR (none :: l) = none :: nR l:=rfl
theorem nR_d (x:PyData) (l:En):nR (some (.d x) :: l) = some (.d x) :: nR l:=rfl
theorem nR_ml (x:List PyData) (l:En):nR (some (.ml x) :: l) = some (.ml x) :: nR l:=rfl
theorem nR_sc (x:List Int) (l:En):nR (some (.sc x) :: l) = some (.sc x) :: nR l:=rfl
noncomputable def spLaw2 (K:W.Frag):Sp:=fun vs H Q _=>∃ (a:Addr) (ns:List Int),vs = [.ref a] /\ SqL K H a (ns.map V.int) /\ ns.length <= 63 /\ ∀ H',Q (.bl true) H'
noncomputable def lawE:VEnds:=⟨fun _=>False,fun w=>w = .d (.bool true),fun _=>False,fun _=>False⟩
noncomputable def lawQ:Fl -> Prop
  | .rt w=>w = .d (.bool true)
  | _=>False
theorem un_law (m:Mo Fl):bnd m unR lawQ = m lawQ:=by
  show m (fun fl=>unR fl lawQ) = m lawQ
  congr 1
  funext fl
  cases fl with
  | rt w=>exact propext ⟨fun ⟨_,h⟩=>h,fun h=>⟨by rw [show w = .d (.bool true) from h]; rfl,h⟩⟩
  | _=>rfl
theorem law_end:ret (Fl.rt (.d (.bool true))) lawQ:=rfl
section
variable {P:Program} {w:World} {K:W.Frag} {mg:Str -> Option Value} {base:Heap} {st:Stmt} {N:List Str} {k:Nat} {t:TSv} {x:Str}
theorem ok_law2 {f:Addr} {fd:FuncData} (F:Fun K "law" "law" st f fd) (S:FnScope N [x] (defScope st))
    (hbody:∀ (cdv:Value) (A:Around) (outer:List Env) (s:Shared) (H:Hp) (E:XK),Room k (A.deeper (envOfC "law" (defScope st) s.heap.objs.size f cdv)) -> PSsV (cxOf CX0 P w K mg base N "law" (defScope st) f cdv A outer s H E).nox RlT.no (defBody st) t)
    (hread:∀ ns:List Int,ns.length <= 63 -> mS t (startV N [.sc ns]) lawQ):FnOk P w K mg base CX0 (k + 1) f fd [x] (spLaw2 K):=by
  refine F.ok S (fun vs H Q E h=>?_) (fun cdv A outer s H vs Q E hr h=>?_)
  · obtain ⟨a,ns,rfl,_⟩:=h
    rfl
  · obtain ⟨a,ns,rfl,hS,hl,kq⟩:=h
    obtain ⟨T,p,kk⟩:=hbody cdv A outer s H E hr
    have rw0:RelWs K RlT.no H H [.ref a] [.sc ns]:=.cons ⟨a,rfl,hS⟩ .nil
    have R:VR K RlT.no H H H H (start N [.ref a]) (startV N [.sc ns]):=vr_start (.refl H) (fun _ z=>by cases z) rw0 rfl
    refine ⟨T,p,kk R lawE _ ⟨fun _ _ _ _ _ _ z=>False.elim z,?_,fun _ _ _ _ _ _ z=>False.elim z,fun _ _ _ _ _ _ z=>False.elim z⟩ (hread ns hl)⟩
    rintro v w1 F1 H1 g1 r1 n1 z
    have z:w1 = .d (.bool true):=z
    subst z
    have e:=rep_bl r1
    subst e
    exact kq H1
end
end L2.VL

namespace L2.VL
open PySem PySem.Spec PyProof.Rows
noncomputable def vSetZ (i:Nat) (fa:TV):TSv:=fun D ρ=>fa ρ fun w=>∃ d,w.fz = .d d /\ D.nx (ρ.set i (some (.d d)))
section
variable {X:Cx} {rl:RlT} {st:Stmt} {rest body:List Stmt} {t u:TSv} {a b c e:Expr} {es:List Expr} {fa fb:TV} {fs:TVs} {f:TB} {pos p:Pos} {ρ:En}
theorem vs_setZ (i:Nat) {x:Str} {pos':Pos} (hN:X.N.Nodup) (he:PV X rl e fa) (hi:X.N[i]? = some x:=by rfl) (hx:Loc X.env.scope x:=by first | exact Or.inl rfl | exact Or.inr rfl)
    (hs:swapsWith e (some (.Name x pos')) pos.line X.env = pure false:=by rfl) (hf:X.fn x = true \/ X.env.scope.names.lookup x = some .local:=by first | exact .inl rfl | exact .inr rfl) :
    PSV X rl (.Assign [.Name x pos'] e pos) (vSetZ i fa):=by
  obtain ⟨t,p,k⟩:=he
  refine ⟨_,ps_set hN hi hx p hs hf,fun R Dv D ok q=>k R _ _ q fun v w F1 H1 g1 r1 n1 ⟨d,ed,q1⟩=>?_⟩
  obtain ⟨F2,g2,s2,r2⟩:=RelW.fz g1 r1 n1
  rw [ed] at r2
  exact ok.nx _ _ _ _ g2.fs (R.set g2 r2 trivial (fun xs z=>by cases z) i) q1
theorem s_setZ (i:Nat):mS (vSetZ i fa) ρ = bnd (fa ρ) fun w=>optM (asD w.fz) fun d=>ret (.nx (ρ.set i (some (.d d)))):=by
  show (bnd (fa ρ) fun w=>fun (Q:Fl -> Prop)=>∃ d,w.fz = .d d /\ Q (.nx (ρ.set i (some (.d d))))) = _
  congr 1; funext w
  refine mo_ext fun Q=>?_
  simp only [opt_iff,asD_of,ret]
end
section
variable {X:Cx} {rl:RlT} {elt tg iter:Expr} {ifs:List Expr} {scope:Scope} {pos:Pos} {fi:En -> (List PyData -> Prop) -> Prop} {g:TGv} {ft:TB} {fe:TV}
theorem vs_setcompZ (i:Nat) {b:Bool} {x:Str} {px spos:Pos} (hN:X.N.Nodup) (N':List Str) (fr:List (Option Nat)) (hc:X.calm = true) (hi:PIV X rl tg iter fi)
    (hg:∀ y,PGV (blk X N' scope y) rl tg g) (ht:∀ y,PTVs (blk X N' scope y) rl ifs ft) (he:∀ y,PV (blk X N' scope y) rl elt fe)
    (hsw:swapsWith (.ListComp elt [⟨tg,iter,ifs,0⟩] scope pos) (some (.Name x px)) spos.line X.env = pure b:=by rfl)
    (hix:X.N[i]? = some x:=by rfl) (hx:Loc X.env.scope x:=by first | exact Or.inl rfl | exact Or.inr rfl) (hf:X.fn x = true \/ X.env.scope.names.lookup x = some .local:=by first | exact .inl rfl | exact .inr rfl)
    (hfr:frOk fr N' X.N scope X.env.scope = true:=by rfl) (hsc:scOk scope X.env.scope = true:=by rfl)
    (hs:∀ x,foldedSetIterable iter X.env x = pure x:=by intro _; rfl):PSV X rl (.Assign [.Name x px] (.ListComp elt [⟨tg,iter,ifs,0⟩] scope pos) spos) (vSetZ i (vCompR fi fr g ft fe)):=by
  obtain ⟨wi,p0,k0⟩:=hi
  refine ⟨_,ps_setcomp N' fr hc p0 hfr hsc (fun y=>(Classical.choose_spec (hg y)).1) (fun y=>(Classical.choose_spec (ht y)).1) (fun y=>(Classical.choose_spec (he y)).1) hN hix hx hf hsw hs,fun R Dv D ok q=>lcompR_k fr k0 hg ht he R _ _ q fun v w F1 H1 g1 r1 n1 ⟨d,ed,q1⟩=>?_⟩
  obtain ⟨F2,g2,s2,r2⟩:=RelW.fz g1 r1 n1
  rw [ed] at r2
  exact ok.nx _ _ _ _ g2.fs (R.set g2 r2 trivial (fun xs z=>by cases z) i) q1
end
noncomputable def tupI (xs:List Int):PyData:=.tuple (xs.map .int)
noncomputable def lstI (xs:List Int):PyData:=.list (xs.map .int)
theorem map_int_inj:∀ {xs ys:List Int},xs.map PyData.int = ys.map PyData.int ↔ xs = ys:=by
  intro xs ys
  constructor
  · intro h
    have:=congrArg intsD h
    rw [intsD_map,intsD_map] at this
    exact Option.some.inj this
  · rintro rfl; rfl
theorem tupI_inj {xs ys:List Int}:tupI xs = tupI ys ↔ xs = ys:=by
  unfold tupI
  rw [PyData.tuple.injEq,map_int_inj]
theorem lstI_inj {xs ys:List Int}:lstI xs = lstI ys ↔ xs = ys:=by
  unfold lstI
  rw [PyData.list.injEq,map_int_inj]
theorem map_inj_of {α:Type} {f : α -> PyData} (h:∀ a b,f a = f b ↔ a = b):∀ {xs ys:List α},xs.map f = ys.map f ↔ xs = ys
  | [],[]=>by simp
  | [],_ :: _=>by simp
  | _ :: _,[]=>by simp
  | x :: xs,y :: ys=>by simp [h,map_inj_of h (xs:=xs) (ys:=ys)]
noncomputable def tupT (xs:List (List Int)):PyData:=.tuple (xs.map tupI)
theorem tupT_inj {xs ys:List (List Int)}:tupT xs = tupT ys ↔ xs = ys:=by
  unfold tupT
  rw [PyData.tuple.injEq,map_inj_of fun _ _=>tupI_inj]
end L2.VL

namespace L2.VL
open PySem PySem.Spec PyProof.Rows
section
variable {α σ:Type} {fl:List Nat} {b:PyData -> En -> Mo Fl} {k:En -> Mo Fl} {Q:Fl -> Prop} {ρ:En}
theorem while_go {f:TB} {t:TSv} (st : σ -> En) (c : σ -> Bool) (nxt : σ -> σ) (μ : σ -> Nat) (I : σ -> Prop) (s : σ) (h0 : ρ = st s) (hs:I s)
    (hf:∀ s,I s -> f (st s) = ret (c s)) (ht:∀ s,I s -> c s = true -> I (nxt s) /\ μ (nxt s) < μ s /\ ∃ ρ',mS t (st s) = ret (.nx ρ') /\ fo fl ρ' = st (nxt s)) (fin:∀ s,I s -> c s = false -> k (st s) Q):sq (whileM fl f t ρ) k Q:=by
  subst h0
  obtain ⟨s',a,b,e⟩:=while_det st c nxt μ I hf ht s hs
  rw [e]
  exact fin s' a b
noncomputable def lpS (fl:List Nat) (J:En -> Prop) (k:En -> Mo Fl) (Q:Fl -> Prop):Fl -> Prop
  | .nx ρ=>J (fo fl ρ)
  | .ct ρ=>J (fo fl ρ)
  | .bk ρ=>k (fo fl ρ) Q
  | .rt w=>Q (.rt w)
theorem lpS_nx {J:En -> Prop} {ρ:En} (h:J (fo fl ρ)):lpS fl J k Q (.nx ρ):=h
theorem inv_go {xs:List α} {enc : α -> PyData} {xs':List PyData} (J:Nat -> En -> Prop) (hx:xs' = xs.map enc) (h0:J 0 ρ)
    (step:∀ i (h:i < xs.length) ρ,J i ρ -> ∀ K:Fl -> Prop,(∀ r,lpS fl (J (i + 1)) k Q r -> K r) -> b (enc xs[i]) ρ K) (fin:∀ ρ,J xs.length ρ -> k ρ Q):sq (loopM fl b xs' ρ) k Q:=by
  subst hx
  refine loop_by (Q:=fun r=>(match r with | .nx ρ=>k ρ | .rt w=>ret (.rt w) | .bk ρ=>ret (.bk ρ) | .ct ρ=>ret (.ct ρ):Mo Fl) Q) J h0 (fun i hi ρ j K hK=>step i hi ρ j K fun r hr=>hK r ?_) fin
  cases r <;> exact hr
theorem invR_go {lo:Int} {n:Nat} (J:Nat -> En -> Prop) (h0:J 0 ρ)
    (step:∀ i,i < n -> ∀ ρ,J i ρ -> ∀ K:Fl -> Prop,(∀ r,lpS fl (J (i + 1)) k Q r -> K r) -> b (.int (lo + i)) ρ K) (fin:∀ ρ,J n ρ -> k ρ Q):sq (loopM fl b (rangeD lo n) ρ) k Q:=by
  refine loop_byR (Q:=fun r=>(match r with | .nx ρ=>k ρ | .rt w=>ret (.rt w) | .bk ρ=>ret (.bk ρ) | .ct ρ=>ret (.ct ρ):Mo Fl) Q) J h0 (fun i hi ρ j K hK=>step i hi ρ j K fun r hr=>hK r ?_) fin
  cases r <;> exact hr
theorem eachR_go {lo:Int} {n:Nat} (step:∀ i,i < n -> ∀ K:Fl -> Prop,(∀ r,lpS fl (fun ρ'=>ρ' = ρ) k Q r -> K r) -> b (.int (lo + i)) ρ K) (fin:k ρ Q):sq (loopM fl b (rangeD lo n) ρ) k Q :=
  invR_go (fun _ ρ'=>ρ' = ρ) rfl (fun i h ρ' e K hK=>by subst e; exact step i h K hK) fun ρ' e=>by subst e; exact fin
end
theorem endS {m:Mo Fl} {Q:Fl -> Prop} (h:sq m (fun ρ=>ret (.nx ρ)) Q):m Q:=by
  have e:(fun fl:Fl=>(match fl with | .nx ρ=>ret (.nx ρ) | .rt w=>ret (.rt w) | .bk ρ=>ret (.bk ρ) | .ct ρ=>ret (.ct ρ):Mo Fl) Q) = Q:=by
    funext fl; cases fl <;> rfl
  have h:m (fun fl:Fl=>(match fl with | .nx ρ=>ret (.nx ρ) | .rt w=>ret (.rt w) | .bk ρ=>ret (.bk ρ) | .ct ρ=>ret (.ct ρ):Mo Fl) Q):=h
  rw [e] at h
  exact h
section
variable {α β:Type} {b:PyData -> Mo (Option PyData)} {k:List PyData -> Mo β} {Q : β -> Prop}
theorem cfm_go {xs:List α} {enc : α -> PyData} {xs':List PyData} (f : α -> Option PyData) (hx:xs' = xs.map enc) (h:∀ x ∈ xs,b (enc x) = ret (f x)) (hl:xs.length <= sizeLine) (fin:k (xs.filterMap f) Q):bnd (compM b xs' []) k Q:=by
  subst hx; rw [comp_fm f h hl]; exact fin
theorem cmap_go {xs:List α} {enc : α -> PyData} {xs':List PyData} (f : α -> PyData) (hx:xs' = xs.map enc) (h:∀ x ∈ xs,b (enc x) = ret (some (f x))) (hl:xs.length <= sizeLine) (fin:k (xs.map f) Q):bnd (compM b xs' []) k Q:=by
  subst hx; rw [comp_map f h hl]; exact fin
theorem canyR_go {lo:Int} {n:Nat} (P:PyData -> Prop) (h:∀ j,j < n -> ∀ K:Option PyData -> Prop,(∀ d,P d -> K (some d)) -> b (.int (lo + j)) K) (hl:n <= sizeLine) (fin:∀ ds:List PyData,ds.length = n -> (∀ d ∈ ds,P d) -> k ds Q):bnd (compM b (rangeD lo n) []) k Q :=
  comp_anyR P h hl fin
end
section
variable {α β:Type}
theorem menu_step {xs:List PyData} {i:Int} {k:PyData -> Mo β} {Q : β -> Prop} (h0 : 0 <= i) (h1:i < (xs.length:Int)) (h:∀ z ∈ xs,k z Q):optM (atI xs i) k Q:=by
  obtain ⟨z,e,m⟩:=at_in h0 h1
  rw [e]
  exact h z m
theorem menuA_step {xs:List α} {enc : α -> PyData} {xs':List PyData} {i:Int} {k:PyData -> Mo β} {Q : β -> Prop} (P : α -> Prop) (hx:xs' = xs.map enc) (h0 : 0 <= i) (h1:i < (xs.length:Int)) (hP:∀ z ∈ xs,P z) (h:∀ z,P z -> k (enc z) Q):optM (atI xs' i) k Q:=by
  subst hx
  refine menu_step h0 (by simpa using h1) fun z mz=>?_
  obtain ⟨x,hx,rfl⟩:=List.mem_map.mp mz
  exact h x (hP x hx)
end
theorem dec_list {α:Type} {enc : α -> PyData} {P : α -> Prop}:∀ {ds:List PyData},(∀ d ∈ ds,∃ x,P x /\ d = enc x) -> ∃ xs:List α,ds = xs.map enc /\ xs.length = ds.length /\ ∀ x ∈ xs,P x
  | [],_=>⟨[],rfl,rfl,by simp⟩
  | d :: ds,h=>by
    obtain ⟨x,hx,e⟩:=h d List.mem_cons_self
    obtain ⟨xs,e1,e2,e3⟩:=dec_list (ds:=ds) fun d hd=>h d (List.mem_cons_of_mem _ hd)
    exact ⟨x :: xs,by rw [e,e1]; rfl,by simp [e2],fun y hy=>(List.mem_cons.mp hy).elim (fun z=>by rw [z]; exact hx) (e3 y)⟩
end L2.VL

namespace L2.VL
open PySem PySem.Spec PyProof.Rows
section
variable {X:Cx} {rl:RlT} {a b c o e:Expr} {es:List Expr} {fa fb:TV} {fs:TVs} {pos p apos cpos:Pos} {ρ:En}
end
end L2.VL
namespace L2
open PySem PySem.Spec PyProof.Rows
section
variable {X:Cx} {pos:Pos}
noncomputable def gLstU (K:W.Frag) (n:Nat) (t:TGs):TG:=fun v σ H Q=>∃ a xs,v = .ref a /\ SqL K H a xs /\ xs.length = n /\ t xs σ H Q
theorem pg_lst {es:List Expr} {k:Nat} {t:TGs} {n:Nat} (hc:X.calm = true) (h:PGs X es t)
    (hn:(assignEach es X.env).length = n:=by rfl) (hst:(assignEach es X.env).findIdx? (·.1) = none:=by rfl):PG X (.Tuple es k pos) (gLstU X.K n t):=by
  intro pins s σ H v u Q I r hw
  obtain ⟨a,xs,e1,hq,hl,hw⟩:=hw
  subst e1
  cases r
  obtain ⟨its,rv,ht,hz⟩:=I.list hq
  rw [assign_Tuple]
  refine wpAny_bind (wpAny_standAt ?_)
  unfold unpack
  rw [hn,hst]
  have hsz:n = its.toArray.size:=by rw [List.size_toArray,<- rv.length]; exact hl.symm
  rw [hsz]
  refine wpAny_bind (wpAny_holding (W.kun_itemsOf (I.ok.hd hc) ht.isList fun h' hx=>?_))
  have I1:Inv X pins σ H { s with heap:=h' }:=I.kept (t':=s.toks) fun b o e=>hx b o (Nat.ne_of_lt (Heap.lt_size e)) e
  exact h pins _ σ H xs _ Q I1 (by simpa using rv) hw
end
end L2
namespace L2.VL
open PySem PySem.Spec PyProof.Rows
section
variable {X:Cx} {rl:RlT} {es:List Expr} {pos:Pos} {ρ:En}
noncomputable def hLst (n:Nat) (gs:TGvs):TGv:=fun x ρ Q=>∃ xs,x = .list xs /\ xs.length = n /\ gs xs ρ Q
theorem vg_lst {kk:Nat} {gs:TGvs} {n:Nat} (hc:X.calm = true) (h:PGVs X rl es gs) (hn:(assignEach es X.env).length = n:=by rfl) (hst:(assignEach es X.env).findIdx? (·.1) = none:=by rfl):PGV X rl (.Tuple es kk pos) (hLst n gs):=by
  obtain ⟨G,p,k⟩:=h
  refine ⟨_,pg_lst hc p hn hst,fun R v x Qd Q r ⟨xs,ex,hl,q⟩ h=>?_⟩
  subst ex
  cases r with
  | lst sq rs=>exact ⟨_,_,rfl,.inl (.inl (R.sub _ _ sq)),by rw [rs.length]; exact hl,k R _ xs _ _ rs q h⟩
theorem m_hLst (n:Nat) {gs:TGvs} (x:PyData):hLst n gs x ρ = optM (lstD x) fun xs=>grd (xs.length = n) (gs xs ρ):=by
  refine mo_ext fun Q=>?_
  simp only [opt_iff,lstD_of,hLst,grd]
end
end L2.VL

namespace L2.VL
open PySem PySem.Spec PyProof.Rows
noncomputable def BMON0:=And.intro @bnd_tt (And.intro @bnd_ret (And.intro @bnd_bnd (And.intro @bnd_grd (And.intro @bnd_stk (And.intro @bnd_ite (And.intro @bnd_opt (And.intro @opt_some (And.intro @opt_none (And.intro @grd_T (And.intro @sq_nx (And.intro @sq_rt (And.intro @sq_bk (And.intro @sq_ct (And.intro @sq_grd (And.intro @sq_stk (And.intro @sq_ite (And.intro @sq_sq (@kc_ap))))))))))))))))))
noncomputable def BITE0:=And.intro @ite_nx (And.intro @ite_rt (And.intro @ite_retd (And.intro @ite_retb (And.intro @ite_rets (And.intro @ite_cons (And.intro @ite_some (And.intro @ite_d (And.intro @ite_pi (And.intro @ite_pb (And.intro @itb_tt (And.intro @itb_ff (And.intro @itb_ft (And.intro @itb_tf (@ite_self.{1}))))))))))))))
noncomputable def BEXP0:=And.intro @m_vC (And.intro @m_vVar (And.intro @m_vNil (And.intro @m_vCons (And.intro @m_vOp (And.intro @m_gI (And.intro @m_gI0 (And.intro @m_vNeg (And.intro @m_vTest (And.intro @m_gEqD (And.intro @m_gInD (And.intro @m_vAnd (And.intro @m_vOr (And.intro @m_vNot (And.intro @m_vAndV (And.intro @m_vOrV (And.intro @m_vNotV (And.intro @m_vIf (And.intro @m_vTup (And.intro @m_vLst (And.intro @m_gIx (And.intro @m_vCall (And.intro @m_gAbs (@m_gLen)))))))))))))))))))))))
noncomputable def BEXP1:=And.intro @m_gRepr (And.intro @m_gTupO (And.intro @m_gLstO (And.intro @m_gI2 (And.intro @m_gInt1 (And.intro @m_oNo (And.intro @m_oIt (And.intro @m_vSlL (And.intro @m_vSlA (And.intro @m_gCatD (And.intro @m_gCatA (And.intro @m_vChain (And.intro @m_iL (And.intro @m_iT (@m_iR1))))))))))))))
noncomputable def BEXP2:=And.intro @m_iZb (And.intro @m_vUse (And.intro @m_gAll (And.intro @m_gRepL (And.intro @m_gEqS (And.intro @m_comp (And.intro @m_vSlS (@m_hLst)))))))
noncomputable def BSTM0:=And.intro @s_next (And.intro @s_seq (And.intro @s_ret (And.intro @s_ifS (And.intro @s_set (And.intro @s_setZ (And.intro @s_never (And.intro @s_asg (And.intro @s_par (And.intro @s_frz (And.intro @s_mut (And.intro @s_for (And.intro @bdy_ap (And.intro @s_while (And.intro @s_newR (And.intro @m_hName (@m_hNil_n))))))))))))))))
noncomputable def BSTM1:=And.intro @m_hCons_c (And.intro @m_hTup (@m_gApp))
noncomputable def BPRJ0:=And.intro @pk_sc (And.intro @fz_sc (And.intro @arg_sc (And.intro @isPk_sc (And.intro @asI_d (And.intro @asB_d (And.intro @asS_d (And.intro @asD_d (And.intro @asT_d (And.intro @asL_d (And.intro @asL_ml (And.intro @asL_pk (And.intro @asQ_d (And.intro @asQ_ml (And.intro @asQ_pk (And.intro @lstD_l (And.intro @tupD_t (And.intro @toI_i (And.intro @toI_b (And.intro @isiT_t (And.intro @asM_ml (And.intro @asSc_s (And.intro @two_d (@fz_d)))))))))))))))))))))))
noncomputable def BPRJ1:=And.intro @fz_ml (And.intro @fz_pk (And.intro @fz_reel (And.intro @fz_vv (And.intro @pk_d (And.intro @pk_ml (And.intro @pk_reel (And.intro @pk_vv (And.intro @dat_d (And.intro @dat_ml (And.intro @dat_pk (And.intro @isPk_d (And.intro @isPk_ml (And.intro @isPk_reel (And.intro @dats_nil (And.intro @dats_d (And.intro @arg_d (And.intro @arg_reel (And.intro @item_l (And.intro @item_t (And.intro @len_l (And.intro @len_t (And.intro @seq_l (@seq_t)))))))))))))))))))))))
noncomputable def BPRJ2:=And.intro @at0 (And.intro @at1 (And.intro @blsD_map (And.intro @tup2 (And.intro @fo_nil (And.intro @fo_cons (And.intro @nR_nil (And.intro @nR_r (And.intro @nR_n (And.intro @nR_d (And.intro @nR_ml (And.intro @nR_sc (And.intro @le_nil (And.intro @le_cn (And.intro @le_cs (And.intro @end_d (And.intro @end_ml (And.intro @end_nx (@un_law))))))))))))))))))
noncomputable def BLST0:=And.intro @List.map_cons.{0,0} (And.intro @List.map_nil.{0,0} (And.intro @List.length_cons.{0} (And.intro @List.length_nil.{0} (And.intro @List.getElem?_cons_zero.{0} (And.intro @List.getElem?_cons_succ.{0} (And.intro @List.set_cons_zero.{0} (And.intro @List.set_cons_succ.{0} (And.intro @List.set_nil.{0} (And.intro @List.cons_append.{0} (And.intro @List.nil_append.{0} (And.intro @List.all_cons.{0} (And.intro @List.all_nil.{0} (And.intro @List.head?_cons.{0} (And.intro @Bool.and_true (And.intro @Option.some.injEq.{0} (And.intro @Option.map_some.{0,0} (And.intro @Option.bind_some.{0,0} (And.intro @Option.bind_none.{0,0} (And.intro @Option.join_some.{0} (And.intro @Option.join_none.{0} (And.intro @Bool.false_eq_true (And.intro @and_self (@and_true)))))))))))))))))))))))
noncomputable def BLST1:=And.intro @true_and (And.intro @shaped_i (And.intro @eqv_ii (And.intro @shaped_b (And.intro @Bool.true_and (And.intro @Bool.and_self (And.intro @Bool.not_true (And.intro @Bool.not_false (And.intro @List.length_map.{0,0} (And.intro @Int.toNat_natCast (And.intro @Bool.true_eq_false (And.intro @decide_true (And.intro @decide_false (And.intro @List.isEmpty_cons.{0} (And.intro @List.isEmpty_nil.{0} (@List.isEmpty_map.{0,0})))))))))))))))
end L2.VL

namespace L2.VL
open PySem PySem.Spec PyProof.Rows

noncomputable def kC:Key:=Sum.inr "cells"
noncomputable def kA:Key:=Sum.inr "at"
noncomputable def kL:Key:=Sum.inr "left"
noncomputable def kT:Key:=Sum.inr "turn"
theorem k_ca:¬ kC = kA:=by decide +kernel
theorem k_cl:¬ kC = kL:=by decide +kernel
theorem k_ct:¬ kC = kT:=by decide +kernel
theorem k_al:¬ kA = kL:=by decide +kernel
theorem k_at:¬ kA = kT:=by decide +kernel
theorem k_lt:¬ kL = kT:=by decide +kernel
noncomputable def reelKv (c:Addr) (a l t:Int):List (Key × V):=[(kC,.ref c),(kA,.int a),(kL,.int l),(kT,.int t)]
theorem valV_cons_ne {p:Key × V} {r:List (Key × V)} {k:Key} (e:¬ p.1 = k):valV (p :: r) k = valV r k:=by
  unfold valV
  rw [List.find?_cons]
  simp [e]
theorem reel_c (c:Addr) (a l t:Int):valV (reelKv c a l t) kC = some (.ref c):=valV_pos rfl
theorem reel_a (c:Addr) (a l t:Int):valV (reelKv c a l t) kA = some (.int a):=by unfold reelKv; rw [valV_cons_ne k_ca]; exact valV_pos rfl
theorem reel_l (c:Addr) (a l t:Int):valV (reelKv c a l t) kL = some (.int l):=by unfold reelKv; rw [valV_cons_ne k_cl,valV_cons_ne k_al]; exact valV_pos rfl
theorem reel_t (c:Addr) (a l t:Int):valV (reelKv c a l t) kT = some (.int t):=by unfold reelKv; rw [valV_cons_ne k_ct,valV_cons_ne k_at,valV_cons_ne k_lt]; exact valV_pos rfl
theorem ne' {a b:Key} (h:¬ a = b):¬ b = a:=fun e=>h e.symm
theorem put_a (c:Addr) (a l t n:Int):putK (reelKv c a l t) kA (.int n) = reelKv c n l t:=by
  unfold putK reelKv
  rw [if_pos (by simp)]
  simp [k_ca,ne' k_al,ne' k_at]
theorem put_l (c:Addr) (a l t n:Int):putK (reelKv c a l t) kL (.int n) = reelKv c a n t:=by
  unfold putK reelKv
  rw [if_pos (by simp)]
  simp [k_cl,k_al,ne' k_lt]
theorem put_t (c:Addr) (a l t n:Int):putK (reelKv c a l t) kT (.int n) = reelKv c a l n:=by
  unfold putK reelKv
  rw [if_pos (by simp)]
  simp [k_ct,k_at,k_lt]
theorem ReelOk.kv {c:Nat × List Int} {F H:Hp} {r:Addr} (h:ReelOk c F H r):∃ (a l t:Int),H r = some (.dK (reelKv c.1 a l t)) /\ F c.1 = some (.lst (c.2.map V.int)) /\ c.2.length <= 63 /\ 0 <= a /\ 0 <= l /\ 0 <= t:=by
  obtain ⟨o,e,a,l,t,rfl,q⟩:=h.ex
  exact ⟨a,l,t,e,q⟩
theorem RAt.put {rl:RlT} {F₀ H₀ F H:Hp} {K:W.Frag} {σ:St} {ρ:En} {r:Addr} {a l t:Int} (R:VR K rl F₀ H₀ F H σ ρ) (e:rl.a = some r) (h:F rl.b.1 = some (.lst (rl.b.2.map V.int)) /\ rl.b.2.length <= 63 /\ 0 <= a /\ 0 <= l /\ 0 <= t) :
    VR K rl F₀ H₀ F (upd H r (.dK (reelKv rl.b.1 a l t))) σ ρ:=by
  have fr:F r = none:=(R.reel r e).1
  have neF:∀ b u,F b = some u -> b ≠ r:=fun b u q z=>by subst z; rw [fr] at q; cases q
  have g:Grow rl F H F (upd H r (.dK (reelKv rl.b.1 a l t))):=by
    refine ⟨fun b o q n=>by rw [upd_ne (fun z=>n (by rw [z]; exact e))]; exact q,.refl F,fun b o q=>by rw [upd_ne (neF b o q)]; exact R.sub b o q,fun _ _ _=>rfl,fun y z=>?_⟩
    have:y = r:=Option.some.inj (z.symm.trans e)
    subst this
    exact ⟨fr,⟨_,upd_same,a,l,t,rfl,h⟩⟩
  exact R.grow g
section
variable {X:Cx} {rl:RlT} {e:Expr} {fa:TV} {pos p p1 p2:Pos}
noncomputable def vRN (i:Nat):TV:=fun ρ Q=>ρ[i]? = some (some .reel) /\ ∀ n:Int,0 <= n -> Q (.d (.int n))
noncomputable def vRC (cs:List Int) (i:Nat):TV:=fun ρ Q=>ρ[i]? = some (some .reel) /\ (cs.length <= 63 -> Q (.d (.list (cs.map .int))))
theorem reps_ints {K:W.Frag} {F:Hp}:∀ ns:List Int,Reps K F (ns.map V.int) (ns.map PyData.int)
  | []=>.nil
  | n :: ns=>.cons (.int n) (reps_ints ns)
theorem v_rget {i:Nat} {x:Str} {k:Str} {j} (hr:Room 0 X.A) (hk:(Sum.inr k:Key) = kA \/ (Sum.inr k:Key) = kL \/ (Sum.inr k:Key) = kT) (hN:X.N[i]? = some x:=by rfl) (hv:Vis X.env.scope x:=by first | exact Or.inl rfl | exact Or.inr (Or.inl rfl) | exact Or.inr (Or.inr rfl))
    (hd:(x == ("__debug__" : Str)) = false:=by decide) (hcd:(x == ("__classdict__" : Str)) = false:=by decide) (hs:NoSl (.Constant (.str k) j p2):=by exact fun _ _=>rfl):PV X rl (.Subscript (.Name x p1) (.Constant (.str k) j p2) pos) (vRN i):=by
  refine ⟨_,pe_dget (hu_of hr) (pe_var hN hv hd hcd) pe_str hs,fun {F₀ H₀ F H σ ρ} R Qd Q ⟨e1,q⟩ h=>?_⟩
  obtain ⟨v,s1,⟨r,er,ev⟩,_⟩:=R.sl i _ e1
  subst ev
  obtain ⟨_,ok⟩:=R.reel r er
  obtain ⟨a,l,t,hH,_,_,b1,b2,b3⟩:=ok.kv
  have go:∀ n:Int,0 <= n -> valV (reelKv rl.b.1 a l t) (Sum.inr k) = some (.int n) -> tDGet (tVar i) (tC (.str k)) σ H Q:=fun n hn e=>by
    refine ⟨.ref r,s1,r,.int n,rfl,?_,h _ (.d _) F H (Grow.refl R.sub R.reel) (.int n) trivial (q n hn)⟩
    have g:=DGet.k (k:=(Sum.inr k:Key)) hH
    rw [e] at g
    exact g
  rcases hk with hk | hk | hk
  · exact go a b1 (by rw [hk]; exact reel_a rl.b.1 a l t)
  · exact go l b2 (by rw [hk]; exact reel_l rl.b.1 a l t)
  · exact go t b3 (by rw [hk]; exact reel_t rl.b.1 a l t)
theorem v_rcells {i:Nat} {x:Str} {j} (hr:Room 0 X.A) (hN:X.N[i]? = some x:=by rfl) (hv:Vis X.env.scope x:=by first | exact Or.inl rfl | exact Or.inr (Or.inl rfl) | exact Or.inr (Or.inr rfl))
    (hd:(x == ("__debug__" : Str)) = false:=by decide) (hcd:(x == ("__classdict__" : Str)) = false:=by decide) (hs:NoSl (.Constant (.str "cells") j p2):=by exact fun _ _=>rfl):PV X rl (.Subscript (.Name x p1) (.Constant (.str "cells") j p2) pos) (vRC rl.b.2 i):=by
  refine ⟨_,pe_dget (hu_of hr) (pe_var hN hv hd hcd) pe_str hs,fun {F₀ H₀ F H σ ρ} R Qd Q ⟨e1,q⟩ h=>?_⟩
  obtain ⟨v,s1,⟨r,er,ev⟩,_⟩:=R.sl i _ e1
  subst ev
  obtain ⟨_,ok⟩:=R.reel r er
  obtain ⟨a,l,t,hH,hc,hl,_⟩:=ok.kv
  refine ⟨.ref r,s1,r,.ref rl.b.1,rfl,?_,h _ (.d _) F H (Grow.refl R.sub R.reel) (Rep.lst hc (reps_ints _)) trivial (q hl)⟩
  have g:=DGet.k (k:=kC) hH
  rw [reel_c] at g
  exact g
noncomputable def vRPut (i:Nat) (fa:TV):TSv:=fun D ρ=>fa ρ fun w=>∃ n,w = .d (.int n) /\ 0 <= n /\ ρ[i]? = some (some .reel) /\ D.nx ρ
theorem vs_rput {i:Nat} {x:Str} {k:Str} {j} {pos':Pos} (hr:Room 0 X.A) (hk:(Sum.inr k:Key) = kA \/ (Sum.inr k:Key) = kL \/ (Sum.inr k:Key) = kT) (ha:PV X rl e fa) (hN:X.N[i]? = some x:=by rfl) (hv:Vis X.env.scope x:=by first | exact Or.inl rfl | exact Or.inr (Or.inl rfl) | exact Or.inr (Or.inr rfl))
    (hd:(x == ("__debug__" : Str)) = false:=by decide) (hcd:(x == ("__classdict__" : Str)) = false:=by decide) (hsw:swapsWith e (some (.Subscript (.Name x p1) (.Constant (.str k) j p2) pos')) pos.line X.env = pure false:=by rfl) :
    PSV X rl (.Assign [.Subscript (.Name x p1) (.Constant (.str k) j p2) pos'] e pos) (vRPut i fa):=by
  obtain ⟨t,p3,kk⟩:=ha
  refine ⟨_,ps_dput (hu_of hr) (pe_var hN hv hd hcd) pe_str p3 hsw,fun {F₀ H₀ F H σ ρ} R Dv D ok q=>kk R _ _ q fun v w F1 H1 g1 r1 n1 ⟨n,ew,hn,e1,q1⟩=>?_⟩
  subst ew
  have ev:=rep_int r1
  subst ev
  have R1:=R.grow g1
  obtain ⟨v,s1,⟨r,er,ev⟩,_⟩:=R1.sl i _ e1
  subst ev
  obtain ⟨_,okr⟩:=R1.reel r er
  obtain ⟨a,l,t,hH,hc,hl,b1,b2,b3⟩:=okr.kv
  refine ⟨.ref r,s1,r,_,rfl,DPut.k (k:=(Sum.inr k:Key)) hH (small1000 (by show 4 <= 1000; decide)),?_⟩
  have go:∀ a' l' t':Int,0 <= a' -> 0 <= l' -> 0 <= t' -> putK (reelKv rl.b.1 a l t) (Sum.inr k) (.int n) = reelKv rl.b.1 a' l' t' -> D.nx σ (upd H1 r (.dK (putK (reelKv rl.b.1 a l t) (Sum.inr k) (.int n)))):=fun a' l' t' x1 x2 x3 e=>by
    rw [e]
    exact ok.nx _ _ _ _ g1.fs (RAt.put R1 er ⟨hc,hl,x1,x2,x3⟩) q1
  rcases hk with hk | hk | hk
  · exact go n l t hn b2 b3 (by rw [hk]; exact put_a rl.b.1 a l t n)
  · exact go a n t b1 hn b3 (by rw [hk]; exact put_l rl.b.1 a l t n)
  · exact go a l n b1 b2 hn (by rw [hk]; exact put_t rl.b.1 a l t n)
end
theorem merge_reel (c:Addr):mergeK [] [(kC,V.ref c),(kA,.int 0),(kL,.int 0),(kT,.int 0)] = reelKv c 0 0 0:=by
  unfold mergeK reelKv
  simp only [List.foldl_cons,List.foldl_nil]
  have p0:putK ([]:List (Key × V)) kC (V.ref c) = [(kC,V.ref c)]:=rfl
  rw [p0]
  unfold putK
  simp [k_ca,k_cl,k_ct,k_al,k_at,k_lt]
end L2.VL

namespace L2.VL
open PySem PySem.Spec PyProof.Rows
section
variable {X:Cx} {rl:RlT} {e:Expr} {fa:TV} {pos p p1 p2:Pos} {ρ:En}
noncomputable def asR:W -> Option Unit
  | .reel=>some ()
  | _=>none
theorem asR_r:asR .reel = some ():=rfl
theorem slR_of {i:Nat}:(((ρ[i]?).join).bind asR = some ()) ↔ ρ[i]? = some (some .reel):=by
  constructor
  · intro h
    cases q : ρ[i]? with
    | none=>rw [q] at h; cases h
    | some o=>rw [q] at h; cases o with
      | none=>cases h
      | some w=>cases w <;> first | rfl | cases h
  · intro h; rw [h]; rfl
theorem slR_ex {β:Type} {i:Nat} {k:Unit -> Mo β} {Q : β -> Prop}:optM (((ρ[i]?).join).bind asR) k Q ↔ ρ[i]? = some (some .reel) /\ k () Q:=by
  rw [opt_iff]
  exact ⟨fun ⟨u,a,q⟩=>⟨slR_of.mp a,q⟩,fun ⟨a,q⟩=>⟨(),slR_of.mpr a,q⟩⟩
theorem m_vRN (i:Nat):vRN i ρ = optM (((ρ[i]?).join).bind asR) fun _=>bnd (anyM fun n:Int=>0 <= n) fun n=>ret (.d (.int n)):=mo_ext fun Q=>(Iff.intro (fun ⟨a,q⟩=>slR_ex.mpr ⟨a,fun n h=>q n h⟩) fun h=>⟨(slR_ex.mp h).1,fun n hn=>(slR_ex.mp h).2 n hn⟩)
theorem m_vRC (cs:List Int) (i:Nat):vRC cs i ρ = optM (((ρ[i]?).join).bind asR) fun _=>bnd (anyM fun _:Unit=>cs.length <= 63) fun _=>ret (.d (lstI cs)):=mo_ext fun Q=>(Iff.intro (fun ⟨a,q⟩=>slR_ex.mpr ⟨a,fun _ h=>q h⟩) fun h=>⟨(slR_ex.mp h).1,fun hn=>(slR_ex.mp h).2 () hn⟩)
theorem s_rput (i:Nat):mS (vRPut i fa) ρ = bnd (fa ρ) fun w=>optM (asI w) fun n=>grd (0 <= n) (optM (((ρ[i]?).join).bind asR) fun _=>ret (.nx ρ)):=by
  show (bnd (fa ρ) fun w=>fun (Q:Fl -> Prop)=>∃ n,w = .d (.int n) /\ 0 <= n /\ ρ[i]? = some (some .reel) /\ Q (.nx ρ)) = _
  congr 1; funext w
  refine mo_ext fun Q=>?_
  simp only [opt_iff (o:=asI w),asI_of,grd,slR_ex,ret]
end
theorem lenD_l (xs:List Int):lenD (lstI xs) = some xs.length:=by show some (xs.map PyData.int).length = _; rw [List.length_map]
theorem item_li (xs:List Int) (i:Int):itemAt (lstI xs) i = (atI xs i).map .int:=atI_map _ _ _
end L2.VL

namespace L2.VL
open PySem PySem.Spec PyProof.Rows
section
variable {X:Cx} {rl:RlT} {e:Expr} {fa:TV} {pos dpos q1 q2 q3 q4:Pos} {ρ:En} {j1 j2 j3 j4:Nat} {a b x y:Str}
end
end L2.VL

namespace L2
open PySem PySem.Spec PyProof.Rows
section
variable {X:Cx} {kx vx tg iter:Expr} {ifs:List Expr} {scope:Scope} {pos:Pos} {wi:TI} {g:CompA -> TG} {tt:CompA -> TT} {tk te:CompA -> TE}
end
end L2

namespace L2
open PySem PySem.Spec PyProof.Rows
section
variable {prog:Program} {w:World} {A:Around} {E:Value -> Shared -> Prop}
end
end L2

namespace L2
open PySem PySem.Spec PyProof.Rows
section
variable {X:Cx}
end
end L2
namespace L2.VL
open PySem PySem.Spec PyProof.Rows
section
variable {K:W.Frag} {F:Hp} {us:List (Key × V)} {kvs:List (Key × PyData)}
end
section
variable {X:Cx} {rl:RlT} {kx vx tg iter:Expr} {ifs:List Expr} {scope:Scope} {pos:Pos} {fi:En -> (List PyData -> Prop) -> Prop} {g:TGv} {ft:TB} {fk fe:TV}
end
section
variable {α:Type} {b:PyData -> Mo (Option (Key × PyData))}
end
section
variable {X:Cx} {rl:RlT} {a c e o i:Expr} {es:List Expr} {fa fb:TV} {fs:TVs} {pos p kpos:Pos} {ρ:En}
end
end L2.VL

namespace L2
open PySem PySem.Spec PyProof.Rows
end L2
namespace L2.VL
open PySem PySem.Spec PyProof.Rows
section
variable {X:Cx} {rl:RlT} {tg:Expr} {fa:TV} {ρ:En}
end
end L2.VL

namespace L2
open PySem PySem.Spec PyProof.Rows
noncomputable def insAt {α:Type} (xs:List α) (k:Nat) (y : α):List α:=xs.take k ++ y :: xs.drop k
theorem Vals.insAt {xs:List V} {its:List Value} {y:V} {u:Value} (r:Vals xs its) (ry:RelV y u) (k:Nat):Vals (L2.insAt xs k y) (L2.insAt its k u):=by
  unfold L2.insAt
  induction r generalizing k with
  | nil=>simp; exact .cons ry .nil
  | cons h t ih =>
    cases k with
    | zero=>exact .cons ry (.cons h t)
    | succ k=>exact .cons h (ih k)
variable {X:Cx}
noncomputable def rInsert:V -> List V -> Hp -> VK -> Prop:=fun x vs H Q=>∃ l xs i y,x = .ref l /\ vs = [.int i,y] /\ H l = some (.lst xs) /\ 0 <= i /\ i <= xs.length /\ xs.length < sizeLine /\ Q .non (upd H l (.lst (insAt xs i.toNat y)))
theorem mt_insert:MtR X "list.insert" rInsert:=by
  intro pins s σ H x vs v us Q I rx rv h
  obtain ⟨l,xs,i,y,rfl,rfl,hH,h0,h1,hz,q⟩:=h
  cases rx
  obtain ⟨u,u2,rfl,⟨t,rfl⟩,ru⟩:=vals2 rv
  obtain ⟨z,its,n,r,hl,e⟩:=I.lstM hH
  have len:xs.length = its.length:=r.length
  have sz:=PySem.sizeLine_eq
  have fit:Builtin.List.listFitsIndex i = true:=by simp [Builtin.List.listFitsIndex]; omega
  refine call_meets F.slot_list_insert ⟨_,e,rfl⟩ F.entry_list_insert (F.args_list_insert_3 _ _ _) (PySem.AutoSeq1.list_insert_list_int_val_1 l its.toArray n i t u2 (by simp [fit]) (by rw [List.size_toArray]; omega)) ⟨e,?_⟩
  refine ⟨.non,_,I.lset (its':=insAt its i.toNat u2) hH e ?_ (r.insAt ru _) ?_,rfl,q⟩
  · have hn:¬ i < 0:=by omega
    have hm:min i.toNat its.length = i.toNat:=by omega
    simp only [hn,if_false,List.size_toArray,hm]
    unfold insAt
    simp [List.extract_eq_drop_take]
    rw [List.take_of_length_le (by rw [List.length_drop]; omega)]
  · unfold insAt
    rw [List.length_append,List.length_cons,List.length_take,List.length_drop]
    omega
end L2
namespace L2.VL
open PySem PySem.Spec PyProof.Rows
section
variable {X:Cx} {rl:RlT} {a e:Expr} {es:List Expr} {fs:TVs} {pos:Pos}
theorem Reps.insAt {K:W.Frag} {F:Hp} {vs:List V} {ds:List PyData} {v:V} {d:PyData} (r:Reps K F vs ds) (h:Rep K F v d) (k:Nat):Reps K F (L2.insAt vs k v) (L2.insAt ds k d):=by
  unfold L2.insAt
  exact (r.take k).append (.cons h (r.drop k))
noncomputable def gIns:List PyData -> List W -> (List PyData -> Prop) -> Prop:=fun xs ws Q=>∃ i x,dats ws = some [.int i,x] /\ 0 <= i /\ i <= xs.length /\ xs.length < sizeLine /\ Q (insAt xs i.toNat x)
theorem vm_ins {K:W.Frag}:VMut K rl rInsert gIns:=fun {F H a vs args xs ws} Qn Q s ha rs ra ⟨i,x,e,h0,h1,z,q⟩ k=>by
  have r2:=dats_rel ra e
  cases r2 with
  | cons ri r3 =>
    cases r3 with
    | cons rx r4 =>
      cases r4
      have ei:=rep_int ri
      subst ei
      exact ⟨a,vs,i,_,rfl,rfl,ha,h0,by rw [rs.length]; exact h1,by rw [rs.length]; exact z,k _ _ (rs.insAt rx _) q⟩
theorem vs_ins (i:Nat) {x:Str} {px apos cpos:Pos} (ha:PVs X rl [a,e] fs) (hN:X.N[i]? = some x:=by rfl) (hv:Vis X.env.scope x:=by first | exact Or.inl rfl | exact Or.inr (Or.inl rfl) | exact Or.inr (Or.inr rfl))
    (hd:(x == ("__debug__" : Str)) = false:=by decide) (hcd:(x == ("__classdict__" : Str)) = false:=by decide)
    (hbase:attributeBase (.Name x px) "insert" X.env (eval (.Name x px) X.env) = eval (.Name x px) X.env:=by rfl)
    (hfew:((backTo cpos (starEach [a,e] X.env)).all (fun x=>!x.1) && (backToKw cpos (keywordEach [] X.env)).all (fun x=>x.1.isSome)
      && decide (([a,e]).length + ([]:List Keyword).length + (if ([]:List Keyword).isEmpty then 0 else 1) < 30)) = true:=by rfl)
    (hline:(apos.endLine == cpos.line) = true:=by rfl) (hs:starEach [a,e] X.env = (false,eval a X.env) :: starEach [e] X.env:=by rfl) (hplain:(backTo cpos (starEach [e] X.env)).any (·.1) = false:=by rfl)
    (hsw:swapsWith (.Call (.Attribute (.Name x px) "insert" apos) [a,e] [] cpos) none pos.line X.env = pure false:=by rfl) :
    PSV X rl (.Expr (.Call (.Attribute (.Name x px) "insert" apos) [a,e] [] cpos) pos) (vMut i gIns fs) :=
  vs_mut i PySem.F.slot_list_insert PySem.F.type_list_insert mt_insert vm_ins ha hN hv hd hcd hbase hfew hline hs hplain hsw
noncomputable def insW (ws:List W):Option (Int × PyData):=match dats ws with
  | some [.int i,x]=>some (i,x)
  | _=>none
theorem insW_d (i:Int) (x:PyData):insW [.d (.int i),.d x] = some (i,x):=rfl
theorem insW_of {ws:List W} {p:Int × PyData}:insW ws = some p ↔ dats ws = some [.int p.1,p.2]:=by
  constructor
  · intro h
    unfold insW at h
    split at h
    · rename_i i x e; cases h; exact e
    · cases h
  · intro h; unfold insW; rw [h]
theorem m_gIns (xs:List PyData) (ws:List W):gIns xs ws = optM (insW ws) fun p=>grd (0 <= p.1) (grd (p.1 <= xs.length) (grd (xs.length < sizeLine) (ret (insAt xs p.1.toNat p.2)))):=by
  refine mo_ext fun Q=>?_
  simp only [gIns,opt_iff,insW_of,grd,ret]
  exact ⟨fun ⟨i,x,e,a,b,c,q⟩=>⟨(i,x),e,a,b,c,q⟩,fun ⟨p,e,a,b,c,q⟩=>⟨p.1,p.2,e,a,b,c,q⟩⟩
noncomputable def BLI:=And.intro @m_gIns (@insW_d)
end
end L2.VL

namespace L2.VL
open PySem PySem.Spec PyProof.Rows
noncomputable def InL (K:W.Frag) (rl:RlT) (H₀ F₁ H₁ F:Hp) (b:Addr) (xs:List PyData):Prop:=∃ vs,H₁ b = some (.lst vs) /\ F₁ b = none /\ rl.a ≠ some b /\ H₀ b = none /\ Reps K F vs xs
structure Cl (K:W.Frag) (rl:RlT) (F₀ H₀ F₁ H₁ F:Hp) (a:Addr) (as:List Addr) (xss:List (List PyData)):Prop where
  g:Grow rl F₀ H₀ F₁ H₁
  ha:H₁ a = some (.lst (as.map V.ref))
  ra:rl.a ≠ some a
  nd:as.Nodup
  nm:a ∉ as
  inn:Paired (InL K rl H₀ F₁ H₁ F) as xss
theorem Cl.mono {K:W.Frag} {rl:RlT} {F₀ H₀ F₁ H₁ F F':Hp} {a:Addr} {as:List Addr} {xss:List (List PyData)} (c:Cl K rl F₀ H₀ F₁ H₁ F a as xss) (s:Same F F'):Cl K rl F₀ H₀ F₁ H₁ F' a as xss :=
  ⟨c.g,c.ha,c.ra,c.nd,c.nm,Paired.mapP c.inn fun _ _ ⟨vs,h1,h2,h3,h4,h5⟩=>⟨vs,h1,h2,h3,h4,h5.mono s⟩⟩
theorem paired_at {α β:Type} {R : α -> β -> Prop}:∀ {xs:List α} {ys:List β},Paired R xs ys -> ∀ {n:Nat} {y : β},ys[n]? = some y -> ∃ x,xs[n]? = some x /\ R x y
  | _,_,.nil,n,y,e=>by simp at e
  | _,_,.cons r rs,0,y,e=>by simp at e; subst e; exact ⟨_,rfl,r⟩
  | _,_,.cons r rs,n + 1,y,e=>by simpa using paired_at rs (n:=n) (by simpa using e)
theorem paired_ne {α β:Type} {R R' : α -> β -> Prop} {x : α} (k:∀ a b,a ≠ x -> R a b -> R' a b):∀ {xs:List α} {ys:List β},Paired R xs ys -> x ∉ xs -> Paired R' xs ys
  | _,_,.nil,_=>.nil
  | _,_,.cons r rs,n=>.cons (k _ _ (fun z=>n (z ▸ List.mem_cons_self)) r) (paired_ne k rs fun z=>n (List.mem_cons_of_mem _ z))
theorem paired_set {α β:Type} {R R' : α -> β -> Prop} {x : α} {y : β} (h:R' x y) (k:∀ a b,a ≠ x -> R a b -> R' a b):∀ {xs:List α} {ys:List β},Paired R xs ys -> xs.Nodup -> ∀ {n:Nat},xs[n]? = some x -> Paired R' xs (ys.set n y)
  | _,_,.nil,_,n,e=>by simp at e
  | x0 :: xs,y0 :: ys,.cons r rs,nd,0,e=>by
    simp at e
    subst e
    rw [List.set_cons_zero]
    exact .cons h (paired_ne k rs (List.nodup_cons.mp nd).1)
  | x0 :: xs,y0 :: ys,.cons r rs,nd,n + 1,e=>by
    rw [List.set_cons_succ]
    have e':xs[n]? = some x:=by simpa using e
    exact .cons (k _ _ (fun z=>(List.nodup_cons.mp nd).1 (z ▸ List.mem_of_getElem? e')) r) (paired_set h k rs (List.nodup_cons.mp nd).2 e')
theorem RelW.apart {K:W.Frag} {rl:RlT} {F H:Hp} {b:Addr} {o:HO} {v:V} {w:W} (r:RelW K rl F H v w) (ne:w.own = true -> v ≠ .ref b) (np:∀ xs,w ≠ .pk xs):RelW K rl F (upd H b o) v w:=by
  cases w with
  | ml xs=>obtain ⟨a,vs,e,h1,h2,h3,h4⟩:=r; exact ⟨a,vs,e,h1,h2,by rw [upd_ne (fun z=>ne rfl (by rw [e,z]))]; exact h3,h4⟩
  | pk xs=>exact absurd rfl (np xs)
  | md kvs=>obtain ⟨a,vs,e,h1,h2,h3,h4⟩:=r; exact ⟨a,vs,e,h1,h2,by rw [upd_ne (fun z=>ne rfl (by rw [e,z]))]; exact h3,h4⟩
  | mk kvs=>obtain ⟨a,vs,e,h1,h2,h3,h4⟩:=r; exact ⟨a,vs,e,h1,h2,by rw [upd_ne (fun z=>ne rfl (by rw [e,z]))]; exact h3,h4⟩
  | _=>exact r
theorem VR.moved {K:W.Frag} {rl:RlT} {F₁ H₁ F H:Hp} {σ:St} {ρ:En} {b:Addr} {o o':HO} (R:VR K rl F₁ H₁ F H σ ρ) (hb:H₁ b = some o) (fb:F₁ b = none) (rb:rl.a ≠ some b):VR K rl F₁ (upd H₁ b o') F (upd H b o') σ ρ:=by
  have f:F b = none:=by rw [R.g.old b _ hb]; exact fb
  have neF:∀ c u,F c = some u -> c ≠ b:=fun c u q z=>by subst z; rw [f] at q; cases q
  have own:∀ {v w},NewIn H₁ v w -> w.own = true -> v ≠ .ref b:=fun n ow z=>by have:=n.none ow z; rw [hb] at this; cases this
  refine ⟨⟨fun c u q n=>?_,R.g.fs,fun c u q=>by rw [upd_ne (neF c u q)]; exact R.sub c u q,fun c u q=>?_,fun r er=>?_⟩,fun i w e=>?_,R.ap,R.np,R.len⟩
  · by_cases z:c = b
    · subst z; rw [upd_same] at q ⊢; exact q
    · rw [upd_ne z] at q ⊢; exact R.g.same c u q n
  · by_cases z:c = b
    · subst z; rw [f,fb]
    · rw [upd_ne z] at q; exact R.g.old c u q
  · obtain ⟨h1,⟨o2,h2,h3⟩⟩:=R.g.reel r er
    exact ⟨h1,⟨o2,by rw [upd_ne (fun z=>rb (by rw [<- z]; exact er))]; exact h2,h3⟩⟩
  · obtain ⟨v,h1,h2,h3⟩:=R.sl i w e
    refine ⟨v,h1,h2.apart (own h3) (fun xs z=>R.np i xs (z ▸ e)),?_⟩
    cases w with
    | ml xs=>exact fun a ea=>by rw [upd_ne (fun z=>own h3 rfl (by rw [ea,z]))]; exact h3 a ea
    | md xs=>exact fun a ea=>by rw [upd_ne (fun z=>own h3 rfl (by rw [ea,z]))]; exact h3 a ea
    | mk xs=>exact fun a ea=>by rw [upd_ne (fun z=>own h3 rfl (by rw [ea,z]))]; exact h3 a ea
    | _=>trivial
theorem Cl.moved {K:W.Frag} {rl:RlT} {F₀ H₀ F₁ H₁ F:Hp} {a:Addr} {as:List Addr} {xss:List (List PyData)} (c:Cl K rl F₀ H₀ F₁ H₁ F a as xss) {n:Nat} {b:Addr} {vs:List V} {xs:List PyData} (e:as[n]? = some b) (fb:F₁ b = none) (rb:rl.a ≠ some b) (h0:H₀ b = none) (rs:Reps K F vs xs) :
    Cl K rl F₀ H₀ F₁ (upd H₁ b (.lst vs)) F a as (xss.set n xs):=by
  have nb:∀ d u,F₁ d = some u -> d ≠ b:=fun d u q z=>by subst z; rw [fb] at q; cases q
  refine ⟨⟨fun d u q m=>by rw [upd_ne (ne_of_none q h0)]; exact c.g.same d u q m,c.g.fs,fun d u q=>by rw [upd_ne (nb d u q)]; exact c.g.sub d u q,c.g.old,fun r er=>?_⟩,?_,c.ra,c.nd,c.nm,paired_set (R':=InL K rl H₀ F₁ (upd H₁ b (.lst vs)) F) (x:=b) ⟨vs,upd_same,fb,rb,h0,rs⟩ (fun d ys nd ⟨us,h1,h2⟩=>⟨us,by rw [upd_ne nd]; exact h1,h2⟩) c.inn c.nd e⟩
  · obtain ⟨h1,⟨o2,h2,h3⟩⟩:=c.g.reel r er
    exact ⟨h1,⟨o2,by rw [upd_ne (fun z=>rb (by rw [<- z]; exact er))]; exact h2,h3⟩⟩
  · rw [upd_ne (show a ≠ b from fun z=>by subst z; exact c.nm (List.mem_of_getElem? e))]
    exact c.ha
structure MEnds where
  nx:List (List PyData) -> En -> Prop
  rt:W -> Prop
structure EndsM (K:W.Frag) (rl:RlT) (F₀ H₀:Hp) (a:Addr) (as:List Addr) (Fs:Hp) (Dm:MEnds) (D:Ends):Prop where
  nx:∀ F₁ H₁ F H σ ρ xss,Same Fs F -> Cl K rl F₀ H₀ F₁ H₁ F a as xss -> VR K rl F₁ H₁ F H σ ρ -> Dm.nx xss ρ -> D.nx σ H
  rt:∀ v w F H,Grow rl F₀ H₀ F H -> RelW K rl F H v w -> NewIn H₀ v w -> Dm.rt w -> D.rt v H
theorem EndsM.on {K:W.Frag} {rl:RlT} {F₀ H₀:Hp} {a:Addr} {as:List Addr} {Fs F:Hp} {Dm:MEnds} {D:Ends} (ok:EndsM K rl F₀ H₀ a as Fs Dm D) (s:Same Fs F):EndsM K rl F₀ H₀ a as F Dm D :=
  ⟨fun F₁ H₁ F' H σ ρ xss s'=>ok.nx F₁ H₁ F' H σ ρ xss (s.trans s'),ok.rt⟩
abbrev TSm:=Addr -> MEnds -> List (List PyData) -> En -> Prop
noncomputable def PSM (X:Cx) (rl:RlT) (st:Stmt) (t:TSm):Prop:=∃ T,PS X st T /\ ∀ {F₀ H₀ F₁ H₁ F H:Hp} {σ:St} {ρ:En} {a:Addr} {as:List Addr} {xss:List (List PyData)},Cl X.K rl F₀ H₀ F₁ H₁ F a as xss -> VR X.K rl F₁ H₁ F H σ ρ -> ∀ Dm D,EndsM X.K rl F₀ H₀ a as F Dm D -> t a Dm xss ρ -> T D σ H
noncomputable def PSsM (X:Cx) (rl:RlT) (st:List Stmt) (t:TSm):Prop:=∃ T,PSs X st T /\ ∀ {F₀ H₀ F₁ H₁ F H:Hp} {σ:St} {ρ:En} {a:Addr} {as:List Addr} {xss:List (List PyData)},Cl X.K rl F₀ H₀ F₁ H₁ F a as xss -> VR X.K rl F₁ H₁ F H σ ρ -> ∀ Dm D,EndsM X.K rl F₀ H₀ a as F Dm D -> t a Dm xss ρ -> T D σ H
noncomputable def mNext:TSm:=fun _ Dm xss ρ=>Dm.nx xss ρ
noncomputable def mSeq (t u:TSm):TSm:=fun a Dm xss ρ=>t a { Dm with nx:=u a Dm } xss ρ
noncomputable def mOf (t:TSv):TSm:=fun _ Dm xss ρ=>t ⟨fun ρ'=>Dm.nx xss ρ',Dm.rt,fun _=>False,fun _=>False⟩ ρ
section
variable {X:Cx} {rl:RlT} {st:Stmt} {rest body:List Stmt} {t:TSv} {u v:TSm} {e:Expr} {fa:TV} {pos p:Pos}
theorem m_nil:PSsM X rl [] mNext:=⟨_,pss_nil,fun C R Dm D ok q=>ok.nx _ _ _ _ _ _ _ (.refl _) C R q⟩
theorem m_cons (h:PSM X rl st u) (h2:PSsM X rl rest v):PSsM X rl (st :: rest) (mSeq u v):=by
  obtain ⟨T,p,k⟩:=h
  obtain ⟨T2,p2,k2⟩:=h2
  exact ⟨_,pss_cons p p2,fun C R Dm D ok q=>k C R { Dm with nx:=v _ Dm } { D with nx:=T2 D } ⟨fun F₁ H₁ F' H' σ' ρ' xss' s' C' R' q'=>k2 C' R' Dm D (ok.on s') q',ok.rt⟩ q⟩
theorem m_of (h:PSV X rl st t):PSM X rl st (mOf t):=by
  obtain ⟨T,p,k⟩:=h
  exact ⟨T,p,fun C R Dm D ok q=>k R _ D ⟨fun F' H' σ' ρ' s R' q'=>ok.nx _ _ _ _ _ _ _ s (C.mono s) R' q',fun v w F' H' g r n q'=>ok.rt v w F' H' (C.g.trans g) r (NewIn.back C.g n) q',fun _ _ _ _ _ _ z=>False.elim z,fun _ _ _ _ _ _ z=>False.elim z⟩ q⟩
noncomputable def mFor (fi:En -> (List PyData -> Prop) -> Prop) (g:TGv) (t:TSm):TSm:=fun a Dm xss ρ=>fi ρ fun ys=>∃ J:Nat -> List (List PyData) -> En -> Prop,J 0 xss ρ /\
  (∀ i y xss ρ,ys[i]? = some y -> J i xss ρ -> g y ρ fun ρ2=>t a { Dm with nx:=J (i + 1) } xss ρ2) /\ ∀ xss ρ,J ys.length xss ρ -> Dm.nx xss ρ
theorem m_for {tg iter:Expr} {fi:En -> (List PyData -> Prop) -> Prop} {g:TGv} (hp:PassesOwn (model X.prog X.w) X.A X.env X.xe) (hc:X.calm = true) (hi:PIV X rl tg iter fi) (hg:PGV X rl tg g) (hb:PSsM X rl body u)
    (hs:∀ x,foldedSetIterable iter X.env x = pure x:=by intro _; rfl):PSM X rl (.For tg iter body [] pos) (mFor fi g u):=by
  obtain ⟨wi,p0,k0⟩:=hi
  obtain ⟨G,p1,k1⟩:=hg
  obtain ⟨T,p2,k2⟩:=hb
  refine ⟨_,ps_for hp hc p0 p1 p2 hs,fun {F₀ H₀ F₁ H₁ F H σ ρ a as xss} C R Dm D ok q=>k0 R _ _ q fun I xs F1 H1 g1 vi ⟨J,j0,turn,fin⟩=>?_⟩
  refine ⟨fun i m σ H=>m = xs.length - i /\ i <= xs.length /\ ∃ F₁ H₁ F ρ xss,Same F1 F /\ Cl X.K rl F₀ H₀ F₁ H₁ F a as xss /\ VR X.K rl F₁ H₁ F H σ ρ /\ J i xss ρ,⟨xs.length,by simp,Nat.zero_le _,F₁,H₁,F1,ρ,xss,.refl _,C.mono g1.fs,R.grow g1,j0⟩,?_⟩
  rintro i m σ H ⟨rfl,hi,E₁,G₁,F2,ρ2,xs2,s2,C2,R2,j2⟩
  have sH:Same F1 H:=s2.trans R2.sub
  by_cases hlt:i < xs.length
  · have ei:xs[i]? = some xs[i]:=by simp [hlt]
    refine .inr ⟨vi.go i H _ ei sH,fun σ' H'=>∃ F₁ H₁ F ρ xss,Same F1 F /\ Cl X.K rl F₀ H₀ F₁ H₁ F a as xss /\ VR X.K rl F₁ H₁ F H' σ' ρ /\ J (i + 1) xss ρ,fun σ' H' z=>⟨xs.length - (i + 1),by omega,rfl,hlt,z⟩,fun v H' y=>?_⟩
    obtain ⟨Fy,gy,rv⟩:=vi.yld i H v H' _ F2 ei s2 R2.sub R2.reel y
    refine k1 (R2.grow gy) v _ _ _ rv (turn i _ xs2 ρ2 ei j2) fun F3 H3 σ3 ρ3 s3 n3 R3 q3=>?_
    have s13:Same F1 F3:=s2.trans (gy.fs.trans s3.fs)
    exact k2 (C2.mono (gy.fs.trans s3.fs)) R3 { Dm with nx:=J (i + 1) } _ ⟨fun E' G' F4 H4 σ4 ρ4 xs4 s4 C4 R4 q4=>⟨E',G',F4,ρ4,xs4,s13.trans s4,C4,R4,q4⟩,ok.rt⟩ q3
  · have e:i = xs.length:=by omega
    subst e
    exact .inl ⟨vi.stop _ H (Nat.le_refl _) sH,ok.nx _ _ _ _ _ _ _ (g1.fs.trans s2) C2 R2 (fin _ _ j2)⟩
noncomputable def mApp (ic ik ix:Nat):TSm:=fun a Dm xss ρ=>ρ[ic]? = some (some (.vv (.ref a))) /\ ∃ (n:Nat) (xs:List PyData) (d:PyData),ρ[ik]? = some (some (.d (.int n))) /\ xss[n]? = some xs /\ ρ[ix]? = some (some (.d d)) /\ xs.length < sizeLine /\ Dm.nx (xss.set n (xs ++ [d])) ρ
theorem atI_ref {as:List Addr} {n:Nat} {b:Addr} (e:as[n]? = some b):atI (as.map V.ref) (n:Int) = some (V.ref b):=by
  have hl:n < as.length:=(List.getElem?_eq_some_iff.mp e).1
  rw [atI_map]
  unfold atI
  rw [show ixN as.length (n:Int) = some n by unfold ixN; simp; omega,Option.bind_some,e]
  rfl
theorem m_app (ic ik ix:Nat) {c k x:Str} {pc pk px p1 apos cpos:Pos} 
    (hc:X.N[ic]? = some c:=by rfl) (vc:Vis X.env.scope c:=by first | exact Or.inl rfl | exact Or.inr (Or.inl rfl) | exact Or.inr (Or.inr rfl)) (dc:(c == ("__debug__" : Str)) = false:=by decide) (ec:(c == ("__classdict__" : Str)) = false:=by decide)
    (hk:X.N[ik]? = some k:=by rfl) (vk:Vis X.env.scope k:=by first | exact Or.inl rfl | exact Or.inr (Or.inl rfl) | exact Or.inr (Or.inr rfl)) (dk:(k == ("__debug__" : Str)) = false:=by decide) (ek:(k == ("__classdict__" : Str)) = false:=by decide)
    (hx:X.N[ix]? = some x:=by rfl) (vx:Vis X.env.scope x:=by first | exact Or.inl rfl | exact Or.inr (Or.inl rfl) | exact Or.inr (Or.inr rfl)) (dx:(x == ("__debug__" : Str)) = false:=by decide) (ex:(x == ("__classdict__" : Str)) = false:=by decide)
    (hs:PlainIx (.Name k pk):=by exact fun _ _=>rfl)
    (hbase:attributeBase (.Subscript (.Name c pc) (.Name k pk) p1) "append" X.env (eval (.Subscript (.Name c pc) (.Name k pk) p1) X.env) = eval (.Subscript (.Name c pc) (.Name k pk) p1) X.env:=by rfl)
    (hfew:((backTo cpos (starEach [.Name x px] X.env)).all (fun x=>!x.1) && (backToKw cpos (keywordEach [] X.env)).all (fun x=>x.1.isSome)
      && decide (([.Name x px]:List Expr).length + ([]:List Keyword).length + (if ([]:List Keyword).isEmpty then 0 else 1) < 30)) = true:=by rfl)
    (hline:(apos.endLine == cpos.line) = true:=by rfl) (hst:starEach [.Name x px] X.env = (false,eval (.Name x px) X.env) :: starEach [] X.env:=by rfl) (hplain:(backTo cpos (starEach [] X.env)).any (·.1) = false:=by rfl)
    (hsw:swapsWith (.Call (.Attribute (.Subscript (.Name c pc) (.Name k pk) p1) "append" apos) [.Name x px] [] cpos) none pos.line X.env = pure false:=by rfl) :
    PSM X rl (.Expr (.Call (.Attribute (.Subscript (.Name c pc) (.Name k pk) p1) "append" apos) [.Name x px] [] cpos) pos) (mApp ic ik ix):=by
  refine ⟨_,ps_expr (pe_bm PySem.F.plainAttrs_list PySem.F.slot_list_append PySem.F.type_list_append mt_append (pe_ix ix_seq (pe_var hc vc dc ec) (pe_var hk vk dk ek) hs) (pa_cons (pe_var hx vx dx ex) pa_nil hst) hbase hfew hline hst hplain) hsw,fun {F₀ H₀ F₁ H₁ F H σ ρ a as xss} C R Dm D ok ⟨e1,n,xs,d,e2,e3,e4,hl,q⟩=>?_⟩
  obtain ⟨v1,s1,rfl,_⟩:=R.sl ic _ e1
  obtain ⟨v2,s2,r2,_⟩:=R.sl ik _ e2
  have ev2:=rep_int r2
  subst ev2
  obtain ⟨v3,s3,r3,_⟩:=R.sl ix _ e4
  obtain ⟨b,eb,vs,h1,h2,h3,h4,h5⟩:=paired_at C.inn e3
  have ha:H a = some (.lst (as.map V.ref)):=R.g.same a _ C.ha C.ra
  have hb:H b = some (.lst vs):=R.g.same b _ h1 h3
  refine ⟨_,s1,_,s2,.inl ⟨a,_,_,_,rfl,rfl,.inl (.inl ha),atI_ref eb,.inl ⟨rfl,vs,.inl (.inl hb)⟩,_,s3,b,vs,_,rfl,rfl,hb,by rw [h5.length]; exact hl,?_⟩⟩
  exact ok.nx F₁ _ F _ σ ρ _ (.refl _) (C.moved eb h2 h3 h4 (h5.snoc r3)) (R.moved h1 h2 h3) q
noncomputable def mNum (i jf ic ik:Nat) (Pd:List W -> (PyData -> Prop) -> Prop) (f3:TV):TSm:=fun a Dm xss ρ=>ρ[jf]? = some (some .reel) /\ ρ[ic]? = some (some (.vv (.ref a))) /\ ∃ (n:Nat) (xs:List PyData),ρ[ik]? = some (some (.d (.int n))) /\ xss[n]? = some xs /\
  f3 ρ fun w=>∃ b:Bool,w = .d (.bool b) /\ Pd [.reel,.d (.list xs),.d (.bool b)] fun d=>(∃ p q:Int,d = .tuple [.int p,.int q]) /\ Dm.nx xss (ρ.set i (some (.d d)))
theorem m_num (i jf ic ik:Nat) {x f h c k:Str} {px pf ph pc pk p1 cpos:Pos} {e3:Expr} {f3:TV} {ps:List Str} {kk:Nat} {Pd:List W -> (PyData -> Prop) -> Prop} (hN:X.N.Nodup) (Dd:Dfn X.prog X.w X.K X.mg X.base rl f ps kk Pd) (hr:Room kk X.A) (h3:PV X rl e3 f3)
    (hi:X.N[i]? = some x:=by rfl) (hx:Loc X.env.scope x:=by first | exact Or.inl rfl | exact Or.inr rfl) (hf:X.fn x = true \/ X.env.scope.names.lookup x = some .local:=by first | exact .inl rfl | exact .inr rfl)
    (hh:X.N[jf]? = some h:=by rfl) (vh:Vis X.env.scope h:=by first | exact Or.inl rfl | exact Or.inr (Or.inl rfl) | exact Or.inr (Or.inr rfl)) (dh:(h == ("__debug__" : Str)) = false:=by decide) (eh:(h == ("__classdict__" : Str)) = false:=by decide)
    (hc:X.N[ic]? = some c:=by rfl) (vc:Vis X.env.scope c:=by first | exact Or.inl rfl | exact Or.inr (Or.inl rfl) | exact Or.inr (Or.inr rfl)) (dc:(c == ("__debug__" : Str)) = false:=by decide) (ec:(c == ("__classdict__" : Str)) = false:=by decide)
    (hk:X.N[ik]? = some k:=by rfl) (vk:Vis X.env.scope k:=by first | exact Or.inl rfl | exact Or.inr (Or.inl rfl) | exact Or.inr (Or.inr rfl)) (dk:(k == ("__debug__" : Str)) = false:=by decide) (ek:(k == ("__classdict__" : Str)) = false:=by decide)
    (hs:PlainIx (.Name k pk):=by exact fun _ _=>rfl) (hg:Gl X f:=by rfl) (hdb:(f == ("__debug__" : Str)) = false:=by decide)
    (st1:starEach [.Name h ph,.Subscript (.Name c pc) (.Name k pk) p1,e3] X.env = (false,eval (.Name h ph) X.env) :: starEach [.Subscript (.Name c pc) (.Name k pk) p1,e3] X.env:=by rfl)
    (st2:starEach [.Subscript (.Name c pc) (.Name k pk) p1,e3] X.env = (false,eval (.Subscript (.Name c pc) (.Name k pk) p1) X.env) :: starEach [e3] X.env:=by rfl) (st3:starEach [e3] X.env = (false,eval e3 X.env) :: starEach [] X.env:=by rfl)
    (hpl:(backTo cpos (starEach [.Subscript (.Name c pc) (.Name k pk) p1,e3] X.env)).any (·.1) = false:=by rfl)
    (hsw:swapsWith (.Call (.Name f pf) [.Name h ph,.Subscript (.Name c pc) (.Name k pk) p1,e3] [] cpos) (some (.Name x px)) pos.line X.env = pure false:=by rfl) :
    PSM X rl (.Assign [.Name x px] (.Call (.Name f pf) [.Name h ph,.Subscript (.Name c pc) (.Name k pk) p1,e3] [] cpos) pos) (mNum i jf ic ik Pd f3):=by
  obtain ⟨fa,fd,hm,hkp,hb,Fk⟩:=Dd.ex
  obtain ⟨t3,p3,k3⟩:=h3
  refine ⟨_,ps_set hN hi hx (pe_call Fk hr hg hm hkp hb .nil pass0 (pa_cons (pe_var hh vh dh eh) (pa_cons (pe_ix ix_seq (pe_var hc vc dc ec) (pe_var hk vk dk ek) hs) (pa_cons p3 pa_nil st3) st2) st1) hdb st1 hpl) hsw hf,fun {F₀ H₀ F₁ H₁ F H σ ρ a as xss} C R Dm D ok ⟨e0,e1,n,xs,e2,e3,q⟩=>?_⟩
  obtain ⟨v0,s0,⟨r,er,rfl⟩,_⟩:=R.sl jf _ e0
  obtain ⟨v1,s1,rfl,_⟩:=R.sl ic _ e1
  obtain ⟨v2,s2,r2,_⟩:=R.sl ik _ e2
  have ev2:=rep_int r2
  subst ev2
  obtain ⟨b,eb,vs,h1,h2,h3,h4,h5⟩:=paired_at C.inn e3
  have ha:H a = some (.lst (as.map V.ref)):=R.g.same a _ C.ha C.ra
  have hb:H b = some (.lst vs):=R.g.same b _ h1 h3
  refine ⟨_,s0,_,s1,_,s2,.inl ⟨a,_,_,_,rfl,rfl,.inl (.inl ha),atI_ref eb,k3 R _ _ q fun v3 w3 F3 H3 g3 r3 n3 ⟨bb,ew,q3⟩=>?_⟩⟩
  subst ew
  have hb3:H3 b = some (.lst vs):=g3.same b _ hb h3
  have fb3:F3 b = none:=by rw [g3.old b _ hb,R.g.old b _ h1]; exact h2
  have nb3:∀ d u,F3 d = some u -> d ≠ b:=fun d u z y=>by subst y; rw [fb3] at z; cases z
  have fsm:Same F3 (upd F3 b (.lst vs)):=fun d u z=>by rw [upd_ne (nb3 d u z)]; exact z
  have sub:Same (upd F3 b (.lst vs)) H3:=fun d u z=>by
    by_cases y:d = b
    · subst y; rw [upd_same] at z; cases z; exact hb3
    · rw [upd_ne y] at z; exact g3.sub d u z
  have ra:RAt rl (upd F3 b (.lst vs)) H3:=fun r er=>by
    obtain ⟨z1,⟨o,z2,z3⟩⟩:=g3.reel r er
    exact ⟨by rw [upd_ne (fun y=>h3 (by rw [<- y]; exact er))]; exact z1,⟨o,z2,z3.mono fsm⟩⟩
  have rb:rl.b.1 ≠ b:=by
    obtain ⟨_,⟨o,_,_,_,_,_,z,_⟩⟩:=g3.reel r er
    exact nb3 _ _ z
  refine ⟨upd F3 b (.lst vs),[.reel,.d (.list xs),.d (.bool bb)],sub,ra,.cons ⟨r,er,rfl⟩ (.cons (Rep.lst upd_same (h5.mono (g3.fs.trans fsm))) (.cons (Rep.mono fsm r3) .nil)),rfl,Dd.mono _ _ _ (fun d ⟨⟨p,q,ed⟩,qn⟩ v F4 H4 g4 r4=>?_) q3⟩
  subst ed
  have f4b:F4 b = some (.lst vs):=g4.fs b _ upd_same
  let F5:Hp:=fun d=>if d = b then none else F4 d
  have e5:∀ d,d ≠ b -> F5 d = F4 d:=fun d y=>if_neg y
  have e5b:F5 b = none:=if_pos rfl
  have g5:Grow rl F3 H3 F5 H4:=by
    refine ⟨g4.same,fun d u z=>?_,fun d u z=>?_,fun d u z=>?_,fun r er=>?_⟩
    · rw [e5 d (nb3 d u z)]; exact g4.fs d u (fsm d u z)
    · by_cases y:d = b
      · subst y; rw [e5b] at z; cases z
      · rw [e5 d y] at z; exact g4.sub d u z
    · by_cases y:d = b
      · subst y; rw [e5b,fb3]
      · rw [e5 d y,g4.old d u z,upd_ne y]
    · obtain ⟨z1,⟨o,z2,x1,x2,x3,z3,z4,z5⟩⟩:=g4.reel r er
      exact ⟨by by_cases y:r = b
                · subst y; exact e5b
                · rw [e5 r y]; exact z1,⟨o,z2,x1,x2,x3,z3,by rw [e5 _ rb]; exact z4,z5⟩⟩
  have r5:Rep X.K F5 v (.tuple [.int p,.int q]):=by
    cases r4 with
    | @tup a' us _ sq rs =>
      have ev:=reps_int (ns:=[p,q]) rs
      subst ev
      refine .tup ?_ (reps_ints [p,q])
      rcases sq with (z | ⟨o,z⟩) | z
      · exact .inl (.inl (by rw [e5 _ (fun y=>by subst y; rw [f4b] at z; cases z)]; exact z))
      · exact .inl (.inr ⟨o,by rw [e5 _ (fun y=>by subst y; rw [f4b] at z; cases z)]; exact z⟩)
      · exact .inr z
  exact ok.nx F₁ H₁ F5 H4 _ _ xss (g3.fs.trans g5.fs) (C.mono (g3.fs.trans g5.fs)) (R.set (g3.trans g5) (w:=.d _) r5 trivial (fun _ z=>by cases z) i) qn
end
theorem VR.here {K:W.Frag} {rl:RlT} {F₀ H₀ F H:Hp} {σ:St} {ρ:En} (R:VR K rl F₀ H₀ F H σ ρ) (n:NoMl ρ):VR K rl F H F H σ ρ:=by
  refine ⟨Grow.refl R.sub R.reel,fun i w e=>?_,R.ap,R.np,R.len⟩
  obtain ⟨v,h1,h2,_⟩:=R.sl i w e
  have ow:=n i w e
  refine ⟨v,h1,h2,?_⟩
  cases w with
  | ml _=>cases ow
  | md _=>cases ow
  | mk _=>cases ow
  | _=>trivial
theorem paired_rep {α β:Type} {R : α -> β -> Prop} {y : β}:∀ {xs:List α},(∀ x ∈ xs,R x y) -> Paired R xs (List.replicate xs.length y)
  | [],_=>.nil
  | x :: xs,h=>by rw [List.length_cons,List.replicate_succ]; exact .cons (h x List.mem_cons_self) (paired_rep fun z mz=>h z (List.mem_cons_of_mem _ mz))
section
variable {X:Cx} {rl:RlT} {rest:List Stmt} {u:TSm} {tg iter:Expr} {scope:Scope} {fi:En -> (List PyData -> Prop) -> Prop}
noncomputable def mMk (ic:Nat) (fi:En -> (List PyData -> Prop) -> Prop) (fr:List (Option Nat)) (u:TSm):TSv:=fun Dv ρ=>fi ρ fun xs=>NoMl ρ /\ (∀ x,Le (frEn fr ρ) ((frEn fr ρ).set 0 (some (.d x)))) /\ xs.length <= sizeLine /\ ∀ a,u a ⟨fun _ _=>False,Dv.rt⟩ (List.replicate xs.length []) (ρ.set ic (some (.vv (.ref a))))
theorem ms_mk (ic:Nat) {b:Bool} {x:Str} {px spos lp pos:Pos} (hN:X.N.Nodup) (N':List Str) (fr:List (Option Nat)) (hc:X.calm = true) (hi:PIV X rl tg iter fi)
    (hg:∀ y,PGV (blk X N' scope y) rl tg (hName 0)) (hrest:PSsM X rl rest u)
    (hsw:swapsWith (.ListComp (.List [] lp) [⟨tg,iter,[],0⟩] scope pos) (some (.Name x px)) spos.line X.env = pure b:=by rfl)
    (hix:X.N[ic]? = some x:=by rfl) (hx:Loc X.env.scope x:=by first | exact Or.inl rfl | exact Or.inr rfl) (hf:X.fn x = true \/ X.env.scope.names.lookup x = some .local:=by first | exact .inl rfl | exact .inr rfl)
    (hfr:frOk fr N' X.N scope X.env.scope = true:=by rfl) (hsc:scOk scope X.env.scope = true:=by rfl)
    (hs:∀ x,foldedSetIterable iter X.env x = pure x:=by intro _; rfl):PSsV X rl (.Assign [.Name x px] (.ListComp (.List [] lp) [⟨tg,iter,[],0⟩] scope pos) spos :: rest) (mMk ic fi fr u):=by
  have ht:∀ y,PTVs (blk X N' scope y) rl [] (fun _ Q=>Q true):=fun _=>vt_nil
  have he:∀ y,PV (blk X N' scope y) rl (.List [] lp) (vLst vNil):=fun _=>v_lst pvs_nil
  obtain ⟨wi,p0,k0⟩:=hi
  obtain ⟨T2,p2,k2⟩:=hrest
  refine ⟨_,pss_cons (ps_setcomp N' fr hc p0 hfr hsc (fun y=>(Classical.choose_spec (hg y)).1) (fun y=>(Classical.choose_spec (ht y)).1) (fun y=>(Classical.choose_spec (he y)).1) hN hix hx hf hsw hs) p2,fun {F₀ H₀ F H σ ρ} R Dv D ok q=>k0 R _ _ q fun J xs F1 H1 g1 vi ⟨nm,le,hz,q1⟩=>?_⟩
  intro a hD
  have rne:∀ c,H1 c = none -> rl.a ≠ some c:=fun c z e=>by obtain ⟨o,y⟩:=g1.reel.live e; rw [z] at y; cases y
  have rD:=rne a hD
  have FD:F1 a = none:=g1.sub.free hD
  have gD:Grow rl F1 H1 F1 (upd H1 a (.lst [])):=Grow.laid g1.sub g1.reel hD
  have R1:=R.grow g1
  have n0:NoMl (frEn fr ρ):=noMl_block
  refine ⟨fun i m acc σc Hc=>m = xs.length - i /\ i <= xs.length /\ ∃ Fc as,acc = as.map V.ref /\ as.length = i /\ as.Nodup /\ a ∉ as /\ (∀ b ∈ as,H1 b = none /\ Hc b = some (.lst []) /\ Fc b = none) /\ VR X.K rl F1 H1 Fc Hc σc (frEn fr ρ) /\ Hc a = some (.lst acc) /\ Fc a = none,
    ⟨xs.length,by simp,Nat.zero_le _,F1,[],rfl,rfl,List.nodup_nil,by simp,by simp,vr_block R1 gD,upd_same,FD⟩,?_⟩
  rintro z i m acc σc Hc ⟨rfl,hi,Fc,as,rfl,hl,nd,na,hin,Rc,hac,fac⟩
  have sH:Same F1 Hc:=Rc.g.fs.trans Rc.sub
  by_cases hlt:i < xs.length
  · have ei:xs[i]? = some xs[i]:=by simp [hlt]
    refine .inr ⟨vi.go i Hc _ ei sH,fun v H' y=>?_⟩
    obtain ⟨Fy,gy,rv⟩:=vi.yld i Hc v H' _ Fc ei Rc.g.fs Rc.sub Rc.reel y
    refine (Classical.choose_spec (hg z)).2 (Rc.grow gy) v _ (fun ρ3=>Le (frEn fr ρ) ρ3) _ rv (le _) fun F3 H3 σ3 ρ3 g3 n3 R3 le3=>?_
    refine (Classical.choose_spec (ht z)).2 R3 (fun b=>b = true) _ rfl fun b F4 H4 g4 eb=>?_
    subst eb
    rw [if_pos rfl]
    have R4:=R3.grow g4
    have g34:=(gy.trans g3).trans g4
    refine (Classical.choose_spec (he z)).2 R4 (fun w=>w = .ml []) _ ⟨[],rfl,Nat.zero_le _,rfl⟩ fun v5 w5 F5 H5 g5 r5 n5 ew=>?_
    subst ew
    obtain ⟨b,us,rfl,f5,rb,hb5,rs⟩:=(show OwnL X.K rl F5 H5 v5 [] from r5)
    cases rs
    have hb4:H4 b = none:=n5 b rfl
    have g35:=g34.trans g5
    have hb1:H1 b = none:=(Rc.g.trans g34).freeB hb4
    have ne4:∀ c o,Hc c = some o -> rl.a ≠ some c -> c ≠ b:=fun c o e n y=>by have:=g34.same c o e n; rw [y,hb4] at this; cases this
    have nba:a ≠ b:=ne4 a _ hac rD
    have nb:b ∉ as:=fun mb=>ne4 b _ (hin b mb).2.1 (rne b hb1) rfl
    refine ⟨g35.same a _ hac rD,by rw [List.length_map]; omega,xs.length - (i + 1),by omega,rfl,hlt,F5,as ++ [b],by rw [List.map_append]; rfl,by rw [List.length_append,hl]; rfl,?_,?_,fun c mc=>?_,((R4.grow g5).le le3).other n0 hD (by rw [g35.old a _ hac]; exact fac) rD,upd_same,by rw [g35.old a _ hac]; exact fac⟩
    · refine List.nodup_append.mpr ⟨nd,by simp,fun c mc d md y=>?_⟩
      cases List.mem_singleton.mp md
      exact nb (y ▸ mc)
    · simp only [List.mem_append,List.mem_singleton,not_or]
      exact ⟨na,nba⟩
    · rcases List.mem_append.mp mc with mc | mc
      · obtain ⟨x1,x2,x3⟩:=hin c mc
        have nc:c ≠ a:=fun y=>na (y ▸ mc)
        exact ⟨x1,by rw [upd_ne nc]; exact g35.same c _ x2 (rne c x1),by rw [g35.old c _ x2]; exact x3⟩
      · cases List.mem_singleton.mp mc
        exact ⟨hb1,by rw [upd_ne nba.symm]; exact hb5,f5⟩
  · have e:i = xs.length:=by omega
    subst e
    refine .inl ⟨vi.stop _ Hc (Nat.le_refl _) sH,?_⟩
    have gg:Grow rl F₀ H₀ Fc Hc:=(R.g.trans g1).trans Rc.g
    have Rn:=(R.grow (g1.trans Rc.g)).here nm
    have inn:Paired (InL X.K rl H₀ Fc Hc Fc) as (List.replicate xs.length []):=by
      rw [<- hl]
      exact paired_rep fun b mb=>by
        obtain ⟨x1,x2,x3⟩:=hin b mb
        exact ⟨[],x2,x3,rne b x1,(R.g.trans g1).freeB x1,.nil⟩
    exact k2 ⟨gg,hac,rD,nd,na,inn⟩ (Rn.set (Grow.refl Rn.sub Rn.reel) (w:=.vv (.ref a)) rfl trivial (fun _ y=>by cases y) ic) _ D ⟨fun _ _ _ _ _ _ _ _ _ _ y=>False.elim y,ok.rt⟩ (q1 a)
end
theorem noMl_of {ρ:En} (h : ρ.all (fun o=>match o with | some w=>!w.own | none=>true) = true):NoMl ρ:=fun i w e=>by
  have:=List.all_eq_true.mp h _ (List.mem_of_getElem? e)
  simpa using this
noncomputable def mQ (Dm:MEnds) (xss:List (List PyData)):Fl -> Prop
  | .nx ρ=>Dm.nx xss ρ
  | .rt w=>Dm.rt w
  | _=>False
theorem mq_nx {Dm:MEnds} {xss:List (List PyData)} {ρ:En} (h:Dm.nx xss ρ):ret (Fl.nx ρ) (mQ Dm xss):=h
theorem mq_rt {Dm:MEnds} {xss:List (List PyData)} {w:W} (h:Dm.rt w):ret (Fl.rt w) (mQ Dm xss):=h
theorem mseq_rd {t u:TSm} {a:Addr} {Dm:MEnds} {xss:List (List PyData)} {ρ:En} (h:t a { Dm with nx:=u a Dm } xss ρ):mSeq t u a Dm xss ρ:=h
theorem hn_rd {i:Nat} {x:PyData} {ρ:En} {Q:En -> Prop} (h:Q (ρ.set i (some (.d x)))):hName i x ρ Q:=h
theorem mfor_rd {fi:En -> (List PyData -> Prop) -> Prop} {g:TGv} {t:TSm} {a:Addr} {Dm:MEnds} {xss:List (List PyData)} {ρ:En} (h:fi ρ fun ys=>∃ J:Nat -> List (List PyData) -> En -> Prop,J 0 xss ρ /\
    (∀ i y xss ρ,ys[i]? = some y -> J i xss ρ -> g y ρ fun ρ2=>t a { Dm with nx:=J (i + 1) } xss ρ2) /\ ∀ xss ρ,J ys.length xss ρ -> Dm.nx xss ρ):mFor fi g t a Dm xss ρ:=h
theorem mnext_rd {a:Addr} {Dm:MEnds} {xss:List (List PyData)} {ρ:En} (h:Dm.nx xss ρ):mNext a Dm xss ρ:=h
theorem mof_rd {t:TSv} {a:Addr} {Dm:MEnds} {xss:List (List PyData)} {ρ:En} (h:mS t ρ (mQ Dm xss)):mOf t a Dm xss ρ:=by
  have e:mOf t a Dm xss ρ = mS t ρ (mQ Dm xss):=rfl
  rw [e]; exact h
section
end
end L2.VL

namespace L2.VL
open PySem PySem.Spec PyProof.Rows
section
variable {X:Cx} {e1:Expr} {f1:TV} {pos dpos q1 q2 q3 q4 q5 q6 q7:Pos} {j1 j2 j3 j4 j5 j6 j7:Nat}
theorem feed_body {j1 j2 j3 j4 j5 j6 j7} (h1:PV X RlT.no e1 f1) :
    ∃ T,PSs X [.Return (some (.Dict [some (.Constant (.str "cells") j1 q1),some (.Constant (.str "at") j2 q2),some (.Constant (.str "left") j3 q3),some (.Constant (.str "turn") j6 q6)] [e1,.Constant (.int 0) j4 q4,.Constant (.int 0) j5 q5,.Constant (.int 0) j7 q7] dpos)) pos] T /\
      ∀ {F H:Hp} {σ:St} {ρ:En},VR X.K RlT.no F H F H σ ρ -> ∀ D:Ends,(f1 ρ fun w=>∃ ns:List Int,w = .ml (ns.map .int) /\ ns.length <= 63) ->
        (∀ r n' F' H',H r = none -> Grow RlT.no F H F' H' -> RAt (RlT.at' r n') F' H' -> D.rt (.ref r) H') -> T D σ H:=by
  obtain ⟨g1,pe1,ke1⟩:=h1
  refine ⟨_,pss_one (ps_ret (pe_disp (pps_cons pe_str pe1 (pps_cons pe_str pe_int (pps_cons pe_str pe_int (pps_cons pe_str pe_int pps_nil)))) rfl rfl (by intro z; cases z) (by show 4 <= 15; decide))),fun {F H σ ρ} R D q fin=>?_⟩
  intro p hp
  have gp:Grow RlT.no F H F (upd H p (.dK [])):=Grow.laid R.sub R.reel hp
  refine ke1 (R.grow gp) _ _ q fun v1 w1 F3 H3 g3 r1 n1 qc=>?_
  obtain ⟨ns,rfl,hl⟩:=qc
  obtain ⟨F4,g4,s4,r4⟩:=RelW.fz (w:=.ml (ns.map .int)) g3 r1 n1
  have r4:Rep X.K F4 v1 (.list (ns.map .int)):=r4
  cases r4 with
  | @lst a vs _ hc rs =>
    have ev:=reps_int rs
    subst ev
    have hp5:H3 p = some (.dK []):=g3.same p _ upd_same (by simp)
    refine ⟨hp5,[(kC,.ref a),(kA,.int 0),(kL,.int 0),(kT,.int 0)],rfl,(by show 4 <= 15; decide),?_⟩
    rw [merge_reel]
    have f5:F4 p = none:=by rw [g4.old p _ upd_same]; exact R.sub.free hp
    have g0:Grow RlT.no F H F4 H3:=gp.trans g4
    refine fin p (a,ns) F4 _ hp ⟨fun b o eb _=>by rw [upd_ne (ne_of_none eb hp)]; exact g0.same b o eb (by simp),g0.fs,fun b o eb=>?_,g0.old,fun _ z=>by cases z⟩ (fun r er=>?_)
    · have:b ≠ p:=fun z=>by subst z; rw [f5] at eb; cases eb
      rw [upd_ne this]
      exact g0.sub b o eb
    · cases er
      exact ⟨f5,⟨_,upd_same,0,0,0,rfl,hc,hl,by omega,by omega,by omega⟩⟩
end
end L2.VL

namespace L2
open PySem PySem.Spec PyProof.Rows
section
variable {prog:Program} {w:World} {A:Around} {R:Result -> Shared -> Prop} {s:Shared} {elt t1 i1 t2 i2:Expr} {f1 f2:List Expr} {scope:Scope} {pos:Pos} {it acc:Value} {env:Env}
end
section
variable {Y:Cx} {elt t1 i1 t2 i2:Expr} {f1 f2:List Expr} {scope:Scope} {pos:Pos} {wi:TI} {g:TG} {tt:TT} {te:TE} {D:Addr}
end
section
variable {Y:Cx} {elt t1 i1 t2 i2:Expr} {f1 f2:List Expr} {scope:Scope} {pos:Pos} {wj:TI} {g g2:TG} {tt tt2:TT} {te:TE} {D:Addr}
end
section
variable {X:Cx} {elt t1 i1 t2 i2:Expr} {f1 f2:List Expr} {scope:Scope} {pos:Pos} {wi:TI} {wj:CompA -> TI} {g g2:CompA -> TG} {tt tt2:CompA -> TT} {te:CompA -> TE}
end
end L2

namespace L2.VL
open PySem PySem.Spec PyProof.Rows
section
variable {X:Cx} {rl:RlT} {elt t1 i1 t2 i2:Expr} {f1 f2:List Expr} {scope:Scope} {pos:Pos} {fi fj:En -> (List PyData -> Prop) -> Prop} {g g2:TGv} {ft ft2:TB} {fe:TV}
end
section
variable {α β:Type} {b:PyData -> Mo (Option PyData)}
end
end L2.VL

namespace L2.VL
open PySem PySem.Spec PyProof.Rows
noncomputable def fr (q:Rat):PyData:=.tuple [.int q.num,.int q.den]
theorem fr_inj {q r:Rat} (h:fr q = fr r):q = r:=by
  simp only [fr,PyData.tuple.injEq,List.cons.injEq,PyData.int.injEq,and_true] at h
  exact Rat.ext h.1 (by omega)
theorem low_norm (n:Int) (d:Nat) (h:d ≠ 0):lowD n d = fr (Rat.normalize n d h):=by
  unfold lowD fr
  rw [Rat.normalize_eq]
  have g:(Int.gcd n d:Int) = ((n.natAbs.gcd d:Nat):Int):=by simp [Int.gcd]
  have gp : 0 < n.natAbs.gcd d:=Nat.gcd_pos_of_pos_right _ (by omega)
  have e1:n.fdiv (Int.gcd n d) = n / ((n.natAbs.gcd d:Nat):Int):=by rw [g,Int.fdiv_eq_ediv_of_nonneg _ (by omega)]
  have e2:(d:Int).fdiv (Int.gcd n d) = ((d / n.natAbs.gcd d:Nat):Int):=by rw [g,Int.fdiv_eq_ediv_of_nonneg _ (by omega),Int.natCast_ediv]
  rw [e1,e2]
theorem low_div {a b:Int} (hb : 0 < b):lowD a b = fr ((a:Rat) / (b:Rat)):=by
  obtain ⟨d,rfl⟩:=Int.eq_ofNat_of_zero_le (show 0 <= b by omega)
  rw [low_norm a d (by omega)]
  congr 1
  have:(Rat.normalize a d (by omega)) = mkRat a d:=by rw [Rat.normalize_eq_mkRat]
  rw [this,Rat.mkRat_eq_div]
  rfl
theorem fr_add (q r:Rat):lowD (q.num * r.den + r.num * q.den) (q.den * r.den) = fr (q + r):=by
  have:=low_norm (q.num * r.den + r.num * q.den) (q.den * r.den) (Nat.mul_ne_zero q.den_nz r.den_nz)
  rw [Int.natCast_mul] at this
  rw [this,Rat.add_def]
theorem fr_sub (q r:Rat):lowD (q.num * r.den - r.num * q.den) (q.den * r.den) = fr (q - r):=by
  have:=low_norm (q.num * r.den - r.num * q.den) (q.den * r.den) (Nat.mul_ne_zero q.den_nz r.den_nz)
  rw [Int.natCast_mul] at this
  rw [this,Rat.sub_def]
theorem fr_mul (q r:Rat):lowD (q.num * r.num) (q.den * r.den) = fr (q * r):=by
  have:=low_norm (q.num * r.num) (q.den * r.den) (Nat.mul_ne_zero q.den_nz r.den_nz)
  rw [Int.natCast_mul] at this
  rw [this,Rat.mul_def]
theorem fr_lt (q r:Rat):decide (q.num * r.den < r.num * q.den) = decide (q < r):=by
  rw [decide_eq_decide]
  exact (Rat.lt_iff q r).symm
noncomputable def qSm (n:Nat) (q:Rat):Prop:=q.num.natAbs < 2 ^ n /\ q.den < 2 ^ n
theorem qSm.mono {n m:Nat} {q:Rat} (h:qSm n q) (hm:n <= m):qSm m q:=⟨Nat.lt_of_lt_of_le h.1 (Nat.pow_le_pow_right (by decide) hm),Nat.lt_of_lt_of_le h.2 (Nat.pow_le_pow_right (by decide) hm)⟩
theorem big2000 {i:Int} (h:i.natAbs < 2 ^ 2000):Big i:=Nat.lt_of_lt_of_le h (Nat.pow_le_pow_right (by decide) (by decide))
theorem qSm.bn {q:Rat} (h:qSm 2000 q):Big q.num:=big2000 h.1
theorem qSm.bd {q:Rat} (h:qSm 2000 q):Big (q.den:Int):=big2000 (by rw [Int.natAbs_natCast]; exact h.2)
theorem den_pos (q r:Rat):(0:Int) < (q.den:Int) * (r.den:Int):=Int.mul_pos (by have:=q.den_nz; omega) (by have:=r.den_nz; omega)
theorem den_small {q r:Rat} (h:qSm 2000 q) (h':qSm 2000 r):((q.den:Int) * (r.den:Int)).natAbs < 2 ^ 8000:=by
  rw [Int.natAbs_mul,Int.natAbs_natCast,Int.natAbs_natCast]
  have:q.den * r.den < 2 ^ 2000 * 2 ^ 2000:=Nat.mul_lt_mul'' h.2 h'.2
  rw [<- Nat.pow_add] at this
  exact Nat.lt_of_lt_of_le this (Nat.pow_le_pow_right (by decide) (by decide))
end L2.VL

namespace L2.VL
open PySem PySem.Spec PyProof.Rows
inductive Sd where
  | to (t:Rat) | from (a b:Rat) | round (a b:Rat)
noncomputable def Sd.last:Sd -> Rat
  | .to t=>t | .from _ b=>b | .round _ b=>b
noncomputable def Sd.first:Sd -> Rat
  | .to t=>t | .from a _=>a | .round a _=>a
noncomputable def sdD:Sd -> PyData
  | .to t=>.tuple [.str "to", fr t]
  | .from a b=>.tuple [.str "from", fr a,fr b]
  | .round a b=>.tuple [.str "round", fr a,fr b]
noncomputable def mx (q r:Rat):Rat:=if q < r then r else q
noncomputable def mn (q r:Rat):Rat:=if q < r then q else r
noncomputable def szQ:Sd -> Rat
  | .to t=>mx t 0
  | .from a b=>mx (mx b 0 - mx a 0) 0
  | .round a b=>mn (1 + (mx b 0 - mx a 0)) 1
theorem fr0:pr 0 1 = fr 0:=rfl
theorem fr1:pr 1 1 = fr 1:=rfl
theorem qSm0:qSm 60 0:=⟨by decide,by decide⟩
theorem qSm1:qSm 60 1:=⟨by decide,by decide⟩
theorem mx_sm {n:Nat} {q r:Rat} (h:qSm n q) (h':qSm n r):qSm n (mx q r):=by unfold mx; split <;> assumption
theorem mn_sm {n:Nat} {q r:Rat} (h:qSm n q) (h':qSm n r):qSm n (mn q r):=by unfold mn; split <;> assumption
theorem norm_sm {n:Int} {d k:Nat} (hd:d ≠ 0) (h1:n.natAbs < 2 ^ k) (h2:d < 2 ^ k):qSm k (Rat.normalize n d hd):=by
  rw [Rat.normalize_eq]
  refine ⟨?_,Nat.lt_of_le_of_lt (Nat.div_le_self _ _) h2⟩
  show (n / ((n.natAbs.gcd d:Nat):Int)).natAbs < 2 ^ k
  have hdv:((n.natAbs.gcd d:Nat):Int) ∣ n:=Int.ofNat_dvd_left.mpr (Nat.gcd_dvd_left _ _)
  rw [Int.natAbs_ediv_of_dvd hdv,Int.natAbs_natCast]
  exact Nat.lt_of_le_of_lt (Nat.div_le_self _ _) h1
theorem mul_lt_pow {a b m n:Nat} (h1:a < 2 ^ m) (h2:b < 2 ^ n):a * b < 2 ^ (m + n):=by
  rw [Nat.pow_add]
  exact Nat.mul_lt_mul'' h1 h2
theorem mul_sm {m n:Nat} {q r:Rat} (h:qSm m q) (h':qSm n r):qSm (m + n) (q * r):=by
  rw [Rat.mul_def]
  refine norm_sm _ ?_ (mul_lt_pow h.2 h'.2)
  rw [Int.natAbs_mul]
  exact mul_lt_pow h.1 h'.1
theorem add_sm {m n:Nat} {q r:Rat} (h:qSm m q) (h':qSm n r):qSm (m + n + 1) (q + r):=by
  rw [Rat.add_def]
  have a1:=mul_lt_pow h.1 h'.2
  have a2:=mul_lt_pow h'.1 h.2
  rw [Nat.add_comm n m] at a2
  have a3:=mul_lt_pow h.2 h'.2
  refine norm_sm _ ?_ (Nat.lt_of_lt_of_le a3 (Nat.pow_le_pow_right (by decide) (by omega)))
  have t:=Int.natAbs_add_le (q.num * r.den) (r.num * q.den)
  rw [Int.natAbs_mul,Int.natAbs_mul,Int.natAbs_natCast,Int.natAbs_natCast] at t
  rw [Nat.pow_succ]
  omega
theorem sub_sm {m n:Nat} {q r:Rat} (h:qSm m q) (h':qSm n r):qSm (m + n + 1) (q - r):=by
  rw [Rat.sub_eq_add_neg]
  exact add_sm h ⟨by rw [Rat.neg_num,Int.natAbs_neg]; exact h'.1,h'.2⟩
theorem eqv_sd (a b:Str):PyData.eqv (.str a) (.str b) = decide (a = b):=by
  rw [eqv_ss]
  by_cases h:a = b
  · simp [h]
  · rw [decide_eq_false h]; simp [h]
theorem qSm.up {q:Rat} (h:qSm 60 q):qSm 2000 q:=h.mono (by decide)
noncomputable def gaB (x y:Rat) (b:Bool):Bool:=if b then !decide (y < x) else decide (x < y)
noncomputable def isW (w:Str):Prop:=w = "half" \/ w = "shut" \/ w = "open"
noncomputable def lyB (s:Sd) (w:Str) (x:Rat):Bool :=
  let ahead:=gaB x s.last (decide (w = "shut"))
  let behind:=gaB s.first x (!decide (w = "open"))
  match s with
  | .to _=>ahead
  | .from _ _=>behind && ahead
  | .round _ _=>behind || ahead
noncomputable def prodQ (qs:List Rat):Rat:=qs.foldl (· * ·) 1
noncomputable def boxD (ss:List Sd):PyData:=.tuple (ss.map sdD)
noncomputable def sizeQ (ss:List Sd):Rat:=prodQ (ss.map szQ)
noncomputable def ptD (qs:List Rat):PyData:=.tuple (qs.map fr)
noncomputable def IsPt (n:Nat) (qs:List Rat):Prop:=qs.length = n /\ ∀ q ∈ qs,qSm 60 q
noncomputable def liB (qs:List Rat) (ss:List Sd) (w:Str):Bool:=(qs.zip ss).all fun p=>lyB p.2 w p.1
noncomputable def ptsQ (ps:List (List Rat)):PyData:=.tuple (ps.map ptD)
noncomputable def IsPs (n:Nat) (ps:List (List Rat)):Prop:=1 <= ps.length /\ ps.length <= 40 /\ ∀ p ∈ ps,IsPt n p
noncomputable def cntN (ps:List (List Rat)) (ss:List Sd) (w:Str):Nat:=(ps.filter fun p=>liB p ss w).length
theorem at_last2 {α:Type} (x y : α):L2.atI [x,y] (-1) = some y:=rfl
theorem at_last3 {α:Type} (x y z : α):L2.atI [x,y,z] (-1) = some z:=rfl
end L2.VL

namespace L2.VL
open PySem PySem.Spec PyProof.Rows
theorem zipD_map {α β:Type} (f : α -> PyData) (g : β -> PyData):∀ (xs:List α) (ys:List β),zipD (xs.map f) (ys.map g) = (xs.zip ys).map fun p=>.tuple [f p.1,g p.2]
  | [],_=>by simp [zipD]
  | _ :: _,[]=>by simp [zipD]
  | x :: xs,y :: ys=>by
    show PyData.tuple [f x,g y] :: zipD (xs.map f) (ys.map g) = _
    rw [zipD_map f g xs ys]
    rfl
theorem fm_len {α:Type} (p : α -> Bool) (f : α -> PyData):∀ xs:List α,(xs.filterMap fun x=>if p x = true then some (f x) else none).length = (xs.filter p).length
  | []=>rfl
  | x :: xs=>by
    have ih:=fm_len p f xs
    cases h:p x <;> simp [h,ih]
theorem lay_frs:∀ qs:List Rat,PyData.canLayAll0 (qs.map fr) = true
  | []=>rfl
  | q :: qs=>by simp [PyData.canLayAll0,PyData.canLay0,fr,lay_frs qs]
theorem dep_frs:∀ qs:List Rat,PyData.depthAll (qs.map fr) <= 3
  | []=>by simp [PyData.depthAll]
  | q :: qs=>by
    have:=dep_frs qs
    simp [PyData.depthAll,PyData.depth,fr] at this ⊢
    omega
theorem shaped_frs (qs:List Rat):SeqAt.shaped (.list (qs.map fr)) = true:=by
  have:=dep_frs qs
  simp [SeqAt.shaped,PyData.canLay0,PyData.depth,lay_frs]
  omega
theorem at_last1 {α:Type} (x : α):L2.atI [x] (-1) = some x:=rfl
end L2.VL

namespace L2.VL
open PySem PySem.Spec PyProof.Rows
theorem fr_i {q r:Rat}:fr q = fr r ↔ q = r:=⟨fr_inj,fun h=>by rw [h]⟩
theorem sdD_i {s t:Sd}:sdD s = sdD t ↔ s = t:=by
  constructor
  · intro h
    have n1:¬ (Str.ofString "from" = Str.ofString "round"):=by decide +kernel
    cases s <;> cases t <;> simp [sdD,fr_i,n1,Ne.symm n1] at h ⊢ <;> first | exact h | exact (n1 h.1.symm).elim | exact (n1 h.1).elim
  · rintro rfl; rfl
theorem ptD_i {a b:List Rat}:ptD a = ptD b ↔ a = b:=by
  unfold ptD
  rw [PyData.tuple.injEq,map_inj_of fun _ _=>fr_i]
theorem boxD_i {a b:List Sd}:boxD a = boxD b ↔ a = b:=by
  unfold boxD
  rw [PyData.tuple.injEq,map_inj_of fun _ _=>sdD_i]
theorem ptsQ_i {a b:List (List Rat)}:ptsQ a = ptsQ b ↔ a = b:=by
  unfold ptsQ
  rw [PyData.tuple.injEq,map_inj_of fun _ _=>ptD_i]
theorem frs_i {a b:List Rat}:a.map fr = b.map fr ↔ a = b:=map_inj_of fun _ _=>fr_i
theorem item_fr0 (q:Rat):itemAt (fr q) 0 = some (.int q.num):=rfl
theorem item_fr1 (q:Rat):itemAt (fr q) 1 = some (.int q.den):=rfl
theorem tupD_pt (a:List Rat):tupD (ptD a) = some (a.map fr):=rfl
theorem seqD_pt (a:List Rat):seqD (ptD a) = some (a.map fr):=rfl
theorem lenD_pt (a:List Rat):lenD (ptD a) = some a.length:=by show some (a.map fr).length = _; rw [List.length_map]
theorem item_pt (a:List Rat) (i:Int):itemAt (ptD a) i = (atI a i).map fr:=atI_map _ _ _
theorem tupD_bx (a:List Sd):tupD (boxD a) = some (a.map sdD):=rfl
theorem seqD_bx (a:List Sd):seqD (boxD a) = some (a.map sdD):=rfl
theorem lenD_bx (a:List Sd):lenD (boxD a) = some a.length:=by show some (a.map sdD).length = _; rw [List.length_map]
theorem item_bx (a:List Sd) (i:Int):itemAt (boxD a) i = (atI a i).map sdD:=atI_map _ _ _
theorem tupD_ps (a:List (List Rat)):tupD (ptsQ a) = some (a.map ptD):=rfl
theorem seqD_ps (a:List (List Rat)):seqD (ptsQ a) = some (a.map ptD):=rfl
theorem lenD_ps (a:List (List Rat)):lenD (ptsQ a) = some a.length:=by show some (a.map ptD).length = _; rw [List.length_map]
theorem item_ps (a:List (List Rat)) (i:Int):itemAt (ptsQ a) i = (atI a i).map ptD:=atI_map _ _ _
theorem kind_pt (a:List Rat):kindB (ptD a) = kindB (.tuple []):=rfl
theorem kind_bx (a:List Sd):kindB (boxD a) = kindB (.tuple []):=rfl
noncomputable def qd (a b:Int):Rat:=(a:Rat) / (b:Rat)
theorem low_qd {a b:Int} (hb : 0 < b):PyData.tuple [.int (a.fdiv (Int.gcd a b)),.int (b.fdiv (Int.gcd a b))] = fr (qd a b):=low_div hb
theorem qd_self (q:Rat):qd q.num q.den = q:=by
  unfold qd
  have:=Rat.mkRat_self q
  rw [Rat.mkRat_eq_div] at this
  exact this
theorem qd_add (q r:Rat):qd (q.num * r.den + r.num * q.den) (q.den * r.den) = q + r:=fr_inj (by rw [<- fr_add]; exact (low_div (den_pos q r)).symm)
theorem qd_sub (q r:Rat):qd (q.num * r.den - r.num * q.den) (q.den * r.den) = q - r:=fr_inj (by rw [<- fr_sub]; exact (low_div (den_pos q r)).symm)
theorem qd_mul (q r:Rat):qd (q.num * r.num) (q.den * r.den) = q * r:=fr_inj (by rw [<- fr_mul]; exact (low_div (den_pos q r)).symm)
theorem den_p (q:Rat):(0:Int) < (q.den:Int):=by have:=q.den_nz; omega
theorem qd_sm {a b:Int} {k:Nat} (hb : 0 < b) (h1:a.natAbs < 2 ^ k) (h2:b.natAbs < 2 ^ k):qSm k (qd a b):=by
  obtain ⟨d,rfl⟩:=Int.eq_ofNat_of_zero_le (show 0 <= b by omega)
  have hd:d ≠ 0:=by omega
  have e:qd a d = Rat.normalize a d hd:=fr_inj (by rw [<- low_norm,low_div (by omega)]; rfl)
  rw [e]
  exact norm_sm _ h1 (by simpa using h2)
noncomputable def sg (x y:Rat):Int:=x.num * y.den - y.num * x.den
theorem lay_pts:∀ ps:List (List Rat),PyData.canLayAll0 (ps.map ptD) = true
  | []=>rfl
  | p :: ps=>by simp [PyData.canLayAll0,PyData.canLay0,ptD,lay_frs,lay_pts ps]
theorem dep_pts:∀ ps:List (List Rat),PyData.depthAll (ps.map ptD) <= 5
  | []=>by simp [PyData.depthAll]
  | p :: ps=>by
    have:=dep_pts ps
    have:=dep_frs p
    simp [PyData.depthAll,PyData.depth,ptD] at *
    omega
theorem shaped_pts (ps:List (List Rat)):SeqAt.shaped (.list (ps.map ptD)) = true:=by
  have:=dep_pts ps
  simp [SeqAt.shaped,PyData.canLay0,PyData.depth,lay_pts]
  omega
theorem qd_nn {a b:Int} (hb : 0 < b) (h : 0 <= a) : 0 <= qd a b:=by
  unfold qd
  have h1:(0:Rat) <= (a:Rat):=by exact_mod_cast h
  have h2:(0:Rat) < (b:Rat):=by exact_mod_cast hb
  rw [Rat.div_def]
  exact Rat.mul_nonneg h1 (Rat.le_of_lt (Rat.inv_pos.mpr h2))
theorem qd_lt1 {a b:Int} (hb : 0 < b) (h:a < b):qd a b < 1:=by
  unfold qd
  have h1:(a:Rat) < (b:Rat):=by exact_mod_cast h
  have h2:(0:Rat) < (b:Rat):=by exact_mod_cast hb
  exact (Rat.div_lt_iff h2).mpr (by rw [Rat.one_mul]; exact h1)
noncomputable def BFR:=And.intro @item_fr0 (And.intro @item_fr1 (And.intro @tupD_pt (And.intro @seqD_pt (And.intro @lenD_pt (And.intro @item_pt (And.intro @tupD_bx (And.intro @seqD_bx (And.intro @lenD_bx (And.intro @item_bx (And.intro @tupD_ps (And.intro @seqD_ps (And.intro @lenD_ps (And.intro @item_ps (And.intro @at_last1 (And.intro @at_last2 (And.intro @at_last3 (And.intro @kind_pt (And.intro @kind_bx (And.intro @fr0 (@fr1))))))))))))))))))))
end L2.VL

namespace L2.VL
open PySem PySem.Spec PyProof.Rows
end L2.VL

namespace L2.VL
open PySem PySem.Spec PyProof.Rows
end L2.VL

namespace L2.VL
open PySem PySem.Spec PyProof.Rows
noncomputable def tv (b:Int) (ds:List Int):Int:=ds.foldl (fun t d=>t * b + d) 0
theorem rat_ne {b:Int} (h : 0 < b):(b:Rat) ≠ 0:=by
  intro z
  have:b = 0:=by exact_mod_cast z
  omega
noncomputable def Pw (b B:Int):Prop:=∃ m:Nat,B ∣ b ^ m
noncomputable def ix (p:List Int) (f:Int):Int:=(p.idxOf f:Int)
theorem qd_cross {a c:Int} (hc : 0 < c):(qd a c).num * c = a * (qd a c).den:=by
  have h1:=rat_ne hc
  have h2:=rat_ne (den_p (qd a c))
  have e:qd (qd a c).num (qd a c).den = qd a c:=qd_self _
  have e':((qd a c).num:Rat) / (((qd a c).den:Int):Rat) = (a:Rat) / (c:Rat):=e
  generalize (qd a c).num = x at *
  generalize ((qd a c).den:Int) = y at *
  have:(x:Rat) * (c:Rat) = (a:Rat) * (y:Rat):=by grind
  exact_mod_cast this
noncomputable def Fx (b:Int) (N:Nat) (q:Rat):Prop:=∃ (T:Int) (k:Nat),q = qd T (b ^ k) /\ 0 <= T /\ T < b ^ k /\ b ^ k < 2 ^ N
end L2.VL

namespace L2
open PySem PySem.Spec PyProof.Rows
section
variable {X:Cx}
theorem ints_at {ns:List Int} {its:List Value} (r:Vals (ns.map V.int) its) {i:Nat} {v:Value} (e:its[i]? = some v):∃ t,v = .int (ns.getD i 0) t:=by
  have hl:=r.length
  rw [List.length_map] at hl
  have hi:i < ns.length:=by have:=(List.getElem?_eq_some_iff.mp e).1; omega
  have hb:(ns.map V.int)[i]? = some (.int ns[i]):=by simp [hi]
  obtain ⟨u,hu,ru⟩:=r.get hb
  rw [e] at hu
  cases hu
  have:ns.getD i 0 = ns[i]:=by simp [List.getD,hi]
  rw [this]
  exact ru
end
end L2
namespace L2.VL
open PySem PySem.Spec PyProof.Rows
section
variable {X:Cx} {rl:RlT} {a:Expr} {fs:TVs} {pos p:Pos}
noncomputable def intsO:PyData -> Option (List Int)
  | .list xs=>intsD xs
  | _=>none
theorem intsO_of {d:PyData} {ns:List Int}:intsO d = some ns ↔ d = .list (ns.map .int):=by
  constructor
  · intro h
    cases d with
    | list xs=>rw [intsD_of h]
    | _=>cases h
  · rintro rfl; exact intsD_map _
end
end L2.VL

namespace L2.VL
open PySem PySem.Spec
noncomputable def lim (c:List Rat):List Rat:=0 :: (c ++ [1])
theorem tup_of (xs:List Int):PyData.tuple (xs.map PyData.int) = tupI xs:=rfl
theorem pt_of (xs:List Rat):PyData.tuple (xs.map fr) = ptD xs:=rfl
end L2.VL

namespace L2.VL
open PySem PySem.Spec
noncomputable def shB (p es:List Rat):Bool:=(p.zip es).all fun z=>!decide (z.2 < z.1)
noncomputable def szE (es:List Rat):Rat:=prodQ (es.map fun e=>mx e 0)
noncomputable def shC (ps:List (List Rat)) (es:List Rat):Nat:=(ps.filter fun p=>shB p es).length
noncomputable def ov (ps:List (List Rat)) (es:List Rat):Rat:=qd (shC ps es) ps.length - szE es
end L2.VL

namespace L2.ZP
open PySem PySem.Spec PyProof.Rows
section
variable {prog:Program} {w:World} {A:Around} {E:Value -> Shared -> Prop} {s:Shared} {z it a:Addr} {k:Nat} {xs:Array Value} {x p:Value} {b:Bool}
abbrev e2 (h:Heap) (b:Bool) (a:Addr):Heap:=(y1 h b a).push { cls:=.type "enumerate", data:=.fields #[.none,.bool false,.ref h.objs.size,rawInt 0,.none,.none] }
end
end L2.ZP
namespace L2
open PySem PySem.Spec PyProof.Rows L2.ZP
section
variable {X:Cx} {e1:Expr} {ta:TA} {elts:List Expr} {kt:Nat} {pt p pos:Pos}
end
end L2
namespace L2.VL
open PySem PySem.Spec PyProof.Rows
section
variable {X:Cx} {rl:RlT} {a:Expr} {elts:List Expr} {kt:Nat} {pt p pos:Pos} {fs:TVs}
end
end L2.VL

namespace L2.VL
open PySem PySem.Spec PyProof.Rows
section
variable {α β:Type} {b:PyData -> Mo (Option PyData)}
end
end L2.VL

namespace L2.VL
open PySem PySem.Spec
noncomputable def colQ (ps:List (List Rat)) (i:Nat):List Rat:=ps.map fun p=>p.getD i 0
end L2.VL

namespace L2
open PySem PySem.Spec PyProof.Rows
open L2.ZP
section
variable {X:Cx} {e1 e2:Expr} {elts:List Expr} {kt:Nat} {pt p pos:Pos} {ta:TA}
end
end L2
namespace L2.VL
open PySem PySem.Spec PyProof.Rows
section
variable {X:Cx} {rl:RlT} {a b:Expr} {elts:List Expr} {kt:Nat} {pt p pos:Pos} {fs:TVs}
end
end L2.VL

namespace L2.VL
open PySem PySem.Spec PyProof.Rows
section
variable {X:Cx} {rl:RlT} {a b c o e:Expr} {es:List Expr} {fa fb:TV} {fs:TVs} {pos p apos cpos:Pos} {ρ:En}
end
end L2.VL

namespace L2
open PySem PySem.Spec PyProof.Rows
section
variable {prog:Program} {w:World} {A:Around} {E:Value -> Shared -> Prop} {s:Shared}
end
section
variable {X:Cx}
end
end L2
namespace L2.VL
open PySem PySem.Spec PyProof.Rows
section
variable {X:Cx} {rl:RlT} {e:Expr} {fa:TV} {pos:Pos} {ρ:En}
end
end L2.VL

namespace L2.VL
open PySem PySem.Spec PyProof.Rows
end L2.VL

namespace L2.VL
open PySem PySem.Spec PyProof.Rows
end L2.VL
namespace L2.VL
open PySem PySem.Spec PyProof.Rows
end L2.VL

namespace L2.VL
open PySem PySem.Spec PyProof.Rows
end L2.VL

namespace L2.VL
open PySem PySem.Spec PyProof.Rows
end L2.VL

namespace L2.VL
open PySem PySem.Spec PyProof.Rows
section
variable {X:Cx} {rl:RlT} {a b e:Expr} {fa fb:TV} {pos:Pos} {ρ:En}
end
end L2.VL

namespace L2
open PySem PySem.Spec PyProof.Rows
section
variable {X:Cx}
end
end L2
namespace L2.VL
open PySem PySem.Spec PyProof.Rows
section
variable {X:Cx} {rl:RlT} {a e:Expr} {fs:TVs} {pos p:Pos}
end
end L2.VL

namespace L2
open PySem PySem.Spec PyProof.Rows
section
variable {X:Cx}
end
end L2
namespace L2.VL
open PySem PySem.Spec PyProof.Rows
section
variable {X:Cx} {rl:RlT} {a e:Expr} {fs:TVs} {pos p:Pos}
end
end L2.VL

namespace L2
open PySem PySem.Spec PyProof.Rows
theorem argBest_ge (f : Nat -> Int) : ∀ k, PySem.argBest (fun i j => decide (f i < f j)) k <= k /\ ∀ j, j <= k -> f (PySem.argBest (fun i j => decide (f i < f j)) k) <= f j
  | 0 => ⟨Nat.le_refl _, fun j hj => by obtain rfl : j = 0 := by omega
                                        exact Int.le_refl _⟩
  | k + 1=>by
    obtain ⟨h1,h2⟩:=argBest_ge f k
    rw [PySem.argBest]
    by_cases h:f (k + 1) < f (PySem.argBest (fun i j=>decide (f i < f j)) k)
    · rw [if_pos (by simpa using h)]
      refine ⟨Nat.le_refl _,fun j hj=>?_⟩
      by_cases e:j = k + 1
      · rw [e]; exact Int.le_refl _
      · have:=h2 j (by omega); omega
    · rw [if_neg (by simpa using h)]
      refine ⟨by omega,fun j hj=>?_⟩
      by_cases e:j = k + 1
      · rw [e]; omega
      · exact h2 j (by omega)
section
variable {X:Cx}
theorem call_minL (hc:X.calm = true):CallR X (.builtin "min") (fun xs H Q=>∃ (p:Addr) (ns:List Int),xs = [.ref p] /\ SqL X.K H p (ns.map V.int) /\ 0 < ns.length /\ ∀ M,M ∈ ns -> (∀ a ∈ ns,M <= a) -> Q (.int M) H):=by
  intro pins s σ H xs us Q I r ⟨p,ns,ex,hq,h0,q⟩
  subst ex
  obtain ⟨u,rfl,ru⟩:=vals1 r
  cases ru
  obtain ⟨its,rv,pl,hz⟩:=I.list hq
  have hl:=rv.length
  rw [List.length_map] at hl
  refine PySem.call_min_walk (wpAny_pyIter_list pl.isList ?_)
  have ne:p ≠ s.heap.objs.size:=by obtain ⟨o,ho,_⟩:=pl.isList; exact Nat.ne_of_lt (Heap.lt_size ho)
  refine ⟨s.heap.objs.size,_,_,_,_,_,_,rfl,Walks.list (A:=X.A.in1) (I.ok.hd hc) s.heap.objs.size p ne its.toArray,⟨⟨_,Heap.get?_push_size _ rfl,rfl,rfl⟩,pl.isList.push _⟩,?_,?_,PySem.CmpOf.ints_lt (fun i=>ns.getD i 0) (fun i v hP=>ints_at rv (by simpa using hP)),?_⟩
  · intro b hb
    have hb:b = s.heap.objs.size \/ b = p:=by simpa using hb
    show b < (Heap.push _ _).objs.size
    rw [Heap.size_push]
    rcases hb with rfl | rfl
    · exact Nat.lt_succ_self _
    · obtain ⟨o,ho,_⟩:=pl.isList; exact Nat.lt_succ_of_lt (Heap.lt_size ho)
  · rw [List.size_toArray]; omega
  · intro v h' tk hP k
    have hP2:its[PySem.argBest (fun i j=>decide (ns.getD i 0 < ns.getD j 0)) (its.toArray.size - 1)]? = some v:=by rw [<- List.getElem?_toArray]; exact hP
    obtain ⟨t,rfl⟩:=ints_at rv hP2
    have en:its.toArray.size = ns.length:=by rw [List.size_toArray]; omega
    rw [en]
    obtain ⟨a1,a2⟩:=argBest_ge (fun i=>ns.getD i 0) (ns.length - 1)
    have hi:PySem.argBest (fun i j=>decide (ns.getD i 0 < ns.getD j 0)) (ns.length - 1) < ns.length:=by omega
    refine ⟨.int _,H,I.kept (t':=tk) fun b o eb=>k b o (by simp; exact Nat.ne_of_lt (Heap.lt_size eb)) (Heap.get?_push_of_some _ eb),⟨t,rfl⟩,q _ ?_ fun a ma=>?_⟩
    · rw [List.getD_eq_getElem?_getD,List.getElem?_eq_getElem hi]; exact List.getElem_mem hi
    · obtain ⟨j,hj,rfl⟩:=List.getElem_of_mem ma
      have:=a2 j (by omega)
      rwa [List.getD_eq_getElem?_getD (i:=j),List.getElem?_eq_getElem hj] at this
end
end L2
namespace L2.VL
open PySem PySem.Spec PyProof.Rows
section
variable {X:Cx} {rl:RlT} {a e:Expr} {fs:TVs} {pos p:Pos}
noncomputable def gMinL:List W -> (W -> Prop) -> Prop:=fun ws Q=>∃ (w:W) (ns:List Int),ws = [w] /\ w.dat = some (.list (ns.map .int)) /\ 0 < ns.length /\ ∀ M,M ∈ ns -> (∀ a ∈ ns,M <= a) -> Q (.d (.int M))
theorem vc_minL:VCall X rl (fun xs H Q=>∃ (p:Addr) (ns:List Int),xs = [.ref p] /\ SqL X.K H p (ns.map V.int) /\ 0 < ns.length /\ ∀ M,M ∈ ns -> (∀ a ∈ ns,M <= a) -> Q (.int M) H) gMinL:=fun {F H vs ws} Qd Q s ra r ⟨w,ns,ew,ed,h0,q⟩ k=>by
  subst ew
  obtain ⟨v,rfl,r1⟩:=rel1 r
  obtain ⟨a,us,rfl,sq,rs⟩:=r1.items s ed
  have e:=reps_int rs
  subst e
  exact ⟨a,ns,rfl,sq,h0,fun M h1 h2=>k _ (.d _) _ _ (Grow.refl s ra) (.int _) trivial (q M h1 h2)⟩
theorem v_min (hm:X.mg "min" = none) (ha:PVs X rl [a] fs) (hc:X.calm = true:=by rfl) (hg:Gl X "min" := by rfl) (he:starEach [a] X.env = (false,eval a X.env) :: starEach [] X.env:=by rfl) (hpl:(backTo pos (starEach [] X.env)).any (·.1) = false:=by rfl) :
    PV X rl (.Call (.Name "min" p) [a] [] pos) (vCall gMinL fs):=v_callB (call_minL hc) vc_minL hm (by rfl) ha hg (by decide) (by decide) he hpl
noncomputable def minOf (ns:List Int) (M:Int):Prop:=M ∈ ns /\ ∀ a ∈ ns,M <= a
theorem m_gMinL (w:W):gMinL [w] = optM (w.dat.bind intsO) fun ns=>grd (0 < ns.length) (bnd (anyM (minOf ns)) fun M=>ret (.d (.int M))):=by
  refine mo_ext fun Q=>?_
  simp only [opt_iff,ret,grd]
  constructor
  · rintro ⟨w',ns,e,ed,h0,q⟩
    cases e
    exact ⟨ns,by rw [ed]; exact intsO_of.mpr rfl,h0,fun M h=>q M h.1 h.2⟩
  · rintro ⟨ns,e,h0,q⟩
    cases ed:w.dat with
    | none=>rw [ed] at e; cases e
    | some d =>
      rw [ed] at e
      have e2:=intsO_of.mp (show intsO d = some ns from e)
      subst e2
      exact ⟨w,ns,rfl,ed,h0,fun M h1 h2=>q M ⟨h1,h2⟩⟩
end
end L2.VL

namespace L2.VL
open PySem PySem.Spec PyProof.Rows
noncomputable def vAsgZ (fa:TV) (g:TGv):TSv:=fun D ρ=>fa ρ fun w=>∃ x,w.fz = .d x /\ g x ρ D.nx
section
variable {X:Cx} {rl:RlT} {e:Expr} {fa:TV} {pos:Pos} {ρ:En}
theorem vs_asgZ {tg:Expr} {g:TGv} (he:PV X rl e fa) (hg:PGV X rl tg g) (hs:swapsWithSole [tg] e pos.line X.env = pure false:=by rfl) (hw:swappedStores [tg] e X.env = pure none:=by rfl)
    (h1:(assignEach [tg] X.env).map (·.2) = [assign tg X.env]:=by rfl):PSV X rl (.Assign [tg] e pos) (vAsgZ fa g):=by
  obtain ⟨t,p,k⟩:=he
  obtain ⟨G,p2,k2⟩:=hg
  refine ⟨_,ps_asg p p2 hs hw h1,fun R Dv D ok q=>k R _ _ q fun v w F1 H1 g1 r1 n1 ⟨x,ew,q1⟩=>?_⟩
  obtain ⟨F2,g2,s2,r2⟩:=RelW.fz g1 r1 n1
  rw [ew] at r2
  exact k2 (R.grow g2) v x _ _ r2 q1 fun F3 H3 σ3 ρ3 s3 n3 R3 q3=>ok.nx _ _ _ _ (g2.fs.trans s3.fs) R3 q3
theorem s_asgZ {g:TGv}:mS (vAsgZ fa g) ρ = bnd (fa ρ) fun w=>optM (asD w.fz) fun x=>bnd (g x ρ) fun ρ'=>ret (.nx ρ'):=by
  show (bnd (fa ρ) fun w=>fun (Q:Fl -> Prop)=>∃ x,w.fz = .d x /\ g x ρ fun ρ'=>Q (.nx ρ')) = _
  congr 1; funext w
  refine mo_ext fun Q=>?_
  simp only [opt_iff,asD_of]
  rfl
end
end L2.VL

namespace K26
open PySem PySem.Spec PyProof.Rows L2 L2.VL
local macro_rules | `(tactic| simp_arith only [$xs,*])=>`(tactic| simp (maxSteps:=2000000) (disch:=(first | assumption | omega | decide)) only [BMON0,BITE0,BEXP0,BEXP1,BEXP2,BSTM0,BSTM1,BPRJ0,BPRJ1,BPRJ2,BLST0,BLST1,zipO,slI,slM,kindB,startV,frEn,W.cap,lpQ,List.replicate,id,↓reduceIte,if_true,Nat.reduceAdd,Nat.reduceSub,Nat.reduceLeDiff,Int.cast_ofNat_Int,Int.reduceBEq,Int.reduceSub,Int.reduceAdd,Int.reduceLT,Int.reduceLE,Int.reduceMul,Int.reduceNeg,reduceCtorEq,isNonD,$xs,*])
local macro_rules | `(tactic| simp_arith only [$xs,*] at $h:ident)=>`(tactic| simp only [List.cons.injEq,W.d.injEq,PyData.int.injEq,PyData.bool.injEq,PyData.str.injEq,PyData.list.injEq,PyData.tuple.injEq,tupI_inj,lstI_inj,tupT_inj,map_int_inj,and_true,true_and,reduceCtorEq,$xs,*] at $h:ident)
section
variable {P:Program} {w:World} {K:PySem.W.Frag} {mg:Str -> Option Value} {base:Heap} {rl:RlT}
noncomputable def preF (ws:List W):Prop:=∃ ns:List Int,ws = [.sc ns] /\ ns.length <= 63
theorem preF.eq {ns:List Int} (h:ns.length <= 63):preF [.sc ns] = True:=propext ⟨fun _=>trivial,fun _=>⟨ns,rfl,h⟩⟩
theorem sq_any {α:Type} {m:Mo Fl} {k:En -> Mo Fl} {Q:Fl -> Prop} (P : α -> Prop) (g : α -> Fl) (h:∀ Q':Fl -> Prop,(∀ a,P a -> Q' (g a)) -> m Q') (fin:∀ a,P a -> sq (VL.ret (g a)) k Q):sq m k Q:=h _ fun a ha=>fin a ha
theorem cutS {α:Type} (xs:List α) (f : α -> PyData) (k:Nat):VL.cutD (xs.map f) none (some (k:Int)) = (xs.take k).map f:=by
  unfold VL.cutD
  rw [HT.sIx_none,HT.sIx_nat,List.drop_zero,List.length_map,Nat.sub_zero,<- List.map_take]
  congr 1
  by_cases z:k <= xs.length
  · rw [Nat.min_eq_left z]
  · rw [Nat.min_eq_right (by omega),List.take_of_length_le (by omega),List.take_of_length_le (by omega)]
theorem sc__law_feed:FnScope ["_law_script"] ["_law_script"] (defScope (top 27)):=⟨rfl,rfl,rfl,by decide +kernel,rfl,by decide +kernel,by decide +kernel⟩
theorem d__law_feed (Fn:FnIn K mg "_law_feed" (top 27) ["_law_script"]) (Z:Bz mg):DfnR P w K mg base "_law_feed" ["_law_script"] 2 preF:=by
  have sc:=sc__law_feed
  obtain ⟨f,fd,hm,F,hb⟩:=Fn.ex
  refine ⟨f,fd,hm,F.kp,hb,?_⟩
  refine F.ok (k:=1) sc (fun vs H Q E h=>?_) (fun cdv A outer s H vs Q E hr h=>?_)
  · obtain ⟨F,ws,_,r,_,⟨ns,rfl,_⟩,_⟩:=h
    have:=Paired.length r
    simpa using this
  · obtain ⟨F,ws,sm,r,ao,⟨ns,rfl,hn⟩,fin⟩:=h
    obtain ⟨T,p,kk⟩:=feed_body (X:=(cxOf CX0 P w K mg base ["_law_script"] "_law_feed" (defScope (top 27)) f cdv A outer s H E).nox) (v_listof Z.list_ (pvs_cons (v_slSc (vn 0) vo_none (vo_some pv_int)) pvs_nil))
    refine ⟨T,p,kk (vr_start sm (fun _ z=>by cases z) r ao) _ ?_ fin⟩
    simp_arith only [len_ok]
    exact ⟨ns.take 63,by rw [show (63:Int) = ((63:Nat):Int) from rfl,cutS],by rw [List.length_take]; omega⟩
noncomputable def p__law_draw:List W -> (PyData -> Prop) -> Prop:=fun ws Q=>∃ (m:Int),ws = [.reel,.d (.int m)] /\ ((0 < m) /\ (m < 2 ^ 60)) /\ ∀ k:Int,(0 <= k /\ k < m) -> Q (.int k)
theorem p__law_draw.mono:∀ ws (Q Q':PyData -> Prop),(∀ d,Q d -> Q' d) -> p__law_draw ws Q -> p__law_draw ws Q':=fun _ _ _ h_=>Exists.imp fun _=>And.imp_right (And.imp_right fun q_ o_ ho_=>h_ _ (q_ o_ ho_))
theorem p__law_draw.len:∀ ws (Q:PyData -> Prop),p__law_draw ws Q -> ws.length = 2:=fun _ _ h_=>by obtain ⟨_,e_,_⟩:=h_; subst e_; rfl
theorem p__law_draw.eq (m:Int) (hm : 0 < m) (hb:m < 2 ^ 60):p__law_draw [.reel,.d (.int m)] = bnd (anyM fun k:Int=>0 <= k /\ k < m) fun k=>VL.ret (.int k:PyData):=by
  refine mo_ext fun Q=>⟨?_,fun q_=>⟨m,rfl,⟨hm,hb⟩,q_⟩⟩
  rintro ⟨m',e_,_,q_⟩
  simp_arith only [and_true] at e_
  obtain rfl:=e_
  exact q_
theorem sc__law_draw:FnScope ["_law_feed_here", "_law_many", "_law_found", "_law_spot", "_law_cell_here", "_law_mixed"] ["_law_feed_here", "_law_many"] (defScope (top 28)):=⟨rfl,rfl,rfl,by decide +kernel,rfl,by decide +kernel,by decide +kernel⟩
theorem d__law_draw (Fn:FnIn K mg "_law_draw" (top 28) ["_law_feed_here", "_law_many"]) (Z:Bz mg)    : Dfn P w K mg base rl "_law_draw" ["_law_feed_here", "_law_many"] 1 p__law_draw:=by
  have sc:=sc__law_draw
  refine Dfn.of Fn sc (p__law_draw.mono) (p__law_draw.len) (fun cdv A outer s H E hr=>(vs_cons (vs_rput (i:=0) (hr.mono (Nat.zero_le _)) (.inr (.inr rfl)) (v_add (v_rget (i:=0) (hr.mono (Nat.zero_le _)) (.inr (.inr rfl))) pv_int))
      (vs_cons (vs_if (vb_cmp op_gt vo_gt (nomark _) (v_rget (i:=0) (hr.mono (Nat.zero_le _)) (.inr (.inl rfl))) pv_int) (vs_cons (vs_setZ 2 sc.nd (v_mod (v_rget (i:=0) (hr.mono (Nat.zero_le _)) (.inr (.inl rfl))) (vn 1)))
      (vs_cons (vs_rput (i:=0) (hr.mono (Nat.zero_le _)) (.inr (.inl rfl)) (v_div (v_rget (i:=0) (hr.mono (Nat.zero_le _)) (.inr (.inl rfl))) (vn 1)))
      (vs_one (vs_ret (vn 2))))) vs_nil)
      (vs_cons (vs_setZ 3 sc.nd (v_rget (i:=0) (hr.mono (Nat.zero_le _)) (.inl rfl)))
      (vs_cons (vs_rput (i:=0) (hr.mono (Nat.zero_le _)) (.inl rfl) (v_add (vn 3) pv_int))
      (vs_cons (vs_setZ 4 sc.nd pv_int)
      (vs_cons (vs_if (vb_cmp (op_neD hr.units) vo_eqD (nomark _) (v_rcells (i:=0) (hr.mono (Nat.zero_le _))) (v_lst pvs_nil)) (vs_one (vs_setZ 4 sc.nd (v_ix (v_rcells (i:=0) (hr.mono (Nat.zero_le _))) (v_mod (vn 3) (v_len Z.len_ (pvs_cons (v_rcells (i:=0) (hr.mono (Nat.zero_le _))) pvs_nil)))))) vs_nil)
      (vs_cons (vs_if (PBW.pb (vb_and (vb_cmp op_ge vo_ge (nomark _) (vn 4) (v_pow pv_int pv_int)) (vb_and1 (vb_cmp op_lt vo_lt (nomark _) (vn 3) (v_len Z.len_ (pvs_cons (v_rcells (i:=0) (hr.mono (Nat.zero_le _))) pvs_nil)))))) (vs_cons (vs_rput (i:=0) (hr.mono (Nat.zero_le _)) (.inr (.inl rfl)) (v_div (vn 4) (vn 1)))
      (vs_one (vs_ret (v_mod (vn 4) (vn 1))))) vs_nil)
      (vs_cons (vs_setZ 5 sc.nd (v_mod (v_mul (v_add (v_add (v_mod (vn 4) pv_int) (v_mul pv_int (v_rget (i:=0) (hr.mono (Nat.zero_le _)) (.inr (.inr rfl))))) pv_int) pv_int) pv_int))
      (vs_cons (vs_setZ 5 sc.nd (v_mod (v_mul (v_add (v_div (vn 5) pv_int) (v_mul pv_int (v_rget (i:=0) (hr.mono (Nat.zero_le _)) (.inr (.inr rfl))))) pv_int) pv_int))
      (vs_one (vs_ret (v_mod (v_div (vn 5) pv_int) (vn 1)))))))))))))) ?_
  rintro ws Q ⟨m,rfl,⟨hm,hb⟩,hQ⟩
  have hm0:m ≠ 0:=by omega
  have hmd:∀ i:Int,CDivB i m:=fun i=>CDivB.of hm0 (by omega)
  have hnn:∀ i:Int,0 <= i -> 0 <= i.fdiv m:=fun i hi=>Int.fdiv_nonneg hi (by omega)
  have fm:∀ i:Int,0 <= i.fmod m /\ i.fmod m < m:=fun i=>⟨Int.fmod_nonneg_of_pos _ hm,Int.fmod_lt_of_pos _ hm⟩
  refine read_of ?_
  have c1:∀ z:Int,CMulB 1013 z:=fun z=>.lt (by decide)
  have c2:∀ z:Int,CMulB 37 z:=fun z=>.lt (by decide)
  have c3:∀ z:Int,CMulB z 48271:=fun z=>.rt (by decide)
  have c4:∀ z:Int,CMulB z 69621:=fun z=>.rt (by decide)
  have d6:∀ z:Int,CDivB z 64:=fun z=>CDivB.of (by decide) (by decide)
  simp_arith only [grd_t,len_ok,m_vRN,m_vRC,s_rput,asR_r,lenD_l,item_li]
  (with_reducible (first | refine any_step fun n hn=>?_ | refine sqb_any fun n hn=>?_))
  try simp_arith only [grd_t,len_ok,m_vRN,m_vRC,s_rput,asR_r,lenD_l,item_li]
  (with_reducible (first | refine any_step fun l hl=>?_ | refine sqb_any fun l hl=>?_))
  try rw [sq_ite]
  refine ite_step (fun _=>?_) fun _=>?_
  · simp_arith only [grd_t,len_ok,m_vRN,m_vRC,s_rput,asR_r,lenD_l,item_li]
    (with_reducible (first | refine any_step fun l2 hl2=>?_ | refine sqb_any fun l2 hl2=>?_))
    try simp_arith only [grd_t,len_ok,m_vRN,m_vRC,s_rput,asR_r,lenD_l,item_li]
    (with_reducible (first | refine any_step fun l3 hl3=>?_ | refine sqb_any fun l3 hl3=>?_))
    have h0:=hnn l3 hl3
    try simp_arith only [grd_t,len_ok,m_vRN,m_vRC,s_rput,asR_r,lenD_l,item_li]
    exact grd_step (hmd _) (rt_end (hQ _ (fm _)))
  · simp_arith only [grd_t,len_ok,m_vRN,m_vRC,s_rput,asR_r,lenD_l,item_li]
    (with_reducible (first | refine any_step fun a ha=>?_ | refine sqb_any fun a ha=>?_))
    try simp_arith only [grd_t,len_ok,m_vRN,m_vRC,s_rput,asR_r,lenD_l,item_li]
    generalize rl.b.snd = cs
    refine sq_any (fun _:Int=>True) (fun z=>.nx [some .reel,some (.d (.int m)),none,some (.d (.int a)),some (.d (.int z)),none]) ?_ ?_
    · intro Q' hQ' _ _
      refine grd_step (shaped_ints cs) (itb_step (fun he=>?_) fun _=>hQ' 0 trivial)
      intro _ _ _ _
      have he:cs ≠ []:=by rintro rfl; exact absurd he (by decide)
      have hz:(0:Int) < (cs.length:Int):=by have:=List.length_pos_iff.mpr he; omega
      refine grd_step (by omega) ?_
      obtain ⟨z,ez,_⟩:=at_in (xs:=cs) (Int.fmod_nonneg_of_pos a hz) (Int.fmod_lt_of_pos a hz)
      rw [ez]
      exact hQ' z trivial
    · intro z _
      have t0:(10:Int) ^ Int.toNat 18 <= z -> 0 <= z:=fun h=>Int.le_trans (by decide) h
      repeat' (first | exact rt_end (hQ _ (fm _)) | ((with_reducible refine grd_step ?_ ?_); (first | exact hmd _ | exact hnn _ (by assumption) | exact hnn _ (t0 (by simp_all)) | exact c1 _ | exact c2 _ | exact c3 _ | exact c4 _ | exact d6 _ | exact CDivB.of (by decide) (by decide) | exact ⟨by decide,by decide,by decide⟩ | omega | assumption | decide)) | (with_reducible refine any_step fun _ _=>?_) | (with_reducible refine sqb_any fun _ _=>?_) | (with_reducible refine ite_step (fun _=>?_) fun _=>?_) | (simp_arith only [len_ok,m_vRN,m_vRC,s_rput,asR_r,lenD_l,item_li]))
noncomputable def p__law_frac:List W -> (PyData -> Prop) -> Prop:=fun ws Q=>∃ (a b:Int),ws = [.d (.int a),.d (.int b)] /\ ((0 < b) /\ (b.natAbs < 2 ^ 8000)) /\ Q (fr (qd a b))
theorem p__law_frac.mono:∀ ws (Q Q':PyData -> Prop),(∀ d,Q d -> Q' d) -> p__law_frac ws Q -> p__law_frac ws Q':=fun _ _ _ h_=>Exists.imp fun _=>Exists.imp fun _=>And.imp_right (And.imp_right (h_ _))
theorem p__law_frac.len:∀ ws (Q:PyData -> Prop),p__law_frac ws Q -> ws.length = 2:=fun _ _ h_=>by obtain ⟨_,_,e_,_⟩:=h_; subst e_; rfl
theorem p__law_frac.eq (a b:Int) (hb : 0 < b) (hz:b.natAbs < 2 ^ 8000):p__law_frac [.d (.int a),.d (.int b)] = VL.ret (fr (qd a b):PyData):=by
  refine mo_ext fun Q=>⟨?_,fun q_=>⟨a,b,rfl,⟨hb,hz⟩,q_⟩⟩
  rintro ⟨a',b',e_,_,q_⟩
  simp_arith only [fr_i,sdD_i,ptD_i,boxD_i,ptsQ_i,frs_i] at e_
  obtain ⟨rfl,rfl⟩:=e_
  exact q_
theorem sc__law_frac:FnScope ["_law_top", "_law_bottom", "_law_one", "_law_other"] ["_law_top", "_law_bottom"] (defScope (top 29)):=⟨rfl,rfl,rfl,by decide +kernel,rfl,by decide +kernel,by decide +kernel⟩
theorem d__law_frac (Fn:FnIn K mg "_law_frac" (top 29) ["_law_top", "_law_bottom"]) (Z:Bz mg)    : Dfn P w K mg base rl "_law_frac" ["_law_top", "_law_bottom"] 1 p__law_frac:=by
  have sc:=sc__law_frac
  refine Dfn.of Fn sc (p__law_frac.mono) (p__law_frac.len) (fun cdv A outer s H E hr=>(vs_cons (vs_par 2 3 rfl sc.nd (pvs_cons (v_abs Z.abs_ (pvs_cons (vn 0) pvs_nil)) (pvs_cons (vn 1) pvs_nil)))
      (vs_cons (vs_whileF [] PassesOwn.never (vb_cmp op_gt vo_gt (nomark _) (vn 3) pv_int) (vs_one (vs_par 2 3 rfl sc.nd (pvs_cons (vn 3) (pvs_cons (v_mod (vn 2) (vn 3)) pvs_nil)))))
      (vs_one (vs_ret (v_tup (pvs_cons (v_div (vn 0) (vn 2)) (pvs_cons (v_div (vn 1) (vn 2)) pvs_nil)))))))) ?_
  rintro ws Q ⟨a,b,rfl,⟨hb,hz⟩,hQ⟩
  refine read_of ?_
  have e:Int.gcd (if a < 0 then -a else a) b = Int.gcd a b:=by split <;> simp [Int.gcd]
  simp_arith only [len_ok]
  refine while_go (σ:=Int × Int) (fun s=>[some (.d (.int a)),some (.d (.int b)),some (.d (.int s.1)),some (.d (.int s.2))]) (fun s=>decide (0 < s.2)) (fun s=>(s.2,s.1.fmod s.2)) (fun s=>s.2.natAbs) (fun s=>0 <= s.1 /\ 0 <= s.2 /\ Int.gcd s.1 s.2 = Int.gcd a b) (if a < 0 then -a else a,b) rfl ⟨by dsimp only; split <;> omega,by dsimp only; omega,e⟩ ?_ ?_ ?_
  · intro s _
    simp_arith only [len_ok]
  · rintro s ⟨h1,h2,e⟩ c
    have hc : 0 < s.2:=by simpa using c
    have hc':s.2 ≠ 0:=by omega
    refine ⟨⟨h2,Int.fmod_nonneg_of_pos _ hc,by rw [gcd_fmod]; exact e⟩,fmod_abs_lt hc',_,?_,rfl⟩
    simp_arith only [grd_t,len_ok]
  · rintro s ⟨h1,h2,e⟩ c
    have hc:¬ 0 < s.2:=by simpa using c
    have hc:s.2 = 0:=by omega
    rw [hc,Int.gcd_zero_right] at e
    have ex:s.1 = (Int.gcd a b:Int):=by omega
    have c1:CDivB a (Int.gcd a b:Int):=gcd_div hb hz _
    have c2:CDivB b (Int.gcd a b:Int):=gcd_div hb hz _
    simp_arith only [grd_t,len_ok,ex]
    rw [low_qd hb]
    exact rt_end hQ
noncomputable def Gd (q:Rat):Prop:=qSm 45 q /\ 0 <= q /\ q < 1
noncomputable def cmI (x y:Int):Int:=(if decide (y < x) = true then (1:Int) else 0) - (if decide (x < y) = true then (1:Int) else 0)
noncomputable def cmQ (q r:Rat):Int:=if r < q then 1 else if q < r then -1 else 0
theorem cmQ_le (q r:Rat):decide (cmQ q r <= 0) = decide (q <= r):=by
  unfold cmQ
  by_cases h:r < q
  · rw [if_pos h]; simp; exact Rat.not_le.mpr h
  · rw [if_neg h]; have:=Rat.not_lt.mp h; split <;> simp [this]
theorem cmQ_lt (q r:Rat):decide (cmQ q r < 0) = decide (q < r):=by
  unfold cmQ
  by_cases h:r < q
  · rw [if_pos h]; simp; exact Rat.not_lt.mpr (Rat.le_of_lt h)
  · rw [if_neg h]
    by_cases h2:q < r
    · rw [if_pos h2]; simp [h2]
    · rw [if_neg h2]; simp [h2]
noncomputable def prD (x:Int × Int):PyData:=.tuple [.int x.1,.int x.2]
theorem prD_i {x y:Int × Int}:prD x = prD y ↔ x = y:=⟨fun h=>by obtain ⟨a,b⟩:=x; obtain ⟨c,d⟩:=y; unfold prD at h; cases h; rfl,fun h=>by rw [h]⟩
noncomputable def p__law_cmp:List W -> (PyData -> Prop) -> Prop:=fun ws Q=>∃ (x y:Int × Int),ws = [.d (prD x),.d (prD y)] /\ ((Big x.1) /\ (Big x.2) /\ (Big y.1) /\ (Big y.2)) /\ Q (.int (cmI (x.1 * y.2) (y.1 * x.2)))
theorem p__law_cmp.mono:∀ ws (Q Q':PyData -> Prop),(∀ d,Q d -> Q' d) -> p__law_cmp ws Q -> p__law_cmp ws Q':=fun _ _ _ h_=>Exists.imp fun _=>Exists.imp fun _=>And.imp_right (And.imp_right (h_ _))
theorem p__law_cmp.len:∀ ws (Q:PyData -> Prop),p__law_cmp ws Q -> ws.length = 2:=fun _ _ h_=>by obtain ⟨_,_,e_,_⟩:=h_; subst e_; rfl
theorem p__law_cmp.eq (x y:Int × Int) (h1:Big x.1) (h2:Big x.2) (h3:Big y.1) (h4:Big y.2):p__law_cmp [.d (prD x),.d (prD y)] = VL.ret (.int (cmI (x.1 * y.2) (y.1 * x.2)):PyData):=by
  refine mo_ext fun Q=>⟨?_,fun q_=>⟨x,y,rfl,⟨h1,h2,h3,h4⟩,q_⟩⟩
  rintro ⟨x',y',e_,_,q_⟩
  simp_arith only [fr_i,sdD_i,ptD_i,boxD_i,ptsQ_i,frs_i,prD_i] at e_
  obtain ⟨rfl,rfl⟩:=e_
  exact q_
theorem sc__law_cmp:FnScope ["_law_one", "_law_other", "_law_left", "_law_right"] ["_law_one", "_law_other"] (defScope (top 30)):=⟨rfl,rfl,rfl,by decide +kernel,rfl,by decide +kernel,by decide +kernel⟩
theorem d__law_cmp (Fn:FnIn K mg "_law_cmp" (top 30) ["_law_one", "_law_other"]) (Z:Bz mg)    : Dfn P w K mg base rl "_law_cmp" ["_law_one", "_law_other"] 1 p__law_cmp:=by
  have sc:=sc__law_cmp
  refine Dfn.of Fn sc (p__law_cmp.mono) (p__law_cmp.len) (fun cdv A outer s H E hr=>(vs_cons (vs_setZ 2 sc.nd (v_mul (v_ix (vn 0) pv_int) (v_ix (vn 1) pv_int)))
      (vs_cons (vs_setZ 3 sc.nd (v_mul (v_ix (vn 1) pv_int) (v_ix (vn 0) pv_int)))
      (vs_one (vs_ret (v_sub (v_int1 Z.int_ (pvs_cons (v_cmp op_gt vo_gt (nomark _) (vn 2) (vn 3)) pvs_nil)) (v_int1 Z.int_ (pvs_cons (v_cmp op_lt vo_lt (nomark _) (vn 2) (vn 3)) pvs_nil)))))))) ?_
  rintro ws Q ⟨x,y,rfl,⟨h1,h2,h3,h4⟩,hQ⟩
  refine read_of ?_
  have m1:CMulB x.1 y.2:=.bb h1 h4
  have m2:CMulB y.1 x.2:=.bb h3 h2
  simp_arith only [grd_t,len_ok,BFR,prD]
  exact rt_end hQ
theorem p__law_cmp.eqQ (q r:Rat) (h1:qSm 2000 q) (h2:qSm 2000 r):p__law_cmp [.d (fr q),.d (fr r)] = VL.ret (.int (cmQ q r):PyData):=by
  have e:=p__law_cmp.eq (q.num,(q.den:Int)) (r.num,(r.den:Int)) h1.bn h1.bd h2.bn h2.bd
  have z:cmI (q.num * (r.den:Int)) (r.num * (q.den:Int)) = cmQ q r:=by
    unfold cmI cmQ
    rw [fr_lt,fr_lt]
    by_cases a:r < q
    · have b:¬ q < r:=Rat.not_lt.mpr (Rat.le_of_lt a)
      simp [a,b]
    · by_cases b:q < r <;> simp [a,b]
  have e:p__law_cmp [.d (fr q),.d (fr r)] = VL.ret (.int (cmI (q.num * (r.den:Int)) (r.num * (q.den:Int))):PyData):=e
  rw [z] at e
  exact e
theorem frs_i2 {a b:List Rat}:a.map fr = b.map fr ↔ a = b:=List.map_inj_right fun x y h=>fr_inj h
noncomputable def p__law_number:List W -> (PyData -> Prop) -> Prop:=fun ws Q=>∃ (qs:List Rat) (b:Bool),ws = [.reel,.d (.list (qs.map fr)),.d (.bool b)] /\ ((∀ q ∈ qs,Gd q) /\ (qs.length < 1000)) /\ ∀ q:Rat,(Gd q) -> Q (fr q)
theorem p__law_number.mono:∀ ws (Q Q':PyData -> Prop),(∀ d,Q d -> Q' d) -> p__law_number ws Q -> p__law_number ws Q':=fun _ _ _ h_=>Exists.imp fun _=>Exists.imp fun _=>And.imp_right (And.imp_right fun q_ o_ ho_=>h_ _ (q_ o_ ho_))
theorem p__law_number.len:∀ ws (Q:PyData -> Prop),p__law_number ws Q -> ws.length = 3:=fun _ _ h_=>by obtain ⟨_,_,e_,_⟩:=h_; subst e_; rfl
theorem p__law_number.eq (qs:List Rat) (b:Bool) (hq:∀ q ∈ qs,Gd q) (hl:qs.length < 1000):p__law_number [.reel,.d (.list (qs.map fr)),.d (.bool b)] = bnd (anyM fun q:Rat=>Gd q) fun q=>VL.ret (fr q:PyData):=by
  refine mo_ext fun Q=>⟨?_,fun q_=>⟨qs,b,rfl,⟨hq,hl⟩,q_⟩⟩
  rintro ⟨qs',b',e_,_,q_⟩
  simp_arith only [fr_i,sdD_i,ptD_i,boxD_i,ptsQ_i,frs_i,frs_i2] at e_
  obtain ⟨rfl,rfl⟩:=e_
  exact q_
theorem sc__law_number:FnScope ["_law_feed_here", "_law_seen", "_law_is_first", "_law_way", "_law_some", "_law_bottom", "_law_top"] ["_law_feed_here", "_law_seen", "_law_is_first"] (defScope (top 31)):=⟨rfl,rfl,rfl,by decide +kernel,rfl,by decide +kernel,by decide +kernel⟩
theorem d__law_number (Fn:FnIn K mg "_law_number" (top 31) ["_law_feed_here", "_law_seen", "_law_is_first"]) (Z:Bz mg) (d__law_draw:∀ rl,Dfn P w K mg base rl "_law_draw" ["_law_feed_here", "_law_many"] 1 p__law_draw) (d__law_frac:∀ rl,Dfn P w K mg base rl "_law_frac" ["_law_top", "_law_bottom"] 1 p__law_frac)   : Dfn P w K mg base rl "_law_number" ["_law_feed_here", "_law_seen", "_law_is_first"] 2 p__law_number:=by
  have sc:=sc__law_number
  refine Dfn.of Fn sc (p__law_number.mono) (p__law_number.len) (fun cdv A outer s H E hr=>(vs_cons (vs_setZ 3 sc.nd (v_call (d__law_draw _) (hr.mono (by decide)) (pvs_cons (vn 0) (pvs_cons pv_int pvs_nil))))
      (vs_cons (vs_if (vb_cmp (op_eqD hr.units) vo_eqD (nomark _) (vn 3) pv_int) (vs_one (vs_ret (v_tup (pvs_cons pv_int (pvs_cons pv_int pvs_nil))))) vs_nil)
      (vs_cons (vs_if (PBW.pb (vb_and (vb_cmp op_lt vo_lt (nomark _) (vn 3) pv_int) (vb_and1 (vb_cmp (op_neD hr.units) vo_eqD (nomark _) (vn 1) (v_lst pvs_nil))))) (vs_one (vs_ret (v_ix (vn 1) (v_call (d__law_draw _) (hr.mono (by decide)) (pvs_cons (vn 0) (pvs_cons (v_len Z.len_ (pvs_cons (vn 1) pvs_nil)) pvs_nil)))))) vs_nil)
      (vs_cons (vs_setZ 4 sc.nd (v_lst (pvs_cons pv_int (pvs_cons pv_int (pvs_cons pv_int (pvs_cons pv_int (pvs_cons pv_int (pvs_cons pv_int (pvs_cons pv_int (pvs_cons pv_int (pvs_cons pv_int (pvs_cons pv_int pvs_nil))))))))))))
      (vs_cons (vs_if (vb_val (vn 2)) (vs_one (vs_setZ 4 sc.nd (v_catD (v_lst (pvs_cons pv_int (pvs_cons pv_int (pvs_cons pv_int (pvs_cons pv_int (pvs_cons pv_int (pvs_cons pv_int (pvs_cons pv_int pvs_nil)))))))) (v_repL (v_lst (pvs_cons (v_sub (v_pow pv_int pv_int) pv_int) pvs_nil)) pv_int)))) vs_nil)
      (vs_cons (vs_setZ 5 sc.nd (v_ix (vn 4) (v_call (d__law_draw _) (hr.mono (by decide)) (pvs_cons (vn 0) (pvs_cons pv_int pvs_nil)))))
      (vs_cons (vs_setZ 6 sc.nd (v_mod (v_add (v_mul (v_call (d__law_draw _) (hr.mono (by decide)) (pvs_cons (vn 0) (pvs_cons (v_pow pv_int pv_int) pvs_nil))) (v_pow pv_int pv_int)) (v_call (d__law_draw _) (hr.mono (by decide)) (pvs_cons (vn 0) (pvs_cons (v_pow pv_int pv_int) pvs_nil)))) (vn 5)))
      (vs_one (vs_ret (v_call (d__law_frac _) (hr.mono (by decide)) (pvs_cons (v_ix (v_lst (pvs_cons (vn 6) (pvs_cons (vn 6) (pvs_cons (v_sub (vn 5) pv_int) (pvs_cons pv_int pvs_nil))))) (v_call (d__law_draw _) (hr.mono (by decide)) (pvs_cons (vn 0) (pvs_cons pv_int pvs_nil)))) (pvs_cons (vn 5) pvs_nil))))))))))))) ?_
  rintro ws Q ⟨qs,b,rfl,⟨hq,hl⟩,hQ⟩
  refine read_of ?_
  have sz:=PySem.sizeLine_eq
  simp_arith only [grd_t,len_ok,m_vRN,m_vRC,s_rput,asR_r,lenD_l,item_li,BFR,p__law_draw.eq]
  (with_reducible (first | refine any_step fun w hw=>?_ | refine sqb_any fun w hw=>?_))
  have s0:SeqAt.shaped (.list []) = true:=rfl
  have sf:=shaped_frs qs
  have ev:PyData.eqv (.list (qs.map fr)) (.list []) = qs.isEmpty:=by rw [eqv_nil]; cases qs <;> rfl
  have eqi:∀ i j:Int,PyData.eqv (.int i) (.int j) = (i == j):=fun i j=>by simp [PyData.eqv]
  have g0:Gd 0:=⟨⟨by decide,by decide⟩,Rat.le_refl,by decide⟩
  simp_arith only [grd_t,len_ok,m_vRN,m_vRC,s_rput,asR_r,lenD_l,item_li,BFR,p__law_draw.eq,s0,sf,ev,eqi]
  refine ite_step (fun _=>rt_end (hQ 0 g0)) fun _=>?_
  refine ite_step (fun hc=>?_) fun _=>?_
  · have hn:qs ≠ []:=by rintro rfl; simp at hc
    have hz:(0:Int) < (qs.length:Int):=by have:=List.length_pos_iff.mpr hn; omega
    have hb:(qs.length:Int) < 2 ^ 60:=by omega
    simp_arith only [grd_t,len_ok,m_vRN,m_vRC,s_rput,asR_r,lenD_l,item_li,BFR,p__law_draw.eq]
    (with_reducible (first | refine any_step fun j hj=>?_ | refine sqb_any fun j hj=>?_))
    obtain ⟨r,er,mr⟩:=at_in (xs:=qs) hj.1 hj.2
    rw [atI_map,er]
    exact rt_end (hQ r (hq r mr))
  · have c12:CPow 10 12:=⟨by decide,by decide,by decide⟩
    have c6:CPow 10 6:=⟨by decide,by decide,by decide⟩
    refine ite_step (fun _=>?_) fun _=>?_
    · refine grd_step c12 ?_
      (with_reducible (first | refine any_step fun t ht=>?_ | refine sqb_any fun t ht=>?_))
      refine sqo (menuA_step (xs:=[2,3,5,12,97,1000,1000,10 ^ Int.toNat 12 - 11,10 ^ Int.toNat 12 - 11,10 ^ Int.toNat 12 - 11]) (enc:=PyData.int) (fun y:Int=>2 <= y /\ y < 2 ^ 41) rfl ht.1 (by simpa using ht.2) (by decide) fun y hy=>?_)
      have y0:y ≠ 0:=by omega
      have h6a:(0:Int) < 10 ^ Int.toNat 6:=by decide
      have h6b:(10:Int) ^ Int.toNat 6 < 2 ^ 60:=by decide
      have cm:∀ z:Int,CMulB z (10 ^ Int.toNat 6):=fun z=>.rt (by decide)
      simp_arith only [grd_t,len_ok,m_vRN,m_vRC,s_rput,asR_r,lenD_l,item_li,BFR,p__law_draw.eq,c6,cm]
      (with_reducible (first | refine any_step fun u hu=>?_ | refine sqb_any fun u hu=>?_))
      try simp_arith only [grd_t,len_ok,m_vRN,m_vRC,s_rput,asR_r,lenD_l,item_li,BFR,p__law_draw.eq]
      (with_reducible (first | refine any_step fun v hv=>?_ | refine sqb_any fun v hv=>?_))
      have hx0:=Int.fmod_nonneg_of_pos (u * 10 ^ Int.toNat 6 + v) (show 0 < y by omega)
      have hx1:=Int.fmod_lt_of_pos (u * 10 ^ Int.toNat 6 + v) (show 0 < y by omega)
      generalize (u * 10 ^ Int.toNat 6 + v).fmod y = x at hx0 hx1 ⊢
      try simp_arith only [grd_t,len_ok,m_vRN,m_vRC,s_rput,asR_r,lenD_l,item_li,BFR,p__law_draw.eq]
      (with_reducible (first | refine any_step fun e he=>?_ | refine sqb_any fun e he=>?_))
      have hb : 0 < y:=by omega
      have hz:y.natAbs < 2 ^ 8000:=Nat.lt_of_lt_of_le (show y.natAbs < 2 ^ 41 by omega) (Nat.pow_le_pow_right (by decide) (by decide))
      refine menuA_step (xs:=[x,x,y - 1,1]) (enc:=PyData.int) (fun z:Int=>0 <= z /\ z < y) rfl he.1 (by simpa using he.2) (by intro z hz; simp at hz; omega) fun z hz1=>?_
      simp_arith only [grd_t,len_ok,p__law_frac.eq]
      exact rt_end (hQ _ ⟨qd_sm hb (by omega) (by omega),qd_nn hb hz1.1,qd_lt1 hb hz1.2⟩)
    · (with_reducible (first | refine any_step fun t ht=>?_ | refine sqb_any fun t ht=>?_))
      refine sqo (menuA_step (xs:=[2,3,4,5,6,8,12,97,7,11]) (enc:=PyData.int) (fun y:Int=>2 <= y /\ y < 2 ^ 41) rfl ht.1 (by simpa using ht.2) (by decide) fun y hy=>?_)
      have y0:y ≠ 0:=by omega
      have h6a:(0:Int) < 10 ^ Int.toNat 6:=by decide
      have h6b:(10:Int) ^ Int.toNat 6 < 2 ^ 60:=by decide
      have cm:∀ z:Int,CMulB z (10 ^ Int.toNat 6):=fun z=>.rt (by decide)
      simp_arith only [grd_t,len_ok,m_vRN,m_vRC,s_rput,asR_r,lenD_l,item_li,BFR,p__law_draw.eq,c6,cm]
      (with_reducible (first | refine any_step fun u hu=>?_ | refine sqb_any fun u hu=>?_))
      try simp_arith only [grd_t,len_ok,m_vRN,m_vRC,s_rput,asR_r,lenD_l,item_li,BFR,p__law_draw.eq]
      (with_reducible (first | refine any_step fun v hv=>?_ | refine sqb_any fun v hv=>?_))
      have hx0:=Int.fmod_nonneg_of_pos (u * 10 ^ Int.toNat 6 + v) (show 0 < y by omega)
      have hx1:=Int.fmod_lt_of_pos (u * 10 ^ Int.toNat 6 + v) (show 0 < y by omega)
      generalize (u * 10 ^ Int.toNat 6 + v).fmod y = x at hx0 hx1 ⊢
      try simp_arith only [grd_t,len_ok,m_vRN,m_vRC,s_rput,asR_r,lenD_l,item_li,BFR,p__law_draw.eq]
      (with_reducible (first | refine any_step fun e he=>?_ | refine sqb_any fun e he=>?_))
      have hb : 0 < y:=by omega
      have hz:y.natAbs < 2 ^ 8000:=Nat.lt_of_lt_of_le (show y.natAbs < 2 ^ 41 by omega) (Nat.pow_le_pow_right (by decide) (by decide))
      refine menuA_step (xs:=[x,x,y - 1,1]) (enc:=PyData.int) (fun z:Int=>0 <= z /\ z < y) rfl he.1 (by simpa using he.2) (by intro z hz; simp at hz; omega) fun z hz1=>?_
      simp_arith only [grd_t,len_ok,p__law_frac.eq]
      exact rt_end (hQ _ ⟨qd_sm hb (by omega) (by omega),qd_nn hb hz1.1,qd_lt1 hb hz1.2⟩)
noncomputable def Pg (s:Nat) (ps:List (List Rat)):Prop:=∀ p ∈ ps,p.length = s /\ ∀ q ∈ p,Gd q
noncomputable def PtOk (s m:Nat) (ps:List (List Rat)):Prop:=1 <= ps.length /\ ps.length <= m + 2 /\ Pg s ps /\ ∃ bs:List (List Rat),bs.length <= m /\ ∀ p ∈ ps,p ∈ bs
noncomputable def colD (cols:List (List Rat)):List (List PyData):=cols.map fun c=>c.map fr
theorem col_at {cols:List (List Rat)} {n:Nat} (h:n < cols.length):(colD cols)[n]? = some (cols[n].map fr):=by unfold colD; rw [List.getElem?_map,List.getElem?_eq_getElem h]; rfl
theorem col_set {cols:List (List Rat)} {n:Nat} {q:Rat} (h:n < cols.length):(colD cols).set n (cols[n].map fr ++ [fr q]) = colD (cols.set n (cols[n] ++ [q])):=by unfold colD; rw [List.map_set,List.map_append]; rfl
noncomputable def ColI (s i n:Nat) (cols:List (List Rat)):Prop:=cols.length = s /\ (∀ j (h:j < cols.length),cols[j].length <= i + (if j < n then 1 else 0)) /\ ∀ c ∈ cols,∀ q ∈ c,Gd q
theorem mo_any {m:(W -> Prop) -> Prop} {Q:W -> Prop} (h:∀ Q':W -> Prop,(∀ b,Q' (.d (.bool b))) -> m Q') (fin:∀ b,Q (.d (.bool b))):m Q:=h Q fin
theorem rangeD_at {n i:Nat} {y:PyData} (h:(rangeD 0 n)[i]? = some y):i < n /\ y = .int (i:Int):=by
  have e:rangeD 0 n = (List.range n).map fun j:Nat=>PyData.int (0 + (j:Int)):=rfl
  rw [e,List.getElem?_map] at h
  cases q:(List.range n)[i]? with
  | none=>rw [q] at h; cases h
  | some z =>
    rw [q] at h
    obtain ⟨hl,hz⟩:=List.getElem?_eq_some_iff.mp q
    rw [List.length_range] at hl
    rw [List.getElem_range] at hz
    subst hz
    cases h
    exact ⟨hl,by show PyData.int (0 + (i:Int)) = _; rw [Int.zero_add]⟩
noncomputable def p__law_points:List W -> (PyData -> Prop) -> Prop:=fun ws Q=>∃ (s m:Int),ws = [.reel,.d (.int s),.d (.int m)] /\ ((1 <= s) /\ (s <= 4) /\ (1 <= m) /\ (m <= 6)) /\ ∀ ps:List (List Rat),(PtOk s.toNat m.toNat ps) -> Q (ptsQ ps)
theorem p__law_points.mono:∀ ws (Q Q':PyData -> Prop),(∀ d,Q d -> Q' d) -> p__law_points ws Q -> p__law_points ws Q':=fun _ _ _ h_=>Exists.imp fun _=>Exists.imp fun _=>And.imp_right (And.imp_right fun q_ o_ ho_=>h_ _ (q_ o_ ho_))
theorem p__law_points.len:∀ ws (Q:PyData -> Prop),p__law_points ws Q -> ws.length = 3:=fun _ _ h_=>by obtain ⟨_,_,e_,_⟩:=h_; subst e_; rfl
theorem p__law_points.eq (s m:Int) (s1 : 1 <= s) (s4:s <= 4) (m1 : 1 <= m) (m6:m <= 6):p__law_points [.reel,.d (.int s),.d (.int m)] = bnd (anyM fun ps:List (List Rat)=>PtOk s.toNat m.toNat ps) fun ps=>VL.ret (ptsQ ps:PyData):=by
  refine mo_ext fun Q=>⟨?_,fun q_=>⟨s,m,rfl,⟨s1,s4,m1,m6⟩,q_⟩⟩
  rintro ⟨s',m',e_,_,q_⟩
  simp_arith only [and_true] at e_
  obtain ⟨rfl,rfl⟩:=e_
  exact q_
theorem sc__law_points:FnScope ["_law_feed_here", "_law_s", "_law_most", "_law_columns", "_law_found", "_law_j", "_law_point", "_law_k", "_law_x", "_law_again"] ["_law_feed_here", "_law_s", "_law_most"] (defScope (top 32)):=⟨rfl,rfl,rfl,by decide +kernel,rfl,by decide +kernel,by decide +kernel⟩
theorem d__law_points (Fn:FnIn K mg "_law_points" (top 32) ["_law_feed_here", "_law_s", "_law_most"]) (Z:Bz mg) (d__law_draw:∀ rl,Dfn P w K mg base rl "_law_draw" ["_law_feed_here", "_law_many"] 1 p__law_draw) (d__law_number:∀ rl,Dfn P w K mg base rl "_law_number" ["_law_feed_here", "_law_seen", "_law_is_first"] 2 p__law_number)   : Dfn P w K mg base rl "_law_points" ["_law_feed_here", "_law_s", "_law_most"] 3 p__law_points:=by
  have sc:=sc__law_points
  refine Dfn.of Fn sc (p__law_points.mono) (p__law_points.len) (fun cdv A outer s H E hr=>(ms_mk 3 sc.nd ["_law_k"] [none] rfl (vi_range1 Z.range_ (pvs_cons (vn 1) pvs_nil)) (fun _=>vg_name 0 (show List.Nodup (["_law_k"]:List Str) by decide +kernel)) (m_cons (m_of (vs_set 4 sc.nd (v_lst pvs_nil))) (m_cons (m_for PassesOwn.never rfl (vi_range1 Z.range_ (pvs_cons (v_add pv_int (v_call (d__law_draw _) (hr.mono (by decide)) (pvs_cons (vn 0) (pvs_cons (vn 2) pvs_nil)))) pvs_nil)) (vg_name 5 sc.nd) (m_cons (m_of (vs_setZ 6 sc.nd (v_tup pvs_nil))) (m_cons (m_for PassesOwn.never rfl (vi_range1 Z.range_ (pvs_cons (vn 1) pvs_nil)) (vg_name 7 sc.nd) (m_cons (m_num 8 0 3 7 sc.nd (d__law_number _) (hr.mono (by decide)) (v_and (v_cmp (op_eqD hr.units) vo_eqD (nomark _) (vn 4) (v_lst pvs_nil)) (v_one (v_cmp (op_eqD hr.units) vo_eqD (nomark _) (vn 7) pv_int)))) (m_cons (m_app 3 7 8) (m_cons (m_of (vs_setZ 6 sc.nd (v_catA (vn 6) (v_tup (pvs_cons (vn 8) pvs_nil))))) m_nil)))) (m_cons (m_of (vs_app 4 (pvs_cons (vn 6) pvs_nil))) m_nil)))) (m_cons (m_of (vs_forF [5,9] PassesOwn.never rfl (vi_range1 Z.range_ (pvs_cons (v_call (d__law_draw _) (hr.mono (by decide)) (pvs_cons (vn 0) (pvs_cons pv_int pvs_nil))) pvs_nil)) (vg_name 5 sc.nd) (vs_cons (vs_setZ 9 sc.nd (v_ix (vn 4) (v_call (d__law_draw _) (hr.mono (by decide)) (pvs_cons (vn 0) (pvs_cons (v_len Z.len_ (pvs_cons (vn 4) pvs_nil)) pvs_nil)))))
      (vs_one (vs_ins 4 (pvs_cons (v_call (d__law_draw _) (hr.mono (by decide)) (pvs_cons (vn 0) (pvs_cons (v_add (v_len Z.len_ (pvs_cons (vn 4) pvs_nil)) pv_int) pvs_nil))) (pvs_cons (vn 9) pvs_nil))))))) (m_cons (m_of (vs_ret (v_tuple Z.tuple_ (pvs_cons (vn 4) pvs_nil)))) m_nil)))))) ?_
  rintro ws Q ⟨s,m,rfl,⟨s1,s4,m1,m6⟩,hQ⟩
  have sz:=PySem.sizeLine_eq
  have gs : -(2 ^ 62) <= s /\ s < 2 ^ 62:=by omega
  unfold mMk
  have e0:iR1 (vCons (vVar 1) vNil) [some .reel,some (.d (.int s)),some (.d (.int m)),none,none,none,none,none,none,none] = VL.ret (rangeD 0 s.toNat):=by
    simp_arith only [grd_t,len_ok]
  refine (show iR1 (vCons (vVar 1) vNil) [some .reel,some (.d (.int s)),some (.d (.int m)),none,none,none,none,none,none,none] _ from ?_)
  rw [e0]
  refine ⟨noMl_of rfl,fun x=>by show Le [none] [some (.d x)]; rw [le_cn,le_nil]; trivial,by rw [rangeD_length]; omega,fun a=>mof_rd ?_⟩
  rw [rangeD_length]
  simp_arith only [grd_t,len_ok]
  refine mq_nx ?_
  dsimp only
  refine mseq_rd ?_
  have e1:iR1 (vCons (vOp (gI0 fun i j=>PyData.int (i + j)) (vC (PyData.int 1)) (vUse p__law_draw (vCons (vVar 0) (vCons (vVar 2) vNil)))) vNil) [some .reel,some (.d (.int s)),some (.d (.int m)),some (.vv (.ref a)),some (.ml []),none,none,none,none,none] = bnd (anyM fun k:Int=>0 <= k /\ k < m) fun k=>grd (-(2 ^ 62) <= 1 + k /\ 1 + k < 2 ^ 62) (VL.ret (rangeD 0 (1 + k).toNat)):=by
    have g1 : 0 < m:=by omega
    have g2:m < 2 ^ 60:=by omega
    simp_arith only [grd_t,len_ok,p__law_draw.eq]
  refine mfor_rd ?_
  rw [e1]
  intro k hk
  refine ⟨by omega,fun i xss ρ=>∃ (cols bs:List (List Rat)) (o5 o6 o7 o8:Option W),xss = colD cols /\ ColI s.toNat i 0 cols /\ bs.length = i /\ Pg s.toNat bs /\ ρ = [some .reel,some (.d (.int s)),some (.d (.int m)),some (.vv (.ref a)),some (.ml (bs.map ptD)),o5,o6,o7,o8,none],?_,?_,?_⟩
  · exact ⟨List.replicate s.toNat [],[],none,none,none,none,by simp [colD],⟨by simp,by simp,by simp⟩,rfl,by simp [Pg],rfl⟩
  · rintro i y xss ρ ey ⟨cols,bs,o5,o6,o7,o8,rfl,hc,hb,hp,rfl⟩
    obtain ⟨hi,rfl⟩:=rangeD_at ey
    refine hn_rd ?_
    dsimp only
    refine mseq_rd (mof_rd ?_)
    simp_arith only [grd_t,len_ok]
    refine mq_nx ?_
    dsimp only
    refine mseq_rd ?_
    refine mfor_rd ?_
    have e2:iR1 (vCons (vVar 1) vNil) [some .reel,some (.d (.int s)),some (.d (.int m)),some (.vv (.ref a)),some (.ml (bs.map ptD)),some (.d (.int (i:Int))),some (.d (.tuple [])),o7,o8,none] = VL.ret (rangeD 0 s.toNat):=by
      simp_arith only [grd_t,len_ok]
    rw [e2]
    refine ⟨fun n xss ρ=>∃ (cols:List (List Rat)) (pt:List Rat) (o7 o8:Option W),xss = colD cols /\ ColI s.toNat i n cols /\ pt.length = n /\ (∀ q ∈ pt,Gd q) /\ ρ = [some .reel,some (.d (.int s)),some (.d (.int m)),some (.vv (.ref a)),some (.ml (bs.map ptD)),some (.d (.int (i:Int))),some (.d (ptD pt)),o7,o8,none],⟨cols,[],o7,o8,rfl,hc,rfl,by simp,rfl⟩,?_,?_⟩
    · rintro n y xss ρ ey ⟨cols,pt,o7,o8,rfl,⟨cl,c1,c2⟩,pl,hpt,rfl⟩
      obtain ⟨hn,rfl⟩:=rangeD_at ey
      have hnl:n < cols.length:=by omega
      refine hn_rd ?_
      dsimp only
      refine mseq_rd ⟨rfl,rfl,n,_,rfl,col_at hnl,?_⟩
      refine mo_any (fun Q' hQ'=>?_) fun bb=>⟨bb,rfl,?_⟩
      · have s0:SeqAt.shaped (.list []) = true:=rfl
        have sp:=shaped_pts bs
        have eqi:∀ i j:Int,PyData.eqv (.int i) (.int j) = (i == j):=fun i j=>by simp [PyData.eqv]
        simp_arith only [grd_t,len_ok,s0,sp,eqi]
        first | exact hQ' _ | (split <;> exact hQ' _) | (refine ite_step (fun _=>?_) (fun _=>?_) <;> exact hQ' _)
      · have hq:∀ q ∈ cols[n],Gd q:=c2 _ (List.getElem_mem hnl)
        have hl:cols[n].length < 1000:=by have:=c1 n hnl; rw [if_neg (by omega)] at this; omega
        rw [p__law_number.eq _ _ hq hl]
        intro q hqq
        refine ⟨⟨q.num,q.den,rfl⟩,?_⟩
        dsimp only
        refine mseq_rd ⟨rfl,n,_,_,rfl,col_at hnl,rfl,by rw [List.length_map]; omega,?_⟩
        rw [col_set hnl]
        dsimp only
        refine mseq_rd (mof_rd ?_)
        have pl4:pt.length + 1 <= sizeLine:=by omega
        simp_arith only [grd_t,len_ok,BFR]
        refine mq_nx ?_
        dsimp only
        refine mnext_rd ?_
        dsimp only
        refine ⟨cols.set n (cols[n] ++ [q]),pt ++ [q],some (.d (.int (n:Int))),some (.d (fr q)),rfl,⟨by simp [cl],fun j hj=>?_,fun c mc r mr=>?_⟩,by simp [pl],fun r mr=>?_,by simp [ptD,List.map_append]⟩
        · by_cases e:n = j
          · subst e
            rw [List.getElem_set_self,List.length_append,if_pos (by omega)]
            have:=c1 n hnl
            rw [if_neg (by omega)] at this
            simp; omega
          · rw [List.getElem_set_ne e]
            have:=c1 j (by simpa using hj)
            by_cases l:j < n
            · rw [if_pos l] at this; rw [if_pos (by omega)]; exact this
            · rw [if_neg l] at this; rw [if_neg (by omega)]; exact this
        · rcases List.mem_or_eq_of_mem_set mc with h | h
          · exact c2 c h r mr
          · subst h
            rcases List.mem_append.mp mr with h | h
            · exact hq r h
            · cases List.mem_singleton.mp h; exact hqq
        · rcases List.mem_append.mp mr with h | h
          · exact hpt r h
          · cases List.mem_singleton.mp h; exact hqq
    · rintro xss ρ ⟨cols,pt,o7,o8,rfl,hc,pl,hpt,rfl⟩
      rw [rangeD_length] at pl hc
      dsimp only
      refine mseq_rd (mof_rd ?_)
      have bl:bs.length < sizeLine:=by omega
      simp_arith only [grd_t,len_ok,BFR]
      refine mq_nx ?_
      dsimp only
      refine mnext_rd ?_
      dsimp only
      refine ⟨cols,bs ++ [pt],some (.d (.int (i:Int))),some (.d (ptD pt)),o7,o8,rfl,⟨hc.1,fun j hj=>?_,hc.2.2⟩,by simp [hb],fun p mp=>?_,by simp [List.map_append]⟩
      · have:=hc.2.1 j hj
        split at this <;> simp <;> omega
      · rcases List.mem_append.mp mp with h | h
        · exact hp p h
        · cases List.mem_singleton.mp h; exact ⟨pl,hpt⟩
  · rintro xss ρ ⟨cols,bs,o5,o6,o7,o8,rfl,hc,hb,hp,rfl⟩
    rw [rangeD_length] at hb
    dsimp only
    refine mseq_rd (mof_rd ?_)
    simp_arith only [grd_t,len_ok,p__law_draw.eq]
    intro c hc3
    refine ⟨by omega,endS ?_⟩
    refine invR_go (fun i ρ=>∃ ps:List (List Rat),1 <= ps.length /\ ps.length <= bs.length + i /\ (∀ p ∈ ps,p ∈ bs) /\ ρ = [some .reel,some (.d (.int s)),some (.d (.int m)),some (.vv (.ref a)),some (.ml (ps.map ptD)),none,o6,o7,o8,none]) ⟨bs,by omega,by omega,fun p h=>h,rfl⟩ ?_ ?_
    · rintro i hi ρ ⟨ps,p1,p2,pm,rfl⟩ K hK
      have g1 : 0 < (ps.length:Int):=by omega
      have g2:(ps.length:Int) < 2 ^ 60:=by omega
      have g3 : 0 < (ps.length:Int) + 1:=by omega
      have g4:(ps.length:Int) + 1 < 2 ^ 60:=by omega
      simp_arith only [grd_t,len_ok,BFR,p__law_draw.eq]
      (with_reducible (first | refine any_step fun e he=>?_ | refine sqb_any fun e he=>?_))
      obtain ⟨r,er,mr⟩:=at_in (xs:=ps) he.1 he.2
      have er2:atI (ps.map ptD) e = some (ptD r):=by rw [atI_map,er]; rfl
      simp_arith only [grd_t,len_ok,BFR,p__law_draw.eq,er2]
      intro u hu
      have ls:ps.length < sizeLine:=by omega
      simp_arith only [grd_t,len_ok,BLI]
      have ei:insAt (ps.map ptD) u.toNat (ptD r) = (insAt ps u.toNat r).map ptD:=by unfold insAt; simp [List.map_append,List.map_take,List.map_drop]
      rw [ei]
      have ml:(insAt ps u.toNat r).length = ps.length + 1:=by unfold insAt; simp; omega
      have mm:∀ p ∈ insAt ps u.toNat r,p ∈ bs:=fun p mp=>by
        have:p = r \/ p ∈ ps:=by
          unfold insAt at mp
          simp only [List.mem_append,List.mem_cons,List.not_mem_nil,or_false] at mp
          rcases mp with h | h
          · first | exact .inr (List.mem_of_mem_take h) | (rcases h with h | h; exact .inr (List.mem_of_mem_take h); exact .inl h)
          · first | exact .inr (List.mem_of_mem_drop h) | (rcases h with h | h; exact .inl h; exact .inr (List.mem_of_mem_drop h))
        rcases this with rfl | h
        · exact pm _ mr
        · exact pm p h
      exact hK _ (lpS_nx ⟨insAt ps u.toNat r,by omega,by omega,mm,rfl⟩)
    · rintro ρ ⟨ps,p1,p2,pm,rfl⟩
      refine mq_nx ?_
      dsimp only
      refine mseq_rd (mof_rd ?_)
      have ls:ps.length <= sizeLine:=by omega
      simp_arith only [grd_t,len_ok,BFR,tup_of]
      exact mq_rt ⟨_,rfl,hQ ps ⟨p1,by omega,fun p mp=>hp p (pm p mp),bs,by omega,pm⟩⟩
noncomputable def p_common_divisor:List W -> (PyData -> Prop) -> Prop:=fun ws Q=>∃ (i j:Int),ws = [.d (.int i),.d (.int j)] /\ (True) /\ Q (.int (Int.gcd i j:Nat))
theorem p_common_divisor.mono:∀ ws (Q Q':PyData -> Prop),(∀ d,Q d -> Q' d) -> p_common_divisor ws Q -> p_common_divisor ws Q':=fun _ _ _ h_=>Exists.imp fun _=>Exists.imp fun _=>And.imp_right (And.imp_right (h_ _))
theorem p_common_divisor.len:∀ ws (Q:PyData -> Prop),p_common_divisor ws Q -> ws.length = 2:=fun _ _ h_=>by obtain ⟨_,_,e_,_⟩:=h_; subst e_; rfl
theorem p_common_divisor.eq (i j:Int)  : p_common_divisor [.d (.int i),.d (.int j)] = VL.ret (.int (Int.gcd i j:Nat):PyData):=by
  refine mo_ext fun Q=>⟨?_,fun q_=>⟨i,j,rfl,trivial,q_⟩⟩
  rintro ⟨i',j',e_,_,q_⟩
  simp_arith only [and_true] at e_
  obtain ⟨rfl,rfl⟩:=e_
  exact q_
theorem sc_common_divisor:FnScope ["one", "other"] ["one", "other"] (defScope (top 6)):=⟨rfl,rfl,rfl,by decide +kernel,rfl,by decide +kernel,by decide +kernel⟩
theorem d_common_divisor (Fn:FnIn K mg "common_divisor" (top 6) ["one", "other"]) (Z:Bz mg)    : Dfn P w K mg base rl "common_divisor" ["one", "other"] 1 p_common_divisor:=by
  have sc:=sc_common_divisor
  refine Dfn.of Fn sc (p_common_divisor.mono) (p_common_divisor.len) (fun cdv A outer s H E hr=>(vs_cons (vs_whileF [] PassesOwn.never (vb_cmp (op_neD hr.units) vo_eqD (nomark _) (vn 1) pv_int) (vs_one (vs_par 0 1 rfl sc.nd (pvs_cons (vn 1) (pvs_cons (v_mod (vn 0) (vn 1)) pvs_nil)))))
      (vs_one (vs_ret (v_abs Z.abs_ (pvs_cons (vn 0) pvs_nil)))))) ?_
  rintro ws Q ⟨i,j,rfl,_,hQ⟩
  refine read_of ?_
  simp_arith only [len_ok]
  refine while_go (σ:=Int × Int) (fun s=>[some (.d (.int s.1)),some (.d (.int s.2))]) (fun s=>!(s.2 == 0)) (fun s=>(s.2,s.1.fmod s.2)) (fun s=>s.2.natAbs) (fun s=>Int.gcd s.1 s.2 = Int.gcd i j) (i,j) rfl rfl ?_ ?_ ?_
  · intro s _
    simp_arith only [len_ok]
  · intro s e c
    have hc:s.2 ≠ 0:=by simpa using c
    refine ⟨by rw [gcd_fmod]; exact e,fmod_abs_lt hc,_,?_,rfl⟩
    simp_arith only [grd_t,len_ok]
  · intro s e c
    have hc:s.2 = 0:=by simpa using c
    simp_arith only [len_ok]
    rw [hc,Int.gcd_zero_right] at e
    refine rt_end ?_
    have:(if s.1 < 0 then -s.1 else s.1) = ((Int.gcd i j:Nat):Int):=by rw [<- e]; split <;> omega
    rw [this]
    exact hQ
noncomputable def p_fraction:List W -> (PyData -> Prop) -> Prop:=fun ws Q=>∃ (a b:Int),ws = [.d (.int a),.d (.int b)] /\ ((0 < b) /\ (b.natAbs < 2 ^ 8000)) /\ Q (fr (qd a b))
theorem p_fraction.mono:∀ ws (Q Q':PyData -> Prop),(∀ d,Q d -> Q' d) -> p_fraction ws Q -> p_fraction ws Q':=fun _ _ _ h_=>Exists.imp fun _=>Exists.imp fun _=>And.imp_right (And.imp_right (h_ _))
theorem p_fraction.len:∀ ws (Q:PyData -> Prop),p_fraction ws Q -> ws.length = 2:=fun _ _ h_=>by obtain ⟨_,_,e_,_⟩:=h_; subst e_; rfl
theorem p_fraction.eq (a b:Int) (hb : 0 < b) (hz:b.natAbs < 2 ^ 8000):p_fraction [.d (.int a),.d (.int b)] = VL.ret (fr (qd a b):PyData):=by
  refine mo_ext fun Q=>⟨?_,fun q_=>⟨a,b,rfl,⟨hb,hz⟩,q_⟩⟩
  rintro ⟨a',b',e_,_,q_⟩
  simp_arith only [and_true] at e_
  obtain ⟨rfl,rfl⟩:=e_
  exact q_
theorem sc_fraction:FnScope ["top", "bottom", "divisor"] ["top", "bottom"] (defScope (top 7)):=⟨rfl,rfl,rfl,by decide +kernel,rfl,by decide +kernel,by decide +kernel⟩
theorem d_fraction (Fn:FnIn K mg "fraction" (top 7) ["top", "bottom"]) (Z:Bz mg) (d_common_divisor:∀ rl,Dfn P w K mg base rl "common_divisor" ["one", "other"] 1 p_common_divisor)   : Dfn P w K mg base rl "fraction" ["top", "bottom"] 2 p_fraction:=by
  have sc:=sc_fraction
  refine Dfn.of Fn sc (p_fraction.mono) (p_fraction.len) (fun cdv A outer s H E hr=>(vs_cons (vs_if (vb_cmp (op_eqD hr.units) vo_eqD (nomark _) (vn 1) pv_int) (vs_one vs_never) vs_nil)
      (vs_cons (vs_setZ 2 sc.nd (v_call (d_common_divisor _) (hr.mono (by decide)) (pvs_cons (vn 0) (pvs_cons (vn 1) pvs_nil))))
      (vs_cons (vs_if (vb_cmp op_lt vo_lt (nomark _) (vn 1) pv_int) (vs_one (vs_setZ 2 sc.nd (v_neg (vn 2)))) vs_nil)
      (vs_one (vs_ret (v_tup (pvs_cons (v_div (vn 0) (vn 2)) (pvs_cons (v_div (vn 1) (vn 2)) pvs_nil))))))))) ?_
  rintro ws Q ⟨a,b,rfl,⟨hb,hz⟩,hQ⟩
  refine read_of ?_
  have c1:CDivB a (Int.gcd a b:Int):=gcd_div hb hz _
  have c2:CDivB b (Int.gcd a b:Int):=gcd_div hb hz _
  have h0:(b == 0) = false:=by simp; omega
  have h1:decide (b < 0) = false:=by simp; omega
  simp_arith only [grd_t,len_ok,p_common_divisor.eq,h0,h1]
  rw [low_qd hb]
  exact rt_end hQ
noncomputable def p_plus:List W -> (PyData -> Prop) -> Prop:=fun ws Q=>∃ (q r:Rat),ws = [.d (fr q),.d (fr r)] /\ ((qSm 2000 q) /\ (qSm 2000 r)) /\ Q (fr (q + r))
theorem p_plus.mono:∀ ws (Q Q':PyData -> Prop),(∀ d,Q d -> Q' d) -> p_plus ws Q -> p_plus ws Q':=fun _ _ _ h_=>Exists.imp fun _=>Exists.imp fun _=>And.imp_right (And.imp_right (h_ _))
theorem p_plus.len:∀ ws (Q:PyData -> Prop),p_plus ws Q -> ws.length = 2:=fun _ _ h_=>by obtain ⟨_,_,e_,_⟩:=h_; subst e_; rfl
theorem p_plus.eq (q r:Rat) (h1:qSm 2000 q) (h2:qSm 2000 r):p_plus [.d (fr q),.d (fr r)] = VL.ret (fr (q + r):PyData):=by
  refine mo_ext fun Q=>⟨?_,fun q_=>⟨q,r,rfl,⟨h1,h2⟩,q_⟩⟩
  rintro ⟨q',r',e_,_,q_⟩
  simp_arith only [fr_i,sdD_i,ptD_i,boxD_i,ptsQ_i,frs_i] at e_
  obtain ⟨rfl,rfl⟩:=e_
  exact q_
theorem sc_plus:FnScope ["one", "other"] ["one", "other"] (defScope (top 8)):=⟨rfl,rfl,rfl,by decide +kernel,rfl,by decide +kernel,by decide +kernel⟩
theorem d_plus (Fn:FnIn K mg "plus" (top 8) ["one", "other"]) (Z:Bz mg) (d_fraction:∀ rl,Dfn P w K mg base rl "fraction" ["top", "bottom"] 2 p_fraction)   : Dfn P w K mg base rl "plus" ["one", "other"] 3 p_plus:=by
  have sc:=sc_plus
  refine Dfn.of Fn sc (p_plus.mono) (p_plus.len) (fun cdv A outer s H E hr=>(vs_one (vs_ret (v_call (d_fraction _) (hr.mono (by decide)) (pvs_cons (v_add (v_mul (v_ix (vn 0) pv_int) (v_ix (vn 1) pv_int)) (v_mul (v_ix (vn 1) pv_int) (v_ix (vn 0) pv_int))) (pvs_cons (v_mul (v_ix (vn 0) pv_int) (v_ix (vn 1) pv_int)) pvs_nil)))))) ?_
  rintro ws Q ⟨q,r,rfl,⟨h1,h2⟩,hQ⟩
  refine read_of ?_
  have m1:CMulB q.num r.den:=.bb h1.bn h2.bd
  have m2:CMulB r.num q.den:=.bb h2.bn h1.bd
  have m3:CMulB q.den r.den:=.bb h1.bd h2.bd
  have m4:CMulB q.num r.num:=.bb h1.bn h2.bn
  have d1:=den_pos q r
  have d2:=den_small h1 h2
  simp_arith only [grd_t,len_ok,p_fraction.eq,BFR,qd_add]
  exact rt_end hQ
noncomputable def p_less:List W -> (PyData -> Prop) -> Prop:=fun ws Q=>∃ (q r:Rat),ws = [.d (fr q),.d (fr r)] /\ ((qSm 2000 q) /\ (qSm 2000 r)) /\ Q (fr (q - r))
theorem p_less.mono:∀ ws (Q Q':PyData -> Prop),(∀ d,Q d -> Q' d) -> p_less ws Q -> p_less ws Q':=fun _ _ _ h_=>Exists.imp fun _=>Exists.imp fun _=>And.imp_right (And.imp_right (h_ _))
theorem p_less.len:∀ ws (Q:PyData -> Prop),p_less ws Q -> ws.length = 2:=fun _ _ h_=>by obtain ⟨_,_,e_,_⟩:=h_; subst e_; rfl
theorem p_less.eq (q r:Rat) (h1:qSm 2000 q) (h2:qSm 2000 r):p_less [.d (fr q),.d (fr r)] = VL.ret (fr (q - r):PyData):=by
  refine mo_ext fun Q=>⟨?_,fun q_=>⟨q,r,rfl,⟨h1,h2⟩,q_⟩⟩
  rintro ⟨q',r',e_,_,q_⟩
  simp_arith only [fr_i,sdD_i,ptD_i,boxD_i,ptsQ_i,frs_i] at e_
  obtain ⟨rfl,rfl⟩:=e_
  exact q_
theorem sc_less:FnScope ["one", "other"] ["one", "other"] (defScope (top 9)):=⟨rfl,rfl,rfl,by decide +kernel,rfl,by decide +kernel,by decide +kernel⟩
theorem d_less (Fn:FnIn K mg "less" (top 9) ["one", "other"]) (Z:Bz mg) (d_fraction:∀ rl,Dfn P w K mg base rl "fraction" ["top", "bottom"] 2 p_fraction)   : Dfn P w K mg base rl "less" ["one", "other"] 3 p_less:=by
  have sc:=sc_less
  refine Dfn.of Fn sc (p_less.mono) (p_less.len) (fun cdv A outer s H E hr=>(vs_one (vs_ret (v_call (d_fraction _) (hr.mono (by decide)) (pvs_cons (v_sub (v_mul (v_ix (vn 0) pv_int) (v_ix (vn 1) pv_int)) (v_mul (v_ix (vn 1) pv_int) (v_ix (vn 0) pv_int))) (pvs_cons (v_mul (v_ix (vn 0) pv_int) (v_ix (vn 1) pv_int)) pvs_nil)))))) ?_
  rintro ws Q ⟨q,r,rfl,⟨h1,h2⟩,hQ⟩
  refine read_of ?_
  have m1:CMulB q.num r.den:=.bb h1.bn h2.bd
  have m2:CMulB r.num q.den:=.bb h2.bn h1.bd
  have m3:CMulB q.den r.den:=.bb h1.bd h2.bd
  have m4:CMulB q.num r.num:=.bb h1.bn h2.bn
  have d1:=den_pos q r
  have d2:=den_small h1 h2
  simp_arith only [grd_t,len_ok,p_fraction.eq,BFR,qd_sub]
  exact rt_end hQ
noncomputable def p_times:List W -> (PyData -> Prop) -> Prop:=fun ws Q=>∃ (q r:Rat),ws = [.d (fr q),.d (fr r)] /\ ((qSm 2000 q) /\ (qSm 2000 r)) /\ Q (fr (q * r))
theorem p_times.mono:∀ ws (Q Q':PyData -> Prop),(∀ d,Q d -> Q' d) -> p_times ws Q -> p_times ws Q':=fun _ _ _ h_=>Exists.imp fun _=>Exists.imp fun _=>And.imp_right (And.imp_right (h_ _))
theorem p_times.len:∀ ws (Q:PyData -> Prop),p_times ws Q -> ws.length = 2:=fun _ _ h_=>by obtain ⟨_,_,e_,_⟩:=h_; subst e_; rfl
theorem p_times.eq (q r:Rat) (h1:qSm 2000 q) (h2:qSm 2000 r):p_times [.d (fr q),.d (fr r)] = VL.ret (fr (q * r):PyData):=by
  refine mo_ext fun Q=>⟨?_,fun q_=>⟨q,r,rfl,⟨h1,h2⟩,q_⟩⟩
  rintro ⟨q',r',e_,_,q_⟩
  simp_arith only [fr_i,sdD_i,ptD_i,boxD_i,ptsQ_i,frs_i] at e_
  obtain ⟨rfl,rfl⟩:=e_
  exact q_
theorem sc_times:FnScope ["one", "other"] ["one", "other"] (defScope (top 10)):=⟨rfl,rfl,rfl,by decide +kernel,rfl,by decide +kernel,by decide +kernel⟩
theorem d_times (Fn:FnIn K mg "times" (top 10) ["one", "other"]) (Z:Bz mg) (d_fraction:∀ rl,Dfn P w K mg base rl "fraction" ["top", "bottom"] 2 p_fraction)   : Dfn P w K mg base rl "times" ["one", "other"] 3 p_times:=by
  have sc:=sc_times
  refine Dfn.of Fn sc (p_times.mono) (p_times.len) (fun cdv A outer s H E hr=>(vs_one (vs_ret (v_call (d_fraction _) (hr.mono (by decide)) (pvs_cons (v_mul (v_ix (vn 0) pv_int) (v_ix (vn 1) pv_int)) (pvs_cons (v_mul (v_ix (vn 0) pv_int) (v_ix (vn 1) pv_int)) pvs_nil)))))) ?_
  rintro ws Q ⟨q,r,rfl,⟨h1,h2⟩,hQ⟩
  refine read_of ?_
  have m1:CMulB q.num r.den:=.bb h1.bn h2.bd
  have m2:CMulB r.num q.den:=.bb h2.bn h1.bd
  have m3:CMulB q.den r.den:=.bb h1.bd h2.bd
  have m4:CMulB q.num r.num:=.bb h1.bn h2.bn
  have d1:=den_pos q r
  have d2:=den_small h1 h2
  simp_arith only [grd_t,len_ok,p_fraction.eq,BFR,qd_mul]
  exact rt_end hQ
noncomputable def p_is_below:List W -> (PyData -> Prop) -> Prop:=fun ws Q=>∃ (q r:Rat),ws = [.d (fr q),.d (fr r)] /\ ((qSm 2000 q) /\ (qSm 2000 r)) /\ Q (.bool (decide (q < r)))
theorem p_is_below.mono:∀ ws (Q Q':PyData -> Prop),(∀ d,Q d -> Q' d) -> p_is_below ws Q -> p_is_below ws Q':=fun _ _ _ h_=>Exists.imp fun _=>Exists.imp fun _=>And.imp_right (And.imp_right (h_ _))
theorem p_is_below.len:∀ ws (Q:PyData -> Prop),p_is_below ws Q -> ws.length = 2:=fun _ _ h_=>by obtain ⟨_,_,e_,_⟩:=h_; subst e_; rfl
theorem p_is_below.eq (q r:Rat) (h1:qSm 2000 q) (h2:qSm 2000 r):p_is_below [.d (fr q),.d (fr r)] = VL.ret (.bool (decide (q < r)):PyData):=by
  refine mo_ext fun Q=>⟨?_,fun q_=>⟨q,r,rfl,⟨h1,h2⟩,q_⟩⟩
  rintro ⟨q',r',e_,_,q_⟩
  simp_arith only [fr_i,sdD_i,ptD_i,boxD_i,ptsQ_i,frs_i] at e_
  obtain ⟨rfl,rfl⟩:=e_
  exact q_
theorem sc_is_below:FnScope ["one", "other"] ["one", "other"] (defScope (top 12)):=⟨rfl,rfl,rfl,by decide +kernel,rfl,by decide +kernel,by decide +kernel⟩
theorem d_is_below (Fn:FnIn K mg "is_below" (top 12) ["one", "other"]) (Z:Bz mg)    : Dfn P w K mg base rl "is_below" ["one", "other"] 1 p_is_below:=by
  have sc:=sc_is_below
  refine Dfn.of Fn sc (p_is_below.mono) (p_is_below.len) (fun cdv A outer s H E hr=>(vs_one (vs_ret (v_cmp op_lt vo_lt (nomark _) (v_mul (v_ix (vn 0) pv_int) (v_ix (vn 1) pv_int)) (v_mul (v_ix (vn 1) pv_int) (v_ix (vn 0) pv_int)))))) ?_
  rintro ws Q ⟨q,r,rfl,⟨h1,h2⟩,hQ⟩
  refine read_of ?_
  have m1:CMulB q.num r.den:=.bb h1.bn h2.bd
  have m2:CMulB r.num q.den:=.bb h2.bn h1.bd
  simp_arith only [grd_t,len_ok,BFR,fr_lt]
  exact rt_end hQ
noncomputable def p_lesser:List W -> (PyData -> Prop) -> Prop:=fun ws Q=>∃ (q r:Rat),ws = [.d (fr q),.d (fr r)] /\ ((qSm 2000 q) /\ (qSm 2000 r)) /\ Q (fr (mn q r))
theorem p_lesser.mono:∀ ws (Q Q':PyData -> Prop),(∀ d,Q d -> Q' d) -> p_lesser ws Q -> p_lesser ws Q':=fun _ _ _ h_=>Exists.imp fun _=>Exists.imp fun _=>And.imp_right (And.imp_right (h_ _))
theorem p_lesser.len:∀ ws (Q:PyData -> Prop),p_lesser ws Q -> ws.length = 2:=fun _ _ h_=>by obtain ⟨_,_,e_,_⟩:=h_; subst e_; rfl
theorem p_lesser.eq (q r:Rat) (h1:qSm 2000 q) (h2:qSm 2000 r):p_lesser [.d (fr q),.d (fr r)] = VL.ret (fr (mn q r):PyData):=by
  refine mo_ext fun Q=>⟨?_,fun q_=>⟨q,r,rfl,⟨h1,h2⟩,q_⟩⟩
  rintro ⟨q',r',e_,_,q_⟩
  simp_arith only [fr_i,sdD_i,ptD_i,boxD_i,ptsQ_i,frs_i] at e_
  obtain ⟨rfl,rfl⟩:=e_
  exact q_
theorem sc_lesser:FnScope ["one", "other"] ["one", "other"] (defScope (top 13)):=⟨rfl,rfl,rfl,by decide +kernel,rfl,by decide +kernel,by decide +kernel⟩
theorem d_lesser (Fn:FnIn K mg "lesser" (top 13) ["one", "other"]) (Z:Bz mg) (d_is_below:∀ rl,Dfn P w K mg base rl "is_below" ["one", "other"] 1 p_is_below)   : Dfn P w K mg base rl "lesser" ["one", "other"] 2 p_lesser:=by
  have sc:=sc_lesser
  refine Dfn.of Fn sc (p_lesser.mono) (p_lesser.len) (fun cdv A outer s H E hr=>(vs_one (vs_ret (v_ifExp (vb_val (v_call (d_is_below _) (hr.mono (by decide)) (pvs_cons (vn 0) (pvs_cons (vn 1) pvs_nil)))) (vn 0) (vn 1))))) ?_
  rintro ws Q ⟨q,r,rfl,⟨h1,h2⟩,hQ⟩
  refine read_of ?_
  simp_arith only [grd_t,len_ok,p_is_below.eq,BFR]
  unfold mn at hQ
  refine rt_end ?_
  by_cases h:q < r <;> simp [h] at hQ ⊢ <;> exact hQ
noncomputable def p_greater:List W -> (PyData -> Prop) -> Prop:=fun ws Q=>∃ (q r:Rat),ws = [.d (fr q),.d (fr r)] /\ ((qSm 2000 q) /\ (qSm 2000 r)) /\ Q (fr (mx q r))
theorem p_greater.mono:∀ ws (Q Q':PyData -> Prop),(∀ d,Q d -> Q' d) -> p_greater ws Q -> p_greater ws Q':=fun _ _ _ h_=>Exists.imp fun _=>Exists.imp fun _=>And.imp_right (And.imp_right (h_ _))
theorem p_greater.len:∀ ws (Q:PyData -> Prop),p_greater ws Q -> ws.length = 2:=fun _ _ h_=>by obtain ⟨_,_,e_,_⟩:=h_; subst e_; rfl
theorem p_greater.eq (q r:Rat) (h1:qSm 2000 q) (h2:qSm 2000 r):p_greater [.d (fr q),.d (fr r)] = VL.ret (fr (mx q r):PyData):=by
  refine mo_ext fun Q=>⟨?_,fun q_=>⟨q,r,rfl,⟨h1,h2⟩,q_⟩⟩
  rintro ⟨q',r',e_,_,q_⟩
  simp_arith only [fr_i,sdD_i,ptD_i,boxD_i,ptsQ_i,frs_i] at e_
  obtain ⟨rfl,rfl⟩:=e_
  exact q_
theorem sc_greater:FnScope ["one", "other"] ["one", "other"] (defScope (top 14)):=⟨rfl,rfl,rfl,by decide +kernel,rfl,by decide +kernel,by decide +kernel⟩
theorem d_greater (Fn:FnIn K mg "greater" (top 14) ["one", "other"]) (Z:Bz mg) (d_is_below:∀ rl,Dfn P w K mg base rl "is_below" ["one", "other"] 1 p_is_below)   : Dfn P w K mg base rl "greater" ["one", "other"] 2 p_greater:=by
  have sc:=sc_greater
  refine Dfn.of Fn sc (p_greater.mono) (p_greater.len) (fun cdv A outer s H E hr=>(vs_one (vs_ret (v_ifExp (vb_val (v_call (d_is_below _) (hr.mono (by decide)) (pvs_cons (vn 0) (pvs_cons (vn 1) pvs_nil)))) (vn 1) (vn 0))))) ?_
  rintro ws Q ⟨q,r,rfl,⟨h1,h2⟩,hQ⟩
  refine read_of ?_
  simp_arith only [grd_t,len_ok,p_is_below.eq,BFR]
  unfold mx at hQ
  refine rt_end ?_
  by_cases h:q < r <;> simp [h] at hQ ⊢ <;> exact hQ
noncomputable def SmB (s:Sd):Prop:=qSm 200 s.first /\ qSm 200 s.last
noncomputable def BxB (ss:List Sd):Prop:=1 <= ss.length /\ ss.length <= 4 /\ ∀ s ∈ ss,SmB s
theorem q0_1:qSm 1 0:=⟨by decide,by decide⟩
theorem q1_1:qSm 1 1:=⟨by decide,by decide⟩
theorem szB {s:Sd} (h:SmB s):qSm 404 (szQ s):=by
  have z:∀ {n:Nat},1 <= n -> qSm n 0:=fun h=>q0_1.mono h
  cases s with
  | to t=>exact (mx_sm h.2 (z (by decide))).mono (by decide)
  | «from» a b=>exact (mx_sm (sub_sm (mx_sm h.2 (z (by decide))) (mx_sm h.1 (z (by decide)))) (z (by decide))).mono (by decide)
  | round a b=>exact (mn_sm (add_sm q1_1 (sub_sm (mx_sm h.2 (z (by decide))) (mx_sm h.1 (z (by decide))))) (q1_1.mono (by decide))).mono (by decide)
theorem prodB:∀ (qs:List Rat) (k:Nat) (a:Rat),qSm k a -> (∀ q ∈ qs,qSm 404 q) -> qSm (k + 404 * qs.length) (qs.foldl (· * ·) a)
  | [],k,a,h,_=>h
  | q :: qs,k,a,h,hq=>by
    have:=prodB qs (k + 404) (a * q) (mul_sm h (hq q List.mem_cons_self)) fun r hr=>hq r (List.mem_cons_of_mem _ hr)
    rw [List.foldl_cons]
    refine this.mono ?_
    rw [List.length_cons]
    omega
theorem SmB.up {s:Sd} (h:SmB s):qSm 2000 s.first /\ qSm 2000 s.last:=⟨h.1.mono (by decide),h.2.mono (by decide)⟩
noncomputable def p_product_of:List W -> (PyData -> Prop) -> Prop:=fun ws Q=>∃ (qs:List Rat),ws = [.d (.list (qs.map fr))] /\ ((qs.length <= 4) /\ (∀ q ∈ qs,qSm 404 q)) /\ Q (fr (prodQ qs))
theorem p_product_of.mono:∀ ws (Q Q':PyData -> Prop),(∀ d,Q d -> Q' d) -> p_product_of ws Q -> p_product_of ws Q':=fun _ _ _ h_=>Exists.imp fun _=>And.imp_right (And.imp_right (h_ _))
theorem p_product_of.len:∀ ws (Q:PyData -> Prop),p_product_of ws Q -> ws.length = 1:=fun _ _ h_=>by obtain ⟨_,e_,_⟩:=h_; subst e_; rfl
theorem p_product_of.eq (qs:List Rat) (h4:qs.length <= 4) (hq:∀ q ∈ qs,qSm 404 q):p_product_of [.d (.list (qs.map fr))] = VL.ret (fr (prodQ qs):PyData):=by
  refine mo_ext fun Q=>⟨?_,fun q_=>⟨qs,rfl,⟨h4,hq⟩,q_⟩⟩
  rintro ⟨qs',e_,_,q_⟩
  simp_arith only [fr_i,sdD_i,ptD_i,boxD_i,ptsQ_i,frs_i] at e_
  obtain rfl:=e_
  exact q_
theorem sc_product_of:FnScope ["some", "product", "one"] ["some"] (defScope (top 11)):=⟨rfl,rfl,rfl,by decide +kernel,rfl,by decide +kernel,by decide +kernel⟩
theorem d_product_of (Fn:FnIn K mg "product_of" (top 11) ["some"]) (Z:Bz mg) (d_times:∀ rl,Dfn P w K mg base rl "times" ["one", "other"] 3 p_times) (gl_ONE:GlD K mg "ONE" (pr 1 1))  : Dfn P w K mg base rl "product_of" ["some"] 4 p_product_of:=by
  have sc:=sc_product_of
  refine Dfn.of Fn sc (p_product_of.mono) (p_product_of.len) (fun cdv A outer s H E hr=>(vs_cons (vs_setZ 1 sc.nd (v_glob gl_ONE))
      (vs_cons (vs_forF [2] PassesOwn.never rfl (vi_list (vn 0)) (vg_name 2 sc.nd) (vs_one (vs_setZ 1 sc.nd (v_call (d_times _) (hr.mono (by decide)) (pvs_cons (vn 1) (pvs_cons (vn 2) pvs_nil))))))
      (vs_one (vs_ret (vn 1)))))) ?_
  rintro ws Q ⟨qs,rfl,⟨h4,hq⟩,hQ⟩
  refine read_of ?_
  simp_arith only [grd_t,len_ok,p_times.eq,BFR]
  refine inv_go (xs:=qs) (fun i ρ=>ρ = [some (.d (.list (qs.map fr))),some (.d (fr ((qs.take i).foldl (· * ·) 1))),none]) rfl rfl ?_ ?_
  · rintro i hi ρ rfl K hK
    have hs:=prodB (qs.take i) 1 1 q1_1 fun r hr=>hq r (List.mem_of_mem_take hr)
    have hl:(qs.take i).length <= 4:=by rw [List.length_take]; omega
    have s1:qSm 2000 ((qs.take i).foldl (· * ·) 1):=hs.mono (by omega)
    have s2:qSm 2000 qs[i]:=(hq _ (List.getElem_mem hi)).mono (by decide)
    simp_arith only [grd_t,len_ok,p_times.eq,BFR]
    refine hK _ (lpS_nx ?_)
    simp_arith only [len_ok]
    rw [foldl_succ hi]
  · rintro ρ rfl
    simp_arith only [len_ok]
    rw [List.take_of_length_le (Nat.le_refl _)]
    exact rt_end hQ
noncomputable def p_side_size:List W -> (PyData -> Prop) -> Prop:=fun ws Q=>∃ (s:Sd),ws = [.d (sdD s)] /\ ((SmB s)) /\ Q (fr (szQ s))
theorem p_side_size.mono:∀ ws (Q Q':PyData -> Prop),(∀ d,Q d -> Q' d) -> p_side_size ws Q -> p_side_size ws Q':=fun _ _ _ h_=>Exists.imp fun _=>And.imp_right (And.imp_right (h_ _))
theorem p_side_size.len:∀ ws (Q:PyData -> Prop),p_side_size ws Q -> ws.length = 1:=fun _ _ h_=>by obtain ⟨_,e_,_⟩:=h_; subst e_; rfl
theorem p_side_size.eq (s:Sd) (sm:SmB s):p_side_size [.d (sdD s)] = VL.ret (fr (szQ s):PyData):=by
  refine mo_ext fun Q=>⟨?_,fun q_=>⟨s,rfl,sm,q_⟩⟩
  rintro ⟨s',e_,_,q_⟩
  simp_arith only [fr_i,sdD_i,ptD_i,boxD_i,ptsQ_i,frs_i] at e_
  obtain rfl:=e_
  exact q_
theorem sc_side_size:FnScope ["side", "end", "width"] ["side"] (defScope (top 16)):=⟨rfl,rfl,rfl,by decide +kernel,rfl,by decide +kernel,by decide +kernel⟩
theorem d_side_size (Fn:FnIn K mg "side_size" (top 16) ["side"]) (Z:Bz mg) (d_greater:∀ rl,Dfn P w K mg base rl "greater" ["one", "other"] 2 p_greater) (d_less:∀ rl,Dfn P w K mg base rl "less" ["one", "other"] 3 p_less) (d_lesser:∀ rl,Dfn P w K mg base rl "lesser" ["one", "other"] 2 p_lesser) (d_plus:∀ rl,Dfn P w K mg base rl "plus" ["one", "other"] 3 p_plus) (gl_ZERO:GlD K mg "ZERO" (pr 0 1)) (gl_ONE:GlD K mg "ONE" (pr 1 1))  : Dfn P w K mg base rl "side_size" ["side"] 4 p_side_size:=by
  have sc:=sc_side_size
  refine Dfn.of Fn sc (p_side_size.mono) (p_side_size.len) (fun cdv A outer s H E hr=>(vs_cons (vs_setZ 1 sc.nd (v_call (d_greater _) (hr.mono (by decide)) (pvs_cons (v_ix (vn 0) (v_neg pv_int)) (pvs_cons (v_glob gl_ZERO) pvs_nil))))
      (vs_cons (vs_if (vb_cmp op_eq vo_eqS (nomark _) (v_ix (vn 0) pv_int) pv_str) (vs_one (vs_ret (vn 1))) vs_nil)
      (vs_cons (vs_setZ 2 sc.nd (v_call (d_less _) (hr.mono (by decide)) (pvs_cons (vn 1) (pvs_cons (v_call (d_greater _) (hr.mono (by decide)) (pvs_cons (v_ix (vn 0) pv_int) (pvs_cons (v_glob gl_ZERO) pvs_nil))) pvs_nil))))
      (vs_cons (vs_if (vb_cmp op_eq vo_eqS (nomark _) (v_ix (vn 0) pv_int) pv_str) (vs_one (vs_ret (v_call (d_greater _) (hr.mono (by decide)) (pvs_cons (vn 2) (pvs_cons (v_glob gl_ZERO) pvs_nil))))) vs_nil)
      (vs_one (vs_ret (v_call (d_lesser _) (hr.mono (by decide)) (pvs_cons (v_call (d_plus _) (hr.mono (by decide)) (pvs_cons (v_glob gl_ONE) (pvs_cons (vn 2) pvs_nil))) (pvs_cons (v_glob gl_ONE) pvs_nil)))))))))) ?_
  rintro ws Q ⟨s,rfl,sm,hQ⟩
  have w1:decide (Str.ofString "from" = Str.ofString "to") = false:=by decide +kernel
  have w2:decide (Str.ofString "round" = Str.ofString "to") = false:=by decide +kernel
  have w3:decide (Str.ofString "round" = Str.ofString "from") = false:=by decide +kernel
  have w4:decide (Str.ofString "to" = Str.ofString "to") = true:=by decide +kernel
  have w5:decide (Str.ofString "from" = Str.ofString "from") = true:=by decide +kernel
  refine read_of ?_
  have z0:qSm 2000 0:=qSm0.up
  have z1:qSm 2000 1:=qSm1.mono (by decide)
  cases s with
  | to t =>
    have a1:qSm 2000 t:=sm.up.2
    simp_arith only [grd_t,len_ok,p_greater.eq,p_less.eq,p_lesser.eq,p_plus.eq,BFR,w1,w2,w3,w4,w5,sdD]
    exact rt_end hQ
  | «from» a b =>
    have a1:qSm 2000 b:=sm.up.2
    have a2:qSm 2000 a:=sm.up.1
    have m1:qSm 200 (mx b 0):=mx_sm sm.2 (q0_1.mono (by decide))
    have m2:qSm 200 (mx a 0):=mx_sm sm.1 (q0_1.mono (by decide))
    have m3:qSm 2000 (mx b 0):=m1.mono (by decide)
    have m4:qSm 2000 (mx a 0):=m2.mono (by decide)
    have m5:qSm 2000 (mx b 0 - mx a 0):=(sub_sm m1 m2).mono (by decide)
    simp_arith only [grd_t,len_ok,p_greater.eq,p_less.eq,p_lesser.eq,p_plus.eq,BFR,w1,w2,w3,w4,w5,sdD]
    exact rt_end hQ
  | round a b =>
    have a1:qSm 2000 b:=sm.up.2
    have a2:qSm 2000 a:=sm.up.1
    have m1:qSm 200 (mx b 0):=mx_sm sm.2 (q0_1.mono (by decide))
    have m2:qSm 200 (mx a 0):=mx_sm sm.1 (q0_1.mono (by decide))
    have m3:qSm 2000 (mx b 0):=m1.mono (by decide)
    have m4:qSm 2000 (mx a 0):=m2.mono (by decide)
    have m5:qSm 2000 (mx b 0 - mx a 0):=(sub_sm m1 m2).mono (by decide)
    have m6:qSm 2000 (1 + (mx b 0 - mx a 0)):=(add_sm q1_1 (sub_sm m1 m2)).mono (by decide)
    simp_arith only [grd_t,len_ok,p_greater.eq,p_less.eq,p_lesser.eq,p_plus.eq,BFR,w1,w2,w3,w4,w5,sdD]
    exact rt_end hQ
noncomputable def p_size_of:List W -> (PyData -> Prop) -> Prop:=fun ws Q=>∃ (ss:List Sd),ws = [.d (boxD ss)] /\ ((BxB ss)) /\ Q (fr (sizeQ ss))
theorem p_size_of.mono:∀ ws (Q Q':PyData -> Prop),(∀ d,Q d -> Q' d) -> p_size_of ws Q -> p_size_of ws Q':=fun _ _ _ h_=>Exists.imp fun _=>And.imp_right (And.imp_right (h_ _))
theorem p_size_of.len:∀ ws (Q:PyData -> Prop),p_size_of ws Q -> ws.length = 1:=fun _ _ h_=>by obtain ⟨_,e_,_⟩:=h_; subst e_; rfl
theorem p_size_of.eq (ss:List Sd) (hb:BxB ss):p_size_of [.d (boxD ss)] = VL.ret (fr (sizeQ ss):PyData):=by
  refine mo_ext fun Q=>⟨?_,fun q_=>⟨ss,rfl,hb,q_⟩⟩
  rintro ⟨ss',e_,_,q_⟩
  simp_arith only [fr_i,sdD_i,ptD_i,boxD_i,ptsQ_i,frs_i] at e_
  obtain rfl:=e_
  exact q_
theorem sc_size_of:FnScope ["box"] ["box"] (defScope (top 17)):=⟨rfl,rfl,rfl,by decide +kernel,rfl,by decide +kernel,by decide +kernel⟩
theorem d_size_of (Fn:FnIn K mg "size_of" (top 17) ["box"]) (Z:Bz mg) (d_product_of:∀ rl,Dfn P w K mg base rl "product_of" ["some"] 4 p_product_of) (d_side_size:∀ rl,Dfn P w K mg base rl "side_size" ["side"] 4 p_side_size)   : Dfn P w K mg base rl "size_of" ["box"] 5 p_size_of:=by
  have sc:=sc_size_of
  refine Dfn.of Fn sc (p_size_of.mono) (p_size_of.len) (fun cdv A outer s H E hr=>(vs_one (vs_ret (v_call (d_product_of _) (hr.mono (by decide)) (pvs_cons (v_lcompR ["side"] [none] rfl (vi_tup (vn 0)) (fun _=>(vg_name 0 (show List.Nodup (["side"]:List Str) by decide +kernel))) (fun _=>vt_nil) (fun _=>(v_call (d_side_size _) (hr.mono (by decide)) (pvs_cons (vn 0) pvs_nil)))) pvs_nil))))) ?_
  rintro ws Q ⟨ss,rfl,hb,hQ⟩
  refine read_of ?_
  have sz:=PySem.sizeLine_eq
  have h4:=hb.2.1
  simp_arith only [len_ok,BFR]
  refine cmap_go (xs:=ss) (fun s=>fr (szQ s)) rfl ?_ (by omega) ?_
  · intro s ms
    have:=hb.2.2 s ms
    simp_arith only [grd_t,len_ok,itM,p_product_of.eq,p_side_size.eq]
  · have e:ss.map (fun s=>fr (szQ s)) = (ss.map szQ).map fr:=by rw [List.map_map]; rfl
    have l4:(ss.map szQ).length <= 4:=by rw [List.length_map]; exact h4
    have hq:∀ q ∈ ss.map szQ,qSm 404 q:=fun r hr=>by
      obtain ⟨s,hs',rfl⟩:=List.mem_map.mp hr
      exact szB (hb.2.2 s hs')
    rw [e]
    simp_arith only [grd_t,len_ok,p_product_of.eq,p_side_size.eq]
    exact rt_end hQ
noncomputable def p_goes_ahead:List W -> (PyData -> Prop) -> Prop:=fun ws Q=>∃ (x y:Rat) (b:Bool),ws = [.d (fr x),.d (fr y),.d (.bool b)] /\ ((qSm 2000 x) /\ (qSm 2000 y)) /\ Q (.bool (gaB x y b))
theorem p_goes_ahead.mono:∀ ws (Q Q':PyData -> Prop),(∀ d,Q d -> Q' d) -> p_goes_ahead ws Q -> p_goes_ahead ws Q':=fun _ _ _ h_=>Exists.imp fun _=>Exists.imp fun _=>Exists.imp fun _=>And.imp_right (And.imp_right (h_ _))
theorem p_goes_ahead.len:∀ ws (Q:PyData -> Prop),p_goes_ahead ws Q -> ws.length = 3:=fun _ _ h_=>by obtain ⟨_,_,_,e_,_⟩:=h_; subst e_; rfl
theorem p_goes_ahead.eq (x y:Rat) (b:Bool) (h1:qSm 2000 x) (h2:qSm 2000 y):p_goes_ahead [.d (fr x),.d (fr y),.d (.bool b)] = VL.ret (.bool (gaB x y b):PyData):=by
  refine mo_ext fun Q=>⟨?_,fun q_=>⟨x,y,b,rfl,⟨h1,h2⟩,q_⟩⟩
  rintro ⟨x',y',b',e_,_,q_⟩
  simp_arith only [fr_i,sdD_i,ptD_i,boxD_i,ptsQ_i,frs_i] at e_
  obtain ⟨rfl,rfl,rfl⟩:=e_
  exact q_
theorem sc_goes_ahead:FnScope ["one", "other", "may_meet"] ["one", "other", "may_meet"] (defScope (top 18)):=⟨rfl,rfl,rfl,by decide +kernel,rfl,by decide +kernel,by decide +kernel⟩
theorem d_goes_ahead (Fn:FnIn K mg "goes_ahead" (top 18) ["one", "other", "may_meet"]) (Z:Bz mg) (d_is_below:∀ rl,Dfn P w K mg base rl "is_below" ["one", "other"] 1 p_is_below)   : Dfn P w K mg base rl "goes_ahead" ["one", "other", "may_meet"] 2 p_goes_ahead:=by
  have sc:=sc_goes_ahead
  refine Dfn.of Fn sc (p_goes_ahead.mono) (p_goes_ahead.len) (fun cdv A outer s H E hr=>(vs_cons (vs_if (vb_val (vn 2)) (vs_one (vs_ret (v_not (v_call (d_is_below _) (hr.mono (by decide)) (pvs_cons (vn 1) (pvs_cons (vn 0) pvs_nil)))))) vs_nil)
      (vs_one (vs_ret (v_call (d_is_below _) (hr.mono (by decide)) (pvs_cons (vn 0) (pvs_cons (vn 1) pvs_nil))))))) ?_
  rintro ws Q ⟨x,y,b,rfl,⟨h1,h2⟩,hQ⟩
  refine read_of ?_
  simp_arith only [grd_t,len_ok,p_is_below.eq,BFR]
  cases b <;> simp only [gaB,Bool.false_eq_true,↓reduceIte] at hQ ⊢ <;> exact rt_end hQ
noncomputable def p_lies:List W -> (PyData -> Prop) -> Prop:=fun ws Q=>∃ (x:Rat) (s:Sd) (w:Str),ws = [.d (fr x),.d (sdD s),.d (.str w)] /\ ((qSm 60 x) /\ (SmB s) /\ (isW w)) /\ Q (.bool (lyB s w x))
theorem p_lies.mono:∀ ws (Q Q':PyData -> Prop),(∀ d,Q d -> Q' d) -> p_lies ws Q -> p_lies ws Q':=fun _ _ _ h_=>Exists.imp fun _=>Exists.imp fun _=>Exists.imp fun _=>And.imp_right (And.imp_right (h_ _))
theorem p_lies.len:∀ ws (Q:PyData -> Prop),p_lies ws Q -> ws.length = 3:=fun _ _ h_=>by obtain ⟨_,_,_,e_,_⟩:=h_; subst e_; rfl
theorem p_lies.eq (x:Rat) (s:Sd) (w:Str) (sx:qSm 60 x) (sm:SmB s) (hw:isW w):p_lies [.d (fr x),.d (sdD s),.d (.str w)] = VL.ret (.bool (lyB s w x):PyData):=by
  refine mo_ext fun Q=>⟨?_,fun q_=>⟨x,s,w,rfl,⟨sx,sm,hw⟩,q_⟩⟩
  rintro ⟨x',s',w',e_,_,q_⟩
  simp_arith only [fr_i,sdD_i,ptD_i,boxD_i,ptsQ_i,frs_i] at e_
  obtain ⟨rfl,rfl,rfl⟩:=e_
  exact q_
theorem sc_lies:FnScope ["x", "side", "way", "ahead", "behind"] ["x", "side", "way"] (defScope (top 19)):=⟨rfl,rfl,rfl,by decide +kernel,rfl,by decide +kernel,by decide +kernel⟩
theorem d_lies (Fn:FnIn K mg "lies" (top 19) ["x", "side", "way"]) (Z:Bz mg) (d_goes_ahead:∀ rl,Dfn P w K mg base rl "goes_ahead" ["one", "other", "may_meet"] 2 p_goes_ahead)   : Dfn P w K mg base rl "lies" ["x", "side", "way"] 3 p_lies:=by
  have sc:=sc_lies
  refine Dfn.of Fn sc (p_lies.mono) (p_lies.len) (fun cdv A outer s H E hr=>(vs_cons (vs_setZ 3 sc.nd (v_call (d_goes_ahead _) (hr.mono (by decide)) (pvs_cons (vn 0) (pvs_cons (v_ix (vn 1) (v_neg pv_int)) (pvs_cons (v_cmp op_eq vo_eqS (nomark _) (vn 2) pv_str) pvs_nil)))))
      (vs_cons (vs_if (vb_cmp op_eq vo_eqS (nomark _) (v_ix (vn 1) pv_int) pv_str) (vs_one (vs_ret (vn 3))) vs_nil)
      (vs_cons (vs_setZ 4 sc.nd (v_call (d_goes_ahead _) (hr.mono (by decide)) (pvs_cons (v_ix (vn 1) pv_int) (pvs_cons (vn 0) (pvs_cons (v_cmp op_ne vo_neS (nomark _) (vn 2) pv_str) pvs_nil)))))
      (vs_cons (vs_if (vb_cmp op_eq vo_eqS (nomark _) (v_ix (vn 1) pv_int) pv_str) (vs_one (vs_ret (v_and (vn 4) (v_one (vn 3))))) vs_nil)
      (vs_one (vs_ret (v_or (vn 4) (v_one (vn 3)))))))))) ?_
  rintro ws Q ⟨x,s,w,rfl,⟨sx,sm,hw⟩,hQ⟩
  have w1:decide (Str.ofString "from" = Str.ofString "to") = false:=by decide +kernel
  have w2:decide (Str.ofString "round" = Str.ofString "to") = false:=by decide +kernel
  have w3:decide (Str.ofString "round" = Str.ofString "from") = false:=by decide +kernel
  have w4:decide (Str.ofString "to" = Str.ofString "to") = true:=by decide +kernel
  have w5:decide (Str.ofString "from" = Str.ofString "from") = true:=by decide +kernel
  refine read_of ?_
  have sx':=sx.up
  have a1:qSm 2000 s.last:=sm.up.2
  have a2:qSm 2000 s.first:=sm.up.1
  cases s with
  | to t =>
    have a1:qSm 2000 t:=a1
    simp_arith only [grd_t,len_ok,p_goes_ahead.eq,BFR,w1,w2,w3,w4,w5,sdD]
    exact rt_end hQ
  | «from» a b =>
    have a1:qSm 2000 b:=a1
    have a2:qSm 2000 a:=a2
    simp_arith only [grd_t,len_ok,p_goes_ahead.eq,BFR,w1,w2,w3,w4,w5,sdD]
    exact rt_end hQ
  | round a b =>
    have a1:qSm 2000 b:=a1
    have a2:qSm 2000 a:=a2
    simp_arith only [grd_t,len_ok,p_goes_ahead.eq,BFR,w1,w2,w3,w4,w5,sdD]
    exact rt_end hQ
noncomputable def p_lies_in:List W -> (PyData -> Prop) -> Prop:=fun ws Q=>∃ (qs:List Rat) (ss:List Sd) (w:Str),ws = [.d (ptD qs),.d (boxD ss),.d (.str w)] /\ ((IsPt ss.length qs) /\ (BxB ss) /\ (isW w)) /\ Q (.bool (liB qs ss w))
theorem p_lies_in.mono:∀ ws (Q Q':PyData -> Prop),(∀ d,Q d -> Q' d) -> p_lies_in ws Q -> p_lies_in ws Q':=fun _ _ _ h_=>Exists.imp fun _=>Exists.imp fun _=>Exists.imp fun _=>And.imp_right (And.imp_right (h_ _))
theorem p_lies_in.len:∀ ws (Q:PyData -> Prop),p_lies_in ws Q -> ws.length = 3:=fun _ _ h_=>by obtain ⟨_,_,_,e_,_⟩:=h_; subst e_; rfl
theorem p_lies_in.eq (qs:List Rat) (ss:List Sd) (w:Str) (hp:IsPt ss.length qs) (hb:BxB ss) (hw:isW w):p_lies_in [.d (ptD qs),.d (boxD ss),.d (.str w)] = VL.ret (.bool (liB qs ss w):PyData):=by
  refine mo_ext fun Q=>⟨?_,fun q_=>⟨qs,ss,w,rfl,⟨hp,hb,hw⟩,q_⟩⟩
  rintro ⟨qs',ss',w',e_,_,q_⟩
  simp_arith only [fr_i,sdD_i,ptD_i,boxD_i,ptsQ_i,frs_i] at e_
  obtain ⟨rfl,rfl,rfl⟩:=e_
  exact q_
theorem sc_lies_in:FnScope ["point", "box", "way"] ["point", "box", "way"] (defScope (top 20)):=⟨rfl,rfl,rfl,by decide +kernel,rfl,by decide +kernel,by decide +kernel⟩
theorem d_lies_in (Fn:FnIn K mg "lies_in" (top 20) ["point", "box", "way"]) (Z:Bz mg) (d_lies:∀ rl,Dfn P w K mg base rl "lies" ["x", "side", "way"] 3 p_lies)   : Dfn P w K mg base rl "lies_in" ["point", "box", "way"] 4 p_lies_in:=by
  have sc:=sc_lies_in
  refine Dfn.of Fn sc (p_lies_in.mono) (p_lies_in.len) (fun cdv A outer s H E hr=>(vs_one (vs_ret (v_all Z.all_ (pvs_cons (v_lcompR ["x", "side", "way"] [none,none,some 2] rfl (vi_zipTT Z.zip_ (pvs_cons (vn 0) (pvs_cons (vn 1) pvs_nil))) (fun _=>(vg_tup (n:=2) rfl (vgs_cons (vg_name 0 (show List.Nodup (["x", "side", "way"]:List Str) by decide +kernel)) (vgs_cons (vg_name 1 (show List.Nodup (["x", "side", "way"]:List Str) by decide +kernel)) vgs_nil)))) (fun _=>vt_nil) (fun _=>(v_call (d_lies _) (hr.mono (by decide)) (pvs_cons (vn 0) (pvs_cons (vn 1) (pvs_cons (vn 2) pvs_nil)))))) pvs_nil))))) ?_
  rintro ws Q ⟨qs,ss,w,rfl,⟨hp,hb,hw⟩,hQ⟩
  refine read_of ?_
  have sz:=PySem.sizeLine_eq
  have h4:=hb.2.1
  simp_arith only [len_ok,BFR]
  rw [zipD_map]
  refine cmap_go (xs:=qs.zip ss) (fun p=>.bool (lyB p.2 w p.1)) rfl ?_ (by rw [List.length_zip]; omega) ?_
  · rintro ⟨x,s⟩ hm
    obtain ⟨mx,ms⟩:=List.of_mem_zip hm
    have:=hp.2 x mx
    have:=hb.2.2 s ms
    simp_arith only [grd_t,len_ok,itM,p_lies.eq]
  · have e:(qs.zip ss).map (fun p=>PyData.bool (lyB p.2 w p.1)) = ((qs.zip ss).map fun p=>lyB p.2 w p.1).map .bool:=by rw [List.map_map]; rfl
    rw [e]
    simp_arith only [grd_t,len_ok]
    refine rt_end ?_
    rw [List.all_map]
    exact hQ
noncomputable def p_inside:List W -> (PyData -> Prop) -> Prop:=fun ws Q=>∃ (ps:List (List Rat)) (ss:List Sd) (w:Str),ws = [.d (ptsQ ps),.d (boxD ss),.d (.str w)] /\ ((IsPs ss.length ps) /\ (BxB ss) /\ (isW w)) /\ Q (.int (cntN ps ss w))
theorem p_inside.mono:∀ ws (Q Q':PyData -> Prop),(∀ d,Q d -> Q' d) -> p_inside ws Q -> p_inside ws Q':=fun _ _ _ h_=>Exists.imp fun _=>Exists.imp fun _=>Exists.imp fun _=>And.imp_right (And.imp_right (h_ _))
theorem p_inside.len:∀ ws (Q:PyData -> Prop),p_inside ws Q -> ws.length = 3:=fun _ _ h_=>by obtain ⟨_,_,_,e_,_⟩:=h_; subst e_; rfl
theorem p_inside.eq (ps:List (List Rat)) (ss:List Sd) (w:Str) (hp:IsPs ss.length ps) (hb:BxB ss) (hw:isW w):p_inside [.d (ptsQ ps),.d (boxD ss),.d (.str w)] = VL.ret (.int (cntN ps ss w):PyData):=by
  refine mo_ext fun Q=>⟨?_,fun q_=>⟨ps,ss,w,rfl,⟨hp,hb,hw⟩,q_⟩⟩
  rintro ⟨ps',ss',w',e_,_,q_⟩
  simp_arith only [fr_i,sdD_i,ptD_i,boxD_i,ptsQ_i,frs_i] at e_
  obtain ⟨rfl,rfl,rfl⟩:=e_
  exact q_
theorem sc_inside:FnScope ["points", "box", "way"] ["points", "box", "way"] (defScope (top 21)):=⟨rfl,rfl,rfl,by decide +kernel,rfl,by decide +kernel,by decide +kernel⟩
theorem d_inside (Fn:FnIn K mg "inside" (top 21) ["points", "box", "way"]) (Z:Bz mg) (d_lies_in:∀ rl,Dfn P w K mg base rl "lies_in" ["point", "box", "way"] 4 p_lies_in)   : Dfn P w K mg base rl "inside" ["points", "box", "way"] 5 p_inside:=by
  have sc:=sc_inside
  refine Dfn.of Fn sc (p_inside.mono) (p_inside.len) (fun cdv A outer s H E hr=>(vs_one (vs_ret (v_len Z.len_ (pvs_cons (v_lcompR ["point", "box", "way"] [none,some 1,some 2] rfl (vi_tup (vn 0)) (fun _=>(vg_name 0 (show List.Nodup (["point", "box", "way"]:List Str) by decide +kernel))) (fun _=>vt_one (vb_val (v_call (d_lies_in _) (hr.mono (by decide)) (pvs_cons (vn 0) (pvs_cons (vn 1) (pvs_cons (vn 2) pvs_nil)))))) (fun _=>(vn 0))) pvs_nil))))) ?_
  rintro ws Q ⟨ps,ss,w,rfl,⟨hp,hb,hw⟩,hQ⟩
  refine read_of ?_
  have sz:=PySem.sizeLine_eq
  have h40:=hp.2.1
  simp_arith only [len_ok,BFR]
  refine cfm_go (xs:=ps) (fun p=>if liB p ss w = true then some (ptD p) else none) rfl ?_ (by omega) ?_
  · intro p mp
    have:=hp.2.2 p mp
    simp_arith only [grd_t,len_ok,itM,p_lies_in.eq]
    split <;> rfl
  · try simp_arith only [grd_t,len_ok]
    rw [fm_len]
    exact rt_end hQ
abbrev Rg:=Rat × Rat
abbrev Ce:=Fin 3 × List Rg
noncomputable def wdC (k:Fin 3):Str:=if k = 0 then "to" else if k = 1 then "from" else "round"
theorem wdC_i {a b:Fin 3}:wdC a = wdC b ↔ a = b:=by revert a b; decide +kernel
noncomputable def rgD (r:Rg):PyData:=.tuple [fr r.1,fr r.2]
theorem rgD_inj {x y:Rg} (h:rgD x = rgD y):x = y:=by
  obtain ⟨a,b⟩:=x
  obtain ⟨c,d⟩:=y
  unfold rgD at h
  simp only [PyData.tuple.injEq,List.cons.injEq,and_true] at h
  rw [fr_inj h.1,fr_inj h.2]
noncomputable def rsD (rs:List Rg):PyData:=.tuple (rs.map rgD)
theorem rsD_i {a b:List Rg}:rsD a = rsD b ↔ a = b:=by
  unfold rsD
  rw [PyData.tuple.injEq,List.map_inj_right fun x y h=>rgD_inj h]
noncomputable def ceD (c:Ce):PyData:=.tuple [.str (wdC c.1),rsD c.2]
noncomputable def clD (cs:List Ce):PyData:=.tuple (cs.map ceD)
theorem clD_i {a b:List Ce}:clD a = clD b ↔ a = b:=by
  unfold clD
  rw [PyData.tuple.injEq,List.map_inj_right fun x y h=>?_]
  obtain ⟨a,b⟩:=x
  obtain ⟨c,d⟩:=y
  unfold ceD at h
  simp only [PyData.tuple.injEq,List.cons.injEq,and_true,PyData.str.injEq] at h
  rw [wdC_i.mp h.1,rsD_i.mp h.2]
noncomputable def mkS (k:Fin 3) (x y:Rat):Sd:=if k = 0 then .to y else if k = 1 then .from x y else .round x y
noncomputable def loS (c:Ce):Sd:=if c.1 = 0 then .to (c.2.headD (0,0)).1 else mkS c.1 (c.2.headD (0,0)).2 (c.2.getD 1 (0,0)).1
noncomputable def hiS (c:Ce):Sd:=if c.1 = 0 then .to (c.2.headD (0,0)).2 else mkS c.1 (c.2.headD (0,0)).1 (c.2.getD 1 (0,0)).2
noncomputable def ROk (r:Rg):Prop:=qSm 200 r.1 /\ qSm 200 r.2 /\ r.1 < r.2 /\ r.2 <= 1
noncomputable def COk (c:Ce):Prop:=(c.1 = 0 /\ ∃ a,c.2 = [a] /\ ROk a) \/ (c.1 = 1 /\ ∃ a b,c.2 = [a,b] /\ ROk a /\ ROk b) \/ (c.1 = 2 /\ ∃ a b,c.2 = [a,b] /\ ROk a /\ ROk b)
theorem lo0 (a:Rg):loS (0,[a]) = .to a.1:=rfl
theorem lo1 (a b:Rg):loS (1,[a,b]) = .from a.2 b.1:=rfl
theorem lo2 (a b:Rg):loS (2,[a,b]) = .round a.2 b.1:=rfl
theorem hi0 (a:Rg):hiS (0,[a]) = .to a.2:=rfl
theorem hi1 (a b:Rg):hiS (1,[a,b]) = .from a.1 b.2:=rfl
theorem hi2 (a b:Rg):hiS (2,[a,b]) = .round a.1 b.2:=rfl
theorem wd0:wdC 0 = Str.ofString "to" := rfl
theorem wd1:wdC 1 = Str.ofString "from" := rfl
theorem wd2:wdC 2 = Str.ofString "round" := rfl
theorem rs1 (a:Rg):rsD [a] = .tuple [.tuple [fr a.1,fr a.2]]:=rfl
theorem rs2 (a b:Rg):rsD [a,b] = .tuple [.tuple [fr a.1,fr a.2],.tuple [fr b.1,fr b.2]]:=rfl
noncomputable def SmC (s:Sd):Prop:=qSm 2000 s.first /\ qSm 2000 s.last
noncomputable def tdI (c:Ce) (x:Rat):Int:=if lyB (loS c) "shut" x then 2 else if lyB (hiS c) "open" x then 1 else 0
noncomputable def p_least_side:List W -> (PyData -> Prop) -> Prop:=fun ws Q=>∃ (k:Fin 3) (rs:List Rg),ws = [.d (.str (wdC k)),.d (rsD rs)] /\ ((COk (k,rs))) /\ Q (sdD (loS (k,rs)))
theorem p_least_side.mono:∀ ws (Q Q':PyData -> Prop),(∀ d,Q d -> Q' d) -> p_least_side ws Q -> p_least_side ws Q':=fun _ _ _ h_=>Exists.imp fun _=>Exists.imp fun _=>And.imp_right (And.imp_right (h_ _))
theorem p_least_side.len:∀ ws (Q:PyData -> Prop),p_least_side ws Q -> ws.length = 2:=fun _ _ h_=>by obtain ⟨_,_,e_,_⟩:=h_; subst e_; rfl
theorem p_least_side.eq (k:Fin 3) (rs:List Rg) (hc:COk (k,rs)):p_least_side [.d (.str (wdC k)),.d (rsD rs)] = VL.ret (sdD (loS (k,rs)):PyData):=by
  refine mo_ext fun Q=>⟨?_,fun q_=>⟨k,rs,rfl,hc,q_⟩⟩
  rintro ⟨k',rs',e_,_,q_⟩
  simp_arith only [fr_i,sdD_i,ptD_i,boxD_i,ptsQ_i,frs_i,wdC_i,rsD_i,clD_i] at e_
  obtain ⟨rfl,rfl⟩:=e_
  exact q_
theorem sc_least_side:FnScope ["word", "ranges"] ["word", "ranges"] (defScope (top 23)):=⟨rfl,rfl,rfl,by decide +kernel,rfl,by decide +kernel,by decide +kernel⟩
theorem d_least_side (Fn:FnIn K mg "least_side" (top 23) ["word", "ranges"]) (Z:Bz mg)    : Dfn P w K mg base rl "least_side" ["word", "ranges"] 1 p_least_side:=by
  have sc:=sc_least_side
  refine Dfn.of Fn sc (p_least_side.mono) (p_least_side.len) (fun cdv A outer s H E hr=>(vs_cons (vs_if (vb_cmp op_eq vo_eqS (nomark _) (vn 0) pv_str) (vs_one (vs_ret (v_tup (pvs_cons (vn 0) (pvs_cons (v_ix (v_ix (vn 1) pv_int) pv_int) pvs_nil))))) vs_nil)
      (vs_one (vs_ret (v_tup (pvs_cons (vn 0) (pvs_cons (v_ix (v_ix (vn 1) pv_int) pv_int) (pvs_cons (v_ix (v_ix (vn 1) pv_int) pv_int) pvs_nil)))))))) ?_
  rintro ws Q ⟨k,rs,rfl,hc,hQ⟩
  have w1:decide (Str.ofString "from" = Str.ofString "to") = false:=by decide +kernel
  have w2:decide (Str.ofString "round" = Str.ofString "to") = false:=by decide +kernel
  have w3:decide (Str.ofString "round" = Str.ofString "from") = false:=by decide +kernel
  have w4:decide (Str.ofString "to" = Str.ofString "to") = true:=by decide +kernel
  have w5:decide (Str.ofString "from" = Str.ofString "from") = true:=by decide +kernel
  refine read_of ?_
  obtain ⟨e,a,e2,⟨a1,a2,al,au⟩⟩ | ⟨e,a,b,e2,⟨a1,a2,al,au⟩,b1,b2,bl,bu⟩ | ⟨e,a,b,e2,⟨a1,a2,al,au⟩,b1,b2,bl,bu⟩:=hc
  · have e:k = 0:=e
    have e2:rs = [a]:=e2
    subst e e2
    rw [lo0] at hQ
    simp_arith only [grd_t,len_ok,BFR,w1,w2,w3,w4,w5,wd0,wd1,wd2,rs1,rs2]
    exact rt_end hQ
  · have e:k = 1:=e
    have e2:rs = [a,b]:=e2
    subst e e2
    rw [lo1] at hQ
    simp_arith only [grd_t,len_ok,BFR,w1,w2,w3,w4,w5,wd0,wd1,wd2,rs1,rs2]
    exact rt_end hQ
  · have e:k = 2:=e
    have e2:rs = [a,b]:=e2
    subst e e2
    rw [lo2] at hQ
    simp_arith only [grd_t,len_ok,BFR,w1,w2,w3,w4,w5,wd0,wd1,wd2,rs1,rs2]
    exact rt_end hQ
noncomputable def p_most_side:List W -> (PyData -> Prop) -> Prop:=fun ws Q=>∃ (k:Fin 3) (rs:List Rg),ws = [.d (.str (wdC k)),.d (rsD rs)] /\ ((COk (k,rs))) /\ Q (sdD (hiS (k,rs)))
theorem p_most_side.mono:∀ ws (Q Q':PyData -> Prop),(∀ d,Q d -> Q' d) -> p_most_side ws Q -> p_most_side ws Q':=fun _ _ _ h_=>Exists.imp fun _=>Exists.imp fun _=>And.imp_right (And.imp_right (h_ _))
theorem p_most_side.len:∀ ws (Q:PyData -> Prop),p_most_side ws Q -> ws.length = 2:=fun _ _ h_=>by obtain ⟨_,_,e_,_⟩:=h_; subst e_; rfl
theorem p_most_side.eq (k:Fin 3) (rs:List Rg) (hc:COk (k,rs)):p_most_side [.d (.str (wdC k)),.d (rsD rs)] = VL.ret (sdD (hiS (k,rs)):PyData):=by
  refine mo_ext fun Q=>⟨?_,fun q_=>⟨k,rs,rfl,hc,q_⟩⟩
  rintro ⟨k',rs',e_,_,q_⟩
  simp_arith only [fr_i,sdD_i,ptD_i,boxD_i,ptsQ_i,frs_i,wdC_i,rsD_i,clD_i] at e_
  obtain ⟨rfl,rfl⟩:=e_
  exact q_
theorem sc_most_side:FnScope ["word", "ranges"] ["word", "ranges"] (defScope (top 24)):=⟨rfl,rfl,rfl,by decide +kernel,rfl,by decide +kernel,by decide +kernel⟩
theorem d_most_side (Fn:FnIn K mg "most_side" (top 24) ["word", "ranges"]) (Z:Bz mg)    : Dfn P w K mg base rl "most_side" ["word", "ranges"] 1 p_most_side:=by
  have sc:=sc_most_side
  refine Dfn.of Fn sc (p_most_side.mono) (p_most_side.len) (fun cdv A outer s H E hr=>(vs_cons (vs_if (vb_cmp op_eq vo_eqS (nomark _) (vn 0) pv_str) (vs_one (vs_ret (v_tup (pvs_cons (vn 0) (pvs_cons (v_ix (v_ix (vn 1) pv_int) pv_int) pvs_nil))))) vs_nil)
      (vs_one (vs_ret (v_tup (pvs_cons (vn 0) (pvs_cons (v_ix (v_ix (vn 1) pv_int) pv_int) (pvs_cons (v_ix (v_ix (vn 1) pv_int) pv_int) pvs_nil)))))))) ?_
  rintro ws Q ⟨k,rs,rfl,hc,hQ⟩
  have w1:decide (Str.ofString "from" = Str.ofString "to") = false:=by decide +kernel
  have w2:decide (Str.ofString "round" = Str.ofString "to") = false:=by decide +kernel
  have w3:decide (Str.ofString "round" = Str.ofString "from") = false:=by decide +kernel
  have w4:decide (Str.ofString "to" = Str.ofString "to") = true:=by decide +kernel
  have w5:decide (Str.ofString "from" = Str.ofString "from") = true:=by decide +kernel
  refine read_of ?_
  obtain ⟨e,a,e2,⟨a1,a2,al,au⟩⟩ | ⟨e,a,b,e2,⟨a1,a2,al,au⟩,b1,b2,bl,bu⟩ | ⟨e,a,b,e2,⟨a1,a2,al,au⟩,b1,b2,bl,bu⟩:=hc
  · have e:k = 0:=e
    have e2:rs = [a]:=e2
    subst e e2
    rw [hi0] at hQ
    simp_arith only [grd_t,len_ok,BFR,w1,w2,w3,w4,w5,wd0,wd1,wd2,rs1,rs2]
    exact rt_end hQ
  · have e:k = 1:=e
    have e2:rs = [a,b]:=e2
    subst e e2
    rw [hi1] at hQ
    simp_arith only [grd_t,len_ok,BFR,w1,w2,w3,w4,w5,wd0,wd1,wd2,rs1,rs2]
    exact rt_end hQ
  · have e:k = 2:=e
    have e2:rs = [a,b]:=e2
    subst e e2
    rw [hi2] at hQ
    simp_arith only [grd_t,len_ok,BFR,w1,w2,w3,w4,w5,wd0,wd1,wd2,rs1,rs2]
    exact rt_end hQ
noncomputable def p__law_product:List W -> (PyData -> Prop) -> Prop:=fun ws Q=>∃ (q r:Rat),ws = [.d (fr q),.d (fr r)] /\ ((qSm 2000 q) /\ (qSm 2000 r)) /\ Q (fr (q * r))
theorem p__law_product.mono:∀ ws (Q Q':PyData -> Prop),(∀ d,Q d -> Q' d) -> p__law_product ws Q -> p__law_product ws Q':=fun _ _ _ h_=>Exists.imp fun _=>Exists.imp fun _=>And.imp_right (And.imp_right (h_ _))
theorem p__law_product.len:∀ ws (Q:PyData -> Prop),p__law_product ws Q -> ws.length = 2:=fun _ _ h_=>by obtain ⟨_,_,e_,_⟩:=h_; subst e_; rfl
theorem p__law_product.eq (q r:Rat) (h1:qSm 2000 q) (h2:qSm 2000 r):p__law_product [.d (fr q),.d (fr r)] = VL.ret (fr (q * r):PyData):=by
  refine mo_ext fun Q=>⟨?_,fun q_=>⟨q,r,rfl,⟨h1,h2⟩,q_⟩⟩
  rintro ⟨q',r',e_,_,q_⟩
  simp_arith only [fr_i,sdD_i,ptD_i,boxD_i,ptsQ_i,frs_i] at e_
  obtain ⟨rfl,rfl⟩:=e_
  exact q_
theorem sc__law_product:FnScope ["_law_one", "_law_other"] ["_law_one", "_law_other"] (defScope (top 37)):=⟨rfl,rfl,rfl,by decide +kernel,rfl,by decide +kernel,by decide +kernel⟩
theorem d__law_product (Fn:FnIn K mg "_law_product" (top 37) ["_law_one", "_law_other"]) (Z:Bz mg) (d__law_frac:∀ rl,Dfn P w K mg base rl "_law_frac" ["_law_top", "_law_bottom"] 1 p__law_frac)   : Dfn P w K mg base rl "_law_product" ["_law_one", "_law_other"] 2 p__law_product:=by
  have sc:=sc__law_product
  refine Dfn.of Fn sc (p__law_product.mono) (p__law_product.len) (fun cdv A outer s H E hr=>(vs_one (vs_ret (v_call (d__law_frac _) (hr.mono (by decide)) (pvs_cons (v_mul (v_ix (vn 0) pv_int) (v_ix (vn 1) pv_int)) (pvs_cons (v_mul (v_ix (vn 0) pv_int) (v_ix (vn 1) pv_int)) pvs_nil)))))) ?_
  rintro ws Q ⟨q,r,rfl,⟨h1,h2⟩,hQ⟩
  refine read_of ?_
  have m1:CMulB q.num r.num:=.bb h1.bn h2.bn
  have m2:CMulB (q.den:Int) (r.den:Int):=.bb h1.bd h2.bd
  have hb : 0 < (q.den:Int) * (r.den:Int):=den_pos q r
  have hz:((q.den:Int) * (r.den:Int)).natAbs < 2 ^ 8000:=by
    rw [Int.natAbs_mul,Int.natAbs_natCast,Int.natAbs_natCast]
    exact Nat.lt_of_lt_of_le (mul_lt_pow h1.2 h2.2) (Nat.pow_le_pow_right (by decide) (by decide))
  simp_arith only [grd_t,len_ok,BFR,p__law_frac.eq]
  rw [qd_mul]
  exact rt_end hQ
theorem cut_from {α:Type} (xs:List α) (f : α -> PyData) {k:Int} (h : 0 <= k):VL.cutD (xs.map f) (some k) none = (xs.drop k.toNat).map f:=by
  unfold VL.cutD
  rw [HT.sIx_none,sIx_int h,List.length_map,<- List.map_drop,<- List.map_take]
  congr 1
  by_cases z:k.toNat <= xs.length
  · rw [Nat.min_eq_left z,List.take_of_length_le (by rw [List.length_drop]; omega)]
  · rw [Nat.min_eq_right (by omega),List.drop_of_length_le (by omega),List.drop_of_length_le (by omega)]; simp
theorem cmQ_l1 (q r:Rat):decide (cmQ q r < 1) = !decide (r < q):=by
  unfold cmQ
  by_cases h:r < q
  · rw [if_pos h]; simp [h]
  · rw [if_neg h]; split <;> simp [h]
theorem cutT1 (x:PyData) (xs:List PyData):VL.cutD (x :: xs) (some 1) none = xs:=by
  have h:VL.cutD ((x :: xs).map id) (some 1) none = ((x :: xs).drop (1:Int).toNat).map id:=cut_from (x :: xs) id (by decide)
  rw [List.map_id,List.map_id] at h
  exact h
theorem qd_pos {x d:Int} (hd : 0 < d) (h : 0 < x) : 0 < qd x d:=by
  refine Rat.lt_of_le_of_ne (qd_nn hd (by omega)) fun e=>?_
  have:=qd_cross (a:=x) hd
  rw [<- e] at this
  simp at this
  omega
theorem qd_ng (x:Int) {d:Int}:qd (-x) d = -(qd x d):=by
  unfold qd
  rw [Rat.intCast_neg,Rat.div_def,Rat.div_def,Rat.neg_mul]
theorem qd_mx {x d:Int} (hd : 0 < d):qd (max 0 x) d = mx (qd x d) 0:=by
  unfold mx
  rcases Int.lt_trichotomy x 0 with h | h | h
  · have e:max 0 x = 0:=by omega
    have p:=qd_pos hd (show 0 < -x by omega)
    rw [qd_ng] at p
    have:qd x d < 0:=by grind
    rw [if_pos this,e]
    unfold qd; rw [Rat.div_def]; show (0:Rat) * _ = 0; rw [Rat.zero_mul]
  · subst h
    have e:qd 0 d = 0:=by unfold qd; rw [Rat.div_def]; show (0:Rat) * _ = 0; rw [Rat.zero_mul]
    rw [show max 0 (0:Int) = 0 from rfl,e,if_neg (by decide)]
  · have e:max 0 x = x:=by omega
    rw [e,if_neg (Rat.not_lt.mpr (Rat.le_of_lt (qd_pos hd h)))]
theorem qd_one {d:Int} (hd : 0 < d):qd d d = 1:=by
  unfold qd
  rw [Rat.div_def]
  exact Rat.mul_inv_cancel _ (by intro z; have e:d = 0:=by exact_mod_cast z
                                 omega)
theorem qd_ads (a b:Int) {d:Int} (h : 0 < d):qd (a + b) d = qd a d + qd b d:=by
  unfold qd
  rw [Rat.intCast_add,Rat.div_def,Rat.div_def,Rat.div_def,Rat.add_mul]
theorem qd_mn {x d:Int} (hd : 0 < d):qd (min d (d + x)) d = mn (1 + qd x d) 1:=by
  unfold mn
  by_cases h:x < 0
  · have p:=qd_pos hd (show 0 < -x by omega)
    rw [qd_ng] at p
    rw [show min d (d + x) = d + x by omega,qd_ads _ _ hd,qd_one hd,if_pos (by grind)]
  · have p:=qd_nn hd (show 0 <= x by omega)
    rw [show min d (d + x) = d by omega,qd_one hd,if_neg (by grind)]
theorem i2_at (x y z:PyData):atI [x,y,z] 2 = some z:=rfl
theorem i1_at (x y z:PyData):atI [x,y,z] 1 = some y:=rfl
noncomputable def p__law_lies:List W -> (PyData -> Prop) -> Prop:=fun ws Q=>∃ (x:Rat) (s:Sd),ws = [.d (fr x),.d (sdD s),.d (.int 0)] /\ ((qSm 2000 x) /\ (SmC s)) /\ Q (.bool (lyB s "half" x))
theorem p__law_lies.mono:∀ ws (Q Q':PyData -> Prop),(∀ d,Q d -> Q' d) -> p__law_lies ws Q -> p__law_lies ws Q':=fun _ _ _ h_=>Exists.imp fun _=>Exists.imp fun _=>And.imp_right (And.imp_right (h_ _))
theorem p__law_lies.len:∀ ws (Q:PyData -> Prop),p__law_lies ws Q -> ws.length = 3:=fun _ _ h_=>by obtain ⟨_,_,e_,_⟩:=h_; subst e_; rfl
theorem p__law_lies.eq (x:Rat) (s:Sd) (h1:qSm 2000 x) (hs:SmC s):p__law_lies [.d (fr x),.d (sdD s),.d (.int 0)] = VL.ret (.bool (lyB s "half" x):PyData):=by
  refine mo_ext fun Q=>⟨?_,fun q_=>⟨x,s,rfl,⟨h1,hs⟩,q_⟩⟩
  rintro ⟨x',s',e_,_,q_⟩
  simp_arith only [fr_i,sdD_i,ptD_i,boxD_i,ptsQ_i,frs_i] at e_
  obtain ⟨rfl,rfl,_⟩:=e_
  exact q_
theorem sc__law_lies:FnScope ["_law_x", "_law_side", "_law_way", "_law_ahead", "_law_behind"] ["_law_x", "_law_side", "_law_way"] (defScope (top 33)):=⟨rfl,rfl,rfl,by decide +kernel,rfl,by decide +kernel,by decide +kernel⟩
theorem d__law_lies (Fn:FnIn K mg "_law_lies" (top 33) ["_law_x", "_law_side", "_law_way"]) (Z:Bz mg) (d__law_cmp:∀ rl,Dfn P w K mg base rl "_law_cmp" ["_law_one", "_law_other"] 1 p__law_cmp)   : Dfn P w K mg base rl "_law_lies" ["_law_x", "_law_side", "_law_way"] 2 p__law_lies:=by
  have sc:=sc__law_lies
  refine Dfn.of Fn sc (p__law_lies.mono) (p__law_lies.len) (fun cdv A outer s H E hr=>(vs_cons (vs_setZ 3 sc.nd (v_cmp op_lt vo_lt (nomark _) (v_call (d__law_cmp _) (hr.mono (by decide)) (pvs_cons (vn 0) (pvs_cons (v_ix (vn 1) (v_sub (v_len Z.len_ (pvs_cons (vn 1) pvs_nil)) pv_int)) pvs_nil))) (v_int1 Z.int_ (pvs_cons (v_cmp (op_eqD hr.units) vo_eqD (nomark _) (vn 2) pv_int) pvs_nil))))
      (vs_cons (vs_if (vb_cmp (op_eqD hr.units) vo_eqD (nomark _) (v_ix (vn 1) pv_int) pv_str) (vs_one (vs_ret (vn 3))) vs_nil)
      (vs_cons (vs_setZ 4 sc.nd (v_cmp op_lt vo_lt (nomark _) (v_call (d__law_cmp _) (hr.mono (by decide)) (pvs_cons (v_ix (vn 1) pv_int) (pvs_cons (vn 0) pvs_nil))) (v_int1 Z.int_ (pvs_cons (v_cmp (op_neD hr.units) vo_eqD (nomark _) (vn 2) pv_int) pvs_nil))))
      (vs_one (vs_ret (v_ifExp (vb_cmp (op_eqD hr.units) vo_eqD (nomark _) (v_ix (vn 1) pv_int) pv_str) (v_and (vn 4) (v_one (vn 3))) (v_or (vn 4) (v_one (vn 3)))))))))) ?_
  rintro ws Q ⟨x,s,rfl,⟨h1,hs⟩,hQ⟩
  have w1:decide (Str.ofString "from" = Str.ofString "to") = false:=by decide +kernel
  have w2:decide (Str.ofString "round" = Str.ofString "to") = false:=by decide +kernel
  have w3:decide (Str.ofString "round" = Str.ofString "from") = false:=by decide +kernel
  have w4:decide (Str.ofString "to" = Str.ofString "to") = true:=by decide +kernel
  have w5:decide (Str.ofString "from" = Str.ofString "from") = true:=by decide +kernel
  have s1:SeqAt.shaped (PyData.str "to") = true:=by decide +kernel
  have s2:SeqAt.shaped (PyData.str "from") = true:=by decide +kernel
  have s3:SeqAt.shaped (PyData.str "round") = true:=by decide +kernel
  have hw1:decide (Str.ofString "half" = Str.ofString "shut") = false:=by decide +kernel
  have hw2:decide (Str.ofString "half" = Str.ofString "open") = false:=by decide +kernel
  have eqi:∀ i j:Int,PyData.eqv (.int i) (.int j) = (i == j):=fun i j=>by simp [PyData.eqv]
  refine read_of ?_
  obtain ⟨a1,a2⟩:=hs
  cases s with
  | to t =>
    have a2:qSm 2000 t:=a2
    simp_arith only [grd_t,len_ok,BFR,w1,w2,w3,w4,w5,sdD,eqi,eqv_sd,i2_at,i1_at,p__law_cmp.eqQ,cmQ_lt,cmQ_l1]
    try rw [show lyB _ _ _ = _ from rfl] at hQ
    simp only [lyB,gaB,Sd.last,Sd.first,hw1,hw2,Bool.false_eq_true,↓reduceIte,Bool.not_false,if_true] at hQ
    exact rt_end hQ
  | «from» a b =>
    have a1:qSm 2000 a:=a1
    have a2:qSm 2000 b:=a2
    simp_arith only [grd_t,len_ok,BFR,w1,w2,w3,w4,w5,sdD,eqi,eqv_sd,i2_at,i1_at,p__law_cmp.eqQ,cmQ_lt,cmQ_l1]
    try rw [show lyB _ _ _ = _ from rfl] at hQ
    simp only [lyB,gaB,Sd.last,Sd.first,hw1,hw2,Bool.false_eq_true,↓reduceIte,Bool.not_false,if_true] at hQ
    exact rt_end hQ
  | round a b =>
    have a1:qSm 2000 a:=a1
    have a2:qSm 2000 b:=a2
    simp_arith only [grd_t,len_ok,BFR,w1,w2,w3,w4,w5,sdD,eqi,eqv_sd,i2_at,i1_at,p__law_cmp.eqQ,cmQ_lt,cmQ_l1]
    try rw [show lyB _ _ _ = _ from rfl] at hQ
    simp only [lyB,gaB,Sd.last,Sd.first,hw1,hw2,Bool.false_eq_true,↓reduceIte,Bool.not_false,if_true] at hQ
    exact rt_end hQ
noncomputable def p__law_side_size:List W -> (PyData -> Prop) -> Prop:=fun ws Q=>∃ (s:Sd),ws = [.d (sdD s)] /\ ((SmC s)) /\ Q (fr (szQ s))
theorem p__law_side_size.mono:∀ ws (Q Q':PyData -> Prop),(∀ d,Q d -> Q' d) -> p__law_side_size ws Q -> p__law_side_size ws Q':=fun _ _ _ h_=>Exists.imp fun _=>And.imp_right (And.imp_right (h_ _))
theorem p__law_side_size.len:∀ ws (Q:PyData -> Prop),p__law_side_size ws Q -> ws.length = 1:=fun _ _ h_=>by obtain ⟨_,e_,_⟩:=h_; subst e_; rfl
theorem p__law_side_size.eq (s:Sd) (hs:SmC s):p__law_side_size [.d (sdD s)] = VL.ret (fr (szQ s):PyData):=by
  refine mo_ext fun Q=>⟨?_,fun q_=>⟨s,rfl,hs,q_⟩⟩
  rintro ⟨s',e_,_,q_⟩
  simp_arith only [fr_i,sdD_i,ptD_i,boxD_i,ptsQ_i,frs_i] at e_
  obtain rfl:=e_
  exact q_
theorem sc__law_side_size:FnScope ["_law_side", "_law_ends_here", "_law_bottom", "_law_more"] ["_law_side"] (defScope (top 34)):=⟨rfl,rfl,rfl,by decide +kernel,rfl,by decide +kernel,by decide +kernel⟩
theorem d__law_side_size (Fn:FnIn K mg "_law_side_size" (top 34) ["_law_side"]) (Z:Bz mg) (d__law_frac:∀ rl,Dfn P w K mg base rl "_law_frac" ["_law_top", "_law_bottom"] 1 p__law_frac)   : Dfn P w K mg base rl "_law_side_size" ["_law_side"] 2 p__law_side_size:=by
  have sc:=sc__law_side_size
  refine Dfn.of Fn sc (p__law_side_size.mono) (p__law_side_size.len) (fun cdv A outer s H E hr=>(vs_cons (vs_setcompZ 1 sc.nd ["_law_one"] [none] rfl (vi_tup (v_slA (vn 0) (vo_some pv_int) vo_none)) (fun _=>(vg_name 0 (show List.Nodup (["_law_one"]:List Str) by decide +kernel))) (fun _=>vt_nil) (fun _=>(v_ifExp (vb_cmp op_gt vo_gt (nomark _) (v_ix (vn 0) pv_int) pv_int) (vn 0) (v_tup (pvs_cons pv_int (pvs_cons pv_int pvs_nil))))))
      (vs_cons (vs_if (vb_cmp (op_eqD hr.units) vo_eqD (nomark _) (v_ix (vn 0) pv_int) pv_str) (vs_one (vs_ret (v_ix (vn 1) pv_int))) vs_nil)
      (vs_cons (vs_setZ 2 sc.nd (v_mul (v_ix (v_ix (vn 1) pv_int) pv_int) (v_ix (v_ix (vn 1) pv_int) pv_int)))
      (vs_cons (vs_setZ 3 sc.nd (v_sub (v_mul (v_ix (v_ix (vn 1) pv_int) pv_int) (v_ix (v_ix (vn 1) pv_int) pv_int)) (v_mul (v_ix (v_ix (vn 1) pv_int) pv_int) (v_ix (v_ix (vn 1) pv_int) pv_int))))
      (vs_cons (vs_if (vb_cmp (op_eqD hr.units) vo_eqD (nomark _) (v_ix (vn 0) pv_int) pv_str) (vs_one (vs_ret (v_call (d__law_frac _) (hr.mono (by decide)) (pvs_cons (v_max2 Z.max_ (pvs_cons pv_int (pvs_cons (vn 3) pvs_nil))) (pvs_cons (vn 2) pvs_nil))))) vs_nil)
      (vs_one (vs_ret (v_call (d__law_frac _) (hr.mono (by decide)) (pvs_cons (v_min2 Z.min_ (pvs_cons (vn 2) (pvs_cons (v_add (vn 2) (vn 3)) pvs_nil))) (pvs_cons (vn 2) pvs_nil))))))))))) ?_
  rintro ws Q ⟨s,rfl,hs,hQ⟩
  have w1:decide (Str.ofString "from" = Str.ofString "to") = false:=by decide +kernel
  have w2:decide (Str.ofString "round" = Str.ofString "to") = false:=by decide +kernel
  have w3:decide (Str.ofString "round" = Str.ofString "from") = false:=by decide +kernel
  have w4:decide (Str.ofString "to" = Str.ofString "to") = true:=by decide +kernel
  have w5:decide (Str.ofString "from" = Str.ofString "from") = true:=by decide +kernel
  have s1:SeqAt.shaped (PyData.str "to") = true:=by decide +kernel
  have s2:SeqAt.shaped (PyData.str "from") = true:=by decide +kernel
  have s3:SeqAt.shaped (PyData.str "round") = true:=by decide +kernel
  have hw1:decide (Str.ofString "half" = Str.ofString "shut") = false:=by decide +kernel
  have hw2:decide (Str.ofString "half" = Str.ofString "open") = false:=by decide +kernel
  have eqi:∀ i j:Int,PyData.eqv (.int i) (.int j) = (i == j):=fun i j=>by simp [PyData.eqv]
  refine read_of ?_
  have sz:=PySem.sizeLine_eq
  have mxe:∀ q:Rat,(if decide (0 < q.num) = true then fr q else PyData.tuple [.int 0,.int 1]) = fr (mx q 0):=fun q=>by
    unfold mx
    by_cases h : 0 < q.num
    · rw [if_pos (by simpa using h),if_neg]; exact Rat.not_lt.mpr (Rat.num_nonneg.mp (by omega))
    · rw [if_neg (by simpa using h)]
      by_cases h2:q < 0
      · rw [if_pos h2]; rfl
      · rw [if_neg h2]
        have h3:=Rat.num_nonneg.mpr (Rat.not_lt.mp h2)
        have e:q = 0:=Rat.num_eq_zero.mp (by omega)
        rw [e]; rfl
  obtain ⟨a1,a2⟩:=hs
  cases s with
  | to t =>
    simp_arith only [grd_t,len_ok,BFR,w1,w2,w3,w4,w5,sdD,cutT1]
    refine sqb (cmap_go (xs:=[t]) (enc:=fr) (fun q=>fr (mx q 0)) rfl ?_ (by simp; omega) ?_)
    · intro q mq
      simp_arith only [grd_t,len_ok,itM,BFR]
      rw [mxe q]
    · simp_arith only [grd_t,len_ok,BFR,w1,w2,w3,w4,w5,eqv_sd]
      exact rt_end hQ
  | «from» a b =>
    have a1:qSm 2000 a:=a1
    have a2:qSm 2000 b:=a2
    simp_arith only [grd_t,len_ok,BFR,w1,w2,w3,w4,w5,sdD,cutT1]
    refine sqb (cmap_go (xs:=[a,b]) (enc:=fr) (fun q=>fr (mx q 0)) rfl ?_ (by simp; omega) ?_)
    · intro q mq
      simp_arith only [grd_t,len_ok,itM,BFR]
      rw [mxe q]
    have x1:qSm 2000 (mx a 0):=mx_sm a1 (q0_1.mono (by decide))
    have x2:qSm 2000 (mx b 0):=mx_sm a2 (q0_1.mono (by decide))
    have n1:CMulB ((mx a 0).den:Int) ((mx b 0).den:Int):=.bb x1.bd x2.bd
    have n2:CMulB (mx b 0).num ((mx a 0).den:Int):=.bb x2.bn x1.bd
    have n3:CMulB (mx a 0).num ((mx b 0).den:Int):=.bb x1.bn x2.bd
    have hb : 0 < ((mx a 0).den:Int) * ((mx b 0).den:Int):=den_pos _ _
    have hz:(((mx a 0).den:Int) * ((mx b 0).den:Int)).natAbs < 2 ^ 8000:=by
      rw [Int.natAbs_mul,Int.natAbs_natCast,Int.natAbs_natCast]
      exact Nat.lt_of_lt_of_le (mul_lt_pow x1.2 x2.2) (Nat.pow_le_pow_right (by decide) (by decide))
    have ed:qd ((mx b 0).num * ((mx a 0).den:Int) - (mx a 0).num * ((mx b 0).den:Int)) (((mx a 0).den:Int) * ((mx b 0).den:Int)) = mx b 0 - mx a 0:=by rw [Int.mul_comm ((mx a 0).den:Int)]; exact qd_sub (mx b 0) (mx a 0)
    simp_arith only [grd_t,len_ok,BFR,w1,w2,w3,w4,w5,eqv_sd,p__law_frac.eq]
    rw [qd_mx hb,ed]
    exact rt_end hQ
  | round a b =>
    have a1:qSm 2000 a:=a1
    have a2:qSm 2000 b:=a2
    simp_arith only [grd_t,len_ok,BFR,w1,w2,w3,w4,w5,sdD,cutT1]
    refine sqb (cmap_go (xs:=[a,b]) (enc:=fr) (fun q=>fr (mx q 0)) rfl ?_ (by simp; omega) ?_)
    · intro q mq
      simp_arith only [grd_t,len_ok,itM,BFR]
      rw [mxe q]
    have x1:qSm 2000 (mx a 0):=mx_sm a1 (q0_1.mono (by decide))
    have x2:qSm 2000 (mx b 0):=mx_sm a2 (q0_1.mono (by decide))
    have n1:CMulB ((mx a 0).den:Int) ((mx b 0).den:Int):=.bb x1.bd x2.bd
    have n2:CMulB (mx b 0).num ((mx a 0).den:Int):=.bb x2.bn x1.bd
    have n3:CMulB (mx a 0).num ((mx b 0).den:Int):=.bb x1.bn x2.bd
    have hb : 0 < ((mx a 0).den:Int) * ((mx b 0).den:Int):=den_pos _ _
    have hz:(((mx a 0).den:Int) * ((mx b 0).den:Int)).natAbs < 2 ^ 8000:=by
      rw [Int.natAbs_mul,Int.natAbs_natCast,Int.natAbs_natCast]
      exact Nat.lt_of_lt_of_le (mul_lt_pow x1.2 x2.2) (Nat.pow_le_pow_right (by decide) (by decide))
    have ed:qd ((mx b 0).num * ((mx a 0).den:Int) - (mx a 0).num * ((mx b 0).den:Int)) (((mx a 0).den:Int) * ((mx b 0).den:Int)) = mx b 0 - mx a 0:=by rw [Int.mul_comm ((mx a 0).den:Int)]; exact qd_sub (mx b 0) (mx a 0)
    simp_arith only [grd_t,len_ok,BFR,w1,w2,w3,w4,w5,eqv_sd,p__law_frac.eq]
    rw [qd_mn hb,ed]
    exact rt_end hQ
noncomputable def p__law_ends:List W -> (PyData -> Prop) -> Prop:=fun ws Q=>∃ (k:Fin 3) (rs:List Rg),ws = [.d (.str (wdC k)),.d (rsD rs)] /\ ((COk (k,rs))) /\ Q (.tuple [sdD (loS (k,rs)),sdD (hiS (k,rs))])
theorem p__law_ends.mono:∀ ws (Q Q':PyData -> Prop),(∀ d,Q d -> Q' d) -> p__law_ends ws Q -> p__law_ends ws Q':=fun _ _ _ h_=>Exists.imp fun _=>Exists.imp fun _=>And.imp_right (And.imp_right (h_ _))
theorem p__law_ends.len:∀ ws (Q:PyData -> Prop),p__law_ends ws Q -> ws.length = 2:=fun _ _ h_=>by obtain ⟨_,_,e_,_⟩:=h_; subst e_; rfl
theorem p__law_ends.eq (k:Fin 3) (rs:List Rg) (hc:COk (k,rs)):p__law_ends [.d (.str (wdC k)),.d (rsD rs)] = VL.ret (.tuple [sdD (loS (k,rs)),sdD (hiS (k,rs))]:PyData):=by
  refine mo_ext fun Q=>⟨?_,fun q_=>⟨k,rs,rfl,hc,q_⟩⟩
  rintro ⟨k',rs',e_,_,q_⟩
  simp_arith only [fr_i,sdD_i,ptD_i,boxD_i,ptsQ_i,frs_i,wdC_i,rsD_i,clD_i] at e_
  obtain ⟨rfl,rfl⟩:=e_
  exact q_
theorem sc__law_ends:FnScope ["_law_word", "_law_ranges", "_law_low", "_law_high", "_law_first", "_law_last"] ["_law_word", "_law_ranges"] (defScope (top 36)):=⟨rfl,rfl,rfl,by decide +kernel,rfl,by decide +kernel,by decide +kernel⟩
theorem d__law_ends (Fn:FnIn K mg "_law_ends" (top 36) ["_law_word", "_law_ranges"]) (Z:Bz mg)    : Dfn P w K mg base rl "_law_ends" ["_law_word", "_law_ranges"] 1 p__law_ends:=by
  have sc:=sc__law_ends
  refine Dfn.of Fn sc (p__law_ends.mono) (p__law_ends.len) (fun cdv A outer s H E hr=>(vs_cons (vs_asg (v_ix (vn 1) pv_int) (vg_tup (n:=2) rfl (vgs_cons (vg_name 2 sc.nd) (vgs_cons (vg_name 3 sc.nd) vgs_nil))))
      (vs_cons (vs_if (vb_cmp op_eq vo_eqS (nomark _) (vn 0) pv_str) (vs_one (vs_ret (v_tup (pvs_cons (v_tup (pvs_cons (vn 0) (pvs_cons (vn 2) pvs_nil))) (pvs_cons (v_tup (pvs_cons (vn 0) (pvs_cons (vn 3) pvs_nil))) pvs_nil))))) vs_nil)
      (vs_cons (vs_asg (v_ix (vn 1) pv_int) (vg_tup (n:=2) rfl (vgs_cons (vg_name 4 sc.nd) (vgs_cons (vg_name 5 sc.nd) vgs_nil))))
      (vs_one (vs_ret (v_tup (pvs_cons (v_tup (pvs_cons (vn 0) (pvs_cons (vn 3) (pvs_cons (vn 4) pvs_nil)))) (pvs_cons (v_tup (pvs_cons (vn 0) (pvs_cons (vn 2) (pvs_cons (vn 5) pvs_nil)))) pvs_nil))))))))) ?_
  rintro ws Q ⟨k,rs,rfl,hc,hQ⟩
  have w1:decide (Str.ofString "from" = Str.ofString "to") = false:=by decide +kernel
  have w2:decide (Str.ofString "round" = Str.ofString "to") = false:=by decide +kernel
  have w3:decide (Str.ofString "round" = Str.ofString "from") = false:=by decide +kernel
  have w4:decide (Str.ofString "to" = Str.ofString "to") = true:=by decide +kernel
  have w5:decide (Str.ofString "from" = Str.ofString "from") = true:=by decide +kernel
  refine read_of ?_
  obtain ⟨e,a,e2,⟨a1,a2,al,au⟩⟩ | ⟨e,a,b,e2,⟨a1,a2,al,au⟩,b1,b2,bl,bu⟩ | ⟨e,a,b,e2,⟨a1,a2,al,au⟩,b1,b2,bl,bu⟩:=hc
  · have e:k = 0:=e
    have e2:rs = [a]:=e2
    subst e e2
    rw [lo0,hi0] at hQ
    simp_arith only [grd_t,len_ok,BFR,w1,w2,w3,w4,w5,wd0,wd1,wd2,rs1,rs2]
    exact rt_end hQ
  · have e:k = 1:=e
    have e2:rs = [a,b]:=e2
    subst e e2
    rw [lo1,hi1] at hQ
    simp_arith only [grd_t,len_ok,BFR,w1,w2,w3,w4,w5,wd0,wd1,wd2,rs1,rs2]
    exact rt_end hQ
  · have e:k = 2:=e
    have e2:rs = [a,b]:=e2
    subst e e2
    rw [lo2,hi2] at hQ
    simp_arith only [grd_t,len_ok,BFR,w1,w2,w3,w4,w5,wd0,wd1,wd2,rs1,rs2]
    exact rt_end hQ
theorem cmQ_g0 (q r:Rat):decide (cmQ q r <= 0) = !decide (r < q):=by
  rw [cmQ_le]
  by_cases h:r < q
  · simp [h]; exact Rat.not_le.mpr h
  · simp [h]; exact Rat.not_lt.mp h
theorem bl2 (x y:Bool):blsD [.bool x,.bool y] = some [x,y]:=rfl
theorem all2 (x y:Bool):[x,y].all id = (x && y):=by cases x <;> cases y <;> rfl
theorem any2 (x y:Bool):[x,y].any id = (x || y):=by cases x <;> cases y <;> rfl
theorem td_of {c:Ce} {x:Rat} {u v:Bool} (h1:lyB (loS c) "shut" x = u) (h2:lyB (hiS c) "open" x = v):tdI c x = if u = true then 2 else if v = true then 1 else 0:=by unfold tdI; rw [h1,h2]
theorem ly_s0 (t x:Rat):lyB (.to t) "shut" x = !decide (t < x):=by
  have hw1:decide (Str.ofString "shut" = Str.ofString "shut") = true:=by decide +kernel
  unfold lyB gaB
  simp [Sd.last,hw1]
  all_goals first | rfl | congr
theorem ly_o0 (t x:Rat):lyB (.to t) "open" x = decide (x < t):=by
  have hw1:decide (Str.ofString "open" = Str.ofString "shut") = false:=by decide +kernel
  unfold lyB gaB
  simp [Sd.last,hw1,Bool.false_eq_true]
  all_goals first | rfl | congr
theorem ly_s1 (a b x:Rat):lyB (.from a b) "shut" x = (!decide (x < a) && !decide (b < x)):=by
  have hw1:decide (Str.ofString "shut" = Str.ofString "shut") = true:=by decide +kernel
  have hw2:decide (Str.ofString "shut" = Str.ofString "open") = false:=by decide +kernel
  unfold lyB gaB
  simp [Sd.last,Sd.first,hw1,hw2,Bool.not_false]
  all_goals first | rfl | congr
theorem ly_o1 (a b x:Rat):lyB (.from a b) "open" x = (decide (a < x) && decide (x < b)):=by
  have hw1:decide (Str.ofString "open" = Str.ofString "shut") = false:=by decide +kernel
  have hw2:decide (Str.ofString "open" = Str.ofString "open") = true:=by decide +kernel
  unfold lyB gaB
  simp [Sd.last,Sd.first,hw1,hw2,Bool.not_true,Bool.false_eq_true]
  all_goals first | rfl | congr
theorem ly_s2 (a b x:Rat):lyB (.round a b) "shut" x = (!decide (x < a) || !decide (b < x)):=by
  have hw1:decide (Str.ofString "shut" = Str.ofString "shut") = true:=by decide +kernel
  have hw2:decide (Str.ofString "shut" = Str.ofString "open") = false:=by decide +kernel
  unfold lyB gaB
  simp [Sd.last,Sd.first,hw1,hw2,Bool.not_false]
  all_goals first | rfl | congr
theorem ly_o2 (a b x:Rat):lyB (.round a b) "open" x = (decide (a < x) || decide (x < b)):=by
  have hw1:decide (Str.ofString "open" = Str.ofString "shut") = false:=by decide +kernel
  have hw2:decide (Str.ofString "open" = Str.ofString "open") = true:=by decide +kernel
  unfold lyB gaB
  simp [Sd.last,Sd.first,hw1,hw2,Bool.not_true,Bool.false_eq_true]
  all_goals first | rfl | congr
noncomputable def p__law_side_told:List W -> (PyData -> Prop) -> Prop:=fun ws Q=>∃ (x:Rat) (k:Fin 3) (rs:List Rg),ws = [.d (fr x),.d (.str (wdC k)),.d (rsD rs)] /\ ((qSm 2000 x) /\ (COk (k,rs))) /\ Q (.int (tdI (k,rs) x))
theorem p__law_side_told.mono:∀ ws (Q Q':PyData -> Prop),(∀ d,Q d -> Q' d) -> p__law_side_told ws Q -> p__law_side_told ws Q':=fun _ _ _ h_=>Exists.imp fun _=>Exists.imp fun _=>Exists.imp fun _=>And.imp_right (And.imp_right (h_ _))
theorem p__law_side_told.len:∀ ws (Q:PyData -> Prop),p__law_side_told ws Q -> ws.length = 3:=fun _ _ h_=>by obtain ⟨_,_,_,e_,_⟩:=h_; subst e_; rfl
theorem p__law_side_told.eq (x:Rat) (k:Fin 3) (rs:List Rg) (h1:qSm 2000 x) (hc:COk (k,rs)):p__law_side_told [.d (fr x),.d (.str (wdC k)),.d (rsD rs)] = VL.ret (.int (tdI (k,rs) x):PyData):=by
  refine mo_ext fun Q=>⟨?_,fun q_=>⟨x,k,rs,rfl,⟨h1,hc⟩,q_⟩⟩
  rintro ⟨x',k',rs',e_,_,q_⟩
  simp_arith only [fr_i,sdD_i,ptD_i,boxD_i,ptsQ_i,frs_i,wdC_i,rsD_i,clD_i] at e_
  obtain ⟨rfl,rfl,rfl⟩:=e_
  exact q_
theorem sc__law_side_told:FnScope ["_law_x", "_law_word", "_law_ranges", "_law_low", "_law_high", "_law_sure", "_law_near", "_law_first", "_law_last"] ["_law_x", "_law_word", "_law_ranges"] (defScope (top 35)):=⟨rfl,rfl,rfl,by decide +kernel,rfl,by decide +kernel,by decide +kernel⟩
theorem d__law_side_told (Fn:FnIn K mg "_law_side_told" (top 35) ["_law_x", "_law_word", "_law_ranges"]) (Z:Bz mg) (d__law_cmp:∀ rl,Dfn P w K mg base rl "_law_cmp" ["_law_one", "_law_other"] 1 p__law_cmp)   : Dfn P w K mg base rl "_law_side_told" ["_law_x", "_law_word", "_law_ranges"] 2 p__law_side_told:=by
  have sc:=sc__law_side_told
  refine Dfn.of Fn sc (p__law_side_told.mono) (p__law_side_told.len) (fun cdv A outer s H E hr=>(vs_cons (vs_asg (v_ix (vn 2) pv_int) (vg_tup (n:=2) rfl (vgs_cons (vg_name 3 sc.nd) (vgs_cons (vg_name 4 sc.nd) vgs_nil))))
      (vs_cons (vs_if (vb_cmp op_eq vo_eqS (nomark _) (vn 1) pv_str) (vs_one (vs_par 5 6 rfl sc.nd (pvs_cons (v_cmp op_le vo_le (nomark _) (v_call (d__law_cmp _) (hr.mono (by decide)) (pvs_cons (vn 0) (pvs_cons (vn 3) pvs_nil))) pv_int) (pvs_cons (v_cmp op_lt vo_lt (nomark _) (v_call (d__law_cmp _) (hr.mono (by decide)) (pvs_cons (vn 0) (pvs_cons (vn 4) pvs_nil))) pv_int) pvs_nil)))) (vs_cons (vs_asg (v_ix (vn 2) pv_int) (vg_tup (n:=2) rfl (vgs_cons (vg_name 7 sc.nd) (vgs_cons (vg_name 8 sc.nd) vgs_nil))))
      (vs_cons (vs_setZ 5 sc.nd (v_lst (pvs_cons (v_cmp op_le vo_le (nomark _) (v_call (d__law_cmp _) (hr.mono (by decide)) (pvs_cons (vn 4) (pvs_cons (vn 0) pvs_nil))) pv_int) (pvs_cons (v_cmp op_le vo_le (nomark _) (v_call (d__law_cmp _) (hr.mono (by decide)) (pvs_cons (vn 0) (pvs_cons (vn 7) pvs_nil))) pv_int) pvs_nil))))
      (vs_cons (vs_setZ 6 sc.nd (v_lst (pvs_cons (v_cmp op_lt vo_lt (nomark _) (v_call (d__law_cmp _) (hr.mono (by decide)) (pvs_cons (vn 3) (pvs_cons (vn 0) pvs_nil))) pv_int) (pvs_cons (v_cmp op_lt vo_lt (nomark _) (v_call (d__law_cmp _) (hr.mono (by decide)) (pvs_cons (vn 0) (pvs_cons (vn 8) pvs_nil))) pv_int) pvs_nil))))
      (vs_cons (vs_setZ 5 sc.nd (v_ifExp (vb_cmp op_eq vo_eqS (nomark _) (vn 1) pv_str) (v_all Z.all_ (pvs_cons (vn 5) pvs_nil)) (v_any Z.any_ (pvs_cons (vn 5) pvs_nil))))
      (vs_one (vs_setZ 6 sc.nd (v_ifExp (vb_cmp op_eq vo_eqS (nomark _) (vn 1) pv_str) (v_all Z.all_ (pvs_cons (vn 6) pvs_nil)) (v_any Z.any_ (pvs_cons (vn 6) pvs_nil))))))))))
      (vs_one (vs_ret (v_ifExp (vb_val (vn 5)) pv_int (v_int1 Z.int_ (pvs_cons (vn 6) pvs_nil)))))))) ?_
  rintro ws Q ⟨x,k,rs,rfl,⟨h1,hc⟩,hQ⟩
  have w1:decide (Str.ofString "from" = Str.ofString "to") = false:=by decide +kernel
  have w2:decide (Str.ofString "round" = Str.ofString "to") = false:=by decide +kernel
  have w3:decide (Str.ofString "round" = Str.ofString "from") = false:=by decide +kernel
  have w4:decide (Str.ofString "to" = Str.ofString "to") = true:=by decide +kernel
  have w5:decide (Str.ofString "from" = Str.ofString "from") = true:=by decide +kernel
  refine read_of ?_
  obtain ⟨e,a,e2,⟨a1,a2,al,au⟩⟩ | ⟨e,a,b,e2,⟨a1,a2,al,au⟩,b1,b2,bl,bu⟩ | ⟨e,a,b,e2,⟨a1,a2,al,au⟩,b1,b2,bl,bu⟩:=hc
  · have e:k = 0:=e
    have e2:rs = [a]:=e2
    subst e e2
    have A1:qSm 2000 a.1:=a1.mono (by decide)
    have A2:qSm 2000 a.2:=a2.mono (by decide)
    rw [td_of (c:=(0,[a])) (ly_s0 a.1 x) (ly_o0 a.2 x)] at hQ
    simp_arith only [grd_t,len_ok,BFR,w1,w2,w3,w4,w5,wd0,wd1,wd2,rs1,rs2,p__law_cmp.eqQ,cmQ_lt,cmQ_g0,bl2,all2,any2]
    exact rt_end hQ
  · have e:k = 1:=e
    have e2:rs = [a,b]:=e2
    subst e e2
    have A1:qSm 2000 a.1:=a1.mono (by decide)
    have A2:qSm 2000 a.2:=a2.mono (by decide)
    have B1:qSm 2000 b.1:=b1.mono (by decide)
    have B2:qSm 2000 b.2:=b2.mono (by decide)
    rw [td_of (c:=(1,[a,b])) (ly_s1 a.2 b.1 x) (ly_o1 a.1 b.2 x)] at hQ
    simp_arith only [grd_t,len_ok,BFR,w1,w2,w3,w4,w5,wd0,wd1,wd2,rs1,rs2,p__law_cmp.eqQ,cmQ_lt,cmQ_g0,bl2,all2,any2]
    exact rt_end hQ
  · have e:k = 2:=e
    have e2:rs = [a,b]:=e2
    subst e e2
    have A1:qSm 2000 a.1:=a1.mono (by decide)
    have A2:qSm 2000 a.2:=a2.mono (by decide)
    have B1:qSm 2000 b.1:=b1.mono (by decide)
    have B2:qSm 2000 b.2:=b2.mono (by decide)
    rw [td_of (c:=(2,[a,b])) (ly_s2 a.2 b.1 x) (ly_o2 a.1 b.2 x)] at hQ
    simp_arith only [grd_t,len_ok,BFR,w1,w2,w3,w4,w5,wd0,wd1,wd2,rs1,rs2,p__law_cmp.eqQ,cmQ_lt,cmQ_g0,bl2,all2,any2]
    exact rt_end hQ
noncomputable def CsOk (n:Nat) (cs:List Ce):Prop:=cs.length = n /\ 1 <= n /\ n <= 4 /\ ∀ c ∈ cs,COk c
theorem smb_lo {c:Ce} (h:COk c):SmB (loS c):=by
  obtain ⟨k,rs⟩:=c
  obtain ⟨rfl,a,rfl,⟨a1,a2,al,au⟩⟩ | ⟨rfl,a,b,rfl,⟨a1,a2,al,au⟩,b1,b2,bl,bu⟩ | ⟨rfl,a,b,rfl,⟨a1,a2,al,au⟩,b1,b2,bl,bu⟩:=h
  · exact ⟨a1,a1⟩
  · exact ⟨a2,b1⟩
  · exact ⟨a2,b1⟩
theorem smb_hi {c:Ce} (h:COk c):SmB (hiS c):=by
  obtain ⟨k,rs⟩:=c
  obtain ⟨rfl,a,rfl,⟨a1,a2,al,au⟩⟩ | ⟨rfl,a,b,rfl,⟨a1,a2,al,au⟩,b1,b2,bl,bu⟩ | ⟨rfl,a,b,rfl,⟨a1,a2,al,au⟩,b1,b2,bl,bu⟩:=h
  · exact ⟨a2,a2⟩
  · exact ⟨a1,b2⟩
  · exact ⟨a1,b2⟩
theorem bx_lo {n:Nat} {cs:List Ce} (h:CsOk n cs):BxB (cs.map loS):=by
  obtain ⟨hl,h1,h4,hc⟩:=h
  refine ⟨by rw [List.length_map]; omega,by rw [List.length_map]; omega,fun s ms=>?_⟩
  obtain ⟨c,mc,rfl⟩:=List.mem_map.mp ms
  exact smb_lo (hc c mc)
theorem bx_hi {n:Nat} {cs:List Ce} (h:CsOk n cs):BxB (cs.map hiS):=by
  obtain ⟨hl,h1,h4,hc⟩:=h
  refine ⟨by rw [List.length_map]; omega,by rw [List.length_map]; omega,fun s ms=>?_⟩
  obtain ⟨c,mc,rfl⟩:=List.mem_map.mp ms
  exact smb_hi (hc c mc)
theorem box_lo (cs:List Ce):PyData.tuple (cs.map fun c=>sdD (loS c)) = boxD (cs.map loS):=by unfold boxD; rw [List.map_map]; rfl
theorem box_hi (cs:List Ce):PyData.tuple (cs.map fun c=>sdD (hiS c)) = boxD (cs.map hiS):=by unfold boxD; rw [List.map_map]; rfl
noncomputable def toldD (ps:List (List Rat)) (cs:List Ce):PyData:=.tuple [.int (cntN ps (cs.map loS) "shut"),.int ((cntN ps (cs.map hiS) "open" : Int) - (cntN ps (cs.map loS) "shut" : Int)),fr (sizeQ (cs.map loS)),fr (sizeQ (cs.map hiS))]
noncomputable def p_cell_told:List W -> (PyData -> Prop) -> Prop:=fun ws Q=>∃ (ps:List (List Rat)) (cs:List Ce),ws = [.d (ptsQ ps),.d (clD cs)] /\ ((IsPs cs.length ps) /\ (CsOk cs.length cs)) /\ Q (toldD ps cs)
theorem p_cell_told.mono:∀ ws (Q Q':PyData -> Prop),(∀ d,Q d -> Q' d) -> p_cell_told ws Q -> p_cell_told ws Q':=fun _ _ _ h_=>Exists.imp fun _=>Exists.imp fun _=>And.imp_right (And.imp_right (h_ _))
theorem p_cell_told.len:∀ ws (Q:PyData -> Prop),p_cell_told ws Q -> ws.length = 2:=fun _ _ h_=>by obtain ⟨_,_,e_,_⟩:=h_; subst e_; rfl
theorem p_cell_told.eq (ps:List (List Rat)) (cs:List Ce) (hp:IsPs cs.length ps) (hc:CsOk cs.length cs):p_cell_told [.d (ptsQ ps),.d (clD cs)] = VL.ret (toldD ps cs:PyData):=by
  refine mo_ext fun Q=>⟨?_,fun q_=>⟨ps,cs,rfl,⟨hp,hc⟩,q_⟩⟩
  rintro ⟨ps',cs',e_,_,q_⟩
  simp_arith only [fr_i,sdD_i,ptD_i,boxD_i,ptsQ_i,frs_i,wdC_i,rsD_i,clD_i] at e_
  obtain ⟨rfl,rfl⟩:=e_
  exact q_
theorem sc_cell_told:FnScope ["points", "cell", "least_box", "most_box", "sure", "perhaps"] ["points", "cell"] (defScope (top 25)):=⟨rfl,rfl,rfl,by decide +kernel,rfl,by decide +kernel,by decide +kernel⟩
theorem d_cell_told (Fn:FnIn K mg "cell_told" (top 25) ["points", "cell"]) (Z:Bz mg) (d_inside:∀ rl,Dfn P w K mg base rl "inside" ["points", "box", "way"] 5 p_inside) (d_size_of:∀ rl,Dfn P w K mg base rl "size_of" ["box"] 5 p_size_of) (d_least_side:∀ rl,Dfn P w K mg base rl "least_side" ["word", "ranges"] 1 p_least_side) (d_most_side:∀ rl,Dfn P w K mg base rl "most_side" ["word", "ranges"] 1 p_most_side)   : Dfn P w K mg base rl "cell_told" ["points", "cell"] 6 p_cell_told:=by
  have sc:=sc_cell_told
  refine Dfn.of Fn sc (p_cell_told.mono) (p_cell_told.len) (fun cdv A outer s H E hr=>(vs_cons (vs_setZ 2 sc.nd (v_tuple Z.tuple_ (pvs_cons (v_lcompR ["word", "ranges"] [none,none] rfl (vi_tup (vn 1)) (fun _=>(vg_tup (n:=2) rfl (vgs_cons (vg_name 0 (show List.Nodup (["word", "ranges"]:List Str) by decide +kernel)) (vgs_cons (vg_name 1 (show List.Nodup (["word", "ranges"]:List Str) by decide +kernel)) vgs_nil)))) (fun _=>vt_nil) (fun _=>(v_call (d_least_side _) (hr.mono (by decide)) (pvs_cons (vn 0) (pvs_cons (vn 1) pvs_nil))))) pvs_nil)))
      (vs_cons (vs_setZ 3 sc.nd (v_tuple Z.tuple_ (pvs_cons (v_lcompR ["word", "ranges"] [none,none] rfl (vi_tup (vn 1)) (fun _=>(vg_tup (n:=2) rfl (vgs_cons (vg_name 0 (show List.Nodup (["word", "ranges"]:List Str) by decide +kernel)) (vgs_cons (vg_name 1 (show List.Nodup (["word", "ranges"]:List Str) by decide +kernel)) vgs_nil)))) (fun _=>vt_nil) (fun _=>(v_call (d_most_side _) (hr.mono (by decide)) (pvs_cons (vn 0) (pvs_cons (vn 1) pvs_nil))))) pvs_nil)))
      (vs_cons (vs_setZ 4 sc.nd (v_call (d_inside _) (hr.mono (by decide)) (pvs_cons (vn 0) (pvs_cons (vn 2) (pvs_cons pv_str pvs_nil)))))
      (vs_cons (vs_setZ 5 sc.nd (v_sub (v_call (d_inside _) (hr.mono (by decide)) (pvs_cons (vn 0) (pvs_cons (vn 3) (pvs_cons pv_str pvs_nil)))) (vn 4)))
      (vs_one (vs_ret (v_tup (pvs_cons (vn 4) (pvs_cons (vn 5) (pvs_cons (v_call (d_size_of _) (hr.mono (by decide)) (pvs_cons (vn 2) pvs_nil)) (pvs_cons (v_call (d_size_of _) (hr.mono (by decide)) (pvs_cons (vn 3) pvs_nil)) pvs_nil)))))))))))) ?_
  rintro ws Q ⟨ps,cs,rfl,⟨hp,hc⟩,hQ⟩
  refine read_of ?_
  have sz:=PySem.sizeLine_eq
  have h4:=hc.2.2.1
  have bl:=bx_lo hc
  have bh:=bx_hi hc
  have hp1:IsPs (cs.map loS).length ps:=by rw [List.length_map]; exact hp
  have hp2:IsPs (cs.map hiS).length ps:=by rw [List.length_map]; exact hp
  have w1:isW "shut" := .inr (.inl rfl)
  have w2:isW "open" := .inr (.inr rfl)
  simp_arith only [grd_t,len_ok,BFR,clD]
  refine sqb (cmap_go (xs:=cs) (enc:=ceD) (fun c=>sdD (loS c)) rfl ?_ (by omega) ?_)
  · rintro ⟨k,rs⟩ mc
    have hk:=hc.2.2.2 _ mc
    simp_arith only [grd_t,len_ok,itM,BFR,ceD,p_least_side.eq]
  simp_arith only [grd_t,len_ok,BFR,box_lo]
  refine sqb (cmap_go (xs:=cs) (enc:=ceD) (fun c=>sdD (hiS c)) rfl ?_ (by omega) ?_)
  · rintro ⟨k,rs⟩ mc
    have hk:=hc.2.2.2 _ mc
    simp_arith only [grd_t,len_ok,itM,BFR,ceD,p_most_side.eq]
  simp_arith only [grd_t,len_ok,BFR,box_hi,p_inside.eq,p_size_of.eq]
  exact rt_end hQ
theorem sure_near {c:Ce} (h:COk c) {x:Rat} (hs:lyB (loS c) "shut" x = true):lyB (hiS c) "open" x = true:=by
  obtain ⟨k,rs⟩:=c
  obtain ⟨rfl,a,rfl,⟨a1,a2,al,au⟩⟩ | ⟨rfl,a,b,rfl,⟨a1,a2,al,au⟩,b1,b2,bl,bu⟩ | ⟨rfl,a,b,rfl,⟨a1,a2,al,au⟩,b1,b2,bl,bu⟩:=h
  · rw [lo0,ly_s0] at hs
    rw [hi0,ly_o0]
    simp at hs ⊢
    grind
  · rw [lo1,ly_s1] at hs
    rw [hi1,ly_o1]
    simp at hs ⊢
    grind
  · rw [lo2,ly_s2] at hs
    rw [hi2,ly_o2]
    simp at hs ⊢
    grind
theorem li_map (qs:List Rat) (cs:List Ce) (f:Ce -> Sd) (w:Str):liB qs (cs.map f) w = (qs.zip cs).all fun p=>lyB (f p.2) w p.1:=by
  unfold liB
  rw [List.zip_map_right,List.all_map]
  rfl
theorem mn_two {qs:List Rat} {cs:List Ce} {M:Int} (h:minOf ((qs.zip cs).map fun p=>tdI p.2 p.1) M):(M == 2) = liB qs (cs.map loS) "shut" := by
  rw [li_map]
  obtain ⟨hm,hl⟩:=h
  obtain ⟨p,mp,ep⟩:=List.mem_map.mp hm
  rw [Bool.eq_iff_iff,beq_iff_eq,List.all_eq_true]
  constructor
  · intro e q mq
    have:=hl _ (List.mem_map.mpr ⟨q,mq,rfl⟩)
    unfold tdI at this
    split at this
    · assumption
    · split at this <;> omega
  · intro e
    have:=e p mp
    unfold tdI at ep
    rw [if_pos this] at ep
    omega
theorem mn_one {qs:List Rat} {cs:List Ce} {M:Int} (hc:∀ c ∈ cs,COk c) (h:minOf ((qs.zip cs).map fun p=>tdI p.2 p.1) M):(M == 1) = (liB qs (cs.map hiS) "open" && !liB qs (cs.map loS) "shut"):=by
  rw [li_map,li_map]
  obtain ⟨hm,hl⟩:=h
  obtain ⟨p,mp,ep⟩:=List.mem_map.mp hm
  rw [Bool.eq_iff_iff,beq_iff_eq,Bool.and_eq_true,Bool.not_eq_true',List.all_eq_true,List.all_eq_false]
  constructor
  · intro e
    refine ⟨fun q mq=>?_,p,mp,?_⟩
    · have:=hl _ (List.mem_map.mpr ⟨q,mq,rfl⟩)
      unfold tdI at this
      split at this
      · exact sure_near (hc _ (List.of_mem_zip mq).2) (by assumption)
      · split at this
        · assumption
        · omega
    · intro z
      unfold tdI at ep
      rw [if_pos z] at ep
      omega
  · rintro ⟨e,q,mq,nq⟩
    have h1:=hl _ (List.mem_map.mpr ⟨q,mq,rfl⟩)
    have h2:=e p mp
    unfold tdI at ep h1
    rw [if_neg nq] at h1
    rw [if_pos h2] at ep
    split at h1 <;> split at ep <;> omega
theorem cnt_sn {ps:List (List Rat)} {p:List Rat} {ss:List Sd} {w:Str} {i:Nat} (hi:i < ps.length) (e:ps[i] = p):(cntN (ps.take (i + 1)) ss w:Int) = (cntN (ps.take i) ss w:Int) + (if liB p ss w = true then 1 else 0):=by
  unfold cntN
  rw [List.take_succ_eq_append_getElem hi,e]
  simp
  split <;> simp_all
theorem li_imp {qs:List Rat} {cs:List Ce} (hc:∀ c ∈ cs,COk c) (h:liB qs (cs.map loS) "shut" = true):liB qs (cs.map hiS) "open" = true:=by
  rw [li_map,List.all_eq_true] at h ⊢
  exact fun p mp=>sure_near (hc _ (List.of_mem_zip mp).2) (h p mp)
theorem sizeT {ss:List Sd} (h4:ss.length <= 4) (h:∀ s ∈ ss,SmB s):qSm 2000 (sizeQ ss):=by
  unfold sizeQ prodQ
  refine (prodB (ss.map szQ) 1 1 q1_1 fun q mq=>?_).mono (by rw [List.length_map]; omega)
  obtain ⟨s,ms,rfl⟩:=List.mem_map.mp mq
  exact szB (h s ms)
theorem ret_sq {A:Fl} {M:En -> Mo Fl} {K:Fl -> Prop} (h:sq (VL.ret A) M K):VL.ret A (fun a=>sq (fun Q=>Q a) M K):=h
theorem size_sn {ss:List Sd} {s:Sd}:sizeQ (ss ++ [s]) = sizeQ ss * szQ s:=by
  unfold sizeQ prodQ
  rw [List.map_append,List.foldl_append]
  rfl
noncomputable def p__law_cell_told:List W -> (PyData -> Prop) -> Prop:=fun ws Q=>∃ (ps:List (List Rat)) (cs:List Ce),ws = [.d (ptsQ ps),.d (clD cs)] /\ ((IsPs cs.length ps) /\ (CsOk cs.length cs)) /\ Q (toldD ps cs)
theorem p__law_cell_told.mono:∀ ws (Q Q':PyData -> Prop),(∀ d,Q d -> Q' d) -> p__law_cell_told ws Q -> p__law_cell_told ws Q':=fun _ _ _ h_=>Exists.imp fun _=>Exists.imp fun _=>And.imp_right (And.imp_right (h_ _))
theorem p__law_cell_told.len:∀ ws (Q:PyData -> Prop),p__law_cell_told ws Q -> ws.length = 2:=fun _ _ h_=>by obtain ⟨_,_,e_,_⟩:=h_; subst e_; rfl
theorem p__law_cell_told.eq (ps:List (List Rat)) (cs:List Ce) (hp:IsPs cs.length ps) (hc:CsOk cs.length cs):p__law_cell_told [.d (ptsQ ps),.d (clD cs)] = VL.ret (toldD ps cs:PyData):=by
  refine mo_ext fun Q=>⟨?_,fun q_=>⟨ps,cs,rfl,⟨hp,hc⟩,q_⟩⟩
  rintro ⟨ps',cs',e_,_,q_⟩
  simp_arith only [fr_i,sdD_i,ptD_i,boxD_i,ptsQ_i,frs_i,wdC_i,rsD_i,clD_i] at e_
  obtain ⟨rfl,rfl⟩:=e_
  exact q_
theorem sc__law_cell_told:FnScope ["_law_pts", "_law_cell_here", "_law_sure", "_law_near", "_law_point", "_law_kinds", "_law_least", "_law_most", "_law_word", "_law_ranges", "_law_small", "_law_great"] ["_law_pts", "_law_cell_here"] (defScope (top 38)):=⟨rfl,rfl,rfl,by decide +kernel,rfl,by decide +kernel,by decide +kernel⟩
theorem d__law_cell_told (Fn:FnIn K mg "_law_cell_told" (top 38) ["_law_pts", "_law_cell_here"]) (Z:Bz mg) (d__law_ends:∀ rl,Dfn P w K mg base rl "_law_ends" ["_law_word", "_law_ranges"] 1 p__law_ends) (d__law_product:∀ rl,Dfn P w K mg base rl "_law_product" ["_law_one", "_law_other"] 2 p__law_product) (d__law_side_told:∀ rl,Dfn P w K mg base rl "_law_side_told" ["_law_x", "_law_word", "_law_ranges"] 2 p__law_side_told) (d__law_side_size:∀ rl,Dfn P w K mg base rl "_law_side_size" ["_law_side"] 2 p__law_side_size)   : Dfn P w K mg base rl "_law_cell_told" ["_law_pts", "_law_cell_here"] 3 p__law_cell_told:=by
  have sc:=sc__law_cell_told
  refine Dfn.of Fn sc (p__law_cell_told.mono) (p__law_cell_told.len) (fun cdv A outer s H E hr=>(vs_cons (vs_asg (v_tup (pvs_cons pv_int (pvs_cons pv_int pvs_nil))) (vg_tup (n:=2) rfl (vgs_cons (vg_name 2 sc.nd) (vgs_cons (vg_name 3 sc.nd) vgs_nil))))
      (vs_cons (vs_forF [4,5] PassesOwn.never rfl (vi_tup (vn 0)) (vg_name 4 sc.nd) (vs_cons (vs_setcompZ 5 sc.nd ["_law_x", "_law_side"] [none,none] rfl (vi_zipTT Z.zip_ (pvs_cons (vn 4) (pvs_cons (vn 1) pvs_nil))) (fun _=>(vg_tup (n:=2) rfl (vgs_cons (vg_name 0 (show List.Nodup (["_law_x", "_law_side"]:List Str) by decide +kernel)) (vgs_cons (vg_name 1 (show List.Nodup (["_law_x", "_law_side"]:List Str) by decide +kernel)) vgs_nil)))) (fun _=>vt_nil) (fun _=>(v_call (d__law_side_told _) (hr.mono (by decide)) (pvs_cons (vn 0) (pvs_cons (v_ix (vn 1) pv_int) (pvs_cons (v_ix (vn 1) pv_int) pvs_nil))))))
      (vs_cons (vs_setZ 2 sc.nd (v_add (vn 2) (v_int1 Z.int_ (pvs_cons (v_cmp (op_eqD hr.units) vo_eqD (nomark _) (v_min Z.min_ (pvs_cons (vn 5) pvs_nil)) pv_int) pvs_nil))))
      (vs_one (vs_setZ 3 sc.nd (v_add (vn 3) (v_int1 Z.int_ (pvs_cons (v_cmp (op_eqD hr.units) vo_eqD (nomark _) (v_min Z.min_ (pvs_cons (vn 5) pvs_nil)) pv_int) pvs_nil))))))))
      (vs_cons (vs_asg (v_tup (pvs_cons (v_tup (pvs_cons pv_int (pvs_cons pv_int pvs_nil))) (pvs_cons (v_tup (pvs_cons pv_int (pvs_cons pv_int pvs_nil))) pvs_nil))) (vg_tup (n:=2) rfl (vgs_cons (vg_name 6 sc.nd) (vgs_cons (vg_name 7 sc.nd) vgs_nil))))
      (vs_cons (vs_forF [8,9,10,11] PassesOwn.never rfl (vi_tup (vn 1)) (vg_tup (n:=2) rfl (vgs_cons (vg_name 8 sc.nd) (vgs_cons (vg_name 9 sc.nd) vgs_nil))) (vs_cons (vs_asg (v_call (d__law_ends _) (hr.mono (by decide)) (pvs_cons (vn 8) (pvs_cons (vn 9) pvs_nil))) (vg_tup (n:=2) rfl (vgs_cons (vg_name 10 sc.nd) (vgs_cons (vg_name 11 sc.nd) vgs_nil))))
      (vs_cons (vs_setZ 6 sc.nd (v_call (d__law_product _) (hr.mono (by decide)) (pvs_cons (vn 6) (pvs_cons (v_call (d__law_side_size _) (hr.mono (by decide)) (pvs_cons (vn 10) pvs_nil)) pvs_nil))))
      (vs_one (vs_setZ 7 sc.nd (v_call (d__law_product _) (hr.mono (by decide)) (pvs_cons (vn 7) (pvs_cons (v_call (d__law_side_size _) (hr.mono (by decide)) (pvs_cons (vn 11) pvs_nil)) pvs_nil))))))))
      (vs_one (vs_ret (v_tup (pvs_cons (vn 2) (pvs_cons (vn 3) (pvs_cons (vn 6) (pvs_cons (vn 7) pvs_nil)))))))))))) ?_
  rintro ws Q ⟨ps,cs,rfl,⟨hp,hc⟩,hQ⟩
  refine read_of ?_
  have sz:=PySem.sizeLine_eq
  have h4:=hc.2.2.1
  have hcc:=hc.2.2.2
  have eqi:∀ i j:Int,PyData.eqv (.int i) (.int j) = (i == j):=fun i j=>by simp [PyData.eqv]
  simp_arith only [grd_t,len_ok,BFR]
  refine inv_go (xs:=ps) (enc:=ptD) (fun i ρ=>ρ = [some (.d (ptsQ ps)),some (.d (clD cs)),some (.d (.int (cntN (ps.take i) (cs.map loS) "shut"))),some (.d (.int ((cntN (ps.take i) (cs.map hiS) "open" : Int) - (cntN (ps.take i) (cs.map loS) "shut" : Int)))),none,none,none,none,none,none,none,none]) rfl rfl ?_ ?_
  · rintro i hi ρ rfl K hK
    obtain ⟨pl,pq⟩:=hp.2.2 _ (List.getElem_mem hi)
    have t1:=fun (ss:List Sd) (w:Str)=>cnt_sn (ss:=ss) (w:=w) hi rfl
    generalize ps[i] = p at pl pq t1 ⊢
    simp_arith only [grd_t,len_ok,BFR,clD]
    rw [zipD_map]
    refine sqb (cmap_go (xs:=p.zip cs) (fun z=>.int (tdI z.2 z.1)) rfl ?_ (by rw [List.length_zip]; omega) ?_)
    · rintro ⟨x,k,rs⟩ hm
      obtain ⟨mx,ms⟩:=List.of_mem_zip hm
      have x1:=(pq x mx).up
      have hk:=hcc _ ms
      simp_arith only [grd_t,len_ok,itM,BFR,ceD,p__law_side_told.eq]
    have e:(p.zip cs).map (fun z=>PyData.int (tdI z.2 z.1)) = ((p.zip cs).map fun z=>tdI z.2 z.1).map .int:=by rw [List.map_map]; rfl
    have n0 : 0 < (p.zip cs).length:=by rw [List.length_zip]; have:=hc.2.1; omega
    rw [e]
    have io:∀ ns:List Int,intsO (.list (ns.map .int)) = some ns:=fun ns=>intsO_of.mpr rfl
    simp_arith only [grd_t,len_ok]
    refine ret_sq ?_
    simp_arith only [grd_t,len_ok,m_gMinL,io,eqi]
    (with_reducible (first | refine any_step fun m1 hm1=>?_ | refine sqb_any fun m1 hm1=>?_))
    simp_arith only [grd_t,len_ok,m_gMinL,io,eqi]
    (with_reducible (first | refine any_step fun m2 hm2=>?_ | refine sqb_any fun m2 hm2=>?_))
    refine hK _ (lpS_nx ?_)
    have q1:=mn_two hm1
    have q2:=mn_one hcc hm2
    have q3:=fun h=>li_imp (qs:=p) hcc h
    have r1:=t1 (cs.map loS) "shut"
    have r2:=t1 (cs.map hiS) "open"
    rw [q1,q2,r1,r2]
    generalize liB p (cs.map loS) "shut" = u at q3 ⊢
    generalize liB p (cs.map hiS) "open" = v at q3 ⊢
    have z:∀ s n:Int,n - s + (if (v && !u) = true then 1 else 0) = n + (if v = true then 1 else 0) - (s + if u = true then 1 else 0):=fun s n=>by
      cases u <;> cases v <;> simp at q3 ⊢ <;> omega
    rw [z]
    rfl
  · rintro ρ rfl
    rw [List.take_of_length_le (Nat.le_refl _)]
    simp_arith only [grd_t,len_ok,BFR,clD]
    refine inv_go (xs:=cs) (enc:=ceD) (fun i ρ=>ρ = [some (.d (ptsQ ps)),some (.d (clD cs)),some (.d (.int (cntN ps (cs.map loS) "shut"))),some (.d (.int ((cntN ps (cs.map hiS) "open" : Int) - (cntN ps (cs.map loS) "shut" : Int)))),none,none,some (.d (fr (sizeQ ((cs.take i).map loS)))),some (.d (fr (sizeQ ((cs.take i).map hiS)))),none,none,none,none]) rfl rfl ?_ ?_
    · rintro i hi ρ rfl K hK
      have hk:=hcc _ (List.getElem_mem hi)
      have s1:qSm 2000 (sizeQ ((cs.take i).map loS)):=sizeT (by rw [List.length_map,List.length_take]; omega) fun s ms=>by
        obtain ⟨c,mc,rfl⟩:=List.mem_map.mp ms
        exact smb_lo (hcc c (List.mem_of_mem_take mc))
      have s2:qSm 2000 (sizeQ ((cs.take i).map hiS)):=sizeT (by rw [List.length_map,List.length_take]; omega) fun s ms=>by
        obtain ⟨c,mc,rfl⟩:=List.mem_map.mp ms
        exact smb_hi (hcc c (List.mem_of_mem_take mc))
      have g1:sizeQ ((cs.take (i + 1)).map loS) = sizeQ ((cs.take i).map loS) * szQ (loS cs[i]):=by rw [List.take_succ_eq_append_getElem hi,List.map_append]; exact size_sn
      have g2:sizeQ ((cs.take (i + 1)).map hiS) = sizeQ ((cs.take i).map hiS) * szQ (hiS cs[i]):=by rw [List.take_succ_eq_append_getElem hi,List.map_append]; exact size_sn
      generalize cs[i] = c at hk g1 g2 ⊢
      have x1:=smb_lo hk
      have x2:=smb_hi hk
      have y1:qSm 2000 (szQ (loS c)):=(szB x1).mono (by decide)
      have y2:qSm 2000 (szQ (hiS c)):=(szB x2).mono (by decide)
      have x1:SmC (loS c):=x1.up
      have x2:SmC (hiS c):=x2.up
      obtain ⟨k,rs⟩:=c
      simp_arith only [grd_t,len_ok,BFR,ceD,p__law_ends.eq,p__law_side_size.eq,p__law_product.eq]
      refine hK _ (lpS_nx ?_)
      rw [g1,g2]
      rfl
    · rintro ρ rfl
      rw [List.take_of_length_le (Nat.le_refl _)]
      simp_arith only [grd_t,len_ok]
      exact rt_end hQ
theorem gd200 {q:Rat} (h:Gd q):qSm 200 q:=h.1.mono (by decide)
theorem cmQ_e0 (q r:Rat):(cmQ q r == 0) = decide (q = r):=by
  unfold cmQ
  by_cases h:r < q
  · rw [if_pos h,show ((1:Int) == 0) = false from rfl,decide_eq_false]
    intro e
    rw [e] at h
    exact Rat.lt_irrefl h
  · rw [if_neg h]
    by_cases h2:q < r
    · rw [if_pos h2,show ((-1:Int) == 0) = false from rfl,decide_eq_false]
      intro e
      rw [e] at h2
      exact Rat.lt_irrefl h2
    · rw [if_neg h2,show ((0:Int) == 0) = true from rfl,decide_eq_true]
      exact Rat.le_antisymm (Rat.not_lt.mp h) (Rat.not_lt.mp h2)
theorem r11:ROk (-1,1):=⟨⟨by decide,by decide⟩,⟨by decide,by decide⟩,by decide,by decide⟩
theorem fr_m1:PyData.tuple [.int (-1),.int 1] = fr (-1):=rfl
theorem fr_h:PyData.tuple [.int (-1),.int 2] = fr (-1 / 2):=by
  have:(-1 / 2:Rat) = ⟨-1,2,by decide,by decide⟩:=by decide +kernel
  rw [this]; rfl
noncomputable def p__law_range:List W -> (PyData -> Prop) -> Prop:=fun ws Q=>∃ (qs:List Rat),ws = [.reel,.d (.list (qs.map fr))] /\ ((∀ q ∈ qs,Gd q) /\ (qs.length <= 8)) /\ ∀ r:Rg,(ROk r) -> Q (rgD r)
theorem p__law_range.mono:∀ ws (Q Q':PyData -> Prop),(∀ d,Q d -> Q' d) -> p__law_range ws Q -> p__law_range ws Q':=fun _ _ _ h_=>Exists.imp fun _=>And.imp_right (And.imp_right fun q_ o_ ho_=>h_ _ (q_ o_ ho_))
theorem p__law_range.len:∀ ws (Q:PyData -> Prop),p__law_range ws Q -> ws.length = 2:=fun _ _ h_=>by obtain ⟨_,e_,_⟩:=h_; subst e_; rfl
theorem p__law_range.eq (qs:List Rat) (hq:∀ q ∈ qs,Gd q) (hl:qs.length <= 8):p__law_range [.reel,.d (.list (qs.map fr))] = bnd (anyM fun r:Rg=>ROk r) fun r=>VL.ret (rgD r:PyData):=by
  refine mo_ext fun Q=>⟨?_,fun q_=>⟨qs,rfl,⟨hq,hl⟩,q_⟩⟩
  rintro ⟨qs',e_,_,q_⟩
  simp_arith only [fr_i,sdD_i,ptD_i,boxD_i,ptsQ_i,frs_i,frs_i2] at e_
  obtain rfl:=e_
  exact q_
theorem sc__law_range:FnScope ["_law_feed_here", "_law_numbers", "_law_great", "_law_pool", "_law_one", "_law_other"] ["_law_feed_here", "_law_numbers"] (defScope (top 39)):=⟨rfl,rfl,rfl,by decide +kernel,rfl,by decide +kernel,by decide +kernel⟩
theorem d__law_range (Fn:FnIn K mg "_law_range" (top 39) ["_law_feed_here", "_law_numbers"]) (Z:Bz mg) (d__law_frac:∀ rl,Dfn P w K mg base rl "_law_frac" ["_law_top", "_law_bottom"] 1 p__law_frac) (d__law_cmp:∀ rl,Dfn P w K mg base rl "_law_cmp" ["_law_one", "_law_other"] 1 p__law_cmp) (d__law_draw:∀ rl,Dfn P w K mg base rl "_law_draw" ["_law_feed_here", "_law_many"] 1 p__law_draw)   : Dfn P w K mg base rl "_law_range" ["_law_feed_here", "_law_numbers"] 2 p__law_range:=by
  have sc:=sc__law_range
  refine Dfn.of Fn sc (p__law_range.mono) (p__law_range.len) (fun cdv A outer s H E hr=>(vs_cons (vs_setZ 2 sc.nd (v_call (d__law_frac _) (hr.mono (by decide)) (pvs_cons (v_add (v_pow pv_int pv_int) (v_call (d__law_draw _) (hr.mono (by decide)) (pvs_cons (vn 0) (pvs_cons pv_int pvs_nil)))) (pvs_cons (v_add (v_pow pv_int pv_int) pv_int) pvs_nil))))
      (vs_cons (vs_setZ 3 sc.nd (v_catD (vn 1) (v_lst (pvs_cons (v_tup (pvs_cons (v_neg pv_int) (pvs_cons pv_int pvs_nil))) (pvs_cons (v_tup (pvs_cons (v_neg pv_int) (pvs_cons pv_int pvs_nil))) (pvs_cons (v_tup (pvs_cons pv_int (pvs_cons pv_int pvs_nil))) (pvs_cons (v_tup (pvs_cons pv_int (pvs_cons pv_int pvs_nil))) (pvs_cons (vn 2) (pvs_cons (v_call (d__law_frac _) (hr.mono (by decide)) (pvs_cons (v_add pv_int (v_call (d__law_draw _) (hr.mono (by decide)) (pvs_cons (vn 0) (pvs_cons pv_int pvs_nil)))) (pvs_cons pv_int pvs_nil))) pvs_nil)))))))))
      (vs_cons (vs_asgZ (v_lcompR ["_law_k", "_law_pool", "_law_feed_here"] [none,some 3,some 0] rfl (vi_range1 Z.range_ (pvs_cons pv_int pvs_nil)) (fun _=>(vg_name 0 (show List.Nodup (["_law_k", "_law_pool", "_law_feed_here"]:List Str) by decide +kernel))) (fun _=>vt_nil) (fun _=>(v_ix (vn 1) (v_call (d__law_draw _) (hr.mono (by decide)) (pvs_cons (vn 2) (pvs_cons (v_len Z.len_ (pvs_cons (vn 1) pvs_nil)) pvs_nil)))))) (vg_lst (n:=2) rfl (vgs_cons (vg_name 4 sc.nd) (vgs_cons (vg_name 5 sc.nd) vgs_nil))))
      (vs_cons (vs_if (vb_cmp (op_eqD hr.units) vo_eqD (nomark _) (v_call (d__law_cmp _) (hr.mono (by decide)) (pvs_cons (vn 4) (pvs_cons (vn 5) pvs_nil))) pv_int) (vs_one (vs_ret (v_tup (pvs_cons (v_tup (pvs_cons (v_neg pv_int) (pvs_cons pv_int pvs_nil))) (pvs_cons (v_tup (pvs_cons pv_int (pvs_cons pv_int pvs_nil))) pvs_nil))))) vs_nil)
      (vs_one (vs_ret (v_ifExp (vb_cmp op_lt vo_lt (nomark _) (v_call (d__law_cmp _) (hr.mono (by decide)) (pvs_cons (vn 4) (pvs_cons (vn 5) pvs_nil))) pv_int) (v_tup (pvs_cons (vn 4) (pvs_cons (vn 5) pvs_nil))) (v_tup (pvs_cons (vn 5) (pvs_cons (vn 4) pvs_nil))))))))))) ?_
  rintro ws Q ⟨qs,rfl,⟨hq,hl⟩,hQ⟩
  refine read_of ?_
  have sz:=PySem.sizeLine_eq
  have c58:CPow 10 58:=⟨by decide,by decide,by decide⟩
  have c59:CPow 10 59:=⟨by decide,by decide,by decide⟩
  have hb:(0:Int) < 10 ^ Int.toNat 59 + 3:=by decide
  have hz:((10:Int) ^ Int.toNat 59 + 3).natAbs < 2 ^ 8000:=Nat.lt_of_lt_of_le (show _ < 2 ^ 200 by decide) (Nat.pow_le_pow_right (by decide) (by decide))
  have hb2:(0:Int) < 12:=by decide
  have hz2:(12:Int).natAbs < 2 ^ 8000:=Nat.lt_of_lt_of_le (show _ < 2 ^ 200 by decide) (Nat.pow_le_pow_right (by decide) (by decide))
  simp_arith only [grd_t,len_ok,m_vRN,m_vRC,s_rput,asR_r,lenD_l,item_li,BFR,p__law_draw.eq,c58,c59]
  (with_reducible (first | refine any_step fun t ht=>?_ | refine sqb_any fun t ht=>?_))
  have e58:(10:Int) ^ Int.toNat 58 = 10 ^ 58:=rfl
  have e59:(10:Int) ^ Int.toNat 59 = 10 ^ 59:=rfl
  have sg:qSm 200 (qd (10 ^ Int.toNat 58 + t) (10 ^ Int.toNat 59 + 3)) /\ qd (10 ^ Int.toNat 58 + t) (10 ^ Int.toNat 59 + 3) <= 1:=⟨qd_sm hb (by omega) (by decide),Rat.le_of_lt (qd_lt1 hb (by omega))⟩
  simp_arith only [grd_t,len_ok,m_vRN,m_vRC,s_rput,asR_r,lenD_l,item_li,BFR,p__law_frac.eq,p__law_draw.eq]
  generalize qd (10 ^ Int.toNat 58 + t) (10 ^ Int.toNat 59 + 3) = g at sg ⊢
  (with_reducible (first | refine any_step fun u hu=>?_ | refine sqb_any fun u hu=>?_))
  have sh:qSm 200 (qd (1 + u) 12) /\ qd (1 + u) 12 <= 1:=⟨qd_sm hb2 (by omega) (by decide),Rat.le_of_lt (qd_lt1 hb2 (by omega))⟩
  simp_arith only [grd_t,len_ok,m_vRN,m_vRC,s_rput,asR_r,lenD_l,item_li,BFR,p__law_frac.eq,p__law_draw.eq,s_asgZ]
  generalize qd (1 + u) 12 = h at sh ⊢
  have epool:qs.map fr ++ [PyData.tuple [.int (-1),.int 1],PyData.tuple [.int (-1),.int 2],PyData.tuple [.int 0,.int 1],PyData.tuple [.int 1,.int 1],fr g,fr h] = (qs ++ [-1,-1 / 2,0,1,g,h]).map fr:=by
    rw [List.map_append,fr_m1,fr_h]; rfl
  rw [epool]
  have hpool:∀ q ∈ qs ++ [-1,-1 / 2,0,1,g,h],qSm 200 q /\ q <= 1:=fun q mq=>by
    rcases List.mem_append.mp mq with m | m
    · exact ⟨gd200 (hq q m),Rat.le_of_lt (hq q m).2.2⟩
    · simp only [List.mem_cons,List.not_mem_nil,or_false] at m
      rcases m with rfl | rfl | rfl | rfl | rfl | rfl
      · exact ⟨r11.1,by decide⟩
      · have:(-1 / 2:Rat) = ⟨-1,2,by decide,by decide⟩:=by decide +kernel
        rw [this]
        exact ⟨⟨by decide,by decide⟩,by decide⟩
      · exact ⟨q0_1.mono (by decide),by decide⟩
      · exact ⟨q1_1.mono (by decide),Rat.le_refl⟩
      · exact sg
      · exact sh
  have hpl : 1 <= (qs ++ [-1,-1 / 2,0,1,g,h]).length /\ (qs ++ [-1,-1 / 2,0,1,g,h]).length <= 14:=by simp; omega
  generalize qs ++ [-1,-1 / 2,0,1,g,h] = pool at hpool hpl ⊢
  refine sqb (canyR_go (fun d=>∃ q:Rat,(qSm 200 q /\ q <= 1) /\ d = fr q) ?_ (by show 2 <= sizeLine; omega) ?_)
  · intro j hj K hK
    have g1 : 0 < (pool.length:Int):=by omega
    have g2:(pool.length:Int) < 2 ^ 60:=by omega
    simp_arith only [grd_t,len_ok,itM,m_vRN,m_vRC,s_rput,asR_r,lenD_l,item_li,BFR,p__law_draw.eq]
    (with_reducible (first | refine any_step fun e he=>?_ | refine sqb_any fun e he=>?_))
    refine menuA_step (xs:=pool) (enc:=fr) (fun q=>qSm 200 q /\ q <= 1) rfl he.1 he.2 hpool fun q hq=>?_
    exact hK _ ⟨q,hq,rfl⟩
  · intro ds dl hd
    obtain ⟨xs,rfl,xl,hx⟩:=dec_list (enc:=fr) hd
    match xs,xl with
    | [x,y],_ =>
      have hx1:qSm 2000 x:=(hx x (by simp)).1.mono (by decide)
      have hy1:qSm 2000 y:=(hx y (by simp)).1.mono (by decide)
      simp_arith only [grd_t,len_ok,m_vRN,m_vRC,s_rput,asR_r,lenD_l,item_li,BFR,s_asgZ,p__law_cmp.eqQ,cmQ_lt,cmQ_e0]
      have x2:=hx x (by simp)
      have y2:=hx y (by simp)
      by_cases c1:x = y
      · rw [if_pos (by simpa using c1)]
        exact rt_end (hQ (-1,1) r11)
      · rw [if_neg (by simpa using c1)]
        by_cases c2:x < y
        · rw [if_pos (by simpa using c2)]
          exact rt_end (hQ (x,y) ⟨x2.1,y2.1,c2,y2.2⟩)
        · rw [if_neg (by simpa using c2)]
          exact rt_end (hQ (y,x) ⟨y2.1,x2.1,Rat.lt_of_le_of_ne (Rat.not_lt.mp c2) (Ne.symm c1),x2.2⟩)
noncomputable def dimP (ps:List (List Rat)):Nat:=(ps.headD []).length
theorem dim_of {s:Nat} {ps:List (List Rat)} (h:Pg s ps) (h1 : 1 <= ps.length):dimP ps = s:=by
  cases ps with
  | nil=>simp at h1
  | cons p ps=>exact (h p List.mem_cons_self).1
noncomputable def Pw (ps:List (List Rat)):Prop:=1 <= ps.length /\ ps.length <= 8 /\ Pg (dimP ps) ps /\ 1 <= dimP ps /\ dimP ps <= 4
theorem at_head {ps:List (List Rat)} (h : 1 <= ps.length):atI ps 0 = some (ps.headD []):=by
  cases ps with
  | nil=>simp at h
  | cons p l=>exact atI_nat (j:=0) rfl
noncomputable def colQ (ps:List (List Rat)) (j:Nat):List Rat:=ps.map fun p=>p.getD j 0
theorem col_gd {ps:List (List Rat)} {j:Nat} (hp:Pg (dimP ps) ps) (hj:j < dimP ps):∀ q ∈ colQ ps j,Gd q:=fun q mq=>by
  obtain ⟨p,mp,rfl⟩:=List.mem_map.mp mq
  obtain ⟨pl,pg⟩:=hp p mp
  have hj':j < p.length:=by omega
  have e:p.getD j 0 = p[j]:=by rw [List.getD_eq_getElem?_getD,List.getElem?_eq_getElem hj']; rfl
  show Gd (p.getD j 0)
  rw [e]
  exact pg _ (List.getElem_mem _)
theorem col_it {ps:List (List Rat)} {j:Nat} (hp:Pg (dimP ps) ps) (hj:j < dimP ps):∀ p ∈ ps,atI p (j:Int) = some (p.getD j 0):=fun p mp=>atI_nat (by
  have:=(hp p mp).1
  rw [List.getD_eq_getElem?_getD,List.getElem?_eq_getElem (by omega)]; rfl)
theorem k3:∀ f:Fin 3,f = 0 \/ f = 1 \/ f = 2:=by decide
noncomputable def p__law_cell:List W -> (PyData -> Prop) -> Prop:=fun ws Q=>∃ (ps:List (List Rat)),ws = [.reel,.d (ptsQ ps)] /\ ((Pw ps)) /\ ∀ cs:List Ce,(CsOk (dimP ps) cs) -> Q (clD cs)
theorem p__law_cell.mono:∀ ws (Q Q':PyData -> Prop),(∀ d,Q d -> Q' d) -> p__law_cell ws Q -> p__law_cell ws Q':=fun _ _ _ h_=>Exists.imp fun _=>And.imp_right (And.imp_right fun q_ o_ ho_=>h_ _ (q_ o_ ho_))
theorem p__law_cell.len:∀ ws (Q:PyData -> Prop),p__law_cell ws Q -> ws.length = 2:=fun _ _ h_=>by obtain ⟨_,e_,_⟩:=h_; subst e_; rfl
theorem p__law_cell.eq (ps:List (List Rat)) (hp:Pw ps):p__law_cell [.reel,.d (ptsQ ps)] = bnd (anyM fun cs:List Ce=>CsOk (dimP ps) cs) fun cs=>VL.ret (clD cs:PyData):=by
  refine mo_ext fun Q=>⟨?_,fun q_=>⟨ps,rfl,hp,q_⟩⟩
  rintro ⟨ps',e_,_,q_⟩
  simp_arith only [fr_i,sdD_i,ptD_i,boxD_i,ptsQ_i,frs_i] at e_
  obtain rfl:=e_
  exact q_
theorem sc__law_cell:FnScope ["_law_feed_here", "_law_pts", "_law_found", "_law_k", "_law_word", "_law_numbers"] ["_law_feed_here", "_law_pts"] (defScope (top 40)):=⟨rfl,rfl,rfl,by decide +kernel,rfl,by decide +kernel,by decide +kernel⟩
theorem d__law_cell (Fn:FnIn K mg "_law_cell" (top 40) ["_law_feed_here", "_law_pts"]) (Z:Bz mg) (d__law_draw:∀ rl,Dfn P w K mg base rl "_law_draw" ["_law_feed_here", "_law_many"] 1 p__law_draw) (d__law_range:∀ rl,Dfn P w K mg base rl "_law_range" ["_law_feed_here", "_law_numbers"] 2 p__law_range)   : Dfn P w K mg base rl "_law_cell" ["_law_feed_here", "_law_pts"] 3 p__law_cell:=by
  have sc:=sc__law_cell
  refine Dfn.of Fn sc (p__law_cell.mono) (p__law_cell.len) (fun cdv A outer s H E hr=>(vs_cons (vs_set 2 sc.nd (v_lst pvs_nil))
      (vs_cons (vs_forF [3,4,5] PassesOwn.never rfl (vi_range1 Z.range_ (pvs_cons (v_len Z.len_ (pvs_cons (v_ix (vn 1) pv_int) pvs_nil)) pvs_nil)) (vg_name 3 sc.nd) (vs_cons (vs_setZ 4 sc.nd (v_ix (v_lst (pvs_cons pv_str (pvs_cons pv_str (pvs_cons pv_str pvs_nil)))) (v_call (d__law_draw _) (hr.mono (by decide)) (pvs_cons (vn 0) (pvs_cons pv_int pvs_nil)))))
      (vs_cons (vs_setcompZ 5 sc.nd ["_law_point", "_law_k"] [none,some 3] rfl (vi_tup (vn 1)) (fun _=>(vg_name 0 (show List.Nodup (["_law_point", "_law_k"]:List Str) by decide +kernel))) (fun _=>vt_nil) (fun _=>(v_ix (vn 0) (vn 1))))
      (vs_one (vs_app 2 (pvs_cons (v_tup (pvs_cons (vn 4) (pvs_cons (v_tuple Z.tuple_ (pvs_cons (v_lcompR ["_law_j", "_law_feed_here", "_law_numbers"] [none,some 0,some 5] rfl (vi_range1 Z.range_ (pvs_cons (v_add pv_int (v_int1 Z.int_ (pvs_cons (v_cmp op_ne vo_neS (nomark _) (vn 4) pv_str) pvs_nil))) pvs_nil)) (fun _=>(vg_name 0 (show List.Nodup (["_law_j", "_law_feed_here", "_law_numbers"]:List Str) by decide +kernel))) (fun _=>vt_nil) (fun _=>(v_call (d__law_range _) (hr.mono (by decide)) (pvs_cons (vn 1) (pvs_cons (vn 2) pvs_nil))))) pvs_nil)) pvs_nil))) pvs_nil))))))
      (vs_one (vs_ret (v_tuple Z.tuple_ (pvs_cons (vn 2) pvs_nil))))))) ?_
  rintro ws Q ⟨ps,rfl,hp,hQ⟩
  have w1:decide (Str.ofString "from" = Str.ofString "to") = false:=by decide +kernel
  have w2:decide (Str.ofString "round" = Str.ofString "to") = false:=by decide +kernel
  have w3:decide (Str.ofString "round" = Str.ofString "from") = false:=by decide +kernel
  have w4:decide (Str.ofString "to" = Str.ofString "to") = true:=by decide +kernel
  have w5:decide (Str.ofString "from" = Str.ofString "from") = true:=by decide +kernel
  refine read_of ?_
  have sz:=PySem.sizeLine_eq
  obtain ⟨h1,h8,hg,d1,d4⟩:=hp
  have hn0:decide (Str.ofString "to" = Str.ofString "to") = true:=by decide +kernel
  have hn1:decide (Str.ofString "from" = Str.ofString "to") = false:=by decide +kernel
  have hn2:decide (Str.ofString "round" = Str.ofString "to") = false:=by decide +kernel
  have eqi2:True:=trivial
  have e0:=at_head h1
  have ed:(ps.headD []).length = dimP ps:=rfl
  simp_arith only [grd_t,len_ok,m_vRN,m_vRC,s_rput,asR_r,lenD_l,item_li,BFR,e0,ed]
  refine invR_go (fun i ρ=>∃ cs:List Ce,cs.length = i /\ (∀ c ∈ cs,COk c) /\ ρ = [some .reel,some (.d (ptsQ ps)),some (.ml (cs.map ceD)),none,none,none]) ⟨[],rfl,by simp,rfl⟩ ?_ ?_
  · rintro i hi ρ ⟨cs,cl,hcs,rfl⟩ K hK
    simp_arith only [grd_t,len_ok,m_vRN,m_vRC,s_rput,asR_r,lenD_l,item_li,BFR,p__law_draw.eq]
    (with_reducible (first | refine any_step fun b hb=>?_ | refine sqb_any fun b hb=>?_))
    refine sqo (menuA_step (xs:=[0,1,2]) (enc:=fun f:Fin 3=>PyData.str (wdC f)) (fun _=>True) rfl hb.1 (by simpa using hb.2) (by simp) fun f _=>?_)
    simp_arith only [grd_t,len_ok,m_vRN,m_vRC,s_rput,asR_r,lenD_l,item_li,BFR]
    refine sqb (cmap_go (xs:=ps) (enc:=ptD) (fun p=>fr (p.getD i 0)) rfl ?_ (by omega) ?_)
    · intro p mp
      have e:=col_it hg (by omega) p mp
      rw [<- Int.zero_add (i:Int)] at e
      simp_arith only [grd_t,len_ok,itM,BFR,e]
    have e1:ps.map (fun p=>fr (p.getD i 0)) = (colQ ps i).map fr:=by unfold colQ; rw [List.map_map]; rfl
    have cg:=col_gd hg (show i < dimP ps by omega)
    have c8:(colQ ps i).length <= 8:=by unfold colQ; rw [List.length_map]; omega
    rw [e1]
    generalize colQ ps i = qs at cg c8 ⊢
    have fin:∀ (k:Fin 3) (rs:List Rg) ρ,COk (k,rs) -> fo [3,4,5] ρ = [some .reel,some (.d (ptsQ ps)),some (.ml (cs.map ceD ++ [ceD (k,rs)])),none,none,none] -> K (.nx ρ):=fun k rs ρ hk e=>hK _ (lpS_nx ⟨cs ++ [(k,rs)],by simp [cl],fun c mc=>by
      rcases List.mem_append.mp mc with m | m
      · exact hcs c m
      · cases List.mem_singleton.mp m; exact hk,by rw [e,List.map_append]; rfl⟩)
    obtain rfl | rfl | rfl:=k3 f
    · simp_arith only [grd_t,len_ok,m_vRN,m_vRC,s_rput,asR_r,lenD_l,item_li,w1,w2,w3,w4,w5,wd0,wd1,wd2,rs1,rs2,hn0,hn1,hn2]
      refine canyR_go (fun d=>∃ r:Rg,ROk r /\ d = rgD r) ?_ (by show 1 <= sizeLine; omega) ?_
      · intro j hj K2 hK2
        simp_arith only [grd_t,len_ok,itM,m_vRN,m_vRC,s_rput,asR_r,lenD_l,item_li,p__law_range.eq]
        (with_reducible (first | refine any_step fun r hr=>?_ | refine sqb_any fun r hr=>?_))
        exact hK2 _ ⟨r,hr,rfl⟩
      · intro ds dl hd
        obtain ⟨rs,rfl,rl,hr⟩:=dec_list (enc:=rgD) hd
        have dl:(rs.map rgD).length = 1:=dl
        rw [List.length_map] at dl
        match rs,dl with
        | [r],_=>exact fin 0 [r] _ (.inl ⟨rfl,r,rfl,hr r (by simp)⟩) rfl
    · simp_arith only [grd_t,len_ok,m_vRN,m_vRC,s_rput,asR_r,lenD_l,item_li,w1,w2,w3,w4,w5,wd0,wd1,wd2,rs1,rs2,hn0,hn1,hn2]
      refine canyR_go (fun d=>∃ r:Rg,ROk r /\ d = rgD r) ?_ (by show 2 <= sizeLine; omega) ?_
      · intro j hj K2 hK2
        simp_arith only [grd_t,len_ok,itM,m_vRN,m_vRC,s_rput,asR_r,lenD_l,item_li,p__law_range.eq]
        (with_reducible (first | refine any_step fun r hr=>?_ | refine sqb_any fun r hr=>?_))
        exact hK2 _ ⟨r,hr,rfl⟩
      · intro ds dl hd
        obtain ⟨rs,rfl,rl,hr⟩:=dec_list (enc:=rgD) hd
        have dl:(rs.map rgD).length = 2:=dl
        rw [List.length_map] at dl
        match rs,dl with
        | [r,r2],_=>exact fin 1 [r,r2] _ (.inr (.inl ⟨rfl,r,r2,rfl,hr r (by simp),hr r2 (by simp)⟩)) rfl
    · simp_arith only [grd_t,len_ok,m_vRN,m_vRC,s_rput,asR_r,lenD_l,item_li,w1,w2,w3,w4,w5,wd0,wd1,wd2,rs1,rs2,hn0,hn1,hn2]
      refine canyR_go (fun d=>∃ r:Rg,ROk r /\ d = rgD r) ?_ (by show 2 <= sizeLine; omega) ?_
      · intro j hj K2 hK2
        simp_arith only [grd_t,len_ok,itM,m_vRN,m_vRC,s_rput,asR_r,lenD_l,item_li,p__law_range.eq]
        (with_reducible (first | refine any_step fun r hr=>?_ | refine sqb_any fun r hr=>?_))
        exact hK2 _ ⟨r,hr,rfl⟩
      · intro ds dl hd
        obtain ⟨rs,rfl,rl,hr⟩:=dec_list (enc:=rgD) hd
        have dl:(rs.map rgD).length = 2:=dl
        rw [List.length_map] at dl
        match rs,dl with
        | [r,r2],_=>exact fin 2 [r,r2] _ (.inr (.inr ⟨rfl,r,r2,rfl,hr r (by simp),hr r2 (by simp)⟩)) rfl
  · rintro ρ ⟨cs,cl,hcs,rfl⟩
    have ls:cs.length <= sizeLine:=by omega
    simp_arith only [grd_t,len_ok,BFR,tup_of]
    exact rt_end (hQ cs ⟨cl,d1,d4,hcs⟩)
noncomputable def IB (r:Rg) (t:Rat):Prop:=qSm 405 t /\ r.1 < t /\ t <= r.2
noncomputable def InC (c:Ce) (s:Sd):Prop:=(c.1 = 0 /\ ∃ a t,c.2 = [a] /\ s = .to t /\ IB a t) \/ (c.1 = 1 /\ ∃ a b x y,c.2 = [a,b] /\ s = .from x y /\ IB a x /\ IB b y) \/ (c.1 = 2 /\ ∃ a b x y,c.2 = [a,b] /\ s = .round x y /\ IB a x /\ IB b y)
noncomputable def Bet (cs:List Ce) (ss:List Sd):Prop:=ss.length = cs.length /\ ∀ p ∈ cs.zip ss,InC p.1 p.2
theorem den_ne (q:Rat):((q.den:Int):Rat) ≠ 0:=fun e=>by
  have z:(q.den:Int) = 0:=by exact_mod_cast e
  have:=q.den_pos
  omega
theorem pt_of {a b:Rat} {p:Int} (ha:qSm 200 a) (hb:qSm 200 b) (hp : 1 <= p /\ p <= 4) (hab:a < b) (hd : 0 < 4 * (a.den:Int) * (b.den:Int)):IB (a,b) (qd (a.num * (b.den:Int) * (4 - p) + b.num * (a.den:Int) * p) (4 * (a.den:Int) * (b.den:Int))):=by
  have k1:(a.num * (b.den:Int)).natAbs < 2 ^ 400:=by rw [Int.natAbs_mul,Int.natAbs_natCast]; exact Nat.lt_of_lt_of_le (mul_lt_pow ha.1 hb.2) (Nat.pow_le_pow_right (by decide) (by decide))
  have k2:(b.num * (a.den:Int)).natAbs < 2 ^ 400:=by rw [Int.natAbs_mul,Int.natAbs_natCast]; exact Nat.lt_of_lt_of_le (mul_lt_pow hb.1 ha.2) (Nat.pow_le_pow_right (by decide) (by decide))
  have k3:((a.den:Int) * (b.den:Int)).natAbs < 2 ^ 400:=by rw [Int.natAbs_mul,Int.natAbs_natCast,Int.natAbs_natCast]; exact Nat.lt_of_lt_of_le (mul_lt_pow ha.2 hb.2) (Nat.pow_le_pow_right (by decide) (by decide))
  have e4 : 4 * (a.den:Int) * (b.den:Int) = 4 * ((a.den:Int) * (b.den:Int)):=by rw [Int.mul_assoc]
  have sm:qSm 405 (qd (a.num * (b.den:Int) * (4 - p) + b.num * (a.den:Int) * p) (4 * (a.den:Int) * (b.den:Int))):=by
    refine qd_sm hd ?_ (by rw [e4]; omega)
    obtain rfl | rfl | rfl | rfl:p = 1 \/ p = 2 \/ p = 3 \/ p = 4:=by omega
    all_goals omega
  have n1:=den_ne a
  have n2:=den_ne b
  have ra:(a.num:Rat) = a * ((a.den:Int):Rat):=by have:=qd_self a; unfold qd at this; grind
  have rb:(b.num:Rat) = b * ((b.den:Int):Rat):=by have:=qd_self b; unfold qd at this; grind
  have key : 4 * qd (a.num * (b.den:Int) * (4 - p) + b.num * (a.den:Int) * p) (4 * (a.den:Int) * (b.den:Int)) = a * (4 - (p:Rat)) + b * (p:Rat):=by
    unfold qd
    simp only [Rat.intCast_add,Rat.intCast_mul,Rat.intCast_sub,Rat.intCast_ofNat]
    rw [ra,rb]
    generalize ((a.den:Int):Rat) = u at n1 ⊢
    generalize ((b.den:Int):Rat) = v at n2 ⊢
    generalize (p:Rat) = r
    clear ra rb
    grind
  refine ⟨sm,?_⟩
  generalize qd (a.num * (b.den:Int) * (4 - p) + b.num * (a.den:Int) * p) (4 * (a.den:Int) * (b.den:Int)) = q at key ⊢
  obtain rfl | rfl | rfl | rfl:p = 1 \/ p = 2 \/ p = 3 \/ p = 4:=by omega
  all_goals simp only [Rat.intCast_ofNat] at key
  all_goals constructor <;> grind
theorem zip_sn {α β:Type} {P : α × β -> Prop} {xs:List α} {ys:List β} {i:Nat} {y : β} (hi:i < xs.length) (hl:ys.length = i) (h:∀ p ∈ (xs.take i).zip ys,P p) (hy:P (xs[i],y)):∀ p ∈ (xs.take (i + 1)).zip (ys ++ [y]),P p:=fun p mp=>by
  rw [List.take_succ_eq_append_getElem hi,List.zip_append (by rw [List.length_take]; omega)] at mp
  rcases List.mem_append.mp mp with m | m
  · exact h p m
  · cases List.mem_singleton.mp m; exact hy
theorem inC_of {c:Ce} {ts:List Rat} (hc:COk c) (hl:ts.length = c.2.length) (h:∀ p ∈ c.2.zip ts,IB p.1 p.2):∃ s,InC c s /\ PyData.tuple (PyData.str (wdC c.1) :: ts.map fr) = sdD s:=by
  obtain ⟨k,rs⟩:=c
  obtain ⟨rfl,a,rfl,ha⟩ | ⟨rfl,a,b,rfl,ha,hb⟩ | ⟨rfl,a,b,rfl,ha,hb⟩:=hc
  · match ts,hl with
    | [t],_=>exact ⟨.to t,.inl ⟨rfl,a,t,rfl,rfl,h (a,t) (by simp)⟩,rfl⟩
  · match ts,hl with
    | [x,y],_=>exact ⟨.from x y,.inr (.inl ⟨rfl,a,b,x,y,rfl,rfl,h (a,x) (by simp),h (b,y) (by simp)⟩),rfl⟩
  · match ts,hl with
    | [x,y],_=>exact ⟨.round x y,.inr (.inr ⟨rfl,a,b,x,y,rfl,rfl,h (a,x) (by simp),h (b,y) (by simp)⟩),rfl⟩
theorem rok_of {c:Ce} (hc:COk c):c.2.length <= 2 /\ ∀ r ∈ c.2,ROk r:=by
  obtain ⟨k,rs⟩:=c
  obtain ⟨rfl,a,rfl,ha⟩ | ⟨rfl,a,b,rfl,ha,hb⟩ | ⟨rfl,a,b,rfl,ha,hb⟩:=hc
  · exact ⟨by simp,by simpa using ha⟩
  · exact ⟨by simp,by simpa using ⟨ha,hb⟩⟩
  · exact ⟨by simp,by simpa using ⟨ha,hb⟩⟩
noncomputable def p__law_box_of:List W -> (PyData -> Prop) -> Prop:=fun ws Q=>∃ (cs:List Ce),ws = [.reel,.d (clD cs)] /\ ((CsOk cs.length cs)) /\ ∀ ss:List Sd,(Bet cs ss) -> Q (boxD ss)
theorem p__law_box_of.mono:∀ ws (Q Q':PyData -> Prop),(∀ d,Q d -> Q' d) -> p__law_box_of ws Q -> p__law_box_of ws Q':=fun _ _ _ h_=>Exists.imp fun _=>And.imp_right (And.imp_right fun q_ o_ ho_=>h_ _ (q_ o_ ho_))
theorem p__law_box_of.len:∀ ws (Q:PyData -> Prop),p__law_box_of ws Q -> ws.length = 2:=fun _ _ h_=>by obtain ⟨_,e_,_⟩:=h_; subst e_; rfl
theorem p__law_box_of.eq (cs:List Ce) (hc:CsOk cs.length cs):p__law_box_of [.reel,.d (clD cs)] = bnd (anyM fun ss:List Sd=>Bet cs ss) fun ss=>VL.ret (boxD ss:PyData):=by
  refine mo_ext fun Q=>⟨?_,fun q_=>⟨cs,rfl,hc,q_⟩⟩
  rintro ⟨cs',e_,_,q_⟩
  simp_arith only [fr_i,sdD_i,ptD_i,boxD_i,ptsQ_i,frs_i,wdC_i,rsD_i,clD_i] at e_
  obtain rfl:=e_
  exact q_
theorem sc__law_box_of:FnScope ["_law_feed_here", "_law_cell_here", "_law_found", "_law_word", "_law_ranges", "_law_ends_here", "_law_low", "_law_high", "_law_part", "_law_top"] ["_law_feed_here", "_law_cell_here"] (defScope (top 41)):=⟨rfl,rfl,rfl,by decide +kernel,rfl,by decide +kernel,by decide +kernel⟩
theorem d__law_box_of (Fn:FnIn K mg "_law_box_of" (top 41) ["_law_feed_here", "_law_cell_here"]) (Z:Bz mg) (d__law_draw:∀ rl,Dfn P w K mg base rl "_law_draw" ["_law_feed_here", "_law_many"] 1 p__law_draw) (d__law_frac:∀ rl,Dfn P w K mg base rl "_law_frac" ["_law_top", "_law_bottom"] 1 p__law_frac)   : Dfn P w K mg base rl "_law_box_of" ["_law_feed_here", "_law_cell_here"] 2 p__law_box_of:=by
  have sc:=sc__law_box_of
  refine Dfn.of Fn sc (p__law_box_of.mono) (p__law_box_of.len) (fun cdv A outer s H E hr=>(vs_cons (vs_set 2 sc.nd (v_lst pvs_nil))
      (vs_cons (vs_forF [3,4,5,6,7,8,9] PassesOwn.never rfl (vi_tup (vn 1)) (vg_tup (n:=2) rfl (vgs_cons (vg_name 3 sc.nd) (vgs_cons (vg_name 4 sc.nd) vgs_nil))) (vs_cons (vs_set 5 sc.nd (v_lst pvs_nil))
      (vs_cons (vs_forF [6,7,8,9] PassesOwn.never rfl (vi_tup (vn 4)) (vg_tup (n:=2) rfl (vgs_cons (vg_name 6 sc.nd) (vgs_cons (vg_name 7 sc.nd) vgs_nil))) (vs_cons (vs_setZ 8 sc.nd (v_add pv_int (v_call (d__law_draw _) (hr.mono (by decide)) (pvs_cons (vn 0) (pvs_cons pv_int pvs_nil)))))
      (vs_cons (vs_setZ 9 sc.nd (v_add (v_mul (v_mul (v_ix (vn 6) pv_int) (v_ix (vn 7) pv_int)) (v_sub pv_int (vn 8))) (v_mul (v_mul (v_ix (vn 7) pv_int) (v_ix (vn 6) pv_int)) (vn 8))))
      (vs_one (vs_app 5 (pvs_cons (v_call (d__law_frac _) (hr.mono (by decide)) (pvs_cons (vn 9) (pvs_cons (v_mul (v_mul pv_int (v_ix (vn 6) pv_int)) (v_ix (vn 7) pv_int)) pvs_nil))) pvs_nil))))))
      (vs_one (vs_app 2 (pvs_cons (v_catA (v_tup (pvs_cons (vn 3) pvs_nil)) (v_tuple Z.tuple_ (pvs_cons (vn 5) pvs_nil))) pvs_nil))))))
      (vs_one (vs_ret (v_tuple Z.tuple_ (pvs_cons (vn 2) pvs_nil))))))) ?_
  rintro ws Q ⟨cs,rfl,hc,hQ⟩
  have w1:decide (Str.ofString "from" = Str.ofString "to") = false:=by decide +kernel
  have w2:decide (Str.ofString "round" = Str.ofString "to") = false:=by decide +kernel
  have w3:decide (Str.ofString "round" = Str.ofString "from") = false:=by decide +kernel
  have w4:decide (Str.ofString "to" = Str.ofString "to") = true:=by decide +kernel
  have w5:decide (Str.ofString "from" = Str.ofString "from") = true:=by decide +kernel
  refine read_of ?_
  have sz:=PySem.sizeLine_eq
  obtain ⟨_,h1,h4,hcc⟩:=hc
  simp_arith only [grd_t,len_ok,m_vRN,m_vRC,s_rput,asR_r,lenD_l,item_li,BFR,clD]
  refine inv_go (xs:=cs) (enc:=ceD) (fun i ρ=>∃ ss:List Sd,ss.length = i /\ (∀ p ∈ (cs.take i).zip ss,InC p.1 p.2) /\ ρ = [some .reel,some (.d (clD cs)),some (.ml (ss.map sdD)),none,none,none,none,none,none,none]) rfl ⟨[],rfl,by simp,rfl⟩ ?_ ?_
  · rintro i hi ρ ⟨ss,sl,hss,rfl⟩ K hK
    have hk:=hcc _ (List.getElem_mem hi)
    have fin:∀ s ρ,InC cs[i] s -> fo [3,4,5,6,7,8,9] ρ = [some .reel,some (.d (clD cs)),some (.ml (ss.map sdD ++ [sdD s])),none,none,none,none,none,none,none] -> K (.nx ρ):=fun s ρ hs e=>hK _ (lpS_nx ⟨ss ++ [s],by simp [sl],zip_sn (P:=fun p=>InC p.1 p.2) hi sl hss hs,by rw [e,List.map_append]; rfl⟩)
    generalize cs[i] = c at hk fin ⊢
    obtain ⟨k,rs⟩:=c
    obtain ⟨r2,rr⟩:=rok_of hk
    have r2:rs.length <= 2:=r2
    simp_arith only [grd_t,len_ok,m_vRN,m_vRC,s_rput,asR_r,lenD_l,item_li,BFR,ceD,rsD]
    refine inv_go (xs:=rs) (enc:=rgD) (fun j ρ=>∃ ts:List Rat,ts.length = j /\ (∀ p ∈ (rs.take j).zip ts,IB p.1 p.2) /\ ρ = [some .reel,some (.d (clD cs)),some (.ml (ss.map sdD)),some (.d (.str (wdC k))),some (.d (rsD rs)),some (.ml (ts.map fr)),none,none,none,none]) rfl ⟨[],rfl,by simp,rfl⟩ ?_ ?_
    · rintro j hj ρ ⟨ts,tl,hts,rfl⟩ K2 hK2
      obtain ⟨a1,a2,al,au⟩:=rr _ (List.getElem_mem hj)
      have fin2:∀ t ρ,IB rs[j] t -> fo [6,7,8,9] ρ = [some .reel,some (.d (clD cs)),some (.ml (ss.map sdD)),some (.d (.str (wdC k))),some (.d (rsD rs)),some (.ml (ts.map fr ++ [fr t])),none,none,none,none] -> K2 (.nx ρ):=fun t ρ ht e=>hK2 _ (lpS_nx ⟨ts ++ [t],by simp [tl],zip_sn (P:=fun p=>IB p.1 p.2) hj tl hts ht,by rw [e,List.map_append]; rfl⟩)
      generalize rs[j] = r at a1 a2 al fin2 ⊢
      obtain ⟨a,b⟩:=r
      have A:=a1.mono (show 200 <= 2000 by decide)
      have B:=a2.mono (show 200 <= 2000 by decide)
      have a1:qSm 200 a:=a1
      have a2:qSm 200 b:=a2
      have m1:CMulB a.num (b.den:Int):=.bb A.bn B.bd
      have m2:CMulB b.num (a.den:Int):=.bb B.bn A.bd
      have m3:∀ x:Int,CMulB 4 x:=fun x=>.lt (by decide)
      have d4:(4 * (a.den:Int) * (b.den:Int)).natAbs < 2 ^ 403:=by
        have k3:((a.den:Int) * (b.den:Int)).natAbs < 2 ^ 400:=by rw [Int.natAbs_mul,Int.natAbs_natCast,Int.natAbs_natCast]; exact Nat.lt_of_lt_of_le (mul_lt_pow a1.2 a2.2) (Nat.pow_le_pow_right (by decide) (by decide))
        rw [Int.mul_assoc]
        omega
      have m4:CMulB (4 * (a.den:Int)) (b.den:Int):=.bb (Nat.lt_of_lt_of_le (show _ < 2 ^ 203 by have:=a1.2; omega) (Nat.pow_le_pow_right (by decide) (by decide))) B.bd
      have hb : 0 < 4 * (a.den:Int) * (b.den:Int):=by rw [Int.mul_assoc]; have:=den_pos a b; omega
      have hz:(4 * (a.den:Int) * (b.den:Int)).natAbs < 2 ^ 8000:=Nat.lt_of_lt_of_le d4 (Nat.pow_le_pow_right (by decide) (by decide))
      have tz:ts.length < sizeLine:=by omega
      simp_arith only [grd_t,len_ok,m_vRN,m_vRC,s_rput,asR_r,lenD_l,item_li,BFR,rgD,p__law_draw.eq]
      (with_reducible (first | refine any_step fun e he=>?_ | refine sqb_any fun e he=>?_))
      have ib:=pt_of (p:=1 + e) a1 a2 (by omega) al hb
      have m5:CMulB (a.num * (b.den:Int)) (4 - (1 + e)):=.rt (by omega)
      have m6:CMulB (b.num * (a.den:Int)) (1 + e):=.rt (by omega)
      simp_arith only [grd_t,len_ok,m_vRN,m_vRC,s_rput,asR_r,lenD_l,item_li,BFR,p__law_frac.eq]
      exact grd_step (m3 _) (fin2 _ _ ib rfl)
    · rintro ρ ⟨ts,tl,hts,rfl⟩
      rw [List.take_of_length_le (Nat.le_refl _)] at hts
      obtain ⟨s,hs,es⟩:=inC_of hk tl hts
      have es:PyData.tuple (PyData.str (wdC k) :: ts.map fr) = sdD s:=es
      have sz2:ss.length < sizeLine:=by omega
      have tz2:ts.length <= sizeLine:=by omega
      have tz3:ts.length + 1 <= sizeLine:=by omega
      simp_arith only [grd_t,len_ok,m_vRN,m_vRC,s_rput,asR_r,lenD_l,item_li,BFR,tup_of]
      rw [es]
      exact fin s _ hs rfl
  · rintro ρ ⟨ss,sl,hss,rfl⟩
    rw [List.take_of_length_le (Nat.le_refl _)] at hss
    have ls:ss.length <= sizeLine:=by omega
    simp_arith only [grd_t,len_ok,BFR,tup_of]
    exact rt_end (hQ ss ⟨sl,hss⟩)
theorem ly_h0 (t x:Rat):lyB (.to t) "half" x = decide (x < t):=by
  have hw1:decide (Str.ofString "half" = Str.ofString "shut") = false:=by decide +kernel
  unfold lyB gaB
  simp [Sd.last,hw1]
  all_goals first | rfl | congr
theorem ly_h1 (a b x:Rat):lyB (.from a b) "half" x = (!decide (x < a) && decide (x < b)):=by
  have hw1:decide (Str.ofString "half" = Str.ofString "shut") = false:=by decide +kernel
  have hw2:decide (Str.ofString "half" = Str.ofString "open") = false:=by decide +kernel
  unfold lyB gaB
  simp [Sd.last,Sd.first,hw1,hw2]
  all_goals first | rfl | congr
theorem ly_h2 (a b x:Rat):lyB (.round a b) "half" x = (!decide (x < a) || decide (x < b)):=by
  have hw1:decide (Str.ofString "half" = Str.ofString "shut") = false:=by decide +kernel
  have hw2:decide (Str.ofString "half" = Str.ofString "open") = false:=by decide +kernel
  unfold lyB gaB
  simp [Sd.last,Sd.first,hw1,hw2]
  all_goals first | rfl | congr
noncomputable def SmH (s:Sd):Prop:=qSm 405 s.first /\ qSm 405 s.last
theorem inC_sm {c:Ce} {s:Sd} (h:InC c s):SmH s:=by
  obtain ⟨_,a,t,_,rfl,hi⟩ | ⟨_,a,b,x,y,_,rfl,hx,hy⟩ | ⟨_,a,b,x,y,_,rfl,hx,hy⟩:=h
  · exact ⟨hi.1,hi.1⟩
  · exact ⟨hx.1,hy.1⟩
  · exact ⟨hx.1,hy.1⟩
theorem szH {s:Sd} (h:SmH s):qSm 815 (szQ s):=by
  have z:∀ {n:Nat},1 <= n -> qSm n 0:=fun h=>q0_1.mono h
  cases s with
  | to t=>exact (mx_sm h.2 (z (by decide))).mono (by decide)
  | «from» a b=>exact (mx_sm (sub_sm (mx_sm h.2 (z (by decide))) (mx_sm h.1 (z (by decide)))) (z (by decide))).mono (by decide)
  | round a b=>exact (mn_sm (add_sm q1_1 (sub_sm (mx_sm h.2 (z (by decide))) (mx_sm h.1 (z (by decide))))) (q1_1.mono (by decide))).mono (by decide)
theorem half_lo {c:Ce} {s:Sd} {x:Rat} (h:InC c s) (hs:lyB (loS c) "shut" x = true):lyB s "half" x = true:=by
  obtain ⟨k,rs⟩:=c
  obtain ⟨rfl,a,t,rfl,rfl,hi⟩ | ⟨rfl,a,b,y,z,rfl,rfl,hx,hy⟩ | ⟨rfl,a,b,y,z,rfl,rfl,hx,hy⟩:=h
  · obtain ⟨_,h1,h2⟩:=hi
    rw [lo0,ly_s0] at hs
    rw [ly_h0]
    simp at hs ⊢
    grind
  · obtain ⟨_,h1,h2⟩:=hx
    obtain ⟨_,h3,h4⟩:=hy
    rw [lo1,ly_s1] at hs
    rw [ly_h1]
    simp at hs ⊢
    grind
  · obtain ⟨_,h1,h2⟩:=hx
    obtain ⟨_,h3,h4⟩:=hy
    rw [lo2,ly_s2] at hs
    rw [ly_h2]
    simp at hs ⊢
    grind
theorem half_hi {c:Ce} {s:Sd} {x:Rat} (h:InC c s) (hs:lyB s "half" x = true):lyB (hiS c) "open" x = true:=by
  obtain ⟨k,rs⟩:=c
  obtain ⟨rfl,a,t,rfl,rfl,hi⟩ | ⟨rfl,a,b,y,z,rfl,rfl,hx,hy⟩ | ⟨rfl,a,b,y,z,rfl,rfl,hx,hy⟩:=h
  · obtain ⟨_,h1,h2⟩:=hi
    rw [hi0,ly_o0]
    rw [ly_h0] at hs
    simp at hs ⊢
    grind
  · obtain ⟨_,h1,h2⟩:=hx
    obtain ⟨_,h3,h4⟩:=hy
    rw [hi1,ly_o1]
    rw [ly_h1] at hs
    simp at hs ⊢
    grind
  · obtain ⟨_,h1,h2⟩:=hx
    obtain ⟨_,h3,h4⟩:=hy
    rw [hi2,ly_o2]
    rw [ly_h2] at hs
    simp at hs ⊢
    grind
theorem sz_mono {c:Ce} {s:Sd} (hc:COk c) (h:InC c s) : 0 <= szQ (loS c) /\ szQ (loS c) <= szQ s /\ szQ s <= szQ (hiS c):=by
  obtain ⟨k,rs⟩:=c
  obtain ⟨rfl,a,t,rfl,rfl,hi⟩ | ⟨rfl,a,b,y,z,rfl,rfl,hx,hy⟩ | ⟨rfl,a,b,y,z,rfl,rfl,hx,hy⟩:=h
  · obtain ⟨_,h1,h2⟩:=hi
    rw [lo0,hi0]
    simp only [szQ,mx]
    grind
  · obtain ⟨_,h1,h2⟩:=hx
    obtain ⟨_,h3,h4⟩:=hy
    rw [lo1,hi1]
    simp only [szQ,mx]
    grind
  · have hr:=(rok_of hc).2 a (by simp)
    obtain ⟨_,_,_,hu⟩:=hr
    obtain ⟨_,h1,h2⟩:=hx
    obtain ⟨_,h3,h4⟩:=hy
    rw [lo2,hi2]
    simp only [szQ,mx,mn]
    grind
theorem prod_mono:∀ (xs ys:List Rat) (a b:Rat),0 <= a -> a <= b -> xs.length = ys.length -> (∀ p ∈ xs.zip ys,0 <= p.1 /\ p.1 <= p.2) -> 0 <= xs.foldl (· * ·) a /\ xs.foldl (· * ·) a <= ys.foldl (· * ·) b
  | [],[],a,b,h0,h,_,_=>⟨h0,h⟩
  | x :: xs,y :: ys,a,b,h0,h,hl,hp=>by
    obtain ⟨p0,p1⟩:=hp (x,y) (by simp)
    have p0 : 0 <= x:=p0
    have p1:x <= y:=p1
    have m1 : 0 <= a * x:=Rat.mul_nonneg h0 p0
    have m2 : 0 <= b * (y - x):=Rat.mul_nonneg (by grind) (by grind)
    have m3 : 0 <= (b - a) * x:=Rat.mul_nonneg (by grind) p0
    have m4:a * x <= b * y:=by grind
    exact prod_mono xs ys (a * x) (b * y) m1 m4 (by simpa using hl) fun p mp=>hp p (by rw [List.zip_cons_cons]; exact List.mem_cons_of_mem _ mp)
theorem zip_maps {α β:Type} {P : α -> β -> Prop} {Q:Rat × Rat -> Prop} (f : α -> Rat) (g : β -> Rat) (H:∀ a b,P a b -> Q (f a,g b)):∀ (xs:List α) (ys:List β),(∀ p ∈ xs.zip ys,P p.1 p.2) -> ∀ p ∈ (xs.map f).zip (ys.map g),Q p:=fun xs ys h p mp=>by
  rw [List.zip_map,List.mem_map] at mp
  obtain ⟨q,mq,rfl⟩:=mp
  exact H _ _ (h q mq)
theorem bet_ok {cs:List Ce} {ss:List Sd} (hc:∀ c ∈ cs,COk c) (h:Bet cs ss):∀ p ∈ cs.zip ss,COk p.1 /\ InC p.1 p.2:=fun p mp=>⟨hc _ (List.of_mem_zip mp).1,h.2 p mp⟩
theorem size_lo {cs:List Ce} {ss:List Sd} (hc:∀ c ∈ cs,COk c) (h:Bet cs ss):sizeQ (cs.map loS) <= sizeQ ss:=by
  unfold sizeQ prodQ
  rw [List.map_map]
  refine (prod_mono _ _ 1 1 (by decide) Rat.le_refl (by simp [h.1]) ?_).2
  exact zip_maps (P:=fun c s=>COk c /\ InC c s) (Q:=fun p=>0 <= p.1 /\ p.1 <= p.2) (szQ ∘ loS) szQ (fun c s ⟨h1,h2⟩=>⟨(sz_mono h1 h2).1,(sz_mono h1 h2).2.1⟩) cs ss (bet_ok hc h)
theorem zip_swap {α β:Type} {P : α -> β -> Prop}:∀ (xs:List α) (ys:List β),(∀ p ∈ xs.zip ys,P p.1 p.2) -> ∀ p ∈ ys.zip xs,P p.2 p.1
  | [],ys,_,p,mp=>by simp at mp
  | _ :: _,[],_,p,mp=>by simp at mp
  | x :: xs,y :: ys,h,p,mp=>by
    rw [List.zip_cons_cons] at mp
    rcases List.mem_cons.mp mp with rfl | m
    · exact h (x,y) (by simp)
    · exact zip_swap xs ys (fun q mq=>h q (by rw [List.zip_cons_cons]; exact List.mem_cons_of_mem _ mq)) p m
theorem size_hi {cs:List Ce} {ss:List Sd} (hc:∀ c ∈ cs,COk c) (h:Bet cs ss):sizeQ ss <= sizeQ (cs.map hiS):=by
  unfold sizeQ prodQ
  rw [List.map_map]
  refine (prod_mono _ _ 1 1 (by decide) Rat.le_refl (by simp [h.1]) ?_).2
  exact zip_maps (P:=fun s c=>COk c /\ InC c s) (Q:=fun p=>0 <= p.1 /\ p.1 <= p.2) szQ (szQ ∘ hiS) (fun s c ⟨h1,h2⟩=>⟨Rat.le_trans (sz_mono h1 h2).1 (sz_mono h1 h2).2.1,(sz_mono h1 h2).2.2⟩) ss cs (zip_swap (P:=fun c s=>COk c /\ InC c s) cs ss (bet_ok hc h))
theorem li_half {w:Str} {f:Ce -> Sd} (H:∀ (c:Ce) (s:Sd) (x:Rat),InC c s -> lyB (f c) w x = true -> lyB s "half" x = true):∀ (qs:List Rat) (cs:List Ce) (ss:List Sd),ss.length = cs.length -> (∀ p ∈ cs.zip ss,InC p.1 p.2) -> liB qs (cs.map f) w = true -> liB qs ss "half" = true
  | [],cs,ss,_,_,_=>rfl
  | q :: qs,[],[],_,_,_=>rfl
  | q :: qs,c :: cs,s :: ss,hl,hp,h=>by
    unfold liB at h ⊢
    rw [List.map_cons,List.zip_cons_cons,List.all_cons,Bool.and_eq_true] at h
    rw [List.zip_cons_cons,List.all_cons,Bool.and_eq_true]
    exact ⟨H c s q (hp (c,s) (by simp)) h.1,li_half H qs cs ss (by simpa using hl) (fun p mp=>hp p (by rw [List.zip_cons_cons]; exact List.mem_cons_of_mem _ mp)) h.2⟩
theorem li_half2 {w:Str} {f:Ce -> Sd} (H:∀ (c:Ce) (s:Sd) (x:Rat),InC c s -> lyB s "half" x = true -> lyB (f c) w x = true):∀ (qs:List Rat) (cs:List Ce) (ss:List Sd),ss.length = cs.length -> (∀ p ∈ cs.zip ss,InC p.1 p.2) -> liB qs ss "half" = true -> liB qs (cs.map f) w = true
  | [],cs,ss,_,_,_=>rfl
  | q :: qs,[],[],_,_,_=>rfl
  | q :: qs,c :: cs,s :: ss,hl,hp,h=>by
    unfold liB at h ⊢
    rw [List.map_cons,List.zip_cons_cons,List.all_cons,Bool.and_eq_true]
    rw [List.zip_cons_cons,List.all_cons,Bool.and_eq_true] at h
    exact ⟨H c s q (hp (c,s) (by simp)) h.1,li_half2 H qs cs ss (by simpa using hl) (fun p mp=>hp p (by rw [List.zip_cons_cons]; exact List.mem_cons_of_mem _ mp)) h.2⟩
theorem cnt_mono {ps:List (List Rat)} {ss ts:List Sd} {v w:Str} (h:∀ p ∈ ps,liB p ss v = true -> liB p ts w = true):cntN ps ss v <= cntN ps ts w:=by
  unfold cntN
  rw [<- List.countP_eq_length_filter,<- List.countP_eq_length_filter]
  exact List.countP_mono_left h
theorem cm_ge {T B:Int} {S q:Rat} (hB : 0 < B) (e:(T:Rat) = S * (B:Rat)) (h:q <= S):¬ (T * (q.den:Int) < q.num * B):=fun l=>by
  have l2:((T * (q.den:Int):Int):Rat) < ((q.num * B:Int):Rat):=Rat.intCast_lt_intCast.mpr l
  have ra:(q.num:Rat) = q * ((q.den:Int):Rat):=by have:=qd_self q; have:=den_ne q; unfold qd at *; grind
  have z1:(0:Rat) <= (B:Rat):=by exact_mod_cast Int.le_of_lt hB
  have z2:(0:Rat) <= ((q.den:Int):Rat):=by exact_mod_cast Int.natCast_nonneg _
  rw [Rat.intCast_mul,Rat.intCast_mul,e,ra] at l2
  have m:=Rat.mul_nonneg (show 0 <= S - q by grind) (Rat.mul_nonneg z1 z2)
  grind
theorem cm_le {T B:Int} {S q:Rat} (hB : 0 < B) (e:(T:Rat) = S * (B:Rat)) (h:S <= q):¬ (q.num * B < T * (q.den:Int)):=fun l=>by
  have l2:((q.num * B:Int):Rat) < ((T * (q.den:Int):Int):Rat):=Rat.intCast_lt_intCast.mpr l
  have ra:(q.num:Rat) = q * ((q.den:Int):Rat):=by have:=qd_self q; have:=den_ne q; unfold qd at *; grind
  have z1:(0:Rat) <= (B:Rat):=by exact_mod_cast Int.le_of_lt hB
  have z2:(0:Rat) <= ((q.den:Int):Rat):=by exact_mod_cast Int.natCast_nonneg _
  rw [Rat.intCast_mul,Rat.intCast_mul,e,ra] at l2
  have m:=Rat.mul_nonneg (show 0 <= q - S by grind) (Rat.mul_nonneg z1 z2)
  grind
theorem cmI_lt (x y:Int):decide (cmI x y < 0) = decide (x < y):=by
  unfold cmI
  by_cases h:y < x
  · have:¬ x < y:=by omega
    simp [h,this]
  · by_cases h2:x < y <;> simp [h,h2]
theorem p__law_cmp.eqL (T B:Int) (r:Rat) (h1:Big T) (h2:Big B) (h3:qSm 2000 r):p__law_cmp [.d (.tuple [.int T,.int B]),.d (fr r)] = VL.ret (.int (cmI (T * (r.den:Int)) (r.num * B)):PyData):=p__law_cmp.eq (T,B) (r.num,(r.den:Int)) h1 h2 h3.bn h3.bd
theorem p__law_cmp.eqR (T B:Int) (r:Rat) (h1:Big T) (h2:Big B) (h3:qSm 2000 r):p__law_cmp [.d (fr r),.d (.tuple [.int T,.int B])] = VL.ret (.int (cmI (r.num * B) (T * (r.den:Int))):PyData):=p__law_cmp.eq (r.num,(r.den:Int)) (T,B) h3.bn h3.bd h1 h2
theorem bools_lay (bs:List Bool):PyData.canLayAll0 (bs.map .bool) = true:=by
  induction bs with
  | nil=>rfl
  | cons b bs ih=>simp [PyData.canLayAll0,PyData.canLay0,ih]
theorem bools_any (bs:List Bool):(!(bs.map PyData.bool).any fun z=>PyData.eqv z (.bool false)) = bs.all id:=by
  induction bs with
  | nil=>rfl
  | cons b bs ih =>
    rw [List.map_cons,List.any_cons,List.all_cons,Bool.not_or,ih]
    cases b <;> rfl
theorem isps_of {ps:List (List Rat)} (h:Pw ps):IsPs (dimP ps) ps:=⟨h.1,by have:=h.2.1; omega,fun p mp=>⟨(h.2.2.1 p mp).1,fun q mq=>((h.2.2.1 p mp).2 q mq).1.mono (by decide)⟩⟩
noncomputable def p__law_between:List W -> (PyData -> Prop) -> Prop:=fun ws Q=>∃ (ps:List (List Rat)) (cs:List Ce),ws = [.reel,.d (ptsQ ps),.d (clD cs),.d (toldD ps cs)] /\ ((Pw ps) /\ (CsOk (dimP ps) cs)) /\ ∀ u:Unit,(True) -> Q (.bool true)
theorem p__law_between.mono:∀ ws (Q Q':PyData -> Prop),(∀ d,Q d -> Q' d) -> p__law_between ws Q -> p__law_between ws Q':=fun _ _ _ h_=>Exists.imp fun _=>Exists.imp fun _=>And.imp_right (And.imp_right fun q_ o_ ho_=>h_ _ (q_ o_ ho_))
theorem p__law_between.len:∀ ws (Q:PyData -> Prop),p__law_between ws Q -> ws.length = 4:=fun _ _ h_=>by obtain ⟨_,_,e_,_⟩:=h_; subst e_; rfl
theorem p__law_between.eq (ps:List (List Rat)) (cs:List Ce) (hp:Pw ps) (hc:CsOk (dimP ps) cs):p__law_between [.reel,.d (ptsQ ps),.d (clD cs),.d (toldD ps cs)] = bnd (anyM fun u:Unit=>True) fun u=>VL.ret (.bool true:PyData):=by
  refine mo_ext fun Q=>⟨?_,fun q_=>⟨ps,cs,rfl,⟨hp,hc⟩,q_⟩⟩
  rintro ⟨ps',cs',e_,_,q_⟩
  simp_arith only [fr_i,sdD_i,ptD_i,boxD_i,ptsQ_i,frs_i,wdC_i,rsD_i,clD_i] at e_
  obtain ⟨rfl,rfl,_⟩:=e_
  exact q_
theorem sc__law_between:FnScope ["_law_feed_here", "_law_pts", "_law_cell_here", "_law_told", "_law_sure", "_law_near", "_law_least", "_law_most", "_law_k", "_law_box", "_law_many", "_law_top", "_law_bottom", "_law_side", "_law_one"] ["_law_feed_here", "_law_pts", "_law_cell_here", "_law_told"] (defScope (top 42)):=⟨rfl,rfl,rfl,by decide +kernel,rfl,by decide +kernel,by decide +kernel⟩
theorem d__law_between (Fn:FnIn K mg "_law_between" (top 42) ["_law_feed_here", "_law_pts", "_law_cell_here", "_law_told"]) (Z:Bz mg) (d__law_box_of:∀ rl,Dfn P w K mg base rl "_law_box_of" ["_law_feed_here", "_law_cell_here"] 2 p__law_box_of) (d__law_side_size:∀ rl,Dfn P w K mg base rl "_law_side_size" ["_law_side"] 2 p__law_side_size) (d__law_cmp:∀ rl,Dfn P w K mg base rl "_law_cmp" ["_law_one", "_law_other"] 1 p__law_cmp) (d__law_lies:∀ rl,Dfn P w K mg base rl "_law_lies" ["_law_x", "_law_side", "_law_way"] 2 p__law_lies)   : Dfn P w K mg base rl "_law_between" ["_law_feed_here", "_law_pts", "_law_cell_here", "_law_told"] 3 p__law_between:=by
  have sc:=sc__law_between
  refine Dfn.of Fn sc (p__law_between.mono) (p__law_between.len) (fun cdv A outer s H E hr=>(vs_cons (vs_asg (vn 3) (vg_tup (n:=4) rfl (vgs_cons (vg_name 4 sc.nd) (vgs_cons (vg_name 5 sc.nd) (vgs_cons (vg_name 6 sc.nd) (vgs_cons (vg_name 7 sc.nd) vgs_nil))))))
      (vs_cons (vs_forF [8,9,10,11,12,13,14] PassesOwn.never rfl (vi_range1 Z.range_ (pvs_cons pv_int pvs_nil)) (vg_name 8 sc.nd) (vs_cons (vs_setZ 9 sc.nd (v_call (d__law_box_of _) (hr.mono (by decide)) (pvs_cons (vn 0) (pvs_cons (vn 2) pvs_nil))))
      (vs_cons (vs_setZ 10 sc.nd (v_len Z.len_ (pvs_cons (v_lcompR ["_law_point", "_law_box"] [none,some 9] rfl (vi_tup (vn 1)) (fun _=>(vg_name 0 (show List.Nodup (["_law_point", "_law_box"]:List Str) by decide +kernel))) (fun _=>vt_one (vb_cmp (op_notinD hr.u65) vo_inD (by with_unfolding_all rfl) pv_bl (v_lcompR ["_law_x", "_law_side"] [none,none] rfl (vi_zipTT Z.zip_ (pvs_cons (vn 0) (pvs_cons (vn 1) pvs_nil))) (fun _=>(vg_tup (n:=2) rfl (vgs_cons (vg_name 0 (show List.Nodup (["_law_x", "_law_side"]:List Str) by decide +kernel)) (vgs_cons (vg_name 1 (show List.Nodup (["_law_x", "_law_side"]:List Str) by decide +kernel)) vgs_nil)))) (fun _=>vt_nil) (fun _=>(v_call (d__law_lies _) (hr.mono (by decide)) (pvs_cons (vn 0) (pvs_cons (vn 1) (pvs_cons pv_int pvs_nil)))))))) (fun _=>(vn 0))) pvs_nil)))
      (vs_cons (vs_asg (v_tup (pvs_cons pv_int (pvs_cons pv_int pvs_nil))) (vg_tup (n:=2) rfl (vgs_cons (vg_name 11 sc.nd) (vgs_cons (vg_name 12 sc.nd) vgs_nil))))
      (vs_cons (vs_forF [13,14] PassesOwn.never rfl (vi_tup (vn 9)) (vg_name 13 sc.nd) (vs_cons (vs_setZ 14 sc.nd (v_call (d__law_side_size _) (hr.mono (by decide)) (pvs_cons (vn 13) pvs_nil)))
      (vs_one (vs_par 11 12 rfl sc.nd (pvs_cons (v_mul (vn 11) (v_ix (vn 14) pv_int)) (pvs_cons (v_mul (vn 12) (v_ix (vn 14) pv_int)) pvs_nil))))))
      (vs_one (vs_if (PBW.pb (vb_or (vb_not (vb_chain op_le op_le (vn 4) (vn 10) (v_add (vn 4) (vn 5)))) (vb_or (vb_cmp op_lt vo_lt (nomark _) (v_call (d__law_cmp _) (hr.mono (by decide)) (pvs_cons (v_tup (pvs_cons (vn 11) (pvs_cons (vn 12) pvs_nil))) (pvs_cons (vn 6) pvs_nil))) pv_int) (vb_or1 (vb_cmp op_lt vo_lt (nomark _) (v_call (d__law_cmp _) (hr.mono (by decide)) (pvs_cons (vn 7) (pvs_cons (v_tup (pvs_cons (vn 11) (pvs_cons (vn 12) pvs_nil))) pvs_nil))) pv_int))))) (vs_one (vs_ret pv_bl)) vs_nil)))))))
      (vs_one (vs_ret pv_bl))))) ?_
  rintro ws Q ⟨ps,cs,rfl,⟨hp,hc⟩,hQ⟩
  refine read_of ?_
  have sz:=PySem.sizeLine_eq
  obtain ⟨cl,d1,d4,hcc⟩:=id hc
  have hc':CsOk cs.length cs:=by rw [cl]; exact hc
  have sl:qSm 2000 (sizeQ (cs.map loS)):=sizeT (by rw [List.length_map]; omega) fun s ms=>by
    obtain ⟨c,mc,rfl⟩:=List.mem_map.mp ms
    exact smb_lo (hcc c mc)
  have sh:qSm 2000 (sizeQ (cs.map hiS)):=sizeT (by rw [List.length_map]; omega) fun s ms=>by
    obtain ⟨c,mc,rfl⟩:=List.mem_map.mp ms
    exact smb_hi (hcc c mc)
  have h8:=hp.2.1
  simp_arith only [grd_t,len_ok,m_vRN,m_vRC,s_rput,asR_r,lenD_l,item_li,BFR,toldD]
  refine eachR_go ?_ ?_
  · intro i hi K hK
    simp_arith only [grd_t,len_ok,m_vRN,m_vRC,s_rput,asR_r,lenD_l,item_li,BFR,p__law_box_of.eq]
    (with_reducible (first | refine any_step fun ss hb=>?_ | refine sqb_any fun ss hb=>?_))
    have bl:=hb.1
    have hin:=hb.2
    have hsm:∀ s ∈ ss,SmH s:=fun s ms=>by
      obtain ⟨j,hj,rfl⟩:=List.getElem_of_mem ms
      have m:(cs[j]'(by omega),ss[j]) ∈ cs.zip ss:=by
        have:(cs.zip ss)[j]'(by rw [List.length_zip]; omega) = (cs[j]'(by omega),ss[j]):=List.getElem_zip ..
        rw [<- this]
        exact List.getElem_mem _
      exact inC_sm (hin _ m)
    simp_arith only [grd_t,len_ok,m_vRN,m_vRC,s_rput,asR_r,lenD_l,item_li,BFR]
    refine sqb (cfm_go (xs:=ps) (enc:=ptD) (fun p=>if liB p ss "half" = true then some (ptD p) else none) rfl ?_ (by omega) ?_)
    · intro p mp
      have pg:=hp.2.2.1 p mp
      simp_arith only [grd_t,len_ok,itM,BFR]
      rw [if_pos ⟨rfl,rfl⟩,opt_some,zipD_map,comp_map (xs:=p.zip ss) (fun z=>.bool (lyB z.2 "half" z.1)) ?_ (by rw [List.length_zip]; omega),bnd_ret]
      · have e:(p.zip ss).map (fun z=>PyData.bool (lyB z.2 "half" z.1)) = ((p.zip ss).map fun z=>lyB z.2 "half" z.1).map .bool:=by rw [List.map_map]; rfl
        have e2:((p.zip ss).map fun z=>lyB z.2 "half" z.1).all id = liB p ss "half" := by rw [List.all_map]; rfl
        rw [e,grd_t (bools_lay _),bools_any,e2]
        split <;> rfl
      · rintro ⟨x,s⟩ hm
        obtain ⟨mx,ms⟩:=List.of_mem_zip hm
        have x1:qSm 2000 x:=(pg.2 x mx).1.mono (by decide)
        have hs:=hsm s ms
        have hs:SmC s:=⟨hs.1.mono (by decide),hs.2.mono (by decide)⟩
        simp_arith only [grd_t,len_ok,itM,BFR,p__law_lies.eq]
    rw [fm_len,show (ps.filter fun p=>liB p ss "half").length = cntN ps ss "half" from rfl]
    have q1:cntN ps (cs.map loS) "shut" <= cntN ps ss "half" := cnt_mono fun p _ h=>li_half (fun c s x h1 h2=>half_lo h1 h2) p cs ss bl hin h
    have q2:cntN ps ss "half" <= cntN ps (cs.map hiS) "open" := cnt_mono fun p _ h=>li_half2 (fun c s x h1 h2=>half_hi h1 h2) p cs ss bl hin h
    have q3:=size_lo hcc hb
    have q4:=size_hi hcc hb
    have fin:∀ ρ,fo [8,9,10,11,12,13,14] ρ = [some .reel,some (.d (ptsQ ps)),some (.d (clD cs)),some (.d (.tuple [.int (cntN ps (cs.map loS) "shut"),.int ((cntN ps (cs.map hiS) "open" : Int) - (cntN ps (cs.map loS) "shut" : Int)),fr (sizeQ (cs.map loS)),fr (sizeQ (cs.map hiS))])),some (.d (.int (cntN ps (cs.map loS) "shut"))),some (.d (.int ((cntN ps (cs.map hiS) "open" : Int) - (cntN ps (cs.map loS) "shut" : Int)))),some (.d (fr (sizeQ (cs.map loS)))),some (.d (fr (sizeQ (cs.map hiS)))),none,none,none,none,none,none,none] -> K (.nx ρ):=fun ρ e=>hK _ (lpS_nx e)
    generalize cntN ps (cs.map loS) "shut" = sure at q1 fin ⊢
    generalize cntN ps (cs.map hiS) "open" = near at q2 fin ⊢
    generalize cntN ps ss "half" = many at q1 q2 ⊢
    simp_arith only [grd_t,len_ok,m_vRN,m_vRC,s_rput,asR_r,lenD_l,item_li,BFR]
    refine inv_go (xs:=ss) (enc:=sdD) (fun j ρ=>∃ T B:Int,0 < B /\ (T:Rat) = sizeQ (ss.take j) * (B:Rat) /\ T.natAbs < 2 ^ (815 * j + 1) /\ B.natAbs < 2 ^ (815 * j + 1) /\ ρ = [some .reel,some (.d (ptsQ ps)),some (.d (clD cs)),some (.d (.tuple [.int (sure:Int),.int ((near:Int) - (sure:Int)),fr (sizeQ (cs.map loS)),fr (sizeQ (cs.map hiS))])),some (.d (.int (sure:Int))),some (.d (.int ((near:Int) - (sure:Int)))),some (.d (fr (sizeQ (cs.map loS)))),some (.d (fr (sizeQ (cs.map hiS)))),some (.d (.int (0 + (i:Int)))),some (.d (boxD ss)),some (.d (.int (many:Int))),some (.d (.int T)),some (.d (.int B)),none,none]) rfl ⟨1,1,by decide,show ((1:Int):Rat) = 1 * ((1:Int):Rat) by decide +kernel,by decide,by decide,rfl⟩ ?_ ?_
    · rintro j hj ρ ⟨T,B,hB,eT,bT,bB,rfl⟩ K2 hK2
      have g1:sizeQ (ss.take (j + 1)) = sizeQ (ss.take j) * szQ ss[j]:=by rw [List.take_succ_eq_append_getElem hj]; exact size_sn
      have hs:=hsm _ (List.getElem_mem hj)
      generalize ss[j] = s at hs g1 ⊢
      have zs:=szH hs
      have zs2:qSm 2000 (szQ s):=zs.mono (by decide)
      have hs:SmC s:=⟨hs.1.mono (by decide),hs.2.mono (by decide)⟩
      have j4:j <= 4:=by omega
      have big:∀ x:Int,x.natAbs < 2 ^ (815 * j + 1) -> Big x:=fun x h=>Nat.lt_of_lt_of_le h (Nat.pow_le_pow_right (by decide) (by omega))
      have m1:CMulB T (szQ s).num:=.bb (big T bT) zs2.bn
      have m2:CMulB B ((szQ s).den:Int):=.bb (big B bB) zs2.bd
      simp_arith only [grd_t,len_ok,m_vRN,m_vRC,s_rput,asR_r,lenD_l,item_li,BFR,p__law_side_size.eq]
      refine hK2 _ (lpS_nx ⟨T * (szQ s).num,B * ((szQ s).den:Int),Int.mul_pos hB (by have:=(szQ s).den_pos; omega),?_,?_,?_,rfl⟩)
      · rw [g1,Rat.intCast_mul,Rat.intCast_mul,eT]
        have ra:((szQ s).num:Rat) = szQ s * (((szQ s).den:Int):Rat):=by have:=qd_self (szQ s); have:=den_ne (szQ s); unfold qd at *; grind
        rw [ra]
        grind
      · rw [Int.natAbs_mul]
        exact Nat.lt_of_lt_of_le (mul_lt_pow bT zs.1) (Nat.pow_le_pow_right (by decide) (by omega))
      · rw [Int.natAbs_mul,Int.natAbs_natCast]
        exact Nat.lt_of_lt_of_le (mul_lt_pow bB zs.2) (Nat.pow_le_pow_right (by decide) (by omega))
    · rintro ρ ⟨T,B,hB,eT,bT,bB,rfl⟩
      rw [List.take_of_length_le (Nat.le_refl _)] at eT
      have big:∀ x:Int,x.natAbs < 2 ^ (815 * ss.length + 1) -> Big x:=fun x h=>Nat.lt_of_lt_of_le h (Nat.pow_le_pow_right (by decide) (by omega))
      have b1:=big T bT
      have b2:=big B bB
      have r1:=cm_ge hB eT q3
      have r2:=cm_le hB eT q4
      have c1:decide (T * ((sizeQ (cs.map loS)).den:Int) < (sizeQ (cs.map loS)).num * B) = false:=decide_eq_false r1
      have c2:decide ((sizeQ (cs.map hiS)).num * B < T * ((sizeQ (cs.map hiS)).den:Int)) = false:=decide_eq_false r2
      have c3:decide ((sure:Int) <= (many:Int)) = true:=decide_eq_true (by omega)
      have c4:decide ((many:Int) <= (sure:Int) + ((near:Int) - (sure:Int))) = true:=decide_eq_true (by omega)
      simp_arith only [grd_t,len_ok,m_vRN,m_vRC,s_rput,asR_r,lenD_l,item_li,BFR,p__law_cmp.eqL,p__law_cmp.eqR,cmI_lt,c1,c2,c3,c4]
      exact fin _ rfl
  · simp_arith only [grd_t,len_ok]
    exact rt_end (hQ () trivial)
theorem fr_SmB {q:Rat} (h:qSm 1900 q):Sm 2 2 (fr q):=by
  refine ⟨⟨h.1,by show (Int.natAbs (q.den:Int)) < _; rw [Int.natAbs_natCast]; exact h.2,trivial⟩,by simp [fr,PyData.depth,PyData.depthAll],by simp [fr,PyData.bulk,PyData.bulkAll]⟩
theorem wd_Sm (k:Fin 3):Sm 2 20 (.str (wdC k)):=by
  obtain rfl | rfl | rfl:=k3 k <;> exact ⟨strOk_ofString _,by decide +kernel,by decide +kernel⟩
theorem rg_Sm {r:Rg} (h:ROk r):Sm 4 6 (rgD r):=(Sm.seq (dp:=2) (bk:=2) (n:=2) (xs:=[fr r.1,fr r.2]) (fun d md=>by
  simp only [List.mem_cons,List.not_mem_nil,or_false] at md
  rcases md with rfl | rfl
  · exact fr_SmB (h.1.mono (by decide))
  · exact fr_SmB (h.2.1.mono (by decide))) (by simp)).1
theorem ce_Sm {c:Ce} (h:COk c):Sm 8 42 (ceD c):=by
  obtain ⟨r2,rr⟩:=rok_of h
  have h1:Sm 6 14 (rsD c.2):=(Sm.seq (dp:=4) (bk:=6) (n:=2) (xs:=c.2.map rgD) (fun d md=>by
    obtain ⟨r,mr,rfl⟩:=List.mem_map.mp md
    exact rg_Sm (rr r mr)) (by rw [List.length_map]; exact r2)).1
  exact (Sm.seq (dp:=6) (bk:=20) (n:=2) (xs:=[.str (wdC c.1),rsD c.2]) (fun d md=>by
    simp only [List.mem_cons,List.not_mem_nil,or_false] at md
    rcases md with rfl | rfl
    · exact (wd_Sm c.1).mono (by decide) (by decide)
    · exact h1.mono (by decide) (by decide)) (by simp)).1
theorem cl_Sm {n:Nat} {cs:List Ce} (h:CsOk n cs):Sm 10 172 (clD cs):=(Sm.seq (dp:=8) (bk:=42) (n:=4) (xs:=cs.map ceD) (fun d md=>by
  obtain ⟨c,mc,rfl⟩:=List.mem_map.mp md
  exact ce_Sm (h.2.2.2 c mc)) (by rw [List.length_map]; have:=h.1; have:=h.2.2.1; omega)).1
theorem pt_Sm {ps:List (List Rat)} (h:Pw ps):Sm 6 104 (ptsQ ps):=(Sm.seq (dp:=4) (bk:=12) (n:=8) (xs:=ps.map ptD) (fun d md=>by
  obtain ⟨p,mp,rfl⟩:=List.mem_map.mp md
  have hp:=h.2.2.1 p mp
  exact (Sm.seq (dp:=2) (bk:=2) (n:=4) (xs:=p.map fr) (fun d md=>by
    obtain ⟨q,mq,rfl⟩:=List.mem_map.mp md
    exact fr_SmB ((hp.2 q mq).1.mono (by decide))) (by rw [List.length_map,hp.1]; exact h.2.2.2.2)).1) (by rw [List.length_map]; exact h.2.1)).1
theorem all_Sm {n:Nat} {ps:List (List Rat)} {cs:List Ce} (h:Pw ps) (hc:CsOk n cs):Shw (.tuple [ptsQ ps,clD cs]):=((Sm.seq (dp:=10) (bk:=172) (n:=2) (xs:=[ptsQ ps,clD cs]) (fun d md=>by
  simp only [List.mem_cons,List.not_mem_nil,or_false] at md
  rcases md with rfl | rfl
  · exact (pt_Sm h).mono (by decide) (by decide)
  · exact cl_Sm hc) (by simp)).1).shw (by decide) (by decide)
theorem told_Sm {n:Nat} {ps:List (List Rat)} {cs:List Ce} (h:Pw ps) (hc:CsOk n cs):Shw (toldD ps cs):=by
  obtain ⟨cl,d1,d4,hcc⟩:=hc
  have c1:∀ ss w,cntN ps ss w <= 8:=fun ss w=>Nat.le_trans (List.length_filter_le ..) h.2.1
  have e1:=c1 (cs.map loS) "shut"
  have e2:=c1 (cs.map hiS) "open"
  have sB:∀ f:Ce -> Sd,(∀ c,COk c -> SmB (f c)) -> qSm 1900 (sizeQ (cs.map f)):=fun f hf=>by
    unfold sizeQ prodQ
    refine (prodB ((cs.map f).map szQ) 1 1 q1_1 fun q mq=>?_).mono (by rw [List.length_map,List.length_map]; omega)
    obtain ⟨s,ms,rfl⟩:=List.mem_map.mp mq
    obtain ⟨c,mc,rfl⟩:=List.mem_map.mp ms
    exact szB (hf c (hcc c mc))
  have i1:∀ i:Int,i.natAbs <= 100 -> Sm 2 2 (.int i):=fun i hi=>(Sm.int (Nat.lt_of_lt_of_le (show i.natAbs < 2 ^ 8 by omega) (Nat.pow_le_pow_right (by decide) (by decide)))).mono (by decide) (by decide)
  exact ((Sm.seq (dp:=2) (bk:=2) (n:=4) (xs:=[.int (cntN ps (cs.map loS) "shut"),.int ((cntN ps (cs.map hiS) "open" : Int) - (cntN ps (cs.map loS) "shut" : Int)),fr (sizeQ (cs.map loS)),fr (sizeQ (cs.map hiS))]) (fun d md=>by
    simp only [List.mem_cons,List.not_mem_nil,or_false] at md
    rcases md with rfl | rfl | rfl | rfl
    · exact i1 _ (by omega)
    · exact i1 _ (by omega)
    · exact fr_SmB (sB loS fun c hc=>smb_lo hc)
    · exact fr_SmB (sB hiS fun c hc=>smb_hi hc)) (by simp)).1).shw (by decide) (by decide)
theorem pw_of {s m:Nat} {ps:List (List Rat)} (h:PtOk s m ps) (hm:m <= 6) (s1 : 1 <= s) (s4:s <= 4):Pw ps:=by
  obtain ⟨h1,h2,hp,_⟩:=h
  have hd:=dim_of hp h1
  exact ⟨h1,by omega,by rw [hd]; exact hp,by omega,by omega⟩
theorem sc_law:FnScope ["_law_script", "_law_feed_here", "_law_k", "_law_s", "_law_pts", "_law_j", "_law_cell_here", "_law_kept", "_law_due", "_law_turn"] ["_law_script"] (defScope (top 43)):=⟨rfl,rfl,rfl,by decide +kernel,rfl,by decide +kernel,by decide +kernel⟩
theorem law_body (Z:Bz mg) (d__law_feed:DfnR P w K mg base "_law_feed" ["_law_script"] 2 preF) (d__law_points:∀ rl,Dfn P w K mg base rl "_law_points" ["_law_feed_here", "_law_s", "_law_most"] 3 p__law_points) (d__law_draw:∀ rl,Dfn P w K mg base rl "_law_draw" ["_law_feed_here", "_law_many"] 1 p__law_draw) (d__law_cell:∀ rl,Dfn P w K mg base rl "_law_cell" ["_law_feed_here", "_law_pts"] 3 p__law_cell) (d__law_cell_told:∀ rl,Dfn P w K mg base rl "_law_cell_told" ["_law_pts", "_law_cell_here"] 3 p__law_cell_told) (d__law_between:∀ rl,Dfn P w K mg base rl "_law_between" ["_law_feed_here", "_law_pts", "_law_cell_here", "_law_told"] 3 p__law_between) (d_cell_told:∀ rl,Dfn P w K mg base rl "cell_told" ["points", "cell"] 6 p_cell_told)   {f:Addr} {fd:FuncData} (F:Fun K "law" "law" (top 43) f fd):FnOk P w K mg base CX0 8 f fd ["_law_script"] (spLaw2 K):=by
  have sc:=sc_law
  refine ok_law2 F sc (fun cdv A outer s H E hr=>(vs_newR 1 d__law_feed (hr.mono (by decide)) sc.nd (pvs_cons (vn 0) pvs_nil) (fun r _=>(vs_cons (vs_forF [2,3,4,5,6,7,8,9] PassesOwn.never rfl (vi_range1 Z.range_ (pvs_cons pv_int pvs_nil)) (vg_name 2 sc.nd) (vs_cons (vs_setZ 3 sc.nd (v_add pv_int (v_call (d__law_draw _) (hr.mono (by decide)) (pvs_cons (vn 1) (pvs_cons pv_int pvs_nil)))))
      (vs_cons (vs_setZ 4 sc.nd (v_call (d__law_points _) (hr.mono (by decide)) (pvs_cons (vn 1) (pvs_cons (vn 3) (pvs_cons pv_int pvs_nil)))))
      (vs_one (vs_forF [5,6,7,8,9] PassesOwn.never rfl (vi_range1 Z.range_ (pvs_cons pv_int pvs_nil)) (vg_name 5 sc.nd) (vs_cons (vs_setZ 6 sc.nd (v_call (d__law_cell _) (hr.mono (by decide)) (pvs_cons (vn 1) (pvs_cons (vn 4) pvs_nil))))
      (vs_cons (vs_setZ 7 sc.nd (v_repr (hr.mono (Nat.zero_le _)) Z.repr_ (pvs_cons (v_tup (pvs_cons (vn 4) (pvs_cons (vn 6) pvs_nil))) pvs_nil)))
      (vs_cons (vs_setZ 8 sc.nd (v_call (d__law_cell_told _) (hr.mono (by decide)) (pvs_cons (vn 4) (pvs_cons (vn 6) pvs_nil))))
      (vs_cons (vs_forF [9] PassesOwn.never rfl (vi_range1 Z.range_ (pvs_cons pv_int pvs_nil)) (vg_name 9 sc.nd) (vs_one (vs_if (vb_cmp op_ne vo_neS (nomark _) (v_repr (hr.mono (Nat.zero_le _)) Z.repr_ (pvs_cons (v_call (d_cell_told _) (hr.mono (by decide)) (pvs_cons (vn 4) (pvs_cons (vn 6) pvs_nil))) pvs_nil)) (v_repr (hr.mono (Nat.zero_le _)) Z.repr_ (pvs_cons (vn 8) pvs_nil))) (vs_one (vs_ret pv_bl)) vs_nil)))
      (vs_one (vs_if (PBW.pb (vb_or (vb_not (vb_val (v_call (d__law_between _) (hr.mono (by decide)) (pvs_cons (vn 1) (pvs_cons (vn 4) (pvs_cons (vn 6) (pvs_cons (vn 8) pvs_nil))))))) (vb_or1 (vb_cmp op_ne vo_neS (nomark _) (v_repr (hr.mono (Nat.zero_le _)) Z.repr_ (pvs_cons (v_tup (pvs_cons (vn 4) (pvs_cons (vn 6) pvs_nil))) pvs_nil)) (vn 7))))) (vs_one (vs_ret pv_bl)) vs_nil)))))))))))
      (vs_one (vs_ret pv_bl)))))) ?_
  intro ns hn
  have sz:=PySem.sizeLine_eq
  have pf:=preF.eq hn
  simp_arith only [grd_t,len_ok,m_vRN,m_vRC,s_rput,asR_r,lenD_l,item_li,pf]
  refine eachR_go ?_ ?_
  · intro i hi K hK
    simp_arith only [grd_t,len_ok,m_vRN,m_vRC,s_rput,asR_r,lenD_l,item_li,p__law_draw.eq]
    (with_reducible (first | refine any_step fun s0 hs0=>?_ | refine sqb_any fun s0 hs0=>?_))
    have g1 : 1 <= 1 + s0:=by omega
    have g2 : 1 + s0 <= 4:=by omega
    simp_arith only [grd_t,len_ok,m_vRN,m_vRC,s_rput,asR_r,lenD_l,item_li,p__law_points.eq]
    (with_reducible (first | refine any_step fun ps hps=>?_ | refine sqb_any fun ps hps=>?_))
    have hp:Pw ps:=pw_of hps (by decide) (by omega) (by omega)
    have hip:=isps_of hp
    simp_arith only [grd_t,len_ok,m_vRN,m_vRC,s_rput,asR_r,lenD_l,item_li]
    refine endS (eachR_go ?_ ?_)
    · intro j hj K2 hK2
      simp_arith only [grd_t,len_ok,m_vRN,m_vRC,s_rput,asR_r,lenD_l,item_li,p__law_cell.eq]
      (with_reducible (first | refine any_step fun cs hc=>?_ | refine sqb_any fun cs hc=>?_))
      have cl:=hc.1
      have hc':CsOk cs.length cs:=by rw [cl]; exact hc
      have hip':IsPs cs.length ps:=by rw [cl]; exact hip
      have sw:Shw (.tuple [ptsQ ps,clD cs]):=all_Sm hp hc
      have sw2:Shw (toldD ps cs):=told_Sm hp hc
      simp_arith only [grd_t,len_ok,m_vRN,m_vRC,s_rput,asR_r,lenD_l,item_li,BFR,p__law_cell_told.eq]
      refine eachR_go ?_ ?_
      · intro u hu K3 hK3
        simp_arith only [grd_t,len_ok,m_vRN,m_vRC,s_rput,asR_r,lenD_l,item_li,BFR,p_cell_told.eq]
        exact hK3 _ (lpS_nx rfl)
      · simp_arith only [grd_t,len_ok,m_vRN,m_vRC,s_rput,asR_r,lenD_l,item_li,BFR,p__law_between.eq]
        intro _ _
        exact hK2 _ (lpS_nx rfl)
    · exact hK _ (lpS_nx rfl)
  · simp_arith only [grd_t,len_ok]
    exact law_end
structure Txt (K:PySem.W.Frag) (mg:Str -> Option Value):Prop where
  bz:Bz mg
  f__law_feed:FnIn K mg "_law_feed" (top 27) ["_law_script"]
  f__law_draw:FnIn K mg "_law_draw" (top 28) ["_law_feed_here", "_law_many"]
  f__law_frac:FnIn K mg "_law_frac" (top 29) ["_law_top", "_law_bottom"]
  f__law_cmp:FnIn K mg "_law_cmp" (top 30) ["_law_one", "_law_other"]
  f__law_number:FnIn K mg "_law_number" (top 31) ["_law_feed_here", "_law_seen", "_law_is_first"]
  f__law_points:FnIn K mg "_law_points" (top 32) ["_law_feed_here", "_law_s", "_law_most"]
  f_common_divisor:FnIn K mg "common_divisor" (top 6) ["one", "other"]
  f_fraction:FnIn K mg "fraction" (top 7) ["top", "bottom"]
  f_plus:FnIn K mg "plus" (top 8) ["one", "other"]
  f_less:FnIn K mg "less" (top 9) ["one", "other"]
  f_times:FnIn K mg "times" (top 10) ["one", "other"]
  f_is_below:FnIn K mg "is_below" (top 12) ["one", "other"]
  f_lesser:FnIn K mg "lesser" (top 13) ["one", "other"]
  f_greater:FnIn K mg "greater" (top 14) ["one", "other"]
  f_product_of:FnIn K mg "product_of" (top 11) ["some"]
  f_side_size:FnIn K mg "side_size" (top 16) ["side"]
  f_size_of:FnIn K mg "size_of" (top 17) ["box"]
  f_goes_ahead:FnIn K mg "goes_ahead" (top 18) ["one", "other", "may_meet"]
  f_lies:FnIn K mg "lies" (top 19) ["x", "side", "way"]
  f_lies_in:FnIn K mg "lies_in" (top 20) ["point", "box", "way"]
  f_inside:FnIn K mg "inside" (top 21) ["points", "box", "way"]
  f_least_side:FnIn K mg "least_side" (top 23) ["word", "ranges"]
  f_most_side:FnIn K mg "most_side" (top 24) ["word", "ranges"]
  f__law_product:FnIn K mg "_law_product" (top 37) ["_law_one", "_law_other"]
  f__law_lies:FnIn K mg "_law_lies" (top 33) ["_law_x", "_law_side", "_law_way"]
  f__law_side_size:FnIn K mg "_law_side_size" (top 34) ["_law_side"]
  f__law_ends:FnIn K mg "_law_ends" (top 36) ["_law_word", "_law_ranges"]
  f__law_side_told:FnIn K mg "_law_side_told" (top 35) ["_law_x", "_law_word", "_law_ranges"]
  f_cell_told:FnIn K mg "cell_told" (top 25) ["points", "cell"]
  f__law_cell_told:FnIn K mg "_law_cell_told" (top 38) ["_law_pts", "_law_cell_here"]
  f__law_range:FnIn K mg "_law_range" (top 39) ["_law_feed_here", "_law_numbers"]
  f__law_cell:FnIn K mg "_law_cell" (top 40) ["_law_feed_here", "_law_pts"]
  f__law_box_of:FnIn K mg "_law_box_of" (top 41) ["_law_feed_here", "_law_cell_here"]
  f__law_between:FnIn K mg "_law_between" (top 42) ["_law_feed_here", "_law_pts", "_law_cell_here", "_law_told"]
  g_ZERO:GlD K mg "ZERO" (pr 0 1)
  g_ONE:GlD K mg "ONE" (pr 1 1)

theorem ok_law {f:Addr} {fd:FuncData} (F:Fun K "law" "law" (top 43) f fd) (T:Txt K mg)  : FnOk P w K mg base CX0 8 f fd ["_law_script"] (spLaw2 K):=by
  have d__law_feed:DfnR P w K mg base "_law_feed" ["_law_script"] 2 preF:=K26.d__law_feed T.f__law_feed T.bz   
  have d__law_draw:∀ rl,Dfn P w K mg base rl "_law_draw" ["_law_feed_here", "_law_many"] 1 p__law_draw:=fun rl=>K26.d__law_draw T.f__law_draw T.bz   
  have d__law_frac:∀ rl,Dfn P w K mg base rl "_law_frac" ["_law_top", "_law_bottom"] 1 p__law_frac:=fun rl=>K26.d__law_frac T.f__law_frac T.bz   
  have d__law_cmp:∀ rl,Dfn P w K mg base rl "_law_cmp" ["_law_one", "_law_other"] 1 p__law_cmp:=fun rl=>K26.d__law_cmp T.f__law_cmp T.bz   
  have d__law_number:∀ rl,Dfn P w K mg base rl "_law_number" ["_law_feed_here", "_law_seen", "_law_is_first"] 2 p__law_number:=fun rl=>K26.d__law_number T.f__law_number T.bz d__law_draw d__law_frac  
  have d__law_points:∀ rl,Dfn P w K mg base rl "_law_points" ["_law_feed_here", "_law_s", "_law_most"] 3 p__law_points:=fun rl=>K26.d__law_points T.f__law_points T.bz d__law_draw d__law_number  
  have d_common_divisor:∀ rl,Dfn P w K mg base rl "common_divisor" ["one", "other"] 1 p_common_divisor:=fun rl=>K26.d_common_divisor T.f_common_divisor T.bz   
  have d_fraction:∀ rl,Dfn P w K mg base rl "fraction" ["top", "bottom"] 2 p_fraction:=fun rl=>K26.d_fraction T.f_fraction T.bz d_common_divisor  
  have d_plus:∀ rl,Dfn P w K mg base rl "plus" ["one", "other"] 3 p_plus:=fun rl=>K26.d_plus T.f_plus T.bz d_fraction  
  have d_less:∀ rl,Dfn P w K mg base rl "less" ["one", "other"] 3 p_less:=fun rl=>K26.d_less T.f_less T.bz d_fraction  
  have d_times:∀ rl,Dfn P w K mg base rl "times" ["one", "other"] 3 p_times:=fun rl=>K26.d_times T.f_times T.bz d_fraction  
  have d_is_below:∀ rl,Dfn P w K mg base rl "is_below" ["one", "other"] 1 p_is_below:=fun rl=>K26.d_is_below T.f_is_below T.bz   
  have d_lesser:∀ rl,Dfn P w K mg base rl "lesser" ["one", "other"] 2 p_lesser:=fun rl=>K26.d_lesser T.f_lesser T.bz d_is_below  
  have d_greater:∀ rl,Dfn P w K mg base rl "greater" ["one", "other"] 2 p_greater:=fun rl=>K26.d_greater T.f_greater T.bz d_is_below  
  have d_product_of:∀ rl,Dfn P w K mg base rl "product_of" ["some"] 4 p_product_of:=fun rl=>K26.d_product_of T.f_product_of T.bz d_times T.g_ONE 
  have d_side_size:∀ rl,Dfn P w K mg base rl "side_size" ["side"] 4 p_side_size:=fun rl=>K26.d_side_size T.f_side_size T.bz d_greater d_less d_lesser d_plus T.g_ZERO T.g_ONE 
  have d_size_of:∀ rl,Dfn P w K mg base rl "size_of" ["box"] 5 p_size_of:=fun rl=>K26.d_size_of T.f_size_of T.bz d_product_of d_side_size  
  have d_goes_ahead:∀ rl,Dfn P w K mg base rl "goes_ahead" ["one", "other", "may_meet"] 2 p_goes_ahead:=fun rl=>K26.d_goes_ahead T.f_goes_ahead T.bz d_is_below  
  have d_lies:∀ rl,Dfn P w K mg base rl "lies" ["x", "side", "way"] 3 p_lies:=fun rl=>K26.d_lies T.f_lies T.bz d_goes_ahead  
  have d_lies_in:∀ rl,Dfn P w K mg base rl "lies_in" ["point", "box", "way"] 4 p_lies_in:=fun rl=>K26.d_lies_in T.f_lies_in T.bz d_lies  
  have d_inside:∀ rl,Dfn P w K mg base rl "inside" ["points", "box", "way"] 5 p_inside:=fun rl=>K26.d_inside T.f_inside T.bz d_lies_in  
  have d_least_side:∀ rl,Dfn P w K mg base rl "least_side" ["word", "ranges"] 1 p_least_side:=fun rl=>K26.d_least_side T.f_least_side T.bz   
  have d_most_side:∀ rl,Dfn P w K mg base rl "most_side" ["word", "ranges"] 1 p_most_side:=fun rl=>K26.d_most_side T.f_most_side T.bz   
  have d__law_product:∀ rl,Dfn P w K mg base rl "_law_product" ["_law_one", "_law_other"] 2 p__law_product:=fun rl=>K26.d__law_product T.f__law_product T.bz d__law_frac  
  have d__law_lies:∀ rl,Dfn P w K mg base rl "_law_lies" ["_law_x", "_law_side", "_law_way"] 2 p__law_lies:=fun rl=>K26.d__law_lies T.f__law_lies T.bz d__law_cmp  
  have d__law_side_size:∀ rl,Dfn P w K mg base rl "_law_side_size" ["_law_side"] 2 p__law_side_size:=fun rl=>K26.d__law_side_size T.f__law_side_size T.bz d__law_frac  
  have d__law_ends:∀ rl,Dfn P w K mg base rl "_law_ends" ["_law_word", "_law_ranges"] 1 p__law_ends:=fun rl=>K26.d__law_ends T.f__law_ends T.bz   
  have d__law_side_told:∀ rl,Dfn P w K mg base rl "_law_side_told" ["_law_x", "_law_word", "_law_ranges"] 2 p__law_side_told:=fun rl=>K26.d__law_side_told T.f__law_side_told T.bz d__law_cmp  
  have d_cell_told:∀ rl,Dfn P w K mg base rl "cell_told" ["points", "cell"] 6 p_cell_told:=fun rl=>K26.d_cell_told T.f_cell_told T.bz d_inside d_size_of d_least_side d_most_side  
  have d__law_cell_told:∀ rl,Dfn P w K mg base rl "_law_cell_told" ["_law_pts", "_law_cell_here"] 3 p__law_cell_told:=fun rl=>K26.d__law_cell_told T.f__law_cell_told T.bz d__law_ends d__law_product d__law_side_told d__law_side_size  
  have d__law_range:∀ rl,Dfn P w K mg base rl "_law_range" ["_law_feed_here", "_law_numbers"] 2 p__law_range:=fun rl=>K26.d__law_range T.f__law_range T.bz d__law_frac d__law_cmp d__law_draw  
  have d__law_cell:∀ rl,Dfn P w K mg base rl "_law_cell" ["_law_feed_here", "_law_pts"] 3 p__law_cell:=fun rl=>K26.d__law_cell T.f__law_cell T.bz d__law_draw d__law_range  
  have d__law_box_of:∀ rl,Dfn P w K mg base rl "_law_box_of" ["_law_feed_here", "_law_cell_here"] 2 p__law_box_of:=fun rl=>K26.d__law_box_of T.f__law_box_of T.bz d__law_draw d__law_frac  
  have d__law_between:∀ rl,Dfn P w K mg base rl "_law_between" ["_law_feed_here", "_law_pts", "_law_cell_here", "_law_told"] 3 p__law_between:=fun rl=>K26.d__law_between T.f__law_between T.bz d__law_box_of d__law_side_size d__law_cmp d__law_lies  
  exact law_body T.bz d__law_feed d__law_points d__law_draw d__law_cell d__law_cell_told d__law_between d_cell_told   F
end
theorem us_0 {us:List Value} (hl:us.length = 0):us = []:=List.eq_nil_of_length_eq_zero hl
theorem us_1 {us:List Value} (hl:us.length = 1):∃ a0,us = [a0]:=by
  cases us with
  | nil=>cases hl
  | cons a0 t=>cases us_0 (Nat.succ.inj hl); exact ⟨a0,rfl⟩
theorem us_2 {us:List Value} (hl:us.length = 2):∃ a0 a1,us = [a0,a1]:=by
  cases us with
  | nil=>cases hl
  | cons a0 t=>obtain ⟨a1,rfl⟩:=us_1 (Nat.succ.inj hl); exact ⟨a0,a1,rfl⟩
theorem us_3 {us:List Value} (hl:us.length = 3):∃ a0 a1 a2,us = [a0,a1,a2]:=by
  cases us with
  | nil=>cases hl
  | cons a0 t=>obtain ⟨a1,a2,rfl⟩:=us_2 (Nat.succ.inj hl); exact ⟨a0,a1,a2,rfl⟩
theorem us_4 {us:List Value} (hl:us.length = 4):∃ a0 a1 a2 a3,us = [a0,a1,a2,a3]:=by
  cases us with
  | nil=>cases hl
  | cons a0 t=>obtain ⟨a1,a2,a3,rfl⟩:=us_3 (Nat.succ.inj hl); exact ⟨a0,a1,a2,a3,rfl⟩
theorem fin_mk {K:PySem.W.Frag} {h:Heap} {mg:Str -> Option Value} (X:K.In h) (G:h.Ns mainGlobals mg) {x:Str} {st:Stmt} {ps:List Str} {f:Addr} {oc kV dc pm cd ct:Value} {od an:Option Addr} {sl:Array (Option Value)} (a:PySem.W.nsIn K mainGlobals x = some (some (.ref f))) (l:K.lookup f = some ⟨oc,od,.func (PySem.W.fnOf x x (defArgs st) (defBody st) (defScope st) .none kV dc pm an cd ct),sl⟩) (c:PySem.W.codeIn K cd x = true) (k:PySem.W.keepIn K (.ref f) = true) (hb:∀ (kV doc pm:Value) (an:Option Addr) (cdv ct:Value) (us:List Value),us.length = ps.length -> bindArgs (PySem.W.fnOf x x (defArgs st) (defBody st) (defScope st) .none kV doc pm an cdv ct) ⟨us,[]⟩ = pure (ps.zip us)):FnIn K mg x st ps:=⟨⟨f,_,PySem.W.mg_of X G a,fun_mk l c k,(fun_mk l c k).binds hb⟩⟩
abbrev NI (K:PySem.W.Frag) (x:Str) (f:Addr):Prop:=PySem.W.nsIn K mainGlobals x = some (some (.ref f))
abbrev NZ (K:PySem.W.Frag) (x:Str):Prop:=PySem.W.nsIn K mainGlobals x = some none
abbrev LK (K:PySem.W.Frag) (x:Str) (st:Stmt) (f:Addr) (oc:Value) (od:Option Addr) (kV dc pm:Value) (an:Option Addr) (cd ct:Value) (sl:Array (Option Value)):Prop:=K.lookup f = some ⟨oc,od,.func (PySem.W.fnOf x x (defArgs st) (defBody st) (defScope st) .none kV dc pm an cd ct),sl⟩
theorem all_mk {l:PySem.W.OpenLaw} {w:World} {K:PySem.W.Frag} {h:Heap} {mg:Str -> Option Value} {fa:Addr} (X:K.In h) (G:h.Ns mainGlobals mg) (hfa:mg "law" = some (.ref fa))
    {f1 f2 f3 f4 f5 f6 f7 f8 f9 f10 f11 f12 f13 f14 f15 f16 f17 f18 f19 f20 f21 f22 f23 f24 f25 f26 f27 f28 f29 f30 f31 f32 f33 f34 f35:Addr} {od1 an1 od2 an2 od3 an3 od4 an4 od5 an5 od6 an6 od7 an7 od8 an8 od9 an9 od10 an10 od11 an11 od12 an12 od13 an13 od14 an14 od15 an15 od16 an16 od17 an17 od18 an18 od19 an19 od20 an20 od21 an21 od22 an22 od23 an23 od24 an24 od25 an25 od26 an26 od27 an27 od28 an28 od29 an29 od30 an30 od31 an31 od32 an32 od33 an33 od34 an34 od35 an35:Option Addr} {sl1 sl2 sl3 sl4 sl5 sl6 sl7 sl8 sl9 sl10 sl11 sl12 sl13 sl14 sl15 sl16 sl17 sl18 sl19 sl20 sl21 sl22 sl23 sl24 sl25 sl26 sl27 sl28 sl29 sl30 sl31 sl32 sl33 sl34 sl35:Array (Option Value)} {oc1 kV1 dc1 pm1 cd1 ct1 oc2 kV2 dc2 pm2 cd2 ct2 oc3 kV3 dc3 pm3 cd3 ct3 oc4 kV4 dc4 pm4 cd4 ct4 oc5 kV5 dc5 pm5 cd5 ct5 oc6 kV6 dc6 pm6 cd6 ct6 oc7 kV7 dc7 pm7 cd7 ct7 oc8 kV8 dc8 pm8 cd8 ct8 oc9 kV9 dc9 pm9 cd9 ct9 oc10 kV10 dc10 pm10 cd10 ct10 oc11 kV11 dc11 pm11 cd11 ct11 oc12 kV12 dc12 pm12 cd12 ct12 oc13 kV13 dc13 pm13 cd13 ct13 oc14 kV14 dc14 pm14 cd14 ct14 oc15 kV15 dc15 pm15 cd15 ct15 oc16 kV16 dc16 pm16 cd16 ct16 oc17 kV17 dc17 pm17 cd17 ct17 oc18 kV18 dc18 pm18 cd18 ct18 oc19 kV19 dc19 pm19 cd19 ct19 oc20 kV20 dc20 pm20 cd20 ct20 oc21 kV21 dc21 pm21 cd21 ct21 oc22 kV22 dc22 pm22 cd22 ct22 oc23 kV23 dc23 pm23 cd23 ct23 oc24 kV24 dc24 pm24 cd24 ct24 oc25 kV25 dc25 pm25 cd25 ct25 oc26 kV26 dc26 pm26 cd26 ct26 oc27 kV27 dc27 pm27 cd27 ct27 oc28 kV28 dc28 pm28 cd28 ct28 oc29 kV29 dc29 pm29 cd29 ct29 oc30 kV30 dc30 pm30 cd30 ct30 oc31 kV31 dc31 pm31 cd31 ct31 oc32 kV32 dc32 pm32 cd32 ct32 oc33 kV33 dc33 pm33 cd33 ct33 oc34 kV34 dc34 pm34 cd34 ct34 oc35 kV35 dc35 pm35 cd35 ct35:Value}
    (a1:NI K "_law_feed" f1) (l1:LK K "_law_feed" (top 27) f1 oc1 od1 kV1 dc1 pm1 an1 cd1 ct1 sl1) (c1:PySem.W.codeIn K cd1 "_law_feed" = true) (k1:PySem.W.keepIn K (.ref f1) = true) (a2:NI K "_law_draw" f2) (l2:LK K "_law_draw" (top 28) f2 oc2 od2 kV2 dc2 pm2 an2 cd2 ct2 sl2) (c2:PySem.W.codeIn K cd2 "_law_draw" = true) (k2:PySem.W.keepIn K (.ref f2) = true) (a3:NI K "_law_frac" f3) (l3:LK K "_law_frac" (top 29) f3 oc3 od3 kV3 dc3 pm3 an3 cd3 ct3 sl3) (c3:PySem.W.codeIn K cd3 "_law_frac" = true) (k3:PySem.W.keepIn K (.ref f3) = true) (a4:NI K "_law_cmp" f4) (l4:LK K "_law_cmp" (top 30) f4 oc4 od4 kV4 dc4 pm4 an4 cd4 ct4 sl4) (c4:PySem.W.codeIn K cd4 "_law_cmp" = true) (k4:PySem.W.keepIn K (.ref f4) = true) (a5:NI K "_law_number" f5) (l5:LK K "_law_number" (top 31) f5 oc5 od5 kV5 dc5 pm5 an5 cd5 ct5 sl5) (c5:PySem.W.codeIn K cd5 "_law_number" = true) (k5:PySem.W.keepIn K (.ref f5) = true) (a6:NI K "_law_points" f6) (l6:LK K "_law_points" (top 32) f6 oc6 od6 kV6 dc6 pm6 an6 cd6 ct6 sl6) (c6:PySem.W.codeIn K cd6 "_law_points" = true) (k6:PySem.W.keepIn K (.ref f6) = true) (a7:NI K "common_divisor" f7) (l7:LK K "common_divisor" (top 6) f7 oc7 od7 kV7 dc7 pm7 an7 cd7 ct7 sl7) (c7:PySem.W.codeIn K cd7 "common_divisor" = true) (k7:PySem.W.keepIn K (.ref f7) = true) (a8:NI K "fraction" f8) (l8:LK K "fraction" (top 7) f8 oc8 od8 kV8 dc8 pm8 an8 cd8 ct8 sl8) (c8:PySem.W.codeIn K cd8 "fraction" = true) (k8:PySem.W.keepIn K (.ref f8) = true) (a9:NI K "plus" f9) (l9:LK K "plus" (top 8) f9 oc9 od9 kV9 dc9 pm9 an9 cd9 ct9 sl9) (c9:PySem.W.codeIn K cd9 "plus" = true) (k9:PySem.W.keepIn K (.ref f9) = true) (a10:NI K "less" f10) (l10:LK K "less" (top 9) f10 oc10 od10 kV10 dc10 pm10 an10 cd10 ct10 sl10) (c10:PySem.W.codeIn K cd10 "less" = true) (k10:PySem.W.keepIn K (.ref f10) = true) (a11:NI K "times" f11) (l11:LK K "times" (top 10) f11 oc11 od11 kV11 dc11 pm11 an11 cd11 ct11 sl11) (c11:PySem.W.codeIn K cd11 "times" = true) (k11:PySem.W.keepIn K (.ref f11) = true) (a12:NI K "is_below" f12) (l12:LK K "is_below" (top 12) f12 oc12 od12 kV12 dc12 pm12 an12 cd12 ct12 sl12) (c12:PySem.W.codeIn K cd12 "is_below" = true) (k12:PySem.W.keepIn K (.ref f12) = true) (a13:NI K "lesser" f13) (l13:LK K "lesser" (top 13) f13 oc13 od13 kV13 dc13 pm13 an13 cd13 ct13 sl13) (c13:PySem.W.codeIn K cd13 "lesser" = true) (k13:PySem.W.keepIn K (.ref f13) = true) (a14:NI K "greater" f14) (l14:LK K "greater" (top 14) f14 oc14 od14 kV14 dc14 pm14 an14 cd14 ct14 sl14) (c14:PySem.W.codeIn K cd14 "greater" = true) (k14:PySem.W.keepIn K (.ref f14) = true) (a15:NI K "product_of" f15) (l15:LK K "product_of" (top 11) f15 oc15 od15 kV15 dc15 pm15 an15 cd15 ct15 sl15) (c15:PySem.W.codeIn K cd15 "product_of" = true) (k15:PySem.W.keepIn K (.ref f15) = true) (a16:NI K "side_size" f16) (l16:LK K "side_size" (top 16) f16 oc16 od16 kV16 dc16 pm16 an16 cd16 ct16 sl16) (c16:PySem.W.codeIn K cd16 "side_size" = true) (k16:PySem.W.keepIn K (.ref f16) = true) (a17:NI K "size_of" f17) (l17:LK K "size_of" (top 17) f17 oc17 od17 kV17 dc17 pm17 an17 cd17 ct17 sl17) (c17:PySem.W.codeIn K cd17 "size_of" = true) (k17:PySem.W.keepIn K (.ref f17) = true) (a18:NI K "goes_ahead" f18) (l18:LK K "goes_ahead" (top 18) f18 oc18 od18 kV18 dc18 pm18 an18 cd18 ct18 sl18) (c18:PySem.W.codeIn K cd18 "goes_ahead" = true) (k18:PySem.W.keepIn K (.ref f18) = true) (a19:NI K "lies" f19) (l19:LK K "lies" (top 19) f19 oc19 od19 kV19 dc19 pm19 an19 cd19 ct19 sl19) (c19:PySem.W.codeIn K cd19 "lies" = true) (k19:PySem.W.keepIn K (.ref f19) = true) (a20:NI K "lies_in" f20) (l20:LK K "lies_in" (top 20) f20 oc20 od20 kV20 dc20 pm20 an20 cd20 ct20 sl20) (c20:PySem.W.codeIn K cd20 "lies_in" = true) (k20:PySem.W.keepIn K (.ref f20) = true) (a21:NI K "inside" f21) (l21:LK K "inside" (top 21) f21 oc21 od21 kV21 dc21 pm21 an21 cd21 ct21 sl21) (c21:PySem.W.codeIn K cd21 "inside" = true) (k21:PySem.W.keepIn K (.ref f21) = true) (a22:NI K "least_side" f22) (l22:LK K "least_side" (top 23) f22 oc22 od22 kV22 dc22 pm22 an22 cd22 ct22 sl22) (c22:PySem.W.codeIn K cd22 "least_side" = true) (k22:PySem.W.keepIn K (.ref f22) = true) (a23:NI K "most_side" f23) (l23:LK K "most_side" (top 24) f23 oc23 od23 kV23 dc23 pm23 an23 cd23 ct23 sl23) (c23:PySem.W.codeIn K cd23 "most_side" = true) (k23:PySem.W.keepIn K (.ref f23) = true) (a24:NI K "_law_product" f24) (l24:LK K "_law_product" (top 37) f24 oc24 od24 kV24 dc24 pm24 an24 cd24 ct24 sl24) (c24:PySem.W.codeIn K cd24 "_law_product" = true) (k24:PySem.W.keepIn K (.ref f24) = true) (a25:NI K "_law_lies" f25) (l25:LK K "_law_lies" (top 33) f25 oc25 od25 kV25 dc25 pm25 an25 cd25 ct25 sl25) (c25:PySem.W.codeIn K cd25 "_law_lies" = true) (k25:PySem.W.keepIn K (.ref f25) = true) (a26:NI K "_law_side_size" f26) (l26:LK K "_law_side_size" (top 34) f26 oc26 od26 kV26 dc26 pm26 an26 cd26 ct26 sl26) (c26:PySem.W.codeIn K cd26 "_law_side_size" = true) (k26:PySem.W.keepIn K (.ref f26) = true) (a27:NI K "_law_ends" f27) (l27:LK K "_law_ends" (top 36) f27 oc27 od27 kV27 dc27 pm27 an27 cd27 ct27 sl27) (c27:PySem.W.codeIn K cd27 "_law_ends" = true) (k27:PySem.W.keepIn K (.ref f27) = true) (a28:NI K "_law_side_told" f28) (l28:LK K "_law_side_told" (top 35) f28 oc28 od28 kV28 dc28 pm28 an28 cd28 ct28 sl28) (c28:PySem.W.codeIn K cd28 "_law_side_told" = true) (k28:PySem.W.keepIn K (.ref f28) = true) (a29:NI K "cell_told" f29) (l29:LK K "cell_told" (top 25) f29 oc29 od29 kV29 dc29 pm29 an29 cd29 ct29 sl29) (c29:PySem.W.codeIn K cd29 "cell_told" = true) (k29:PySem.W.keepIn K (.ref f29) = true) (a30:NI K "_law_cell_told" f30) (l30:LK K "_law_cell_told" (top 38) f30 oc30 od30 kV30 dc30 pm30 an30 cd30 ct30 sl30) (c30:PySem.W.codeIn K cd30 "_law_cell_told" = true) (k30:PySem.W.keepIn K (.ref f30) = true) (a31:NI K "_law_range" f31) (l31:LK K "_law_range" (top 39) f31 oc31 od31 kV31 dc31 pm31 an31 cd31 ct31 sl31) (c31:PySem.W.codeIn K cd31 "_law_range" = true) (k31:PySem.W.keepIn K (.ref f31) = true) (a32:NI K "_law_cell" f32) (l32:LK K "_law_cell" (top 40) f32 oc32 od32 kV32 dc32 pm32 an32 cd32 ct32 sl32) (c32:PySem.W.codeIn K cd32 "_law_cell" = true) (k32:PySem.W.keepIn K (.ref f32) = true) (a33:NI K "_law_box_of" f33) (l33:LK K "_law_box_of" (top 41) f33 oc33 od33 kV33 dc33 pm33 an33 cd33 ct33 sl33) (c33:PySem.W.codeIn K cd33 "_law_box_of" = true) (k33:PySem.W.keepIn K (.ref f33) = true) (a34:NI K "_law_between" f34) (l34:LK K "_law_between" (top 42) f34 oc34 od34 kV34 dc34 pm34 an34 cd34 ct34 sl34) (c34:PySem.W.codeIn K cd34 "_law_between" = true) (k34:PySem.W.keepIn K (.ref f34) = true) (a35:NI K "law" f35) (l35:LK K "law" (top 43) f35 oc35 od35 kV35 dc35 pm35 an35 cd35 ct35 sl35) (c35:PySem.W.codeIn K cd35 "law" = true) (k35:PySem.W.keepIn K (.ref f35) = true)
    (z_int:NZ K "int") (z_bool:NZ K "bool") (z_str:NZ K "str") (z_list:NZ K "list") (z_tuple:NZ K "tuple") (z_dict:NZ K "dict") (z_isinstance:NZ K "isinstance") (z_len:NZ K "len") (z_abs:NZ K "abs") (z_repr:NZ K "repr") (z_range:NZ K "range") (z_all:NZ K "all") (z_any:NZ K "any") (z_sum:NZ K "sum") (z_min:NZ K "min") (z_max:NZ K "max") (z_sorted:NZ K "sorted") (z_zip:NZ K "zip") (z_enumerate:NZ K "enumerate") (z_reversed:NZ K "reversed") (z_divmod:NZ K "divmod") (z_set:NZ K "set") (g_ZERO:GlK K "ZERO" (pr 0 1)) (g_ONE:GlK K "ONE" (pr 1 1))  :
    ∃ fd:FuncData,(∀ (s:Shared) (v:Value),BindsTo s fd ⟨[v],[]⟩ [("_law_script", v)]) /\ ∀ base:Heap,K.In base -> base.Ns mainGlobals mg -> FnOk l.prog w K mg base CX0 8 fa fd ["_law_script"] (spLaw2 K):=by
  have e:=hfa.symm.trans (PySem.W.mg_of X G a35)
  cases e
  have B:Bz mg:=⟨PySem.W.mg_none_of X G z_int,PySem.W.mg_none_of X G z_bool,PySem.W.mg_none_of X G z_str,PySem.W.mg_none_of X G z_list,PySem.W.mg_none_of X G z_tuple,PySem.W.mg_none_of X G z_dict,PySem.W.mg_none_of X G z_isinstance,PySem.W.mg_none_of X G z_len,PySem.W.mg_none_of X G z_abs,PySem.W.mg_none_of X G z_repr,PySem.W.mg_none_of X G z_range,PySem.W.mg_none_of X G z_all,PySem.W.mg_none_of X G z_any,PySem.W.mg_none_of X G z_sum,PySem.W.mg_none_of X G z_min,PySem.W.mg_none_of X G z_max,PySem.W.mg_none_of X G z_sorted,PySem.W.mg_none_of X G z_zip,PySem.W.mg_none_of X G z_enumerate,PySem.W.mg_none_of X G z_reversed,PySem.W.mg_none_of X G z_divmod,PySem.W.mg_none_of X G z_set⟩
  have T:Txt K mg:=⟨B,(fin_mk X G a1 l1 c1 k1 fun _ _ _ _ _ _ us hl=>(by obtain ⟨_,rfl⟩:=us_1 hl; exact rfl)),(fin_mk X G a2 l2 c2 k2 fun _ _ _ _ _ _ us hl=>(by obtain ⟨_,_,rfl⟩:=us_2 hl; exact rfl)),(fin_mk X G a3 l3 c3 k3 fun _ _ _ _ _ _ us hl=>(by obtain ⟨_,_,rfl⟩:=us_2 hl; exact rfl)),(fin_mk X G a4 l4 c4 k4 fun _ _ _ _ _ _ us hl=>(by obtain ⟨_,_,rfl⟩:=us_2 hl; exact rfl)),(fin_mk X G a5 l5 c5 k5 fun _ _ _ _ _ _ us hl=>(by obtain ⟨_,_,_,rfl⟩:=us_3 hl; exact rfl)),(fin_mk X G a6 l6 c6 k6 fun _ _ _ _ _ _ us hl=>(by obtain ⟨_,_,_,rfl⟩:=us_3 hl; exact rfl)),(fin_mk X G a7 l7 c7 k7 fun _ _ _ _ _ _ us hl=>(by obtain ⟨_,_,rfl⟩:=us_2 hl; exact rfl)),(fin_mk X G a8 l8 c8 k8 fun _ _ _ _ _ _ us hl=>(by obtain ⟨_,_,rfl⟩:=us_2 hl; exact rfl)),(fin_mk X G a9 l9 c9 k9 fun _ _ _ _ _ _ us hl=>(by obtain ⟨_,_,rfl⟩:=us_2 hl; exact rfl)),(fin_mk X G a10 l10 c10 k10 fun _ _ _ _ _ _ us hl=>(by obtain ⟨_,_,rfl⟩:=us_2 hl; exact rfl)),(fin_mk X G a11 l11 c11 k11 fun _ _ _ _ _ _ us hl=>(by obtain ⟨_,_,rfl⟩:=us_2 hl; exact rfl)),(fin_mk X G a12 l12 c12 k12 fun _ _ _ _ _ _ us hl=>(by obtain ⟨_,_,rfl⟩:=us_2 hl; exact rfl)),(fin_mk X G a13 l13 c13 k13 fun _ _ _ _ _ _ us hl=>(by obtain ⟨_,_,rfl⟩:=us_2 hl; exact rfl)),(fin_mk X G a14 l14 c14 k14 fun _ _ _ _ _ _ us hl=>(by obtain ⟨_,_,rfl⟩:=us_2 hl; exact rfl)),(fin_mk X G a15 l15 c15 k15 fun _ _ _ _ _ _ us hl=>(by obtain ⟨_,rfl⟩:=us_1 hl; exact rfl)),(fin_mk X G a16 l16 c16 k16 fun _ _ _ _ _ _ us hl=>(by obtain ⟨_,rfl⟩:=us_1 hl; exact rfl)),(fin_mk X G a17 l17 c17 k17 fun _ _ _ _ _ _ us hl=>(by obtain ⟨_,rfl⟩:=us_1 hl; exact rfl)),(fin_mk X G a18 l18 c18 k18 fun _ _ _ _ _ _ us hl=>(by obtain ⟨_,_,_,rfl⟩:=us_3 hl; exact rfl)),(fin_mk X G a19 l19 c19 k19 fun _ _ _ _ _ _ us hl=>(by obtain ⟨_,_,_,rfl⟩:=us_3 hl; exact rfl)),(fin_mk X G a20 l20 c20 k20 fun _ _ _ _ _ _ us hl=>(by obtain ⟨_,_,_,rfl⟩:=us_3 hl; exact rfl)),(fin_mk X G a21 l21 c21 k21 fun _ _ _ _ _ _ us hl=>(by obtain ⟨_,_,_,rfl⟩:=us_3 hl; exact rfl)),(fin_mk X G a22 l22 c22 k22 fun _ _ _ _ _ _ us hl=>(by obtain ⟨_,_,rfl⟩:=us_2 hl; exact rfl)),(fin_mk X G a23 l23 c23 k23 fun _ _ _ _ _ _ us hl=>(by obtain ⟨_,_,rfl⟩:=us_2 hl; exact rfl)),(fin_mk X G a24 l24 c24 k24 fun _ _ _ _ _ _ us hl=>(by obtain ⟨_,_,rfl⟩:=us_2 hl; exact rfl)),(fin_mk X G a25 l25 c25 k25 fun _ _ _ _ _ _ us hl=>(by obtain ⟨_,_,_,rfl⟩:=us_3 hl; exact rfl)),(fin_mk X G a26 l26 c26 k26 fun _ _ _ _ _ _ us hl=>(by obtain ⟨_,rfl⟩:=us_1 hl; exact rfl)),(fin_mk X G a27 l27 c27 k27 fun _ _ _ _ _ _ us hl=>(by obtain ⟨_,_,rfl⟩:=us_2 hl; exact rfl)),(fin_mk X G a28 l28 c28 k28 fun _ _ _ _ _ _ us hl=>(by obtain ⟨_,_,_,rfl⟩:=us_3 hl; exact rfl)),(fin_mk X G a29 l29 c29 k29 fun _ _ _ _ _ _ us hl=>(by obtain ⟨_,_,rfl⟩:=us_2 hl; exact rfl)),(fin_mk X G a30 l30 c30 k30 fun _ _ _ _ _ _ us hl=>(by obtain ⟨_,_,rfl⟩:=us_2 hl; exact rfl)),(fin_mk X G a31 l31 c31 k31 fun _ _ _ _ _ _ us hl=>(by obtain ⟨_,_,rfl⟩:=us_2 hl; exact rfl)),(fin_mk X G a32 l32 c32 k32 fun _ _ _ _ _ _ us hl=>(by obtain ⟨_,_,rfl⟩:=us_2 hl; exact rfl)),(fin_mk X G a33 l33 c33 k33 fun _ _ _ _ _ _ us hl=>(by obtain ⟨_,_,rfl⟩:=us_2 hl; exact rfl)),(fin_mk X G a34 l34 c34 k34 fun _ _ _ _ _ _ us hl=>(by obtain ⟨_,_,_,_,rfl⟩:=us_4 hl; exact rfl)),g_ZERO.of X G,g_ONE.of X G⟩
  have FL:=fun_mk (st:=top 43) l35 c35 k35
  exact ⟨_,fun s v=>.of_eq rfl,fun base _ _=>ok_law FL T ⟩
theorem walk {l:PySem.W.OpenLaw} {q:Program} {loose:List Str} {XP:(Str -> Option Value) -> Heap -> Prop} {YP:World -> Heap -> Prop} {d:DefRec} {K:Params -> PySem.W.Frag} (hn:l.most = some 63) (hdf:d.params.defaults = [])
    (hY:∀ (w:World) (h:Heap),YP w h -> (K w.params).In h)
    (F:∀ (w:World) (mg:Str -> Option Value) (fa:Addr) (h:Heap),(K w.params).In h -> h.Ns mainGlobals mg -> mg d.name = some (.ref fa) ->
      ∃ fd:FuncData,(∀ (s:Shared) (u:Value),BindsTo s fd ⟨[u],[]⟩ [("_law_script", u)]) /\ ∀ base:Heap,(K w.params).In base -> base.Ns mainGlobals mg -> FnOk l.prog w (K w.params) mg base CX0 8 fa fd ["_law_script"] (spLaw2 (K w.params))) :
    PySem.W.WalkO q loose XP YP l.row.toRowW d [] (fun f vs=>PySem.call f vs) :=
  L2.walk_of (n:=63) (k:=8) (x := "_law_script") (CX:=fun _=>CX0) (sp:=fun w=>spLaw2 (K w.params)) hn (by decide) hdf ⟨rfl,by decide,by decide,rfl⟩ hY F (fun _ _ a ns hl _ hS=>⟨a,ns,rfl,hS,hl,fun _=>rfl⟩) fun _ _ _ _ _ z=>z
end K26
noncomputable def PySem.W.Fast.tw11354159373459958978:PySem.Params -> PySem.W.Frag:=K26.heapK
theorem PySem.W.Fast.te11354159373459958978:K26.heapK = PySem.W.Fast.tw11354159373459958978:=rfl
open PySem PySem.W PyProof.Rows
set_option maxRecDepth 100000 in
set_option maxHeartbeats 0 in
theorem PySem.Challenge.cw_evenpoints_k26_what_cells_tell_holds : PySem.Challenge.rw_evenpoints_k26_what_cells_tell.Holds := by
  refine (congrArg PySem.W.OpenLaw.Holds K26.rw_eq).mpr ?_
  w_on; o_law
  refine holds_open (loose:=[]) (XP:=XL K26.zview []) (YP:=Hook.says (kHook K26.heapK K26.heapA K26.heapE)) K26.zleft
    (Hook.of _) (Hook.keeps _) (fun s e=>xl_of s (Bool.and_eq_true_iff.mp e).1)
    XL.keeps (by rfl) (by rfl) (by rfl) (fun s e=>recFacts_of (Bool.and_eq_true_iff.mp e).2) (by rfl)
    (by first | assumption | decide +kernel) (by decide +kernel) ⟨rfl,rfl,rfl,rfl,rfl,by decide +kernel⟩ ?hw ?hc
  (case hw=>w_witness2)
  k_fill
  refine K26.walk (l:=K26.rwN) rfl rfl (fun w h Y=>PySem.W.kIn_of (as:=K26.heapA) (e:=K26.heapE) Y) ?F
  case F =>
    intro w mg fa h KX G hmg
    refine' K26.all_mk KX G hmg ?a1 ?l1 ?c1 ?k1 ?a2 ?l2 ?c2 ?k2 ?a3 ?l3 ?c3 ?k3 ?a4 ?l4 ?c4 ?k4 ?a5 ?l5 ?c5 ?k5 ?a6 ?l6 ?c6 ?k6 ?a7 ?l7 ?c7 ?k7 ?a8 ?l8 ?c8 ?k8 ?a9 ?l9 ?c9 ?k9 ?a10 ?l10 ?c10 ?k10 ?a11 ?l11 ?c11 ?k11 ?a12 ?l12 ?c12 ?k12 ?a13 ?l13 ?c13 ?k13 ?a14 ?l14 ?c14 ?k14 ?a15 ?l15 ?c15 ?k15 ?a16 ?l16 ?c16 ?k16 ?a17 ?l17 ?c17 ?k17 ?a18 ?l18 ?c18 ?k18 ?a19 ?l19 ?c19 ?k19 ?a20 ?l20 ?c20 ?k20 ?a21 ?l21 ?c21 ?k21 ?a22 ?l22 ?c22 ?k22 ?a23 ?l23 ?c23 ?k23 ?a24 ?l24 ?c24 ?k24 ?a25 ?l25 ?c25 ?k25 ?a26 ?l26 ?c26 ?k26 ?a27 ?l27 ?c27 ?k27 ?a28 ?l28 ?c28 ?k28 ?a29 ?l29 ?c29 ?k29 ?a30 ?l30 ?c30 ?k30 ?a31 ?l31 ?c31 ?k31 ?a32 ?l32 ?c32 ?k32 ?a33 ?l33 ?c33 ?k33 ?a34 ?l34 ?c34 ?k34 ?a35 ?l35 ?c35 ?k35 ?zint ?zbool ?zstr ?zlist ?ztuple ?zdict ?zisinstance ?zlen ?zabs ?zrepr ?zrange ?zall ?zany ?zsum ?zmin ?zmax ?zsorted ?zzip ?zenumerate ?zreversed ?zdivmod ?zset ?gZERO ?gONE 
    all_goals (try change _ = _)
    (case a1=>k_is); (case l1=>k_is); (case c1=>k_is); (case k1=>k_is)
    (case a2=>k_is); (case l2=>k_is); (case c2=>k_is); (case k2=>k_is)
    (case a3=>k_is); (case l3=>k_is); (case c3=>k_is); (case k3=>k_is)
    (case a4=>k_is); (case l4=>k_is); (case c4=>k_is); (case k4=>k_is)
    (case a5=>k_is); (case l5=>k_is); (case c5=>k_is); (case k5=>k_is)
    (case a6=>k_is); (case l6=>k_is); (case c6=>k_is); (case k6=>k_is)
    (case a7=>k_is); (case l7=>k_is); (case c7=>k_is); (case k7=>k_is)
    (case a8=>k_is); (case l8=>k_is); (case c8=>k_is); (case k8=>k_is)
    (case a9=>k_is); (case l9=>k_is); (case c9=>k_is); (case k9=>k_is)
    (case a10=>k_is); (case l10=>k_is); (case c10=>k_is); (case k10=>k_is)
    (case a11=>k_is); (case l11=>k_is); (case c11=>k_is); (case k11=>k_is)
    (case a12=>k_is); (case l12=>k_is); (case c12=>k_is); (case k12=>k_is)
    (case a13=>k_is); (case l13=>k_is); (case c13=>k_is); (case k13=>k_is)
    (case a14=>k_is); (case l14=>k_is); (case c14=>k_is); (case k14=>k_is)
    (case a15=>k_is); (case l15=>k_is); (case c15=>k_is); (case k15=>k_is)
    (case a16=>k_is); (case l16=>k_is); (case c16=>k_is); (case k16=>k_is)
    (case a17=>k_is); (case l17=>k_is); (case c17=>k_is); (case k17=>k_is)
    (case a18=>k_is); (case l18=>k_is); (case c18=>k_is); (case k18=>k_is)
    (case a19=>k_is); (case l19=>k_is); (case c19=>k_is); (case k19=>k_is)
    (case a20=>k_is); (case l20=>k_is); (case c20=>k_is); (case k20=>k_is)
    (case a21=>k_is); (case l21=>k_is); (case c21=>k_is); (case k21=>k_is)
    (case a22=>k_is); (case l22=>k_is); (case c22=>k_is); (case k22=>k_is)
    (case a23=>k_is); (case l23=>k_is); (case c23=>k_is); (case k23=>k_is)
    (case a24=>k_is); (case l24=>k_is); (case c24=>k_is); (case k24=>k_is)
    (case a25=>k_is); (case l25=>k_is); (case c25=>k_is); (case k25=>k_is)
    (case a26=>k_is); (case l26=>k_is); (case c26=>k_is); (case k26=>k_is)
    (case a27=>k_is); (case l27=>k_is); (case c27=>k_is); (case k27=>k_is)
    (case a28=>k_is); (case l28=>k_is); (case c28=>k_is); (case k28=>k_is)
    (case a29=>k_is); (case l29=>k_is); (case c29=>k_is); (case k29=>k_is)
    (case a30=>k_is); (case l30=>k_is); (case c30=>k_is); (case k30=>k_is)
    (case a31=>k_is); (case l31=>k_is); (case c31=>k_is); (case k31=>k_is)
    (case a32=>k_is); (case l32=>k_is); (case c32=>k_is); (case k32=>k_is)
    (case a33=>k_is); (case l33=>k_is); (case c33=>k_is); (case k33=>k_is)
    (case a34=>k_is); (case l34=>k_is); (case c34=>k_is); (case k34=>k_is)
    (case a35=>k_is); (case l35=>k_is); (case c35=>k_is); (case k35=>k_is)
    (case zint=>k_is)
    (case zbool=>k_is)
    (case zstr=>k_is)
    (case zlist=>k_is)
    (case ztuple=>k_is)
    (case zdict=>k_is)
    (case zisinstance=>k_is)
    (case zlen=>k_is)
    (case zabs=>k_is)
    (case zrepr=>k_is)
    (case zrange=>k_is)
    (case zall=>k_is)
    (case zany=>k_is)
    (case zsum=>k_is)
    (case zmin=>k_is)
    (case zmax=>k_is)
    (case zsorted=>k_is)
    (case zzip=>k_is)
    (case zenumerate=>k_is)
    (case zreversed=>k_is)
    (case zdivmod=>k_is)
    (case zset=>k_is)
    (case gZERO=>refine' L2.VL.GlK.pair ?h1 ?h2; (case h1=>k_is); (case h2=>k_is))
    (case gONE=>refine' L2.VL.GlK.pair ?h1 ?h2; (case h1=>k_is); (case h2=>k_is))

